import Derived.Test.YthcpgbbmgabpnaaChc
import Derived.Deep.LoopGhost
import Derived.Deep.QuietTactic
import Derived.BigQuiet
namespace Go.Proofs.Ythcpgbbmgabpnaa
set_option linter.unusedSimpArgs false
set_option linter.unusedVariables false
open Go.RowKit

/-! Chars: the first byte at which no sign begins. -/
theorem get_list (s : ByteArray) (k : Nat) : s.get! k = s.data.toList.getD k 0 := by
  obtain ⟨⟨l⟩⟩ := s
  show (Array.mk l)[k]! = _
  rw [List.getD_eq_getElem?_getD]
  by_cases h : k < l.length
  · simp [h]
  · simp [h]; rfl
theorem gOf_list (s : ByteArray) (pos i : Nat) : gOf s pos i = ((s.data.toList.drop pos).getD i 0).toNat := by
  rw [gOf, get_list, List.getD_eq_getElem?_getD, List.getD_eq_getElem?_getD, List.getElem?_drop]
theorem ext_end (s : ByteArray) (a : Nat) : (s.extract a s.size).data.toList = s.data.toList.drop a := by
  rw [Lib.extract_data, List.take_of_length_le]
  rw [List.length_drop, Array.length_toList]
  exact Nat.le_refl _
theorem size_list (s : ByteArray) : s.data.toList.length = s.size := by rw [Array.length_toList]; rfl
theorem u8_nat (a : UInt8) (n : Nat) (hn : n < 256) : (a.toNat = n) ↔ a = UInt8.ofNat n := by
  constructor
  · intro h; exact UInt8.toNat_inj.mp (by rw [UInt8.toNat_ofNat']; omega)
  · rintro rfl; rw [UInt8.toNat_ofNat']; omega
theorem own_ext (s : ByteArray) (pos : Nat) : ownB (s.extract pos s.size) = own (gOf s pos) (s.size - pos) := by
  have hl : (s.data.toList.drop pos).length = s.size - pos := by rw [List.length_drop, size_list]
  rw [Bool.eq_iff_iff, own_iff, ownB, ext_end, gOf_list, gOf_list, gOf_list, ← hl]
  generalize s.data.toList.drop pos = l
  unfold Lib.hasPrefix
  match l with
  | [] => simp [List.isPrefixOf]
  | [a] => simp [List.isPrefixOf]
  | [a, b] => simp [List.isPrefixOf]
  | a :: b :: c :: r =>
    simp only [List.isPrefixOf, Bool.and_true, Bool.and_eq_true, beq_iff_eq, List.getD_cons_zero, List.getD_cons_succ, List.length_cons]
    rw [u8_nat a 0xEF (by omega), u8_nat b 0xBF (by omega), u8_nat c 0xBD (by omega)]
    constructor
    · rintro ⟨h1, h2, h3⟩; exact ⟨by omega, h1.symm, h2.symm, h3.symm⟩
    · rintro ⟨-, h1, h2, h3⟩; exact ⟨h1.symm, h2.symm, h3.symm⟩
theorem okAt_is (s : ByteArray) (pos : Nat) : okAt s pos = (sgn (dec (gOf s pos) (s.size - pos)).1 && !brokenB (s.extract pos s.size) (dec (gOf s pos) (s.size - pos)).1) := by
  unfold okAt may brokenB
  rw [own_ext]
theorem wd_pos (s : ByteArray) (pos : Nat) : 1 ≤ wdAt s pos := by
  unfold wdAt dec
  repeat' split
  all_goals simp
set_option maxRecDepth 100000 in
set_option maxHeartbeats 4000000 in
theorem bad_any (s : ByteArray) (hs : s.size ≤ 9223372036854775807) (w : World) : Calls Try.prog 10 #[.string s] w fun e w' => e = .returned (.int .i64 (badV s)) ∧ Bel w w' := by
  go_enter Try.func10, Try.ntmps10
  go_wp2
  have hit0 : (w.iter s 0).heap[w.heap.size]? = some (.stringIter s 0) := World.iter_heap w s 0
  have hb0 : Bel w (w.iter s 0) := (Bel.refl w).alloc _
  have HB := Lib.hid (And.intro hit0 hb0)
  clear hit0 hb0
  go_loopg [] s.size (fun g wr => ∃ pos fuel : Nat, Hid (wr.heap[w.heap.size]? = some (.stringIter s pos)) ∧ Bel w wr ∧ Hid (badV s = badFrom s fuel pos ∧ s.size ≤ fuel + pos ∧ g = s.size - pos))
  case atStart => exact ⟨0, s.size, HB.out.1, HB.out.2, ⟨rfl, by omega, rfl⟩⟩
  case round =>
    obtain ⟨pos, fuel, hit, hb, hh⟩ := hrel
    by_cases hp : pos < s.size
    · have hd := decode_is s pos hp
      have hr := decode_le s pos
      have hok := okAt_is s pos
      obtain ⟨r, hr0⟩ : ∃ r, r = (dec (gOf s pos) (s.size - pos)).1 := ⟨_, rfl⟩
      rw [hd, ← hr0] at hr
      rw [← hr0] at hok
      have hr' := hr
      have hnx0 : ∀ ty, (Instr.next (.pointer (some ⟨w.heap.size, 0, none⟩)) true ty).run Try.prog wr = .ok (.tuple #[.bool true, .int .i64 pos, .int .i32 (r : Nat)]) (wr.iterAt w.heap.size s (pos + wdAt s pos)) := fun ty => by
        have h := Lib.run_next_any_at (P := Try.prog) wr w.heap.size s pos ty hit.out hp
        rw [hd, ← hr0] at h
        exact h
      have hit2 := Lib.hid (Lib.iterAt_heap wr w.heap.size s pos (pos + wdAt s pos) hit.out)
      have hb2 : Bel w (wr.iterAt w.heap.size s (pos + wdAt s pos)) := Lib.below_iterAt hb (k := w.heap.size) (Nat.le_refl _) s _
      obtain ⟨W2, hW2⟩ : ∃ W2, W2 = wr.iterAt w.heap.size s (pos + wdAt s pos) := ⟨_, rfl⟩
      rw [← hW2] at hit2 hb2
      have hnx : ∀ ty, (Instr.next (.pointer (some ⟨w.heap.size, 0, none⟩)) true ty).run Try.prog wr = .ok (.tuple #[.bool true, .int .i64 pos, .int .i32 (r : Nat)]) W2 := fun ty => by rw [hW2]; exact hnx0 ty
      obtain ⟨f, rfl⟩ : ∃ f, fuel = f + 1 := ⟨fuel - 1, by have := hh.out.2.1; omega⟩
      have hstep := hh.out.1
      rw [badFrom, if_pos hp] at hstep
      have hwd := wd_pos s pos
      have HOK := Lib.hid hok
      have HST := Lib.hid hstep
      have HWD := Lib.hid hwd
      have i1 : (pos : Int) < s.size := by omega
      have i2 : (s.size : Int) ≤ 9223372036854775807 := by omega
      clear hd hr hok hr0 hnx0 hW2 hstep hwd hb
      cases hv : sgn r with
      | false =>
        have HV := Lib.hid hv
        have L := Lib.hid (show badV s = pos by rw [HST.out, HOK.out, hv]; rfl)
        have HK := HV
        clear hv
        go_wp2_with (first
          | (go_at_call 21; refine (valid_any r hr' _).mono ?_; rintro e V1 ⟨rfl, rfl⟩; rw [HV.out])
          | (go_at_call 22; refine (broken_any _ r hr' _).mono ?_; rintro e V2 ⟨rfl, rfl⟩; rw [HK.out]))
        go_ret
        exact ⟨by (rw [L.out]) <;> rfl, hb2⟩
      | true =>
        have HV := Lib.hid hv
        cases hk : brokenB (s.extract pos s.size) r with
        | true =>
          have HK := Lib.hid hk
          have L := Lib.hid (show badV s = pos by rw [HST.out, HOK.out, hv, hk]; rfl)
          clear hv hk
          go_wp2_with (first
            | (go_at_call 21; refine (valid_any r hr' _).mono ?_; rintro e V1 ⟨rfl, rfl⟩; rw [HV.out])
            | (go_at_call 22; refine (broken_any _ r hr' _).mono ?_; rintro e V2 ⟨rfl, rfl⟩; rw [HK.out]))
          go_ret
          exact ⟨by (rw [L.out]) <;> rfl, hb2⟩
        | false =>
          have HK := Lib.hid hk
          have L := Lib.hid (show badV s = badFrom s f (pos + wdAt s pos) by rw [HST.out, HOK.out, hv, hk]; rfl)
          clear hv hk
          go_wp2_with (first
            | (go_at_call 21; refine (valid_any r hr' _).mono ?_; rintro e V1 ⟨rfl, rfl⟩; rw [HV.out])
            | (go_at_call 22; refine (broken_any _ r hr' _).mono ?_; rintro e V2 ⟨rfl, rfl⟩; rw [HK.out]))
          go_roundg (s.size - (pos + wdAt s pos))
          case measure => have := hh.out.2.2; have := HWD.out; omega
          case rel => exact ⟨pos + wdAt s pos, f, hit2, hb2, ⟨L.out, by have := hh.out.2.1; have := HWD.out; omega, rfl⟩⟩
    · have hnx : ∀ ty, (Instr.next (.pointer (some ⟨w.heap.size, 0, none⟩)) true ty).run Try.prog wr = .ok (.tuple #[.bool false]) wr := fun ty => Lib.run_next_end_at wr w.heap.size s pos ty hit.out hp
      have L := Lib.hid (show badV s = -1 by
        rw [hh.out.1]
        cases fuel with
        | zero => rfl
        | succ f => rw [badFrom, if_neg hp])
      go_wp2
      go_ret
      exact ⟨by (rw [L.out]) <;> rfl, hb⟩
end Go.Proofs.Ythcpgbbmgabpnaa
