import Derived.Test.YthcpgbbmgabpnaaCkb
import Derived.Test.YthcpgbbmgabpnaaCka
import Derived.Test.YthcpgbbmgabpnaaChh
namespace Go.Proofs.Ythcpgbbmgabpnaa
set_option linter.unusedSimpArgs false
set_option linter.unusedVariables false
open Go.RowKit

/-! Chars: what stands for a sign, and for a text. -/
def bytesOf (l : List UInt8) : ByteArray := ⟨l.toArray⟩
set_option maxRecDepth 100000 in
theorem written_any (r : Nat) (hr : r ≤ 2147483647) (w : World) : Calls Try.prog 26 #[.int .i32 r] w fun e w' => e = .returned (.string (bytesOf (wrtL r))) ∧ w' = w := by
  have hi : (r : Int) ≤ 2147483647 := by omega
  by_cases h38 : r = 38
  · subst h38
    go_enter Try.func26, Try.ntmps26
    go_wp2
    go_ret
    exact ⟨rfl, rfl⟩
  by_cases h60 : r = 60
  · subst h60
    clear h38
    go_enter Try.func26, Try.ntmps26
    go_wp2
    go_ret
    exact ⟨rfl, rfl⟩
  by_cases h62 : r = 62
  · subst h62
    clear h38 h60
    go_enter Try.func26, Try.ntmps26
    go_wp2
    go_ret
    exact ⟨rfl, rfl⟩
  by_cases h34 : r = 34
  · subst h34
    clear h38 h60 h62
    go_enter Try.func26, Try.ntmps26
    go_wp2
    go_ret
    exact ⟨rfl, rfl⟩
  by_cases h39 : r = 39
  · subst h39
    clear h38 h60 h62 h34
    go_enter Try.func26, Try.ntmps26
    go_wp2
    go_ret
    exact ⟨rfl, rfl⟩
  by_cases h9 : r = 9
  · subst h9
    clear h38 h60 h62 h34 h39
    go_enter Try.func26, Try.ntmps26
    go_wp2
    go_ret
    exact ⟨rfl, rfl⟩
  by_cases h10 : r = 10
  · subst h10
    clear h38 h60 h62 h34 h39 h9
    go_enter Try.func26, Try.ntmps26
    go_wp2
    go_ret
    exact ⟨rfl, rfl⟩
  by_cases h13 : r = 13
  · subst h13
    clear h38 h60 h62 h34 h39 h9 h10
    go_enter Try.func26, Try.ntmps26
    go_wp2
    go_ret
    exact ⟨rfl, rfl⟩
  · have L := Lib.hid (show wrtL r = [] by unfold wrtL; rw [if_neg h38, if_neg h60, if_neg h62, if_neg h34, if_neg h39, if_neg h9, if_neg h10, if_neg h13])
    have e38 : ((r : Int) == 38) = false := by rw [beq_eq_false_iff_ne]; omega
    have e60 : ((r : Int) == 60) = false := by rw [beq_eq_false_iff_ne]; omega
    have e62 : ((r : Int) == 62) = false := by rw [beq_eq_false_iff_ne]; omega
    have e34 : ((r : Int) == 34) = false := by rw [beq_eq_false_iff_ne]; omega
    have e39 : ((r : Int) == 39) = false := by rw [beq_eq_false_iff_ne]; omega
    have e9 : ((r : Int) == 9) = false := by rw [beq_eq_false_iff_ne]; omega
    have e10 : ((r : Int) == 10) = false := by rw [beq_eq_false_iff_ne]; omega
    have e13 : ((r : Int) == 13) = false := by rw [beq_eq_false_iff_ne]; omega
    clear h38 h60 h62 h34 h39 h9 h10 h13
    go_enter Try.func26, Try.ntmps26
    go_wp2
    go_ret
    exact ⟨by rw [L.out]; rfl, rfl⟩
/-- What Escape says. -/
def escT (s : ByteArray) : ByteArray := if goodB s = true then bytesOf (escL s.data.toList) else ⟨#[]⟩
def escN (s : ByteArray) : Int := if goodB s = true then 0 else 6
theorem strCells_bytes (l : List UInt8) : Lib.strCells (bytesOf l) = Lib.byteCells l := by
  unfold bytesOf
  simp [Lib.strCells, Lib.byteCells]
set_option maxRecDepth 100000 in
set_option maxHeartbeats 4000000 in
theorem escape_any (s : ByteArray) (hs : s.size ≤ 17592186044416) (w : World) : Calls Try.prog 16 #[.string s] w fun e w' => e = .returned (.tuple #[.string (escT s), .int .i64 (escN s)]) ∧ Bel w w' := by
  cases hg : goodB s with
  | false =>
    have L1 := Lib.hid (show escT s = ⟨#[]⟩ by rw [escT, hg]; rfl)
    have L2 := Lib.hid (show escN s = 6 by rw [escN, hg]; rfl)
    have HG := Lib.hid hg
    clear hg
    go_enter Try.func16, Try.ntmps16
    go_wp2_with (go_at_call 12; refine (good_any _ (by omega) _).mono ?_; rintro e W1 ⟨rfl, hb⟩; rw [HG.out])
    go_ret2
    exact ⟨by (rw [L1.out, L2.out]) <;> rfl, hb⟩
  | true =>
    have L1 := Lib.hid (show escT s = bytesOf (escL s.data.toList) by rw [escT, hg]; rfl)
    have L2 := Lib.hid (show escN s = 0 by rw [escN, hg]; rfl)
    have HBAD := Lib.hid (show badFrom s s.size 0 = -1 from of_decide_eq_true hg)
    have HG := Lib.hid hg
    clear hg
    go_enter Try.func16, Try.ntmps16
    go_wp2_with (go_at_call 12; refine (good_any _ (by omega) _).mono ?_; rintro e W1 ⟨rfl, hb⟩; rw [HG.out])
    go_loopg [] s.size (fun g wr => ∃ pos fuel : Nat, Hid (Lib.IsBuilderF 42 5 W1.heap.size W1.heap.size (Lib.byteCells (escL (s.data.toList.take pos))) wr) ∧ Hid (wr.heap[W1.heap.size + 1]? = some (.stringIter s pos)) ∧ Bel W1 wr ∧ Hid (pos ≤ s.size ∧ badFrom s fuel pos = -1 ∧ s.size ≤ fuel + pos ∧ g = s.size - pos))
    case atStart =>
      refine ⟨0, s.size, (Lib.IsBuilderF.of (Lib.fresh_isBuilder 42 5 W1)).alloc _, ?_, ((Bel.refl W1).alloc _).alloc _, ⟨Nat.zero_le _, HBAD.out, by omega, rfl⟩⟩
      have := World.iter_heap (W1.alloc (.cells #[.pointer none, .slice none 0 0] 42)) s 0
      simpa [Hid] using this
    case round =>
      obtain ⟨pos, fuel, hI, hit, hbw, hh⟩ := hrel
      by_cases hp : pos < s.size
      · obtain ⟨f, rfl⟩ : ∃ f, fuel = f + 1 := ⟨fuel - 1, by have := hh.out.2.2.1; omega⟩
        have hstep := hh.out.2.1
        rw [badFrom, if_pos hp] at hstep
        have hok : okAt s pos = true := by
          cases hk : okAt s pos with
          | true => rfl
          | false =>
            rw [hk, if_neg (by decide)] at hstep
            exact absurd hstep (by omega)
        rw [hok, if_pos rfl] at hstep
        have hes := esc_step s pos hp hok
        have hwl := wdAt_le s pos hp
        have hwd := wd_pos s pos
        have hd := decode_is s pos hp
        have hr := decode_le s pos
        obtain ⟨r, hr0⟩ : ∃ r, r = (dec (gOf s pos) (s.size - pos)).1 := ⟨_, rfl⟩
        rw [hd, ← hr0] at hr
        rw [← hr0] at hes
        have hr' := hr
        have hnx0 : ∀ ty, (Instr.next (.pointer (some ⟨W1.heap.size + 1, 0, none⟩)) true ty).run Try.prog wr = .ok (.tuple #[.bool true, .int .i64 pos, .int .i32 (r : Nat)]) (wr.iterAt (W1.heap.size + 1) s (pos + wdAt s pos)) := fun ty => by
          have h := Lib.run_next_any_at (P := Try.prog) wr (W1.heap.size + 1) s pos ty hit.out hp
          rw [hd, ← hr0] at h
          exact h
        have hI2 := Lib.hid (hI.out.iterAt hit.out (pos + wdAt s pos))
        have hit2 := Lib.hid (Lib.iterAt_heap wr (W1.heap.size + 1) s pos (pos + wdAt s pos) hit.out)
        have hb2 : Bel W1 (wr.iterAt (W1.heap.size + 1) s (pos + wdAt s pos)) := Lib.below_iterAt hbw (k := W1.heap.size + 1) (by omega) s _
        obtain ⟨W2, hW2⟩ : ∃ W2, W2 = wr.iterAt (W1.heap.size + 1) s (pos + wdAt s pos) := ⟨_, rfl⟩
        rw [← hW2] at hit2 hb2 hI2
        have hnx : ∀ ty, (Instr.next (.pointer (some ⟨W1.heap.size + 1, 0, none⟩)) true ty).run Try.prog wr = .ok (.tuple #[.bool true, .int .i64 pos, .int .i32 (r : Nat)]) W2 := fun ty => by rw [hW2]; exact hnx0 ty
        have hlen := escL_len (s.data.toList.take pos)
        have hlt2 : (s.data.toList.take pos).length ≤ pos := by rw [List.length_take]; omega
        have HL := Lib.hid (show (Lib.byteCells (escL (s.data.toList.take pos))).length ≤ 105553116266496 by rw [Lib.byteCells_length]; omega)
        have HES := Lib.hid hes
        have HST := Lib.hid (And.intro hstep (And.intro hwl hwd))
        have hsz2 : W1.heap.size ≤ W2.heap.size := hb2.size
        clear hd hr hr0 hnx0 hW2 hstep hwl hwd hbw hok hes hlen hlt2
        by_cases hw : wrtL r = []
        · have hcw : ∀ w, Calls Try.prog 26 #[.int .i32 r] w fun e w' => e = .returned (.string ⟨#[]⟩) ∧ w' = w := fun w => by
            have h := written_any r (by omega) w
            rw [hw] at h
            exact h
          have HCW := Lib.hid hcw
          have HW := Lib.hid hw
          clear hw hcw
          go_wp2_with (first
            | (go_at_call 26; refine (HCW.out _).mono ?_; rintro e V1 ⟨rfl, rfl⟩)
            | (go_at_call 28; refine (writeRune_any W1.heap.size W1.heap.size _ (r : Int) (by omega) (by omega) _ hI2.out (by have := HL.out; omega) hsz2).mono ?_; rintro e V2 ⟨rfl, h1, b1, k1⟩))
          go_roundg (s.size - (pos + wdAt s pos))
          case measure => have := hh.out.2.2.2; have := HST.out; omega
          case rel =>
            refine ⟨pos + wdAt s pos, f, ?_, k1.iter hit2.out (by omega), Below.trans hb2 b1, ⟨HST.out.2.1, HST.out.1, by have := hh.out.2.2.1; have := HST.out.2.2; omega, rfl⟩⟩
            rw [HES.out, HW.out, if_pos rfl, Lib.byteCells_append, Lib.byteCells_encodeRune]
            exact Or.inr h1
        · have hcw := fun w => written_any r (by omega) w
          obtain ⟨b, hb⟩ : ∃ b, b = bytesOf (wrtL r) := ⟨_, rfl⟩
          have e0 : b.toList.isEmpty = false := by
            rw [hb, ByteArray.toList_eq, Bool.eq_false_iff, ne_eq, List.isEmpty_iff]
            exact hw
          have HBZ := Lib.hid (show b.size ≤ 6 by
            rw [hb]
            show (wrtL r).toArray.size ≤ 6
            rw [List.size_toArray]
            unfold wrtL
            repeat' split
            all_goals simp)
          have HCB := Lib.hid (show Lib.strCells b = Lib.byteCells (wrtL r) by rw [hb, strCells_bytes])
          rw [← hb] at hcw
          have HCW := Lib.hid hcw
          have HW := Lib.hid hw
          clear hw hcw hb
          go_wp2_with (first
            | (go_at_call 26; refine (HCW.out _).mono ?_; rintro e V1 ⟨rfl, rfl⟩)
            | (go_at_call 27; refine (writeString_any W1.heap.size W1.heap.size _ b _ hI2.out (by have := HL.out; have := HBZ.out; omega) hsz2).mono ?_; rintro e V2 ⟨rfl, h1, b1, k1⟩))
          go_roundg (s.size - (pos + wdAt s pos))
          case measure => have := hh.out.2.2.2; have := HST.out; omega
          case rel =>
            refine ⟨pos + wdAt s pos, f, ?_, k1.iter hit2.out (by omega), Below.trans hb2 b1, ⟨HST.out.2.1, HST.out.1, by have := hh.out.2.2.1; have := HST.out.2.2; omega, rfl⟩⟩
            rw [HES.out, if_neg HW.out, Lib.byteCells_append, ← HCB.out]
            exact Or.inr h1
      · have hnx : ∀ ty, (Instr.next (.pointer (some ⟨W1.heap.size + 1, 0, none⟩)) true ty).run Try.prog wr = .ok (.tuple #[.bool false]) wr := fun ty => Lib.run_next_end_at wr (W1.heap.size + 1) s pos ty hit.out hp
        have hsz2 : W1.heap.size ≤ wr.heap.size := hbw.size
        have L3 := Lib.hid (show escT s = bytesOf (escL (s.data.toList.take pos)) by rw [List.take_of_length_le (by rw [size_list]; omega)]; exact L1.out)
        go_wp2_with (go_at_call 29; refine (Try.Builder_String_any_k W1.heap.size W1.heap.size (escL (s.data.toList.take pos)) _ hI.out hsz2).mono ?_; rintro e V1 ⟨rfl, _, b1, _⟩)
        go_ret2
        exact ⟨by (rw [L3.out, L2.out]) <;> rfl, hb.trans (Below.trans hbw b1)⟩
end Go.Proofs.Ythcpgbbmgabpnaa
