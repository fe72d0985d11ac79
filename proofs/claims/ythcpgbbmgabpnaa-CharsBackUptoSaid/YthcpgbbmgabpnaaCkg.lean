import Derived.Test.YthcpgbbmgabpnaaCkf
import Derived.Test.YthcpgbbmgabpnaaChi
namespace Go.Proofs.Ythcpgbbmgabpnaa
set_option linter.unusedSimpArgs false
set_option linter.unusedVariables false
open Go.RowKit

/-! Chars: numbers of signs. -/
def numV (o : Option Nat) : Value := match o with
  | some n => .tuple #[.int .i32 (n : Nat), .bool true]
  | none => .tuple #[.int .i32 0, .bool false]
theorem drop_step (s : ByteArray) (k : Nat) (h : k < s.size) : s.data.toList.drop k = s[k] :: s.data.toList.drop (k + 1) := by
  rw [List.drop_eq_getElem_cons (by rw [size_list]; exact h)]
  rfl
theorem gOf_at0 (s : ByteArray) (k : Nat) (h : k < s.size) : gOf s k 0 = s[k].toNat := by
  rw [gOf_list, drop_step s k h]
  rfl
theorem dv_sign (s : ByteArray) (pos : Nat) (hp : pos < s.size) (b : Nat) (hb : b ≤ 16) : dvB (dec (gOf s pos) (s.size - pos)).1 = dvB s[pos].toNat ∧ (dvB (dec (gOf s pos) (s.size - pos)).1 < b → wdAt s pos = 1) := by
  by_cases hl : gOf s pos 0 < 128
  · have hdl := dec_low (gOf s pos) (s.size - pos) hl
    rw [hdl]
    refine ⟨by rw [gOf_at0 s pos hp], fun _ => by unfold wdAt; rw [hdl]⟩
  · have hh1 := dec_hi (gOf s pos) (s.size - pos) hl
    have e1 := dvB_hi _ hh1
    refine ⟨by rw [e1, dvB_hi]; rw [← gOf_at0 s pos hp]; omega, fun h => by omega⟩
theorem numL_nil (b : Nat) (l : List UInt8) (h : l = [] ∨ 8 < l.length) : numL b l = none := by unfold numL; rw [if_pos h]
theorem numL_of (b : Nat) (l : List UInt8) (h : ¬ (l = [] ∨ 8 < l.length)) : numL b l = match foldD b l 0 with
    | some n => if sgn n = true then some n else none
    | none => none := by unfold numL; rw [if_neg h]; cases foldD b l 0 <;> rfl
set_option maxRecDepth 100000 in
set_option maxHeartbeats 4000000 in
theorem numbered10_any (s : ByteArray) (hs : s.size ≤ 9223372036854775807) (w : World) : Calls Try.prog 38 #[.string s, .int .i64 10] w fun e w' => e = .returned (numV (numL 10 s.data.toList)) ∧ Bel w w' := by
  have i2 : (s.size : Int) ≤ 9223372036854775807 := by omega
  by_cases h0 : s.size = 0
  · have L := Lib.hid (show numL 10 s.data.toList = none from numL_nil _ _ (.inl (List.eq_nil_of_length_eq_zero (by rw [size_list]; exact h0))))
    have e0 : s.toList.isEmpty = true := by
      rw [ByteArray.toList_eq, List.isEmpty_iff]
      exact List.eq_nil_of_length_eq_zero (by rw [size_list]; exact h0)
    clear h0
    go_enter Try.func38, Try.ntmps38
    go_wp2
    go_ret2
    exact ⟨by (rw [L.out]) <;> rfl, Bel.refl _⟩
  · have e0 : s.toList.isEmpty = false := by
      rw [ByteArray.toList_eq, Bool.eq_false_iff, ne_eq, List.isEmpty_iff]
      intro h
      have := size_list s
      rw [h] at this
      simp at this; omega
    by_cases h8 : (8 : Int) < s.size
    · have L := Lib.hid (show numL 10 s.data.toList = none from numL_nil _ _ (.inr (by rw [size_list]; omega)))
      clear h0
      go_enter Try.func38, Try.ntmps38
      go_wp2
      go_ret2
      exact ⟨by (rw [L.out]) <;> rfl, Bel.refl _⟩
    · have NL := Lib.hid (numL_of 10 s.data.toList (by
        rintro (h | h)
        · have := size_list s
          rw [h] at this
          simp at this; omega
        · rw [size_list] at h; omega))
      have SZ := Lib.hid (And.intro (show 0 < s.size by omega) (show s.size ≤ 8 by omega))
      clear h0
      go_enter Try.func38, Try.ntmps38
      go_wp2
      have hit0 : (w.iter s 0).heap[w.heap.size]? = some (.stringIter s 0) := World.iter_heap w s 0
      have hb0 : Bel w (w.iter s 0) := (Bel.refl w).alloc _
      have HB := Lib.hid (And.intro hit0 hb0)
      clear hit0 hb0
      go_loopg [6] s.size (fun g v wr => ∃ pos n : Nat, v = .int .i64 n ∧ Hid (wr.heap[w.heap.size]? = some (.stringIter s pos)) ∧ Bel w wr ∧ Hid (pos ≤ s.size ∧ foldD 10 (s.data.toList.drop pos) n = foldD 10 s.data.toList 0 ∧ n < 16 ^ pos ∧ g = s.size - pos))
      case atStart => exact ⟨0, 0, rfl, HB.out.1, HB.out.2, ⟨Nat.zero_le _, rfl, by decide, rfl⟩⟩
      case round =>
        obtain ⟨pos, n, rfl, hit, hb, hh⟩ := hrel
        by_cases hp : pos < s.size
        · have hd := decode_is s pos hp
          have hr := decode_le s pos
          have hk := dv_sign s pos hp 10 (by omega)
          obtain ⟨r, hr0⟩ : ∃ r, r = (dec (gOf s pos) (s.size - pos)).1 := ⟨_, rfl⟩
          rw [hd, ← hr0] at hr
          rw [← hr0] at hk
          have hr' := hr
          have hnx0 : ∀ ty, (Instr.next (.pointer (some ⟨w.heap.size, 0, none⟩)) true ty).run Try.prog wr = .ok (.tuple #[.bool true, .int .i64 pos, .int .i32 (r : Nat)]) (wr.iterAt w.heap.size s (pos + wdAt s pos)) := fun ty => by
            have h := Lib.run_next_any_at (P := Try.prog) wr w.heap.size s pos ty hit.out hp
            rw [hd, ← hr0] at h
            exact h
          have hit2 := Lib.hid (Lib.iterAt_heap wr w.heap.size s pos (pos + wdAt s pos) hit.out)
          have hb2 : Bel w (wr.iterAt w.heap.size s (pos + wdAt s pos)) := Lib.below_iterAt hb (k := w.heap.size) (Nat.le_refl _) s _
          obtain ⟨W2, hW2⟩ : ∃ W2, W2 = wr.iterAt w.heap.size s (pos + wdAt s pos) := ⟨_, rfl⟩
          rw [← hW2] at hit2 hb2
          have hnx : ∀ ty, (Instr.next (.pointer (some ⟨w.heap.size, 0, none⟩)) true ty).run Try.prog wr = .ok (.tuple #[.bool true, .int .i64 pos, .int .i32 (r : Nat)]) W2 := fun ty => by rw [hW2]; exact hnx0 ty
          have hn : n < 268435456 := by
            have h1 := hh.out.2.2.1
            have h2 : 16 ^ pos ≤ 16 ^ 7 := Nat.pow_le_pow_right (by omega) (by have := SZ.out.2; omega)
            omega
          have hni : (n : Int) < 268435456 := by omega
          have hst := drop_step s pos hp
          have i1 : (pos : Int) < s.size := by omega
          by_cases hv : dvB r < 10
          · have HV := Lib.hid (show decide (dvB r < 10) = true from decide_eq_true hv)
            have hv' : dvB r < 16 := by omega
            have hvi : (dvB r : Int) < 16 := by omega
            have HF := Lib.hid (show foldD 10 (s.data.toList.drop (pos + 1)) (n * 10 + dvB r) = foldD 10 s.data.toList 0 by
              rw [← hh.out.2.1, hst]
              show _ = if dvB s[pos].toNat < 10 then _ else _
              rw [← hk.1, if_pos hv])
            have HP := Lib.hid (show n * 10 + dvB r < 16 ^ (pos + 1) by
              have h1 := hh.out.2.2.1
              rw [Nat.pow_succ]
              have h3 : (n + 1) * 10 ≤ 16 ^ pos * 16 := Nat.mul_le_mul (by omega) (by omega)
              rw [Nat.add_mul] at h3
              omega)
            have HW := Lib.hid (hk.2 hv)
            obtain ⟨d, hdd⟩ : ∃ d, d = dvB r := ⟨_, rfl⟩
            have hwo := fun w => worth_is r hv' w
            rw [← hdd] at hwo hvi HF HP hv'
            have HWO := Lib.hid hwo
            clear hd hr hr0 hnx0 hW2 hb hk hst hv hn hdd hwo
            go_wp2_with (first
              | (go_at_call 25; refine (digit10_is r hr' _).mono ?_; rintro e V1 ⟨rfl, rfl⟩; rw [HV.out])
              | (go_at_call 45; refine (HWO.out _).mono ?_; rintro e V2 ⟨rfl, rfl⟩))
            go_roundg (s.size - (pos + 1))
            case measure => have := hh.out.2.2.2; omega
            case rel =>
              rw [HW.out] at hit2
              exact ⟨pos + 1, n * 10 + d, by go_num, hit2, hb2, ⟨by omega, HF.out, HP.out, rfl⟩⟩
          · have HV := Lib.hid (show decide (dvB r < 10) = false from decide_eq_false hv)
            have L := Lib.hid (show numL 10 s.data.toList = none by
              rw [NL.out, ← hh.out.2.1, hst]
              have : foldD 10 (s[pos] :: s.data.toList.drop (pos + 1)) n = none := by
                show (if dvB s[pos].toNat < 10 then _ else none) = none
                rw [← hk.1, if_neg hv]
              rw [this])
            clear hd hr hr0 hnx0 hW2 hb hk hst hv hn
            go_wp2_with (go_at_call 25; refine (digit10_is r hr' _).mono ?_; rintro e V1 ⟨rfl, rfl⟩; rw [HV.out])
            go_ret2
            exact ⟨by (rw [L.out]) <;> rfl, hb2⟩
        · have hnx : ∀ ty, (Instr.next (.pointer (some ⟨w.heap.size, 0, none⟩)) true ty).run Try.prog wr = .ok (.tuple #[.bool false]) wr := fun ty => Lib.run_next_end_at wr w.heap.size s pos ty hit.out hp
          have hf : foldD 10 s.data.toList 0 = some n := by
            rw [← hh.out.2.1, List.drop_of_length_le (by rw [size_list]; omega)]
            rfl
          have hn : n < 4294967296 := by
            have h1 := hh.out.2.2.1
            have h2 : 16 ^ pos ≤ 16 ^ 8 := Nat.pow_le_pow_right (by omega) (by have := SZ.out.2; have := hh.out.1; omega)
            omega
          have hni : (n : Int) < 4294967296 := by omega
          by_cases hm : (1114111 : Int) < n
          · have L := Lib.hid (show numL 10 s.data.toList = none by
              rw [NL.out, hf]
              show (if sgn n = true then some n else none) = none
              rw [if_neg (fun h => by have := (sgn_iff n).1 h; omega)])
            clear hf
            go_wp2_with fail
            go_ret2
            exact ⟨by (rw [L.out]) <;> rfl, hb⟩
          · have hm' : (n : Int) ≤ 1114111 := by omega
            cases hv : sgn n with
            | true =>
              have HV := Lib.hid hv
              have L := Lib.hid (show numL 10 s.data.toList = some n by
                rw [NL.out, hf]
                show (if sgn n = true then some n else none) = some n
                rw [if_pos hv])
              clear hf hv
              go_wp2_with (go_at_call 21; refine (valid_any n (by omega) _).mono ?_; rintro e V1 ⟨rfl, rfl⟩; rw [HV.out])
              go_ret2
              exact ⟨by (rw [L.out]) <;> rfl, hb⟩
            | false =>
              have HV := Lib.hid hv
              have L := Lib.hid (show numL 10 s.data.toList = none by
                rw [NL.out, hf]
                show (if sgn n = true then some n else none) = none
                rw [if_neg (by rw [hv]; decide)])
              clear hf hv
              go_wp2_with (go_at_call 21; refine (valid_any n (by omega) _).mono ?_; rintro e V1 ⟨rfl, rfl⟩; rw [HV.out])
              go_ret2
              exact ⟨by (rw [L.out]) <;> rfl, hb⟩
set_option maxRecDepth 100000 in
set_option maxHeartbeats 4000000 in
theorem numbered16_any (s : ByteArray) (hs : s.size ≤ 9223372036854775807) (w : World) : Calls Try.prog 38 #[.string s, .int .i64 16] w fun e w' => e = .returned (numV (numL 16 s.data.toList)) ∧ Bel w w' := by
  have i2 : (s.size : Int) ≤ 9223372036854775807 := by omega
  by_cases h0 : s.size = 0
  · have L := Lib.hid (show numL 16 s.data.toList = none from numL_nil _ _ (.inl (List.eq_nil_of_length_eq_zero (by rw [size_list]; exact h0))))
    have e0 : s.toList.isEmpty = true := by
      rw [ByteArray.toList_eq, List.isEmpty_iff]
      exact List.eq_nil_of_length_eq_zero (by rw [size_list]; exact h0)
    clear h0
    go_enter Try.func38, Try.ntmps38
    go_wp2
    go_ret2
    exact ⟨by (rw [L.out]) <;> rfl, Bel.refl _⟩
  · have e0 : s.toList.isEmpty = false := by
      rw [ByteArray.toList_eq, Bool.eq_false_iff, ne_eq, List.isEmpty_iff]
      intro h
      have := size_list s
      rw [h] at this
      simp at this; omega
    by_cases h8 : (8 : Int) < s.size
    · have L := Lib.hid (show numL 16 s.data.toList = none from numL_nil _ _ (.inr (by rw [size_list]; omega)))
      clear h0
      go_enter Try.func38, Try.ntmps38
      go_wp2
      go_ret2
      exact ⟨by (rw [L.out]) <;> rfl, Bel.refl _⟩
    · have NL := Lib.hid (numL_of 16 s.data.toList (by
        rintro (h | h)
        · have := size_list s
          rw [h] at this
          simp at this; omega
        · rw [size_list] at h; omega))
      have SZ := Lib.hid (And.intro (show 0 < s.size by omega) (show s.size ≤ 8 by omega))
      clear h0
      go_enter Try.func38, Try.ntmps38
      go_wp2
      have hit0 : (w.iter s 0).heap[w.heap.size]? = some (.stringIter s 0) := World.iter_heap w s 0
      have hb0 : Bel w (w.iter s 0) := (Bel.refl w).alloc _
      have HB := Lib.hid (And.intro hit0 hb0)
      clear hit0 hb0
      go_loopg [6] s.size (fun g v wr => ∃ pos n : Nat, v = .int .i64 n ∧ Hid (wr.heap[w.heap.size]? = some (.stringIter s pos)) ∧ Bel w wr ∧ Hid (pos ≤ s.size ∧ foldD 16 (s.data.toList.drop pos) n = foldD 16 s.data.toList 0 ∧ n < 16 ^ pos ∧ g = s.size - pos))
      case atStart => exact ⟨0, 0, rfl, HB.out.1, HB.out.2, ⟨Nat.zero_le _, rfl, by decide, rfl⟩⟩
      case round =>
        obtain ⟨pos, n, rfl, hit, hb, hh⟩ := hrel
        by_cases hp : pos < s.size
        · have hd := decode_is s pos hp
          have hr := decode_le s pos
          have hk := dv_sign s pos hp 16 (by omega)
          obtain ⟨r, hr0⟩ : ∃ r, r = (dec (gOf s pos) (s.size - pos)).1 := ⟨_, rfl⟩
          rw [hd, ← hr0] at hr
          rw [← hr0] at hk
          have hr' := hr
          have hnx0 : ∀ ty, (Instr.next (.pointer (some ⟨w.heap.size, 0, none⟩)) true ty).run Try.prog wr = .ok (.tuple #[.bool true, .int .i64 pos, .int .i32 (r : Nat)]) (wr.iterAt w.heap.size s (pos + wdAt s pos)) := fun ty => by
            have h := Lib.run_next_any_at (P := Try.prog) wr w.heap.size s pos ty hit.out hp
            rw [hd, ← hr0] at h
            exact h
          have hit2 := Lib.hid (Lib.iterAt_heap wr w.heap.size s pos (pos + wdAt s pos) hit.out)
          have hb2 : Bel w (wr.iterAt w.heap.size s (pos + wdAt s pos)) := Lib.below_iterAt hb (k := w.heap.size) (Nat.le_refl _) s _
          obtain ⟨W2, hW2⟩ : ∃ W2, W2 = wr.iterAt w.heap.size s (pos + wdAt s pos) := ⟨_, rfl⟩
          rw [← hW2] at hit2 hb2
          have hnx : ∀ ty, (Instr.next (.pointer (some ⟨w.heap.size, 0, none⟩)) true ty).run Try.prog wr = .ok (.tuple #[.bool true, .int .i64 pos, .int .i32 (r : Nat)]) W2 := fun ty => by rw [hW2]; exact hnx0 ty
          have hn : n < 268435456 := by
            have h1 := hh.out.2.2.1
            have h2 : 16 ^ pos ≤ 16 ^ 7 := Nat.pow_le_pow_right (by omega) (by have := SZ.out.2; omega)
            omega
          have hni : (n : Int) < 268435456 := by omega
          have hst := drop_step s pos hp
          have i1 : (pos : Int) < s.size := by omega
          by_cases hv : dvB r < 16
          · have HV := Lib.hid (show decide (dvB r < 16) = true from decide_eq_true hv)
            have hv' : dvB r < 16 := by omega
            have hvi : (dvB r : Int) < 16 := by omega
            have HF := Lib.hid (show foldD 16 (s.data.toList.drop (pos + 1)) (n * 16 + dvB r) = foldD 16 s.data.toList 0 by
              rw [← hh.out.2.1, hst]
              show _ = if dvB s[pos].toNat < 16 then _ else _
              rw [← hk.1, if_pos hv])
            have HP := Lib.hid (show n * 16 + dvB r < 16 ^ (pos + 1) by
              have h1 := hh.out.2.2.1
              rw [Nat.pow_succ]
              have h3 : (n + 1) * 16 ≤ 16 ^ pos * 16 := Nat.mul_le_mul (by omega) (by omega)
              rw [Nat.add_mul] at h3
              omega)
            have HW := Lib.hid (hk.2 hv)
            obtain ⟨d, hdd⟩ : ∃ d, d = dvB r := ⟨_, rfl⟩
            have hwo := fun w => worth_is r hv' w
            rw [← hdd] at hwo hvi HF HP hv'
            have HWO := Lib.hid hwo
            clear hd hr hr0 hnx0 hW2 hb hk hst hv hn hdd hwo
            go_wp2_with (first
              | (go_at_call 25; refine (digit16_is r hr' _).mono ?_; rintro e V1 ⟨rfl, rfl⟩; rw [HV.out])
              | (go_at_call 45; refine (HWO.out _).mono ?_; rintro e V2 ⟨rfl, rfl⟩))
            go_roundg (s.size - (pos + 1))
            case measure => have := hh.out.2.2.2; omega
            case rel =>
              rw [HW.out] at hit2
              exact ⟨pos + 1, n * 16 + d, by go_num, hit2, hb2, ⟨by omega, HF.out, HP.out, rfl⟩⟩
          · have HV := Lib.hid (show decide (dvB r < 16) = false from decide_eq_false hv)
            have L := Lib.hid (show numL 16 s.data.toList = none by
              rw [NL.out, ← hh.out.2.1, hst]
              have : foldD 16 (s[pos] :: s.data.toList.drop (pos + 1)) n = none := by
                show (if dvB s[pos].toNat < 16 then _ else none) = none
                rw [← hk.1, if_neg hv]
              rw [this])
            clear hd hr hr0 hnx0 hW2 hb hk hst hv hn
            go_wp2_with (go_at_call 25; refine (digit16_is r hr' _).mono ?_; rintro e V1 ⟨rfl, rfl⟩; rw [HV.out])
            go_ret2
            exact ⟨by (rw [L.out]) <;> rfl, hb2⟩
        · have hnx : ∀ ty, (Instr.next (.pointer (some ⟨w.heap.size, 0, none⟩)) true ty).run Try.prog wr = .ok (.tuple #[.bool false]) wr := fun ty => Lib.run_next_end_at wr w.heap.size s pos ty hit.out hp
          have hf : foldD 16 s.data.toList 0 = some n := by
            rw [← hh.out.2.1, List.drop_of_length_le (by rw [size_list]; omega)]
            rfl
          have hn : n < 4294967296 := by
            have h1 := hh.out.2.2.1
            have h2 : 16 ^ pos ≤ 16 ^ 8 := Nat.pow_le_pow_right (by omega) (by have := SZ.out.2; have := hh.out.1; omega)
            omega
          have hni : (n : Int) < 4294967296 := by omega
          by_cases hm : (1114111 : Int) < n
          · have L := Lib.hid (show numL 16 s.data.toList = none by
              rw [NL.out, hf]
              show (if sgn n = true then some n else none) = none
              rw [if_neg (fun h => by have := (sgn_iff n).1 h; omega)])
            clear hf
            go_wp2_with fail
            go_ret2
            exact ⟨by (rw [L.out]) <;> rfl, hb⟩
          · have hm' : (n : Int) ≤ 1114111 := by omega
            cases hv : sgn n with
            | true =>
              have HV := Lib.hid hv
              have L := Lib.hid (show numL 16 s.data.toList = some n by
                rw [NL.out, hf]
                show (if sgn n = true then some n else none) = some n
                rw [if_pos hv])
              clear hf hv
              go_wp2_with (go_at_call 21; refine (valid_any n (by omega) _).mono ?_; rintro e V1 ⟨rfl, rfl⟩; rw [HV.out])
              go_ret2
              exact ⟨by (rw [L.out]) <;> rfl, hb⟩
            | false =>
              have HV := Lib.hid hv
              have L := Lib.hid (show numL 16 s.data.toList = none by
                rw [NL.out, hf]
                show (if sgn n = true then some n else none) = none
                rw [if_neg (by rw [hv]; decide)])
              clear hf hv
              go_wp2_with (go_at_call 21; refine (valid_any n (by omega) _).mono ?_; rintro e V1 ⟨rfl, rfl⟩; rw [HV.out])
              go_ret2
              exact ⟨by (rw [L.out]) <;> rfl, hb⟩
end Go.Proofs.Ythcpgbbmgabpnaa
