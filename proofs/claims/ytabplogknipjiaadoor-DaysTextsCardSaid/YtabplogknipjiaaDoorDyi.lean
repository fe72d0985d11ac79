import Derived.Test.YtabplogknipjiaaDoorDyh
namespace Go.Proofs.YtabplogknipjiaaDoor
set_option linter.unusedSimpArgs false
set_option linter.unusedVariables false
open Go.RowKit

/-! Days: the day that a text is. -/
def dB (c : UInt8) : Bool := decide (48 ≤ c.toNat ∧ c.toNat ≤ 57)
def dOk (l : List UInt8) : Bool := l.all dB
def numL (l : List UInt8) : Nat := l.foldl (fun a c => a * 10 + (c.toNat - 48)) 0
theorem numL_snoc (l : List UInt8) (c : UInt8) : numL (l ++ [c]) = numL l * 10 + (c.toNat - 48) := by simp [numL, List.foldl_append]
theorem dOk_snoc (l : List UInt8) (c : UInt8) : dOk (l ++ [c]) = (dOk l && dB c) := by simp [dOk]
theorem fold_bd (l : List UInt8) : ∀ a, dOk l = true → l.foldl (fun a c => a * 10 + (c.toNat - 48)) a + 1 ≤ (a + 1) * 10 ^ l.length := by
  induction l with
  | nil => intro a _; simp
  | cons c r ih =>
    intro a h
    simp only [dOk, List.all_cons, Bool.and_eq_true] at h
    have hc := h.1
    simp only [dB, decide_eq_true_eq] at hc
    have := ih (a * 10 + (c.toNat - 48)) h.2
    simp only [List.foldl_cons, List.length_cons, Nat.pow_succ]
    refine Nat.le_trans this ?_
    have h2 : a * 10 + (c.toNat - 48) + 1 ≤ (a + 1) * 10 := by omega
    calc (a * 10 + (c.toNat - 48) + 1) * 10 ^ r.length ≤ ((a + 1) * 10) * 10 ^ r.length := Nat.mul_le_mul_right _ h2
      _ = (a + 1) * (10 ^ r.length * 10) := by rw [Nat.mul_assoc, Nat.mul_comm 10]
theorem numL_bd (l : List UInt8) (h : dOk l = true) (hl : l.length ≤ 4) : numL l ≤ 9999 := by
  have := fold_bd l 0 h
  have h2 : 10 ^ l.length ≤ 10 ^ 4 := Nat.pow_le_pow_right (by omega) hl
  unfold numL
  omega
theorem take_snoc (s : ByteArray) (k : Nat) (h : k < s.size) : s.data.toList.take (k + 1) = s.data.toList.take k ++ [s[k]] := by
  rw [List.take_succ_eq_append_getElem (by simpa using h)]; rfl
def numV (l : List UInt8) : Value := if dOk l = true then .tuple #[.int .i64 (numL l), .bool true] else .tuple #[.int .i64 0, .bool false]
theorem dOk_take (l : List UInt8) (k : Nat) (h : dOk l = true) : dOk (l.take k) = true := by
  simp only [dOk, List.all_eq_true] at h ⊢
  exact fun x hx => h x (List.mem_of_mem_take hx)
set_option maxHeartbeats 800000 in
theorem dnum_any (s : ByteArray) (hs : s.size ≤ 4) (w : World) : Calls Tryd.prog 26 #[.string s] w fun e w' => e = .returned (numV s.data.toList) ∧ Bel w w' := by
  go_enter Tryd.func26, Tryd.ntmps26
  go_wp2
  go_loop [4, 8] (fun n i => ∃ k : Nat, k ≤ s.size ∧ i = .int .i64 k ∧ n = .int .i64 (numL (s.data.toList.take k)) ∧ dOk (s.data.toList.take k) = true) (fun _ i => s.size - (intOf i).toNat)
  case atStart => exact ⟨0, Nat.zero_le _, rfl, rfl, rfl⟩
  case round =>
    obtain ⟨k, hk, rfl, rfl, hok⟩ := hrel
    by_cases hlt : k < s.size
    · have hbd := numL_bd _ hok (by have := List.length_take_le k s.data.toList; omega)
      have hts := take_snoc s k hlt
      have HS := Lib.hid (show numL (s.data.toList.take (k + 1)) = _ by rw [hts, numL_snoc])
      have HO := Lib.hid (show dOk (s.data.toList.take (k + 1)) = (true && dB s[k]) by rw [hts, dOk_snoc, hok])
      have HK := Lib.hid (dOk_take s.data.toList (k + 1))
      clear hts hok
      by_cases h1 : 48 ≤ s[k].toNat
      · have b1 : decide ((s[k].toNat : Int) < 48) = false := by simp; omega
        by_cases h2 : s[k].toNat ≤ 57
        · have b2 : decide (57 < (s[k].toNat : Int)) = false := by simp; omega
          have HB := Lib.hid (show dB s[k] = true by simp [dB, h1, h2])
          go_wp2
          go_round
          case rel => exact ⟨k + 1, by omega, by go_num, by rw [HS.out]; go_num, by rw [HO.out, HB.out]; rfl⟩
          case measure => simp [intOf]; omega
        · have b2 : decide (57 < (s[k].toNat : Int)) = true := by simp; omega
          have HB : Hid (numV s.data.toList = .tuple #[.int .i64 0, .bool false]) :=
            if_neg fun h => by have := HK.out h; rw [HO.out] at this; simp [dB] at this; omega
          go_wp2
          go_ret2
          exact ⟨by rw [HB.out]; rfl, Bel.refl _⟩
      · have b1 : decide ((s[k].toNat : Int) < 48) = true := by simp; omega
        have HB : Hid (numV s.data.toList = .tuple #[.int .i64 0, .bool false]) :=
            if_neg fun h => by have := HK.out h; rw [HO.out] at this; simp [dB] at this; omega
        go_wp2
        go_ret2
        exact ⟨by rw [HB.out]; rfl, Bel.refl _⟩
    · have hall : s.data.toList.take k = s.data.toList := List.take_of_length_le (by simp; omega)
      have HB : Hid (numV s.data.toList = .tuple #[.int .i64 (numL (s.data.toList.take k)), .bool true]) := by rw [hall] at hok ⊢; exact if_pos hok
      clear hall hok
      go_wp2
      go_ret2
      exact ⟨by rw [HB.out]; rfl, Bel.refl _⟩
end Go.Proofs.YtabplogknipjiaaDoor
