import Derived.Test.YthcpgbbmgabpnaaChg
namespace Go.Proofs.Ythcpgbbmgabpnaa
set_option linter.unusedSimpArgs false
set_option linter.unusedVariables false
open Go.RowKit

/-! Chars: names. -/
def letB (r : Nat) : Bool := decide (r = 95 ∨ (97 ≤ r ∧ r ≤ 122) ∨ (65 ≤ r ∧ r ≤ 90))
def dgB (r : Nat) : Bool := decide (48 ≤ r ∧ r ≤ 57)
set_option maxRecDepth 100000 in
theorem letter_any (r : Nat) (hr : r ≤ 2147483647) (w : World) : Calls Try.prog 24 #[.int .i32 r] w fun e w' => e = .returned (.bool (letB r)) ∧ w' = w := by
  have hi : (r : Int) ≤ 2147483647 := by omega
  have hc : (r < 65) ∨ (65 ≤ r ∧ r ≤ 90) ∨ (90 < r ∧ r < 95) ∨ (r = 95) ∨ (r = 96) ∨ (97 ≤ r ∧ r ≤ 122) ∨ (122 < r) := by omega
  rcases hc with h | h | h | h | h | h | h
  · have L := Lib.hid (show letB r = false from decide_eq_false (by omega))
    have e95 : ((r : Int) == 95) = false := by rw [beq_eq_false_iff_ne]; omega
    have g97 : decide ((97 : Int) ≤ r) = false := by exact decide_eq_false (by omega)
    have l122 : decide ((r : Int) ≤ 122) = true := by exact decide_eq_true (by omega)
    have g65 : decide ((65 : Int) ≤ r) = false := by exact decide_eq_false (by omega)
    have l90 : decide ((r : Int) ≤ 90) = true := by exact decide_eq_true (by omega)
    clear h hr hi
    go_enter Try.func24, Try.ntmps24
    go_wp2
    go_ret
    exact ⟨by (rw [L.out]) <;> rfl, rfl⟩
  · have L := Lib.hid (show letB r = true from decide_eq_true (by omega))
    have e95 : ((r : Int) == 95) = false := by rw [beq_eq_false_iff_ne]; omega
    have g97 : decide ((97 : Int) ≤ r) = false := by exact decide_eq_false (by omega)
    have l122 : decide ((r : Int) ≤ 122) = true := by exact decide_eq_true (by omega)
    have g65 : decide ((65 : Int) ≤ r) = true := by exact decide_eq_true (by omega)
    have l90 : decide ((r : Int) ≤ 90) = true := by exact decide_eq_true (by omega)
    clear h hr hi
    go_enter Try.func24, Try.ntmps24
    go_wp2
    go_ret
    exact ⟨by (rw [L.out]) <;> rfl, rfl⟩
  · have L := Lib.hid (show letB r = false from decide_eq_false (by omega))
    have e95 : ((r : Int) == 95) = false := by rw [beq_eq_false_iff_ne]; omega
    have g97 : decide ((97 : Int) ≤ r) = false := by exact decide_eq_false (by omega)
    have l122 : decide ((r : Int) ≤ 122) = true := by exact decide_eq_true (by omega)
    have g65 : decide ((65 : Int) ≤ r) = true := by exact decide_eq_true (by omega)
    have l90 : decide ((r : Int) ≤ 90) = false := by exact decide_eq_false (by omega)
    clear h hr hi
    go_enter Try.func24, Try.ntmps24
    go_wp2
    go_ret
    exact ⟨by (rw [L.out]) <;> rfl, rfl⟩
  · have L := Lib.hid (show letB r = true from decide_eq_true (by omega))
    have e95 : ((r : Int) == 95) = true := by rw [beq_iff_eq]; omega
    have g97 : decide ((97 : Int) ≤ r) = false := by exact decide_eq_false (by omega)
    have l122 : decide ((r : Int) ≤ 122) = true := by exact decide_eq_true (by omega)
    have g65 : decide ((65 : Int) ≤ r) = true := by exact decide_eq_true (by omega)
    have l90 : decide ((r : Int) ≤ 90) = false := by exact decide_eq_false (by omega)
    clear h hr hi
    go_enter Try.func24, Try.ntmps24
    go_wp2
    go_ret
    exact ⟨by (rw [L.out]) <;> rfl, rfl⟩
  · have L := Lib.hid (show letB r = false from decide_eq_false (by omega))
    have e95 : ((r : Int) == 95) = false := by rw [beq_eq_false_iff_ne]; omega
    have g97 : decide ((97 : Int) ≤ r) = false := by exact decide_eq_false (by omega)
    have l122 : decide ((r : Int) ≤ 122) = true := by exact decide_eq_true (by omega)
    have g65 : decide ((65 : Int) ≤ r) = true := by exact decide_eq_true (by omega)
    have l90 : decide ((r : Int) ≤ 90) = false := by exact decide_eq_false (by omega)
    clear h hr hi
    go_enter Try.func24, Try.ntmps24
    go_wp2
    go_ret
    exact ⟨by (rw [L.out]) <;> rfl, rfl⟩
  · have L := Lib.hid (show letB r = true from decide_eq_true (by omega))
    have e95 : ((r : Int) == 95) = false := by rw [beq_eq_false_iff_ne]; omega
    have g97 : decide ((97 : Int) ≤ r) = true := by exact decide_eq_true (by omega)
    have l122 : decide ((r : Int) ≤ 122) = true := by exact decide_eq_true (by omega)
    have g65 : decide ((65 : Int) ≤ r) = true := by exact decide_eq_true (by omega)
    have l90 : decide ((r : Int) ≤ 90) = false := by exact decide_eq_false (by omega)
    clear h hr hi
    go_enter Try.func24, Try.ntmps24
    go_wp2
    go_ret
    exact ⟨by (rw [L.out]) <;> rfl, rfl⟩
  · have L := Lib.hid (show letB r = false from decide_eq_false (by omega))
    have e95 : ((r : Int) == 95) = false := by rw [beq_eq_false_iff_ne]; omega
    have g97 : decide ((97 : Int) ≤ r) = true := by exact decide_eq_true (by omega)
    have l122 : decide ((r : Int) ≤ 122) = false := by exact decide_eq_false (by omega)
    have g65 : decide ((65 : Int) ≤ r) = true := by exact decide_eq_true (by omega)
    have l90 : decide ((r : Int) ≤ 90) = false := by exact decide_eq_false (by omega)
    clear h hr hi
    go_enter Try.func24, Try.ntmps24
    go_wp2
    go_ret
    exact ⟨by (rw [L.out]) <;> rfl, rfl⟩
set_option maxRecDepth 100000 in
theorem digit10_any (r : Nat) (hr : r ≤ 2147483647) (w : World) : Calls Try.prog 25 #[.int .i32 r, .int .i64 10] w fun e w' => e = .returned (.bool (dgB r)) ∧ w' = w := by
  have hi : (r : Int) ≤ 2147483647 := by omega
  have hc : (r < 48) ∨ (48 ≤ r ∧ r ≤ 57) ∨ (57 < r) := by omega
  rcases hc with h | h | h
  · have L := Lib.hid (show dgB r = false from decide_eq_false (by omega))
    have g48 : decide ((48 : Int) ≤ r) = false := by exact decide_eq_false (by omega)
    have l57 : decide ((r : Int) ≤ 57) = true := by exact decide_eq_true (by omega)
    clear h hr hi
    go_enter Try.func25, Try.ntmps25
    go_wp2
    go_ret
    exact ⟨by (rw [L.out]) <;> rfl, rfl⟩
  · have L := Lib.hid (show dgB r = true from decide_eq_true (by omega))
    have g48 : decide ((48 : Int) ≤ r) = true := by exact decide_eq_true (by omega)
    have l57 : decide ((r : Int) ≤ 57) = true := by exact decide_eq_true (by omega)
    clear h hr hi
    go_enter Try.func25, Try.ntmps25
    go_wp2
    go_ret
    exact ⟨by (rw [L.out]) <;> rfl, rfl⟩
  · have L := Lib.hid (show dgB r = false from decide_eq_false (by omega))
    have g48 : decide ((48 : Int) ≤ r) = true := by exact decide_eq_true (by omega)
    have l57 : decide ((r : Int) ≤ 57) = false := by exact decide_eq_false (by omega)
    clear h hr hi
    go_enter Try.func25, Try.ntmps25
    go_wp2
    go_ret
    exact ⟨by (rw [L.out]) <;> rfl, rfl⟩
/-- Whether a byte may stand at a place of a name. -/
def okN (i b : Nat) : Bool := letB b || (decide (i ≠ 0) && dgB b)
def nameB (s : ByteArray) : Bool := decide (0 < s.size ∧ s.size ≤ 32) && (List.range s.size).all fun i => okN i (gOf s 0 i)
theorem name_no {s : ByteArray} {i : Nat} (h : i < s.size) (hb : okN i (gOf s 0 i) = false) : nameB s = false := by
  unfold nameB
  rw [Bool.and_eq_false_iff]
  right
  rw [Bool.eq_false_iff]
  intro ha
  rw [List.all_eq_true] at ha
  have := ha i (List.mem_range.2 h)
  rw [hb] at this
  cases this
theorem name_yes {s : ByteArray} (h0 : 0 < s.size) (h : s.size ≤ 32) (ha : ∀ i, i < s.size → okN i (gOf s 0 i) = true) : nameB s = true := by
  unfold nameB
  rw [decide_eq_true ⟨h0, h⟩, Bool.true_and, List.all_eq_true]
  intro i hi
  exact ha i (List.mem_range.1 hi)
theorem okN_high (i b : Nat) (h : 128 ≤ b) : okN i b = false := by
  unfold okN letB dgB
  rw [decide_eq_false (by omega), decide_eq_false (p := 48 ≤ b ∧ b ≤ 57) (by omega)]
  simp
theorem let_high (b : Nat) (h : 128 ≤ b) : letB b = false := decide_eq_false (by omega)
theorem dg_high (b : Nat) (h : 128 ≤ b) : dgB b = false := decide_eq_false (by omega)
end Go.Proofs.Ythcpgbbmgabpnaa
