import Derived.Test.YtabplogknipjiaaDoorOpn
import Derived.Test.YtabplogknipjiaaDoorUni
import Derived.Test.YtabplogknipjiaaDoorOwn
namespace Go.Proofs.YtabplogknipjiaaDoor
set_option linter.unusedSimpArgs false
set_option linter.unusedVariables false
open Go.RowKit

/-! Days: the plain functions. -/
def leapB (y : Int) : Bool := decide (y % 4 = 0) && (decide (y % 100 ≠ 0) || decide (y % 400 = 0))
def lenM (y m : Int) : Int := if m = 2 then (if leapB y = true then 29 else 28) else if m = 4 ∨ m = 6 ∨ m = 9 ∨ m = 11 then 30 else 31
def bef (y : Int) : Int := 365 * (y - 1) + (y - 1) / 4 - (y - 1) / 100 + (y - 1) / 400
theorem tmod0 (y k : Int) : y.tmod k = 0 ↔ y % k = 0 := by
  rw [← Int.dvd_iff_emod_eq_zero, Int.dvd_iff_tmod_eq_zero]

theorem leap_any (y : Int) (w : World) : Calls Tryd.prog 17 #[.int .i64 y] w fun e w' => e = .returned (.bool (leapB y)) ∧ Bel w w' := by
  by_cases h4 : y % 4 = 0
  · have e4 : (y.tmod 4 == 0) = true := by simp [tmod0, h4]
    by_cases h100 : y % 100 = 0
    · have e100 : (y.tmod 100 != 0) = false := by simp [tmod0, h100]
      have hl : Hid (leapB y = decide (y % 400 = 0)) := by simp [Hid, leapB, h4, h100]
      by_cases h400 : y % 400 = 0
      · have e400 : (y.tmod 400 == 0) = true := by simp [tmod0, h400]
        go_enter Tryd.func17, Tryd.ntmps17
        go_wp2
        go_ret
        exact ⟨by rw [hl.out]; simp [h400], Bel.refl _⟩
      · have e400 : (y.tmod 400 == 0) = false := by simp [tmod0, h400]
        go_enter Tryd.func17, Tryd.ntmps17
        go_wp2
        go_ret
        exact ⟨by rw [hl.out]; simp [h400], Bel.refl _⟩
    · have e100 : (y.tmod 100 != 0) = true := by simp [tmod0, h100]
      have hl : Hid (leapB y = true) := by simp [Hid, leapB, h4, h100]
      go_enter Tryd.func17, Tryd.ntmps17
      go_wp2
      go_ret
      exact ⟨by rw [hl.out]; rfl, Bel.refl _⟩
  · have e4 : (y.tmod 4 == 0) = false := by simp [tmod0, h4]
    have hl : Hid (leapB y = false) := by simp [Hid, leapB, h4]
    go_enter Tryd.func17, Tryd.ntmps17
    go_wp2
    go_ret
    exact ⟨by rw [hl.out]; rfl, Bel.refl _⟩
end Go.Proofs.YtabplogknipjiaaDoor
