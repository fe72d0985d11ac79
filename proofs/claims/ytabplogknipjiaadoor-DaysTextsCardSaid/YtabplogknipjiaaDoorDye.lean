import Derived.Test.YtabplogknipjiaaDoorDyd
namespace Go.Proofs.YtabplogknipjiaaDoor
set_option linter.unusedSimpArgs false
set_option linter.unusedVariables false
open Go.RowKit

/-! Days: what the document says, by counting. -/
theorem rleap_any (y : Int) (w : World) : Calls Tryd.prog 18 #[.int .i64 y] w fun e w' => e = .returned (.bool (leapB y)) ∧ Bel w w' := by
  by_cases h400 : y % 400 = 0
  · have e400 : (y.tmod 400 == 0) = true := by simp [tmod0, h400]
    have hl : Hid (leapB y = true) := by unfold Hid; rw [leap_iff]; omega
    clear h400
    go_enter Tryd.func18, Tryd.ntmps18
    go_wp2
    go_ret
    exact ⟨by rw [hl.out]; rfl, Bel.refl _⟩
  · have e400 : (y.tmod 400 == 0) = false := by simp [tmod0, h400]
    by_cases h4 : y % 4 = 0
    · have e4 : (y.tmod 4 == 0) = true := by simp [tmod0, h4]
      by_cases h100 : y % 100 = 0
      · have e100 : (y.tmod 100 != 0) = false := by simp [tmod0, h100]
        have hl : Hid (leapB y = false) := by simp [Hid, leapB, h4, h100, h400]
        clear h400 h4 h100
        go_enter Tryd.func18, Tryd.ntmps18
        go_wp2
        go_ret
        exact ⟨by rw [hl.out]; rfl, Bel.refl _⟩
      · have e100 : (y.tmod 100 != 0) = true := by simp [tmod0, h100]
        have hl : Hid (leapB y = true) := by simp [Hid, leapB, h4, h100]
        clear h400 h4 h100
        go_enter Tryd.func18, Tryd.ntmps18
        go_wp2
        go_ret
        exact ⟨by rw [hl.out]; rfl, Bel.refl _⟩
    · have e4 : (y.tmod 4 == 0) = false := by simp [tmod0, h4]
      have hl : Hid (leapB y = false) := by simp [Hid, leapB, h4]
      clear h400 h4
      go_enter Tryd.func18, Tryd.ntmps18
      go_wp2
      go_ret
      exact ⟨by rw [hl.out]; rfl, Bel.refl _⟩

theorem ryears_any (y : Int) (w : World) : Calls Tryd.prog 22 #[.int .i64 y] w fun e w' => e = .returned (.int .i64 (337 + feb y)) ∧ Bel w w' := by
  have hl : Hid (feb y = if leapB y = true then 29 else 28) := rfl
  cases hb : leapB y
  all_goals
    go_enter Tryd.func22, Tryd.ntmps22
    go_wp2_with (go_at_call 18; refine (rleap_any y _).mono ?_; rintro e w1 ⟨rfl, hb1⟩)
    go_ret
    exact ⟨by rw [hl.out, hb]; rfl, hb1⟩

theorem lt_alloc (w : World) (o : Obj) : w.heap.size < (w.alloc o).heap.size := by simp
theorem arr12_new (w : World) (t : TypeId) : (w.alloc (.cells #[.int .i64 31, .int .i64 28, .int .i64 31, .int .i64 30, .int .i64 31, .int .i64 30, .int .i64 31, .int .i64 31, .int .i64 30, .int .i64 31, .int .i64 30, .int .i64 31] t)).cell? ⟨w.heap.size, 1, none⟩ = some (.int .i64 28) := by simp [go_sem]
theorem arr12_keep {w w1 : World} {t : TypeId} (hb : Bel (w.alloc (.cells #[.int .i64 31, .int .i64 28, .int .i64 31, .int .i64 30, .int .i64 31, .int .i64 30, .int .i64 31, .int .i64 31, .int .i64 30, .int .i64 31, .int .i64 30, .int .i64 31] t)) w1) : w1.cell? ⟨w.heap.size, 1, none⟩ = some (.int .i64 28) :=
  (hb.cells _ _ (lt_alloc _ _)).trans (arr12_new w t)
set_option maxHeartbeats 4000000 in
theorem rlength_any (y m : Int) (h1 : 1 ≤ m) (h2 : m ≤ 12) (w : World) : Calls Tryd.prog 21 #[.int .i64 y, .int .i64 m] w fun e w' => e = .returned (.int .i64 (lenM y m)) ∧ Bel w w' := by
  rcases twelve m h1 h2 with rfl | rfl | rfl | rfl | rfl | rfl | rfl | rfl | rfl | rfl | rfl | rfl
  case inr.inl =>
    have hl : Hid (lenM y 2 = if leapB y = true then 29 else 28) := by simp [Hid, lenM]
    clear h1 h2
    cases hb : leapB y
    all_goals
      go_enter Tryd.func21, Tryd.ntmps21
      go_wp2_with (go_at_call 18; refine (rleap_any y _).mono ?_; rintro e w1 ⟨rfl, hb1⟩;  have hc28 := arr12_keep hb1; replace hb1 := ((Bel.refl w).alloc _).trans hb1)
      go_ret
      exact ⟨by rw [hl.out, hb]; rfl, hb1⟩
  all_goals
    clear h1 h2
    go_enter Tryd.func21, Tryd.ntmps21
    go_wp2
    go_ret
    exact ⟨by simp [lenM] <;> rfl, (Bel.refl w).alloc _⟩
end Go.Proofs.YtabplogknipjiaaDoor
