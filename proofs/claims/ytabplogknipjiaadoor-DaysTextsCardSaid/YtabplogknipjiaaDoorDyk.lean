import Derived.Test.YtabplogknipjiaaDoorDyj
namespace Go.Proofs.YtabplogknipjiaaDoor
set_option linter.unusedSimpArgs false
set_option linter.unusedVariables false
open Go.RowKit

/-! Days: the simplest facts; the laws' walks. -/
theorem awake_p : parseV ⟨#[50, 48, 48, 48, 45, 48, 51, 45, 48, 49]⟩ = .tuple #[.int .i64 730179, .int .i64 0] := by rfl
theorem awake_t : textV 730119 = .tuple #[.string ⟨#[50, 48, 48, 48, 45, 48, 49, 45, 48, 49]⟩, .int .i64 0] := by
  obtain ⟨e1, e2, e3⟩ := date_is (n := 730119) (a := 2000) (b := 1) (c := 1) (by decide) (by decide)
  rw [show textV 730119 = _ from if_pos (by decide)]
  unfold dtx
  rw [← e1, ← e2, ← e3]
  rfl
theorem awake_any (w : World) (ht : Tab w) : Calls Tryd.prog 12 #[] w fun e w' => e = .returned (.bool true) ∧ Bel w w' := by
  have hp := parse_any ⟨#[50, 48, 48, 48, 45, 48, 51, 45, 48, 49]⟩
  have hx := fun w => text_any 730119 w
  rw [awake_p] at hp
  rw [awake_t] at hx
  have HP := Lib.hid hp
  have HX := Lib.hid hx
  clear hp hx
  go_enter Tryd.func12, Tryd.ntmps12
  go_wp2_with (first
    | (go_at_call 15; refine (HP.out _).mono ?_; rintro e w1 ⟨rfl, hb1⟩)
    | (go_at_call 13; refine (HX.out _ (ht.keep hb1)).mono ?_; rintro e w2 ⟨rfl, hb2⟩))
  go_ret
  exact ⟨rfl, hb1.trans hb2⟩

theorem dayV_sh (a b c : Int) : ∃ x y, dayV a b c = .tuple #[.int .i64 x, .int .i64 y] := by
  unfold dayV
  split
  · exact ⟨_, _, rfl⟩
  · exact ⟨_, _, rfl⟩
theorem dateV_sh (n : Int) : ∃ x y z e, dateV n = .tuple #[.int .i64 x, .int .i64 y, .int .i64 z, .int .i64 e] := by
  unfold dateV
  split
  · exact ⟨_, _, _, _, rfl⟩
  · exact ⟨_, _, _, _, rfl⟩
set_option maxHeartbeats 800000 in
/-- The day of any date, and the date of any day: as the document says. -/
theorem law_Day (y m d n : Int) (w : World) (ht : Tab w) : Calls Tryd.prog 3 #[.int .i64 y, .int .i64 m, .int .i64 d, .int .i64 n] w fun e w' => e = .returned (.bool true) ∧ Bel w w' := by
  obtain ⟨x1, x2, hx⟩ := dayV_sh y m d
  obtain ⟨z1, z2, z3, z4, hz⟩ := dateV_sh n
  have c1 := day_any y m d
  have c2 := rday_any y m d
  have c3 := date_any n
  have c4 := rdate_any n
  rw [hx] at c1 c2
  rw [hz] at c3 c4
  have C1 := Lib.hid c1
  have C2 := Lib.hid c2
  have C3 := Lib.hid c3
  have C4 := Lib.hid c4
  clear c1 c2 c3 c4 hx hz
  have hb : Bel w w := Bel.refl _
  go_enter Tryd.func3, Tryd.ntmps3
  go_wp2_with (first
    | (go_at_call 8; refine (C1.out _).mono ?_; rintro e w1 ⟨rfl, hb1⟩; replace hb := hb.trans hb1; clear hb1)
    | (go_at_call 9; refine (C2.out _).mono ?_; rintro e w1 ⟨rfl, hb1⟩; replace hb := hb.trans hb1; clear hb1)
    | (go_at_call 10; refine (C3.out _).mono ?_; rintro e w1 ⟨rfl, hb1⟩; replace hb := hb.trans hb1; clear hb1)
    | (go_at_call 11; refine (C4.out _).mono ?_; rintro e w1 ⟨rfl, hb1⟩; replace hb := hb.trans hb1; clear hb1)
    | (go_at_call 12; refine (awake_any _ (ht.keep hb)).mono ?_; rintro e w1 ⟨rfl, hb1⟩; replace hb := hb.trans hb1; clear hb1))
  go_ret
  exact ⟨rfl, hb⟩

theorem day29 (y : Int) : dayV y 2 29 = if (1 ≤ y ∧ y ≤ 9999) ∧ leapB y = true then .tuple #[.int .i64 (numD y 2 29), .int .i64 0] else .tuple #[.int .i64 0, .int .i64 3] := by
  unfold dayV
  have : SoundD y 2 29 ↔ (1 ≤ y ∧ y ≤ 9999) ∧ leapB y = true := by
    unfold SoundD
    have h : lenM y 2 = if leapB y = true then 29 else 28 := by simp [lenM]
    rw [h]
    by_cases hl : leapB y = true
    · simp [hl] <;> omega
    · simp [hl]
  simp only [this]
theorem law_Leap (y : Int) (w : World) (ht : Tab w) : Calls Tryd.prog 7 #[.int .i64 y] w fun e w' => e = .returned (.bool true) ∧ Bel w w' := by
  have hb : Bel w w := Bel.refl _
  have c1 := day_any y 2 29
  rw [day29] at c1
  have hl := leap_any y
  have hr := rleap_any y
  cases hlb : leapB y
  all_goals
    rw [hlb] at c1 hl hr
    have HL := Lib.hid hl
    have HR := Lib.hid hr
    clear hl hr hlb
    by_cases h1 : 1 ≤ y
    · have b1 : decide (1 ≤ y) = true := by simpa using h1
      by_cases h2 : y ≤ 9999
      · have b2 : decide (y ≤ 9999) = true := by simpa using h2
        simp only [h1, h2, and_self, and_true, and_false, if_true, if_false, Bool.false_eq_true] at c1
        have C1 := Lib.hid c1
        clear c1
        go_enter Tryd.func7, Tryd.ntmps7
        go_wp2_with (first
          | (go_at_call 17; refine (HL.out _).mono ?_; rintro e w1 ⟨rfl, hb1⟩; replace hb := hb.trans hb1; clear hb1)
          | (go_at_call 18; refine (HR.out _).mono ?_; rintro e w1 ⟨rfl, hb1⟩; replace hb := hb.trans hb1; clear hb1)
          | (go_at_call 8; refine (C1.out _).mono ?_; rintro e w1 ⟨rfl, hb1⟩; replace hb := hb.trans hb1; clear hb1)
          | (go_at_call 12; refine (awake_any _ (ht.keep hb)).mono ?_; rintro e w1 ⟨rfl, hb1⟩; replace hb := hb.trans hb1; clear hb1))
        go_ret
        exact ⟨rfl, hb⟩
      · have b2 : decide (y ≤ 9999) = false := by simpa using h2
        simp only [h2, and_false, false_and, if_false] at c1
        have C1 := Lib.hid c1
        clear c1
        go_enter Tryd.func7, Tryd.ntmps7
        go_wp2_with (first
          | (go_at_call 17; refine (HL.out _).mono ?_; rintro e w1 ⟨rfl, hb1⟩; replace hb := hb.trans hb1; clear hb1)
          | (go_at_call 18; refine (HR.out _).mono ?_; rintro e w1 ⟨rfl, hb1⟩; replace hb := hb.trans hb1; clear hb1)
          | (go_at_call 8; refine (C1.out _).mono ?_; rintro e w1 ⟨rfl, hb1⟩; replace hb := hb.trans hb1; clear hb1)
          | (go_at_call 12; refine (awake_any _ (ht.keep hb)).mono ?_; rintro e w1 ⟨rfl, hb1⟩; replace hb := hb.trans hb1; clear hb1))
        go_ret
        exact ⟨rfl, hb⟩
    · have b1 : decide (1 ≤ y) = false := by simpa using h1
      simp only [h1, false_and, if_false] at c1
      have C1 := Lib.hid c1
      clear c1
      go_enter Tryd.func7, Tryd.ntmps7
      go_wp2_with (first
        | (go_at_call 17; refine (HL.out _).mono ?_; rintro e w1 ⟨rfl, hb1⟩; replace hb := hb.trans hb1; clear hb1)
        | (go_at_call 18; refine (HR.out _).mono ?_; rintro e w1 ⟨rfl, hb1⟩; replace hb := hb.trans hb1; clear hb1)
        | (go_at_call 8; refine (C1.out _).mono ?_; rintro e w1 ⟨rfl, hb1⟩; replace hb := hb.trans hb1; clear hb1)
        | (go_at_call 12; refine (awake_any _ (ht.keep hb)).mono ?_; rintro e w1 ⟨rfl, hb1⟩; replace hb := hb.trans hb1; clear hb1))
      go_ret
      exact ⟨rfl, hb⟩
end Go.Proofs.YtabplogknipjiaaDoor
