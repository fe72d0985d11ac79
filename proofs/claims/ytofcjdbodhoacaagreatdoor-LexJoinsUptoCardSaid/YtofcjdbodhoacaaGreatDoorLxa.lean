import Derived.Test.YtofcjdbodhoacaaGreatDoorLxo
import Derived.Test.YtofcjdbodhoacaaGreatDoorKit
import Derived.Test.YtofcjdbodhoacaaGreatDoorRow
import Derived.Test.YtofcjdbodhoacaaGreatDoorOpn
import Derived.Test.YtofcjdbodhoacaaGreatDoorOwn
import Derived.Test.YtofcjdbodhoacaaGreatDoorUni
import Derived.Test.YtofcjdbodhoacaaGreatDoorShelf
import Derived.Deep.LoopGhost
import Derived.Deep.CutBlock
import Derived.Deep.DeepCutAuto
import Derived.Lib.AtoiErrMem
import Derived.Deep.OwnRows
import Derived.Deep.QuietTactic
import Derived.BigQuiet
import Derived.Deep.RegionHeld3
import Derived.Lib.SlBytesRow
import Derived.Laws.RangeAny
import Derived.Lib.OthersKept
namespace Go.Proofs.YtofcjdbodhoacaaGreatDoor
set_option linter.unusedSimpArgs false
set_option linter.unusedVariables false

/-! The second part. -/
section
open Go.RowKit
set_option maxHeartbeats 2000000 in
theorem rtext_any (n s : Int) (w : World) : Calls Tryz.prog 50 #[decA n s] w fun e w' => e = .returned (textV n s) ∧ Bel w w' := by
  by_cases h : SndD n s
  · rw [show textV n s = _ from if_pos h]
    have h0 := h.1
    have := rtext_raw n s.toNat (by rwa [show ((s.toNat : Nat) : Int) = s by omega]) w
    rwa [show ((s.toNat : Nat) : Int) = s by omega] at this
  · have hv : Hid (textV n s = .tuple #[.string ⟨#[]⟩, .int .i64 2]) := if_neg h
    have hs := Lib.hid (sndB_f h)
    clear h
    go_enter Tryz.func50, Tryz.ntmps50
    go_wp2_with fail
    refine under_call ((Bel.refl w).alloc _) fun W hc hf hz hb => ?_
    have hA : Arr2 W w.heap.size n s := by simp [Arr2, hz, hc, hf, go_sem]
    clear hc hf hz
    go_wp2_with (go_at_call 74; refine (rsound_any n s _).mono ?_; rintro e W1 ⟨rfl, hb1⟩; rw [hs.out]; replace hb := hb.trans hb1; clear hb1)
    go_ret2
    exact ⟨by (rw [hv.out]) <;> rfl, hb⟩
theorem parseV_sh (l : List UInt8) : ∃ a b e, parseV l = .tuple #[decA a b, .int .i64 e] := by
  unfold parseV partsV
  split
  · exact ⟨_, _, _, rfl⟩
  · split
    · exact ⟨_, _, _, rfl⟩
    · exact decV_sh _ _ _
def leapB (y : Int) : Bool := decide (y % 4 = 0) && (decide (y % 100 ≠ 0) || decide (y % 400 = 0))
def lenM (y m : Int) : Int := if m = 2 then (if leapB y = true then 29 else 28) else if m = 4 ∨ m = 6 ∨ m = 9 ∨ m = 11 then 30 else 31
def bef (y : Int) : Int := 365 * (y - 1) + (y - 1) / 4 - (y - 1) / 100 + (y - 1) / 400
theorem tmod0 (y k : Int) : y.tmod k = 0 ↔ y % k = 0 := by
  rw [← Int.dvd_iff_emod_eq_zero, Int.dvd_iff_tmod_eq_zero]
theorem leap_any (y : Int) (w : World) : Calls Tryz.prog 147 #[.int .i64 y] w fun e w' => e = .returned (.bool (leapB y)) ∧ Bel w w' := by
  by_cases h4 : y % 4 = 0
  · have e4 : (y.tmod 4 == 0) = true := by simp [tmod0, h4]
    by_cases h100 : y % 100 = 0
    · have e100 : (y.tmod 100 != 0) = false := by simp [tmod0, h100]
      have hl : Hid (leapB y = decide (y % 400 = 0)) := by simp [Hid, leapB, h4, h100]
      by_cases h400 : y % 400 = 0
      · have e400 : (y.tmod 400 == 0) = true := by simp [tmod0, h400]
        go_enter Tryz.func147, Tryz.ntmps147
        go_wp2
        go_ret
        exact ⟨by rw [hl.out]; simp [h400], Bel.refl _⟩
      · have e400 : (y.tmod 400 == 0) = false := by simp [tmod0, h400]
        go_enter Tryz.func147, Tryz.ntmps147
        go_wp2
        go_ret
        exact ⟨by rw [hl.out]; simp [h400], Bel.refl _⟩
    · have e100 : (y.tmod 100 != 0) = true := by simp [tmod0, h100]
      have hl : Hid (leapB y = true) := by simp [Hid, leapB, h4, h100]
      go_enter Tryz.func147, Tryz.ntmps147
      go_wp2
      go_ret
      exact ⟨by rw [hl.out]; rfl, Bel.refl _⟩
  · have e4 : (y.tmod 4 == 0) = false := by simp [tmod0, h4]
    have hl : Hid (leapB y = false) := by simp [Hid, leapB, h4]
    go_enter Tryz.func147, Tryz.ntmps147
    go_wp2
    go_ret
    exact ⟨by rw [hl.out]; rfl, Bel.refl _⟩
theorem lenM_bd (y m : Int) : 28 ≤ lenM y m ∧ lenM y m ≤ 31 := by
  unfold lenM
  repeat' split
  all_goals omega
theorem length_any (y m : Int) (w : World) : Calls Tryz.prog 128 #[.int .i64 y, .int .i64 m] w fun e w' => e = .returned (.int .i64 (lenM y m)) ∧ Bel w w' := by
  by_cases h2 : m = 2
  · subst h2
    have hl : Hid (lenM y 2 = if leapB y = true then 29 else 28) := by simp [Hid, lenM]
    cases hb : leapB y with
    | true =>
      go_enter Tryz.func128, Tryz.ntmps128
      go_wp2_with (go_at_call 147; refine (leap_any y _).mono ?_; rintro e w1 ⟨rfl, hb1⟩)
      go_ret
      exact ⟨by rw [hl.out, hb]; rfl, hb1⟩
    | false =>
      go_enter Tryz.func128, Tryz.ntmps128
      go_wp2_with (go_at_call 147; refine (leap_any y _).mono ?_; rintro e w1 ⟨rfl, hb1⟩)
      go_ret
      exact ⟨by rw [hl.out, hb]; rfl, hb1⟩
  · by_cases h3 : m = 4 ∨ m = 6 ∨ m = 9 ∨ m = 11
    · have hl : Hid (lenM y m = 30) := by simp [Hid, lenM, h2, h3]
      rcases h3 with rfl | rfl | rfl | rfl
      all_goals
        go_enter Tryz.func128, Tryz.ntmps128
        go_wp2
        go_ret
        exact ⟨by rw [hl.out]; rfl, Bel.refl _⟩
    · have hl : Hid (lenM y m = 31) := by simp [Hid, lenM, h2, h3]
      have g4 : m ≠ 4 := fun e => h3 (.inl e)
      have g6 : m ≠ 6 := fun e => h3 (.inr (.inl e))
      have g9 : m ≠ 9 := fun e => h3 (.inr (.inr (.inl e)))
      have g11 : m ≠ 11 := fun e => h3 (.inr (.inr (.inr e)))
      clear h3
      go_enter Tryz.func128, Tryz.ntmps128
      go_wp2
      go_ret
      exact ⟨by rw [hl.out]; rfl, Bel.refl _⟩
theorem bef_bd (y : Int) (h1 : 1 ≤ y) (h2 : y ≤ 10000) : 0 ≤ bef y ∧ bef y ≤ 3652059 := by unfold bef; omega
theorem before_any (y : Int) (h1 : 1 ≤ y) (h2 : y ≤ 10000) (w : World) : Calls Tryz.prog 127 #[.int .i64 y] w fun e w' => e = .returned (.int .i64 (bef y)) ∧ Bel w w' := by
  have hl : Hid (bef y = 365 * (y - 1) + (y - 1) / 4 - (y - 1) / 100 + (y - 1) / 400) := rfl
  go_enter Tryz.func127, Tryz.ntmps127
  go_wp2
  go_ret
  exact ⟨by rw [hl.out]; rfl, Bel.refl _⟩
/-- A block of the call's own that holds three numbers. -/
abbrev Arr3 (w : World) (b : Nat) (x y z : Int) : Prop :=
  b < w.heap.size ∧ w.cell? ⟨b, 0, none⟩ = some (.int .i64 x) ∧ w.cell? ⟨b, 1, none⟩ = some (.int .i64 y) ∧ w.cell? ⟨b, 2, none⟩ = some (.int .i64 z)
theorem Arr3.keep {w w' : World} {b : Nat} {x y z : Int} (h : Arr3 w b x y z) (hb : Bel w w') : Arr3 w' b x y z := by
  obtain ⟨h0, h1, h2, h3⟩ := h
  exact ⟨Nat.lt_of_lt_of_le h0 hb.size, (hb.cells _ _ h0).trans h1, (hb.cells _ _ h0).trans h2, (hb.cells _ _ h0).trans h3⟩
theorem arr3_new (w : World) (x y z : Int) : Arr3 (w.alloc (.cells #[.int .i64 x, .int .i64 y, .int .i64 z] 110)) w.heap.size x y z := by
  simp [Arr3, go_sem]
def SoundD (a b c : Int) : Prop := 1 ≤ a ∧ a ≤ 9999 ∧ 1 ≤ b ∧ b ≤ 12 ∧ 1 ≤ c ∧ c ≤ lenM a b
instance (a b c : Int) : Decidable (SoundD a b c) := inferInstanceAs (Decidable (_ ∧ _))
def soundB (a b c : Int) : Bool := decide (SoundD a b c)
theorem sound_any_Y (a b c : Int) (w : World) : Calls Tryz.prog 116 #[.agg #[.int .i64 a, .int .i64 b, .int .i64 c]] w fun e w' => e = .returned (.bool (soundB a b c)) ∧ Bel w w' := by
  by_cases h : 1 ≤ a ∧ a ≤ 9999 ∧ 1 ≤ b ∧ b ≤ 12
  · obtain ⟨h1, h2, h3, h4⟩ := h
    have hl : Hid (soundB a b c = decide (1 ≤ c ∧ c ≤ lenM a b)) := by simp [Hid, soundB, SoundD, h1, h2, h3, h4]
    go_enter Tryz.func116, Tryz.ntmps116
    go_wp2_with fail
    refine under_name ((Bel.refl w).alloc _) fun W hc hf hz hb => ?_
    have hw : Arr3 W w.heap.size a b c := by simp [Arr3, hz, hc, go_sem]
    clear hc hf hz
    by_cases h5 : 1 ≤ c
    · have h5' : decide (1 ≤ c) = true := by simpa using h5
      refine wp_region_uni (S := (fun w' => Bel W w' ∧ (∀ b o, b < W.heap.size → w'.cell? ⟨b, o, none⟩ = W.cell? ⟨b, o, none⟩))) (by kernel_rfl) (by kernel_rfl) keep0 ?_
      repeat (first | (refine wpUni_skip (by rfl) ?_; (try simp only [Act.put, List.setIfInBounds_toArray, List.set_cons_zero, List.set_cons_succ]))
                                                            | (refine wpUni_value (by rfl) (fun w hS => by (try dsimp only at hS); go_simp; first | done | with_reducible rfl) ?_; (try simp only [Act.put, List.setIfInBounds_toArray, List.set_cons_zero, List.set_cons_succ]))
                                                            | (refine wpUni_call (f := 128) (by rfl) (fun w => by go_simp; first | done | with_reducible rfl) (fun w hS => (length_any a b w).mono fun e w' ⟨he, hb⟩ => ⟨he, keep1 hS hb⟩) ?_; (try simp only [Act.put, List.setIfInBounds_toArray, List.set_cons_zero, List.set_cons_succ])))
      refine wpUni_nil fun W1 hS => ?_
      have hb1 := hb.trans hS.1
      clear hS
      go_wp2
      go_ret
      exact ⟨by rw [hl.out]; simp [h5], hb1⟩
    · have h5' : decide (1 ≤ c) = false := by simpa using h5
      refine wp_region_uni (S := (fun w' => Bel W w' ∧ (∀ b o, b < W.heap.size → w'.cell? ⟨b, o, none⟩ = W.cell? ⟨b, o, none⟩))) (by kernel_rfl) (by kernel_rfl) keep0 ?_
      repeat (first | (refine wpUni_skip (by rfl) ?_; (try simp only [Act.put, List.setIfInBounds_toArray, List.set_cons_zero, List.set_cons_succ]))
                                                            | (refine wpUni_value (by rfl) (fun w hS => by (try dsimp only at hS); go_simp; first | done | with_reducible rfl) ?_; (try simp only [Act.put, List.setIfInBounds_toArray, List.set_cons_zero, List.set_cons_succ]))
                                                            | (refine wpUni_call (f := 128) (by rfl) (fun w => by go_simp; first | done | with_reducible rfl) (fun w hS => (length_any a b w).mono fun e w' ⟨he, hb⟩ => ⟨he, keep1 hS hb⟩) ?_; (try simp only [Act.put, List.setIfInBounds_toArray, List.set_cons_zero, List.set_cons_succ])))
      refine wpUni_nil fun W1 hS => ?_
      have hb1 := hb.trans hS.1
      clear hS
      go_wp2
      go_ret
      exact ⟨by rw [hl.out, decide_eq_false (p := 1 ≤ c ∧ c ≤ lenM a b) (fun hh => absurd hh.1 (by omega))]; rfl, hb1⟩
  · have hl : Hid (soundB a b c = false) := by
      unfold Hid soundB SoundD
      exact decide_eq_false fun h' => h ⟨h'.1, h'.2.1, h'.2.2.1, h'.2.2.2.1⟩
    by_cases h1 : 1 ≤ a
    · by_cases h2 : a ≤ 9999
      · by_cases h3 : 1 ≤ b
        · have h4 : ¬ b ≤ 12 := fun h4 => h ⟨h1, h2, h3, h4⟩
          clear h
          have k1 : decide (a < 1) = false := by simp; omega
          have k2 : decide (9999 < a) = false := by simp; omega
          have k3 : decide (b < 1) = false := by simp; omega
          have k4 : decide (12 < b) = true := by simp; omega
          go_enter Tryz.func116, Tryz.ntmps116
          go_wp2
          go_ret
          exact ⟨by rw [hl.out]; rfl, (Bel.refl w).alloc _⟩
        · clear h
          have k1 : decide (a < 1) = false := by simp; omega
          have k2 : decide (9999 < a) = false := by simp; omega
          have k3 : decide (b < 1) = true := by simp; omega
          go_enter Tryz.func116, Tryz.ntmps116
          go_wp2
          go_ret
          exact ⟨by rw [hl.out]; rfl, (Bel.refl w).alloc _⟩
      · clear h
        have k1 : decide (a < 1) = false := by simp; omega
        have k2 : decide (9999 < a) = true := by simp; omega
        go_enter Tryz.func116, Tryz.ntmps116
        go_wp2
        go_ret
        exact ⟨by rw [hl.out]; rfl, (Bel.refl w).alloc _⟩
    · clear h
      have k1 : decide (a < 1) = true := by simp; omega
      go_enter Tryz.func116, Tryz.ntmps116
      go_wp2
      go_ret
      exact ⟨by rw [hl.out]; rfl, (Bel.refl w).alloc _⟩
def feb (y : Int) : Int := if leapB y = true then 29 else 28
theorem feb_bd (y : Int) : 28 ≤ feb y ∧ feb y ≤ 29 := by unfold feb; split <;> omega
/-- The days before a month of its year. -/
def cumM (y m : Int) : Int :=
  if m ≤ 1 then 0 else if m = 2 then 31 else if m = 3 then 31 + feb y else if m = 4 then 62 + feb y else if m = 5 then 92 + feb y else if m = 6 then 123 + feb y
  else if m = 7 then 153 + feb y else if m = 8 then 184 + feb y else if m = 9 then 215 + feb y else if m = 10 then 245 + feb y else if m = 11 then 276 + feb y else 306 + feb y
theorem lenM_feb (y m : Int) : lenM y m = if m = 2 then feb y else if m = 4 ∨ m = 6 ∨ m = 9 ∨ m = 11 then 30 else 31 := rfl
theorem twelve (m : Int) (h1 : 1 ≤ m) (h2 : m ≤ 12) : m = 1 ∨ m = 2 ∨ m = 3 ∨ m = 4 ∨ m = 5 ∨ m = 6 ∨ m = 7 ∨ m = 8 ∨ m = 9 ∨ m = 10 ∨ m = 11 ∨ m = 12 := by omega
theorem cum_step (y m : Int) (h1 : 1 ≤ m) (h2 : m ≤ 11) : cumM y (m + 1) = cumM y m + lenM y m := by
  rw [lenM_feb]
  rcases twelve m h1 (by omega) with rfl | rfl | rfl | rfl | rfl | rfl | rfl | rfl | rfl | rfl | rfl | rfl <;> simp [cumM] <;> omega
theorem cum_bd (y m : Int) (h2 : m ≤ 12) : 0 ≤ cumM y m ∧ cumM y m ≤ 335 := by
  have := feb_bd y
  by_cases h1 : 1 ≤ m
  · rcases twelve m h1 h2 with rfl | rfl | rfl | rfl | rfl | rfl | rfl | rfl | rfl | rfl | rfl | rfl <;> simp [cumM] <;> omega
  · simp [cumM, show m ≤ 1 by omega]
theorem cum_first (y : Int) : cumM y 1 = 0 := by simp [cumM]
theorem leap_iff (y : Int) : leapB y = true ↔ (y % 4 = 0 ∧ (y % 100 ≠ 0 ∨ y % 400 = 0)) := by simp [leapB]
theorem bef_step (y : Int) : bef (y + 1) = bef y + 337 + feb y := by
  unfold feb bef
  by_cases h : leapB y = true
  · rw [if_pos h]; rw [leap_iff] at h; omega
  · rw [if_neg h]; rw [leap_iff] at h; omega
theorem cum_last (y : Int) : cumM y 12 + lenM y 12 = 337 + feb y := by simp [cumM, lenM_feb]; omega
def numD (a b c : Int) : Int := bef a + cumM a b + c - 1
set_option maxHeartbeats 800000 in
theorem number_any (a b c : Int) (h : SoundD a b c) (w : World) : Calls Tryz.prog 117 #[.agg #[.int .i64 a, .int .i64 b, .int .i64 c]] w fun e w' => e = .returned (.int .i64 (numD a b c)) ∧ Bel w w' := by
  obtain ⟨h1, h2, h3, h4, h5, h6⟩ := h
  have h7 := lenM_bd a b
  have hb0 := bef_bd a h1 (by omega)
  have hl : Hid (numD a b c = bef a + cumM a b + c - 1) := rfl
  go_enter Tryz.func117, Tryz.ntmps117
  go_wp2_with (go_at_call 127; refine (before_any a h1 (by omega) _).mono ?_; rintro e W1 ⟨rfl, hb1⟩)
  have hw1 := (arr3_new w a b c).keep hb1
  replace hb1 := ((Bel.refl w).alloc _).trans hb1
  go_loopg [3, 4] 12 (fun g n i wr => ∃ k : Int, 1 ≤ k ∧ k ≤ b ∧ i = .int .i64 k ∧ n = .int .i64 (bef a + cumM a k) ∧ Bel W1 wr ∧ (g : Int) = 13 - k)
  case atStart => exact ⟨1, by omega, by omega, rfl, by rw [cum_first]; go_num, Bel.refl _, by omega⟩
  case round =>
    obtain ⟨k, hk1, hk2, rfl, rfl, hbr, hg⟩ := hrel
    have hwr := hw1.keep hbr
    have hcb := cum_bd a k (by omega)
    have hlb := lenM_bd a k
    by_cases hlt : k < b
    · have hs := Lib.hid (cum_step a k hk1 (by omega))
      go_wp2_with (go_at_call 128; refine (length_any a k _).mono ?_; rintro e W2 ⟨rfl, hb2⟩)
      go_roundg (gk - 1)
      case measure => omega
      case rel => exact ⟨k + 1, by omega, by omega, rfl, by rw [hs.out]; go_num, hbr.trans hb2, by omega⟩
    · obtain rfl : k = b := by omega
      go_wp2
      go_ret
      exact ⟨by rw [hl.out]; go_num, hb1.trans hbr⟩
theorem soundB_t {a b c : Int} (h : SoundD a b c) : soundB a b c = true := decide_eq_true h
theorem soundB_f {a b c : Int} (h : ¬ SoundD a b c) : soundB a b c = false := decide_eq_false h
/-- The day of a date, or none. -/
def dayV (a b c : Int) : Value := if SoundD a b c then .tuple #[.int .i64 (numD a b c), .int .i64 0] else .tuple #[.int .i64 0, .int .i64 3]
theorem day_any (a b c : Int) (w : World) : Calls Tryz.prog 89 #[.int .i64 a, .int .i64 b, .int .i64 c] w fun e w' => e = .returned (dayV a b c) ∧ Bel w w' := by
  by_cases h : SoundD a b c
  · rw [show dayV a b c = .tuple #[.int .i64 (numD a b c), .int .i64 0] from if_pos h]
    have hs := soundB_t h
    have H := Lib.hid h
    clear h
    go_enter Tryz.func89, Tryz.ntmps89
    go_wp2_with (first
      | (go_at_call 116; refine (sound_any_Y a b c _).mono ?_; rintro e W1 ⟨rfl, hb1⟩
         have hw1 := (arr3_new w a b c).keep hb1; replace hb1 := ((Bel.refl w).alloc _).trans hb1)
      | (go_at_call 117; refine (number_any a b c H.out _).mono ?_; rintro e W2 ⟨rfl, hb2⟩))
    go_ret2
    exact ⟨rfl, hb1.trans hb2⟩
  · rw [show dayV a b c = .tuple #[.int .i64 0, .int .i64 3] from if_neg h]
    have hs := soundB_f h
    clear h
    go_enter Tryz.func89, Tryz.ntmps89
    go_wp2_with (go_at_call 116; refine (sound_any_Y a b c _).mono ?_; rintro e W1 ⟨rfl, hb1⟩
                 replace hb1 := ((Bel.refl w).alloc _).trans hb1)
    go_ret2
    exact ⟨rfl, hb1⟩
abbrev Free3 (w : World) (b : Nat) : Prop := w.frozen? ⟨b, 0, none⟩ = false ∧ w.frozen? ⟨b, 1, none⟩ = false ∧ w.frozen? ⟨b, 2, none⟩ = false
theorem Free3.keep {w w' : World} {b : Nat} (h : Free3 w b) (hb : Bel w w') (hlt : b < w.heap.size) : Free3 w' b := by
  simp only [Free3, hb.frozens _ _ hlt]
  exact h
/-- A block of the call's own, free for a store. -/
abbrev Sl3 (w : World) (b : Nat) (x y z : Int) : Prop := Arr3 w b x y z ∧ Free3 w b
theorem Sl3.keep {w w' : World} {b : Nat} {x y z : Int} (h : Sl3 w b x y z) (hb : Bel w w') : Sl3 w' b x y z := ⟨h.1.keep hb, h.2.keep hb h.1.1⟩
set_option maxHeartbeats 2000000 in
theorem dateOf_any (n : Int) (h1 : 0 ≤ n) (h2 : n ≤ 3652058) (w : World) : Calls Tryz.prog 101 #[.int .i64 n] w fun e w' =>
    (∃ a b c, SoundD a b c ∧ numD a b c = n ∧ e = .returned (.agg #[.int .i64 a, .int .i64 b, .int .i64 c])) ∧ Bel w w' := by
  go_enter Tryz.func101, Tryz.ntmps101
  go_wp2_with fail
  refine under_name (((Bel.refl w).alloc _).alloc _) fun W hc hf hz hb => ?_
  have hw : Sl3 W w.heap.size 0 0 0 := by simp [Sl3, Arr3, Free3, hz, hc, hf, go_sem]
  have hv : Sl3 W (w.heap.size + 1) (n / 366 + 1) 1 1 := by simp [Sl3, Arr3, Free3, hz, hc, hf, go_sem]
  clear hc hf hz
  have q0 : bef (n / 366 + 1) ≤ n := by unfold bef; omega
  go_loopg [] (10000 - (n / 366 + 1)).toNat (fun g wr => ∃ y : Int, 1 ≤ y ∧ y ≤ 9999 ∧ bef y ≤ n ∧ Bel w wr ∧ Sl3 wr w.heap.size 0 0 0 ∧ Sl3 wr (w.heap.size + 1) y 1 1 ∧ (g : Int) = 10000 - y)
  case atStart => exact ⟨n / 366 + 1, by omega, by omega, q0, hb, hw, hv, by omega⟩
  case round =>
    clear hw hv hb q0
    obtain ⟨y, hy1, hy2, hyn, hb, hA, hB, hg⟩ := hrel
    by_cases hlt : bef (y + 1) ≤ n
    · have hy3 : y ≤ 9998 := by
        by_cases hh : y = 9999
        · subst hh; simp [bef] at hlt; omega
        · omega
      go_wp2_with (go_at_call 127; refine (before_any (y + 1) (by omega) (by omega) _).mono ?_; rintro e W2 ⟨rfl, hb2⟩
                   replace hA := hA.keep hb2; replace hB := hB.keep hb2; replace hb := hb.trans hb2; clear hb2)
      go_roundg (gk - 1)
      case measure => omega
      case rel => exact ⟨y + 1, by omega, by omega, hlt, hb.setCell (by simp) _, by simp [Sl3, Arr3, Free3, go_sem, hA], by simp [Sl3, Arr3, Free3, go_sem, hB], by omega⟩
    · have hy3 : n < bef (y + 1) := by omega
      have hbb := bef_bd y hy1 (by omega)
      go_wp2_with (go_at_call 127; refine (before_any _ (by omega) (by omega) _).mono ?_; rintro e W2 ⟨rfl, hb2⟩
                   replace hA := hA.keep hb2; replace hB := hB.keep hb2; replace hb := hb.trans hb2; clear hb2)
      have hl := Lib.hid (cum_last y)
      have hst := Lib.hid (bef_step y)
      go_loopg [0] 12 (fun g r wr' => ∃ m : Int, 1 ≤ m ∧ m ≤ 12 ∧ r = .int .i64 (n - bef y - cumM y m) ∧ 0 ≤ n - bef y - cumM y m ∧ Bel w wr' ∧ Sl3 wr' w.heap.size 0 0 0 ∧ Sl3 wr' (w.heap.size + 1) y m 1 ∧ (g : Int) = 13 - m)
      case atStart => exact ⟨1, by omega, by omega, by rw [cum_first]; go_num, by rw [cum_first]; omega, hb, hA, hB, by omega⟩
      case round =>
        clear hb hA hB
        obtain ⟨m, hm1, hm2, rfl, hm3, hb, hA, hB, hg⟩ := hrel
        have hm4 := cum_bd y m hm2
        have hm5 := lenM_bd y m
        by_cases hge : lenM y m ≤ n - bef y - cumM y m
        · have hm6 : m ≤ 11 := by
            by_cases hh : m = 12
            · subst hh; have h1 := hl.out; have h2 := hst.out; omega
            · omega
          have hcs := Lib.hid (cum_step y m hm1 hm6)
          go_wp2_with (go_at_call 128; refine (length_any _ _ _).mono ?_; rintro e W2 ⟨rfl, hb2⟩
                       replace hA := hA.keep hb2; replace hB := hB.keep hb2; replace hb := hb.trans hb2; clear hb2)
          go_roundg (gk - 1)
          case measure => omega
          case rel => exact ⟨m + 1, by omega, by omega, by rw [hcs.out]; go_num, by rw [hcs.out]; omega, hb.setCell (by simp) _, by simp [Sl3, Arr3, Free3, go_sem, hA], by simp [Sl3, Arr3, Free3, go_sem, hB], by omega⟩
        · have hS : SoundD y m (n - bef y - cumM y m + 1) := ⟨hy1, hy2, hm1, hm2, by omega, by omega⟩
          have hN : numD y m (n - bef y - cumM y m + 1) = n := by unfold numD; omega
          have HS := Lib.hid hS
          have HN := Lib.hid hN
          clear hS hN
          go_wp2_with (go_at_call 128; refine (length_any _ _ _).mono ?_; rintro e W2 ⟨rfl, hb2⟩
                       replace hA := hA.keep hb2; replace hB := hB.keep hb2; replace hb := hb.trans hb2; clear hb2)
          refine bodyPost_ret (by simp [results, Tryz.results101, go_sem, hA]; try rfl) rfl ⟨⟨y, m, n - bef y - cumM y m + 1, HS.out, HN.out, rfl⟩, ((((hb.setCell (by simp) _).setCell (by simp) _).setCell (by simp) _).setCell (by simp) _)⟩
theorem bef_mono (a b : Int) (h : a ≤ b) : bef a ≤ bef b := by unfold bef; omega
theorem cum_mono (y : Int) (n : Nat) (a : Int) (h1 : 1 ≤ a) (h2 : a + n ≤ 12) : cumM y a ≤ cumM y (a + n) := by
  induction n with
  | zero => simp
  | succ k ih =>
    have := cum_step y (a + k) (by omega) (by omega)
    have hl := lenM_bd y (a + k)
    have := ih (by omega)
    rw [show a + ((k + 1 : Nat) : Int) = a + k + 1 by omega]
    omega
theorem cum_mono' (y a b : Int) (h1 : 1 ≤ a) (h : a ≤ b) (h2 : b ≤ 12) : cumM y a ≤ cumM y b := by
  have := cum_mono y (b - a).toNat a h1 (by omega)
  rwa [show a + ((b - a).toNat : Int) = b by omega] at this
theorem num_in (a b c : Int) (h : SoundD a b c) : bef a + cumM a b ≤ numD a b c ∧ numD a b c < bef a + cumM a b + lenM a b ∧ bef a ≤ numD a b c ∧ numD a b c < bef (a + 1) := by
  obtain ⟨h1, h2, h3, h4, h5, h6⟩ := h
  have := cum_bd a b h4
  have hs := bef_step a
  have hl := cum_last a
  refine ⟨by unfold numD; omega, by unfold numD; omega, by unfold numD; omega, ?_⟩
  rw [hs]
  unfold numD
  by_cases hb : b = 12
  · subst hb; omega
  · have := cum_step a b h3 (by omega)
    have := cum_mono' a (b + 1) 12 (by omega) (by omega) (by omega)
    have := lenM_bd a 12
    omega
theorem num_lt (a b c a' b' c' : Int) (h : SoundD a b c) (h' : SoundD a' b' c') (hl : a < a' ∨ (a = a' ∧ (b < b' ∨ (b = b' ∧ c < c')))) : numD a b c < numD a' b' c' := by
  have k := num_in a b c h
  have k' := num_in a' b' c' h'
  rcases hl with hl | ⟨rfl, hl | ⟨rfl, hl⟩⟩
  · have := bef_mono (a + 1) a' (by omega); omega
  · have := cum_step a b h.2.2.1 (by have := h'.2.2.2.1; omega)
    have := cum_mono' a (b + 1) b' (by have := h.2.2.1; omega) (by omega) h'.2.2.2.1
    omega
  · unfold numD; omega
theorem num_inj (a b c a' b' c' : Int) (h : SoundD a b c) (h' : SoundD a' b' c') (e : numD a b c = numD a' b' c') : a = a' ∧ b = b' ∧ c = c' := by
  have k1 := num_lt a b c a' b' c' h h'
  have k2 := num_lt a' b' c' a b c h' h
  by_cases x : a = a'
  · by_cases y : b = b'
    · by_cases z : c = c'
      · exact ⟨x, y, z⟩
      · exfalso
        rcases Int.lt_or_gt_of_ne z with z | z
        · have := k1 (.inr ⟨x, .inr ⟨y, z⟩⟩); omega
        · have := k2 (.inr ⟨x.symm, .inr ⟨y.symm, z⟩⟩); omega
    · exfalso
      rcases Int.lt_or_gt_of_ne y with y | y
      · have := k1 (.inr ⟨x, .inl y⟩); omega
      · have := k2 (.inr ⟨x.symm, .inl y⟩); omega
  · exfalso
    rcases Int.lt_or_gt_of_ne x with x | x
    · have := k1 (.inl x); omega
    · have := k2 (.inl x); omega
/-- The next date. -/
theorem num_next (a b c : Int) (h : SoundD a b c) (hn : numD a b c < 3652058) : ∃ a' b' c', SoundD a' b' c' ∧ numD a' b' c' = numD a b c + 1 ∧
    ((a' = a ∧ b' = b ∧ c' = c + 1) ∨ (a' = a ∧ b' = b + 1 ∧ c' = 1 ∧ 28 ≤ c) ∨ (a' = a + 1 ∧ b' = 1 ∧ c' = 1 ∧ b = 12 ∧ c = 31)) := by
  obtain ⟨h1, h2, h3, h4, h5, h6⟩ := h
  by_cases hc : c < lenM a b
  · exact ⟨a, b, c + 1, ⟨h1, h2, h3, h4, by omega, by omega⟩, by unfold numD; omega, .inl ⟨rfl, rfl, rfl⟩⟩
  · have hl := lenM_bd a b
    by_cases hb : b < 12
    · have := cum_step a b h3 (by omega)
      have hl' := lenM_bd a (b + 1)
      exact ⟨a, b + 1, 1, ⟨h1, h2, by omega, by omega, by omega, by omega⟩, by unfold numD; omega, .inr (.inl ⟨rfl, rfl, rfl, by omega⟩)⟩
    · obtain rfl : b = 12 := by omega
      have hs := bef_step a
      have hl2 := cum_last a
      have hl' := lenM_bd (a + 1) 1
      have h12 : lenM a 12 = 31 := by simp [lenM]
      have hf := cum_first (a + 1)
      have ha : a ≤ 9998 := by
        by_cases hh : a = 9999
        · subst hh
          have : bef 9999 = 3651694 := by decide
          unfold numD at hn
          have : feb 9999 = 28 := by decide
          omega
        · omega
      exact ⟨a + 1, 1, 1, ⟨by omega, by omega, by omega, by omega, by omega, by omega⟩, by unfold numD; omega, .inr (.inr ⟨rfl, rfl, rfl, rfl, by omega⟩)⟩
theorem num_hit (n : Nat) (h : n ≤ 3652058) : ∃ a b c, SoundD a b c ∧ numD a b c = n := by
  induction n with
  | zero => exact ⟨1, 1, 1, by decide, by decide⟩
  | succ k ih =>
    obtain ⟨a, b, c, hs, hn⟩ := ih (by omega)
    obtain ⟨a', b', c', hs', hn', -⟩ := num_next a b c hs (by omega)
    exact ⟨a', b', c', hs', by omega⟩
theorem num_top (a b c : Int) (h : SoundD a b c) : 0 ≤ numD a b c ∧ numD a b c ≤ 3652058 := by
  have k := num_in a b c h
  have := bef_mono (a + 1) 10000 (by have := h.2.1; omega)
  have : bef 10000 = 3652059 := by decide
  have := bef_bd a h.1 (by have := h.2.1; omega)
  omega
open Classical in
/-- The date of a day. -/
noncomputable def theDate (n : Int) : Int × Int × Int := if h : ∃ p : Int × Int × Int, SoundD p.1 p.2.1 p.2.2 ∧ numD p.1 p.2.1 p.2.2 = n then Classical.choose h else (0, 0, 0)
noncomputable def dY (n : Int) : Int := (theDate n).1
noncomputable def dM (n : Int) : Int := (theDate n).2.1
noncomputable def dD (n : Int) : Int := (theDate n).2.2
theorem date_spec (n : Int) (h1 : 0 ≤ n) (h2 : n ≤ 3652058) : SoundD (dY n) (dM n) (dD n) ∧ numD (dY n) (dM n) (dD n) = n := by
  obtain ⟨a, b, c, hs, hn⟩ := num_hit n.toNat (by omega)
  have h : ∃ p : Int × Int × Int, SoundD p.1 p.2.1 p.2.2 ∧ numD p.1 p.2.1 p.2.2 = n := ⟨(a, b, c), hs, by simp only; omega⟩
  unfold dY dM dD theDate
  rw [dif_pos h]
  exact Classical.choose_spec h
theorem date_is {n a b c : Int} (hs : SoundD a b c) (hn : numD a b c = n) : a = dY n ∧ b = dM n ∧ c = dD n := by
  have ht := num_top a b c hs
  obtain ⟨h, e⟩ := date_spec n (by omega) (by omega)
  exact num_inj _ _ _ _ _ _ hs h (by omega)
theorem dateOf_t (n : Int) (h1 : 0 ≤ n) (h2 : n ≤ 3652058) (w : World) : Calls Tryz.prog 101 #[.int .i64 n] w fun e w' =>
    e = .returned (.agg #[.int .i64 (dY n), .int .i64 (dM n), .int .i64 (dD n)]) ∧ Bel w w' :=
  (dateOf_any n h1 h2 w).mono fun e w' ⟨⟨a, b, c, hs, hn, he⟩, hb⟩ => by
    obtain ⟨rfl, rfl, rfl⟩ := date_is hs hn
    exact ⟨he, hb⟩
noncomputable def dateV (n : Int) : Value := if 0 ≤ n ∧ n ≤ 3652058 then .tuple #[.int .i64 (dY n), .int .i64 (dM n), .int .i64 (dD n), .int .i64 0] else .tuple #[.int .i64 0, .int .i64 0, .int .i64 0, .int .i64 3]
theorem rleap_any (y : Int) (w : World) : Calls Tryz.prog 119 #[.int .i64 y] w fun e w' => e = .returned (.bool (leapB y)) ∧ Bel w w' := by
  by_cases h400 : y % 400 = 0
  · have e400 : (y.tmod 400 == 0) = true := by simp [tmod0, h400]
    have hl : Hid (leapB y = true) := by unfold Hid; rw [leap_iff]; omega
    clear h400
    go_enter Tryz.func119, Tryz.ntmps119
    go_wp2
    go_ret
    exact ⟨by rw [hl.out]; rfl, Bel.refl _⟩
  · have e400 : (y.tmod 400 == 0) = false := by simp [tmod0, h400]
    by_cases h4 : y % 4 = 0
    · have e4 : (y.tmod 4 == 0) = true := by simp [tmod0, h4]
      by_cases h100 : y % 100 = 0
      · have e100 : (y.tmod 100 != 0) = false := by simp [tmod0, h100]
        have hl : Hid (leapB y = false) := by simp [Hid, leapB, h4, h100, h400]
        clear h400 h4 h100
        go_enter Tryz.func119, Tryz.ntmps119
        go_wp2
        go_ret
        exact ⟨by rw [hl.out]; rfl, Bel.refl _⟩
      · have e100 : (y.tmod 100 != 0) = true := by simp [tmod0, h100]
        have hl : Hid (leapB y = true) := by simp [Hid, leapB, h4, h100]
        clear h400 h4 h100
        go_enter Tryz.func119, Tryz.ntmps119
        go_wp2
        go_ret
        exact ⟨by rw [hl.out]; rfl, Bel.refl _⟩
    · have e4 : (y.tmod 4 == 0) = false := by simp [tmod0, h4]
      have hl : Hid (leapB y = false) := by simp [Hid, leapB, h4]
      clear h400 h4
      go_enter Tryz.func119, Tryz.ntmps119
      go_wp2
      go_ret
      exact ⟨by rw [hl.out]; rfl, Bel.refl _⟩
theorem ryears_any (y : Int) (w : World) : Calls Tryz.prog 94 #[.int .i64 y] w fun e w' => e = .returned (.int .i64 (337 + feb y)) ∧ Bel w w' := by
  have hl : Hid (feb y = if leapB y = true then 29 else 28) := rfl
  cases hb : leapB y
  all_goals
    go_enter Tryz.func94, Tryz.ntmps94
    go_wp2_with (go_at_call 119; refine (rleap_any y _).mono ?_; rintro e w1 ⟨rfl, hb1⟩)
    go_ret
    exact ⟨by rw [hl.out, hb]; rfl, hb1⟩
theorem lt_alloc (w : World) (o : Obj) : w.heap.size < (w.alloc o).heap.size := by simp
theorem arr12_new (w : World) (t : TypeId) : (w.alloc (.cells #[.int .i64 31, .int .i64 28, .int .i64 31, .int .i64 30, .int .i64 31, .int .i64 30, .int .i64 31, .int .i64 31, .int .i64 30, .int .i64 31, .int .i64 30, .int .i64 31] t)).cell? ⟨w.heap.size, 1, none⟩ = some (.int .i64 28) := by simp [go_sem]
theorem arr12_keep {w w1 : World} {t : TypeId} (hb : Bel (w.alloc (.cells #[.int .i64 31, .int .i64 28, .int .i64 31, .int .i64 30, .int .i64 31, .int .i64 30, .int .i64 31, .int .i64 31, .int .i64 30, .int .i64 31, .int .i64 30, .int .i64 31] t)) w1) : w1.cell? ⟨w.heap.size, 1, none⟩ = some (.int .i64 28) :=
  (hb.cells _ _ (lt_alloc _ _)).trans (arr12_new w t)
set_option maxHeartbeats 4000000 in
theorem rlength_any (y m : Int) (h1 : 1 ≤ m) (h2 : m ≤ 12) (w : World) : Calls Tryz.prog 93 #[.int .i64 y, .int .i64 m] w fun e w' => e = .returned (.int .i64 (lenM y m)) ∧ Bel w w' := by
  rcases twelve m h1 h2 with rfl | rfl | rfl | rfl | rfl | rfl | rfl | rfl | rfl | rfl | rfl | rfl
  case inr.inl =>
    have hl : Hid (lenM y 2 = if leapB y = true then 29 else 28) := by simp [Hid, lenM]
    clear h1 h2
    cases hb : leapB y
    all_goals
      go_enter Tryz.func93, Tryz.ntmps93
      go_wp2_with (go_at_call 119; refine (rleap_any y _).mono ?_; rintro e w1 ⟨rfl, hb1⟩;  have hc28 := arr12_keep hb1; replace hb1 := ((Bel.refl w).alloc _).trans hb1)
      go_ret
      exact ⟨by rw [hl.out, hb]; rfl, hb1⟩
  all_goals
    clear h1 h2
    go_enter Tryz.func93, Tryz.ntmps93
    go_wp2
    go_ret
    exact ⟨by simp [lenM] <;> rfl, (Bel.refl w).alloc _⟩
theorem feb_fun (y : Int) : bef (y + 1) = bef y + (337 + feb y) := by rw [bef_step]; omega
theorem bef_one : bef 1 = 0 := by decide
set_option maxHeartbeats 4000000 in
theorem rday_any (a b c : Int) (w : World) : Calls Tryz.prog 67 #[.int .i64 a, .int .i64 b, .int .i64 c] w fun e w' => e = .returned (dayV a b c) ∧ Bel w w' := by
  by_cases h : 1 ≤ a ∧ a ≤ 9999 ∧ 1 ≤ b ∧ b ≤ 12 ∧ 1 ≤ c
  · obtain ⟨h1, h2, h3, h4, h5⟩ := h
    have k1 : decide (a < 1) = false := by simp; omega
    have k2 : decide (9999 < a) = false := by simp; omega
    have k3 : decide (b < 1) = false := by simp; omega
    have k4 : decide (12 < b) = false := by simp; omega
    have k5 : decide (c < 1) = false := by simp; omega
    by_cases h6 : c ≤ lenM a b
    · rw [show dayV a b c = .tuple #[.int .i64 (numD a b c), .int .i64 0] from if_pos ⟨h1, h2, h3, h4, h5, h6⟩]
      have k6 : decide (lenM a b < c) = false := by simp; omega
      have hl : Hid (numD a b c = bef a + cumM a b + c - 1) := rfl
      have h7 := lenM_bd a b
      go_enter Tryz.func67, Tryz.ntmps67
      go_wp2_with (go_at_call 93; refine (rlength_any _ _ h3 h4 _).mono ?_; rintro e w1 ⟨rfl, hb1⟩)
      go_loopg [8, 9] 10000 (fun g n i wr => ∃ k : Int, 1 ≤ k ∧ k ≤ a ∧ i = .int .i64 k ∧ n = .int .i64 (bef k) ∧ Bel w wr ∧ (g : Int) = 10001 - k)
      case atStart => exact ⟨1, by omega, by omega, rfl, by rw [bef_one], hb1, by omega⟩
      case round =>
        clear hb1
        obtain ⟨k, hk1, hk2, rfl, rfl, hb, hg⟩ := hrel
        have hbb := bef_bd k hk1 (by omega)
        have hfb := feb_bd k
        by_cases hlt : k < a
        · have hs := Lib.hid (feb_fun k)
          go_wp2_with (go_at_call 94; refine (ryears_any _ _).mono ?_; rintro e w1 ⟨rfl, hb1⟩; replace hb := hb.trans hb1; clear hb1)
          go_roundg (gk - 1)
          case measure => omega
          case rel => exact ⟨k + 1, by omega, by omega, rfl, by rw [hs.out] <;> go_num, hb, by omega⟩
        · obtain rfl : k = a := by omega
          go_wp2_with fail
          go_loopg [8, 10] 12 (fun g n i wr => ∃ m : Int, 1 ≤ m ∧ m ≤ b ∧ i = .int .i64 m ∧ n = .int .i64 (bef k + cumM k m) ∧ Bel w wr ∧ (g : Int) = 13 - m)
          case atStart => exact ⟨1, by omega, by omega, rfl, by rw [cum_first]; go_num, hb, by omega⟩
          case round =>
            clear hb
            obtain ⟨m, hm1, hm2, rfl, rfl, hb, hg'⟩ := hrel
            have hcb := cum_bd k m (by omega)
            have hlb := lenM_bd k m
            by_cases hlt' : m < b
            · have hs := Lib.hid (cum_step k m hm1 (by omega))
              go_wp2_with (go_at_call 93; refine (rlength_any _ _ (by omega) (by omega) _).mono ?_; rintro e w1 ⟨rfl, hb1⟩; replace hb := hb.trans hb1; clear hb1)
              go_roundg (gk - 1)
              case measure => omega
              case rel => exact ⟨m + 1, by omega, by omega, rfl, by rw [hs.out] <;> go_num, hb, by omega⟩
            · obtain rfl : m = b := by omega
              go_wp2
              go_ret2
              exact ⟨by rw [hl.out]; go_num, hb⟩
    · rw [show dayV a b c = .tuple #[.int .i64 0, .int .i64 3] from if_neg fun hh => h6 hh.2.2.2.2.2]
      have k6 : decide (lenM a b < c) = true := by simp; omega
      clear h6
      go_enter Tryz.func67, Tryz.ntmps67
      go_wp2_with (go_at_call 93; refine (rlength_any _ _ h3 h4 _).mono ?_; rintro e w1 ⟨rfl, hb1⟩)
      go_ret2
      exact ⟨rfl, hb1⟩
  · rw [show dayV a b c = .tuple #[.int .i64 0, .int .i64 3] from if_neg fun hh => h ⟨hh.1, hh.2.1, hh.2.2.1, hh.2.2.2.1, hh.2.2.2.2.1⟩]
    by_cases h1 : 1 ≤ a
    · have k1 : decide (a < 1) = false := by simp; omega
      by_cases h2 : a ≤ 9999
      · have k2 : decide (9999 < a) = false := by simp; omega
        by_cases h3 : 1 ≤ b
        · have k3 : decide (b < 1) = false := by simp; omega
          by_cases h4 : b ≤ 12
          · have k4 : decide (12 < b) = false := by simp; omega
            have k5 : decide (c < 1) = true := by simp; omega
            clear h
            go_enter Tryz.func67, Tryz.ntmps67
            go_wp2
            go_ret2
            exact ⟨rfl, Bel.refl _⟩
          · have k4 : decide (12 < b) = true := by simp; omega
            clear h
            go_enter Tryz.func67, Tryz.ntmps67
            go_wp2
            go_ret2
            exact ⟨rfl, Bel.refl _⟩
        · have k3 : decide (b < 1) = true := by simp; omega
          clear h
          go_enter Tryz.func67, Tryz.ntmps67
          go_wp2
          go_ret2
          exact ⟨rfl, Bel.refl _⟩
      · have k2 : decide (9999 < a) = true := by simp; omega
        clear h
        go_enter Tryz.func67, Tryz.ntmps67
        go_wp2
        go_ret2
        exact ⟨rfl, Bel.refl _⟩
    · have k1 : decide (a < 1) = true := by simp; omega
      clear h
      go_enter Tryz.func67, Tryz.ntmps67
      go_wp2
      go_ret2
      exact ⟨rfl, Bel.refl _⟩
set_option maxHeartbeats 4000000 in
theorem rdate_any (n : Int) (w : World) : Calls Tryz.prog 76 #[.int .i64 n] w fun e w' => e = .returned (dateV n) ∧ Bel w w' := by
  by_cases h : 0 ≤ n ∧ n ≤ 3652058
  · rw [show dateV n = _ from if_pos h]
    obtain ⟨h1, h2⟩ := h
    have k1 : decide (n < 0) = false := by simp; omega
    have k2 : decide (3652058 < n) = false := by simp; omega
    go_enter Tryz.func76, Tryz.ntmps76
    go_wp2_with fail
    go_loopg [0, 6] 10000 (fun g r i wr => ∃ y : Int, 1 ≤ y ∧ y ≤ 9999 ∧ i = .int .i64 y ∧ r = .int .i64 (n - bef y) ∧ bef y ≤ n ∧ Bel w wr ∧ (g : Int) = 10001 - y)
    case atStart => exact ⟨1, by omega, by omega, rfl, by rw [bef_one]; go_num, by rw [bef_one]; omega, Bel.refl _, by omega⟩
    case round =>
      obtain ⟨y, hy1, hy2, rfl, rfl, hyn, hb, hg⟩ := hrel
      have hbb := bef_bd y hy1 (by omega)
      have hfb := feb_bd y
      have hs := Lib.hid (feb_fun y)
      by_cases hlt : 337 + feb y ≤ n - bef y
      · have hy3 : y ≤ 9998 := by
          by_cases hh : y = 9999
          · subst hh
            have : bef 9999 = 3651694 := by decide
            have : feb 9999 = 28 := by decide
            omega
          · omega
        go_wp2_with (go_at_call 94; refine (ryears_any _ _).mono ?_; rintro e w1 ⟨rfl, hb1⟩; replace hb := hb.trans hb1; clear hb1)
        go_roundg (gk - 1)
        case measure => omega
        case rel => exact ⟨y + 1, by omega, by omega, rfl, by rw [hs.out] <;> go_num, by rw [hs.out]; omega, hb, by omega⟩
      · have hl := Lib.hid (cum_last y)
        go_wp2_with (go_at_call 94; refine (ryears_any _ _).mono ?_; rintro e w1 ⟨rfl, hb1⟩; replace hb := hb.trans hb1; clear hb1)
        go_loopg [0, 7] 12 (fun g r i wr' => ∃ m : Int, 1 ≤ m ∧ m ≤ 12 ∧ i = .int .i64 m ∧ r = .int .i64 (n - bef y - cumM y m) ∧ 0 ≤ n - bef y - cumM y m ∧ Bel w wr' ∧ (g : Int) = 13 - m)
        case atStart => exact ⟨1, by omega, by omega, rfl, by rw [cum_first]; go_num, by rw [cum_first]; omega, hb, by omega⟩
        case round =>
          clear hb
          obtain ⟨m, hm1, hm2, rfl, rfl, hm3, hb, hg'⟩ := hrel
          have hm4 := cum_bd y m hm2
          have hm5 := lenM_bd y m
          by_cases hge : lenM y m ≤ n - bef y - cumM y m
          · have hm6 : m ≤ 11 := by
              by_cases hh : m = 12
              · subst hh; have h1 := hl.out; omega
              · omega
            have hcs := Lib.hid (cum_step y m hm1 hm6)
            go_wp2_with (go_at_call 93; refine (rlength_any _ _ hm1 hm2 _).mono ?_; rintro e w1 ⟨rfl, hb1⟩; replace hb := hb.trans hb1; clear hb1)
            go_roundg (gk - 1)
            case measure => omega
            case rel => exact ⟨m + 1, by omega, by omega, rfl, by rw [hcs.out] <;> go_num, by rw [hcs.out]; omega, hb, by omega⟩
          · have hS : SoundD y m (n - bef y - cumM y m + 1) := ⟨hy1, hy2, hm1, hm2, by omega, by omega⟩
            have hN : numD y m (n - bef y - cumM y m + 1) = n := by unfold numD; omega
            have H := Lib.hid (date_is hS hN)
            clear hS hN
            go_wp2_with (go_at_call 93; refine (rlength_any _ _ hm1 hm2 _).mono ?_; rintro e w1 ⟨rfl, hb1⟩; replace hb := hb.trans hb1; clear hb1)
            obtain ⟨e1, e2, e3⟩ := H.out
            rw [← e1, ← e2, ← e3]
            exact bodyPost_ret (by simp [results, Tryz.results76, go_sem]; try rfl) rfl ⟨rfl, hb⟩
  · rw [show dateV n = _ from if_neg h]
    by_cases h1 : 0 ≤ n
    · have k1 : decide (n < 0) = false := by simp; omega
      have k2 : decide (3652058 < n) = true := by simp; omega
      clear h
      go_enter Tryz.func76, Tryz.ntmps76
      go_wp2
      exact bodyPost_ret (by simp [results, Tryz.results76, go_sem]; try rfl) rfl ⟨rfl, Bel.refl _⟩
    · have k1 : decide (n < 0) = true := by simp; omega
      clear h
      go_enter Tryz.func76, Tryz.ntmps76
      go_wp2
      exact bodyPost_ret (by simp [results, Tryz.results76, go_sem]; try rfl) rfl ⟨rfl, Bel.refl _⟩
def dgt_Y (n k : Nat) : UInt8 := UInt8.ofNat (48 + n / k % 10)
def pad4 (n : Nat) : List UInt8 := [dgt_Y n 1000, dgt_Y n 100, dgt_Y n 10, dgt_Y n 1]
def pad2 (n : Nat) : List UInt8 := [dgt_Y n 10, dgt_Y n 1]
theorem dgt_up_Y (n k : Nat) : dgt_Y (n / 10) k = dgt_Y n (10 * k) := by unfold dgt_Y; rw [Nat.div_div_eq_div_mul]
theorem dgt_0 (n k : Nat) (h : n < k) : dgt_Y n k = 48 := by unfold dgt_Y; rw [Nat.div_eq_of_lt h]; rfl
theorem dec1_Y (n : Nat) (h : n < 10) : Lib.decDigits n = [dgt_Y n 1] := by rw [Lib.decDigits, dif_pos h]; simp [dgt_Y, Nat.mod_eq_of_lt h]
theorem decS_Y (n : Nat) (h : 10 ≤ n) : Lib.decDigits n = Lib.decDigits (n / 10) ++ [dgt_Y n 1] := by rw [Lib.decDigits, dif_neg (by omega)]; simp [dgt_Y]
theorem dec2 (n : Nat) (h1 : 10 ≤ n) (h : n < 100) : Lib.decDigits n = [dgt_Y n 10, dgt_Y n 1] := by rw [decS_Y n h1, dec1_Y _ (by omega), dgt_up_Y]; rfl
theorem dec3 (n : Nat) (h1 : 100 ≤ n) (h : n < 1000) : Lib.decDigits n = [dgt_Y n 100, dgt_Y n 10, dgt_Y n 1] := by rw [decS_Y n (by omega), dec2 _ (by omega) (by omega), dgt_up_Y, dgt_up_Y]; rfl
theorem dec4 (n : Nat) (h1 : 1000 ≤ n) (h : n < 10000) : Lib.decDigits n = [dgt_Y n 1000, dgt_Y n 100, dgt_Y n 10, dgt_Y n 1] := by rw [decS_Y n (by omega), dec3 _ (by omega) (by omega), dgt_up_Y, dgt_up_Y, dgt_up_Y]; rfl
def padL_Y (k n : Nat) : List UInt8 := Lib.repeatL [48] (k - (Lib.decDigits n).length) ++ Lib.decDigits n
theorem padL_2 (n : Nat) (h : n < 100) : padL_Y 2 n = pad2 n := by
  unfold padL_Y pad2
  by_cases h1 : n < 10
  · rw [dec1_Y n h1, dgt_0 n 10 h1]; rfl
  · rw [dec2 n (by omega) h]; rfl
theorem padL_4 (n : Nat) (h : n < 10000) : padL_Y 4 n = pad4 n := by
  unfold padL_Y pad4
  by_cases h1 : n < 10
  · rw [dec1_Y n h1, dgt_0 n 10 h1, dgt_0 n 100 (by omega), dgt_0 n 1000 (by omega)]; rfl
  · by_cases h2 : n < 100
    · rw [dec2 n (by omega) h2, dgt_0 n 100 (by omega), dgt_0 n 1000 (by omega)]; rfl
    · by_cases h3 : n < 1000
      · rw [dec3 n (by omega) h3, dgt_0 n 1000 (by omega)]; rfl
      · rw [dec4 n (by omega) h]; rfl
theorem dec_len (n : Nat) (h : n < 10000) : 1 ≤ (Lib.decDigits n).length ∧ (Lib.decDigits n).length ≤ 4 ∧ (n < 100 → (Lib.decDigits n).length ≤ 2) := by
  by_cases h1 : n < 10
  · rw [dec1_Y n h1]; simp
  · by_cases h2 : n < 100
    · rw [dec2 n (by omega) h2]; simp
    · by_cases h3 : n < 1000
      · rw [dec3 n (by omega) h3]; simp; omega
      · rw [dec4 n (by omega) h]; simp; omega
/-- The table of the powers of ten, as the library lays it. -/
def Tab_Y (w : World) : Prop := Lib.TabIs Tryz.prog w "internal/strconv.uint64pow10" .u64 Lib.pow10Tab
theorem Tab_Y.keep {w w' : World} (h : Tab_Y w) (hb : Bel w w') : Tab_Y w' := by
  obtain ⟨g, hg⟩ : ∃ g, Tryz.prog.globalNamed "internal/strconv.uint64pow10" = some g := ⟨(Tryz.prog.globalNamed "internal/strconv.uint64pow10").getD 0, by kernel_rfl⟩
  unfold Tab_Y Lib.TabIs World.var? at h ⊢
  rw [hg] at h ⊢
  simp only [Option.bind_some] at h ⊢
  have hlt : g < w.heap.size := by
    rcases Nat.lt_or_ge g w.heap.size with h' | h'
    · exact h'
    · rw [Array.getElem?_eq_none h'] at h; cases h
  rw [Below.block hb g hlt]
  exact h
theorem itoa_t (n : Nat) (hn : n < 10000) (w : World) (ht : Tab_Y w) : Calls Tryz.prog 97 #[.int .i64 n] w fun e w' => e = .returned (.string ⟨(Lib.decDigits n).toArray⟩) ∧ Bel w w' :=
  (Tryz.strconv_Itoa n (by omega) (by omega) w ht).mono fun e w' ⟨he, k, os, hw⟩ => by
    subst hw
    refine ⟨by rw [he]; simp [Lib.itoa], ?_⟩
    exact ⟨rfl, rfl, rfl, by simp [Go.«Sort».grow, World.drewN], fun i hi => by simp [Go.«Sort».grow, World.drewN, Array.getElem?_append_left hi]⟩
theorem rep_t (c : Nat) (hc : c ≤ 4) (w : World) : Calls Tryz.prog 99 #[.string ⟨#[48]⟩, .int .i64 c] w fun e w' => e = .returned (.string ⟨(Lib.repeatL [48] c).toArray⟩) ∧ Bel w w' := by
  by_cases h0 : c = 0
  · subst h0
    exact (Tryz.strings_Repeat_zero _ w).mono fun e w' ⟨he, hw⟩ => ⟨he, by rw [hw]; exact Bel.refl _⟩
  · by_cases h1 : c = 1
    · subst h1
      exact (Tryz.strings_Repeat_one _ w).mono fun e w' ⟨he, hw⟩ => ⟨he, by rw [hw]; exact Bel.refl _⟩
    · exact (Tryz.strings_Repeat_main ⟨#[48]⟩ c w (by omega) (by omega) (by simp [ByteArray.size]; omega) (by decide)).mono fun e w' ⟨he, hw⟩ => ⟨he, hw⟩
theorem app_bytes_Y (a b : List UInt8) : (⟨a.toArray⟩ : ByteArray) ++ ⟨b.toArray⟩ = ⟨(a ++ b).toArray⟩ := by
  exact ByteArray.ext (by simp [ByteArray.data_append])
theorem padded_t (n k : Nat) (hn : n < 10000) (hk : (Lib.decDigits n).length ≤ k) (hk4 : k ≤ 4) (w : World) (ht : Tab_Y w) : Calls Tryz.prog 102 #[.int .i64 n, .int .i64 k] w fun e w' =>
    e = .returned (.string ⟨(padL_Y k n).toArray⟩) ∧ Bel w w' := by
  have hl : Hid (padL_Y k n = Lib.repeatL [48] (k - (Lib.decDigits n).length) ++ Lib.decDigits n) := rfl
  obtain ⟨c, hc⟩ : ∃ c : Nat, (k : Int) - ((Lib.decDigits n).length : Int) = c := ⟨k - (Lib.decDigits n).length, by omega⟩
  have hcn : c = k - (Lib.decDigits n).length := by omega
  have hc4 : c ≤ 4 := by omega
  have Hcn := Lib.hid hcn
  clear hcn
  have hs1 := Lib.repeatL_length [48] c
  have hs2 := dec_len n hn
  have hs : ¬ 9223372036854775807 < (Lib.repeatL [48] c).length + (Lib.decDigits n).length := by simp at hs1; omega
  clear hs1 hs2
  go_enter Tryz.func102, Tryz.ntmps102
  go_wp2_with (first
    | (go_at_call 97; refine (itoa_t n hn _ ht).mono ?_; rintro e w1 ⟨rfl, hb1⟩)
    | (go_at_call 99; refine (rep_t c hc4 _).mono ?_; rintro e w2 ⟨rfl, hb2⟩))
  go_ret
  exact ⟨by rw [app_bytes_Y, hl.out, ← Hcn.out]; rfl, hb1.trans hb2⟩
theorem padded_4 (z : Int) (h0 : 0 ≤ z) (h1 : z < 10000) (w : World) (ht : Tab_Y w) : Calls Tryz.prog 102 #[.int .i64 z, .int .i64 4] w fun e w' =>
    e = .returned (.string ⟨#[dgt_Y z.toNat 1000, dgt_Y z.toNat 100, dgt_Y z.toNat 10, dgt_Y z.toNat 1]⟩) ∧ Bel w w' := by
  obtain ⟨n, rfl⟩ : ∃ n : Nat, z = n := ⟨z.toNat, by omega⟩
  have := dec_len n (by omega)
  refine (padded_t n 4 (by omega) this.2.1 (by omega) w ht).mono fun e w' ⟨he, hb⟩ => ⟨?_, hb⟩
  rw [he, padL_4 n (by omega)]; rfl
theorem padded_2 (z : Int) (h0 : 0 ≤ z) (h1 : z < 100) (w : World) (ht : Tab_Y w) : Calls Tryz.prog 102 #[.int .i64 z, .int .i64 2] w fun e w' =>
    e = .returned (.string ⟨#[dgt_Y z.toNat 10, dgt_Y z.toNat 1]⟩) ∧ Bel w w' := by
  obtain ⟨n, rfl⟩ : ∃ n : Nat, z = n := ⟨z.toNat, by omega⟩
  have := dec_len n (by omega)
  refine (padded_t n 2 (by omega) (this.2.2 (by omega)) (by omega) w ht).mono fun e w' ⟨he, hb⟩ => ⟨?_, hb⟩
  rw [he, padL_2 n (by omega)]; rfl
/-- The text of a date. -/
def txt (y m d : Nat) : ByteArray := ⟨#[dgt_Y y 1000, dgt_Y y 100, dgt_Y y 10, dgt_Y y 1, 45, dgt_Y m 10, dgt_Y m 1, 45, dgt_Y d 10, dgt_Y d 1]⟩
theorem txt_eq (y m d : Nat) : (⟨#[dgt_Y y 1000, dgt_Y y 100, dgt_Y y 10, dgt_Y y 1]⟩ : ByteArray) ++ ⟨#[45]⟩ ++ ⟨#[dgt_Y m 10, dgt_Y m 1]⟩ ++ ⟨#[45]⟩ ++ ⟨#[dgt_Y d 10, dgt_Y d 1]⟩ = txt y m d :=
  ByteArray.ext (by simp [ByteArray.data_append, txt])
noncomputable def dtx (n : Int) : ByteArray := txt (dY n).toNat (dM n).toNat (dD n).toNat
noncomputable def textV_Y (n : Int) : Value := if 0 ≤ n ∧ n ≤ 3652058 then .tuple #[.string (dtx n), .int .i64 0] else .tuple #[.string ⟨#[]⟩, .int .i64 3]
set_option maxHeartbeats 2000000 in
theorem text_any_Y (n : Int) (w : World) (ht : Tab_Y w) : Calls Tryz.prog 73 #[.int .i64 n] w fun e w' => e = .returned (textV_Y n) ∧ Bel w w' := by
  by_cases h : 0 ≤ n ∧ n ≤ 3652058
  · rw [show textV_Y n = _ from if_pos h]
    obtain ⟨h1, h2⟩ := h
    have hl : Hid (txt (dY n).toNat (dM n).toNat (dD n).toNat = dtx n) := rfl
    obtain ⟨⟨s1, s2, s3, s4, s5, s6⟩, -⟩ := date_spec n h1 h2
    have s7 := lenM_bd (dY n) (dM n)
    have k1 : decide (n < 0) = false := by simp; omega
    have k2 : decide (3652058 < n) = false := by simp; omega
    go_enter Tryz.func73, Tryz.ntmps73
    go_wp2_with (go_at_call 101; refine (dateOf_t n h1 h2 _).mono ?_; rintro e W1 ⟨rfl, hb1⟩)
    replace ht := ht.keep hb1
    generalize hy : dY n = y at *
    generalize hm : dM n = m at *
    generalize hd : dD n = d at *
    clear hy hm hd
    refine under_name ((Bel.refl W1).alloc _) fun W hc hf hz hb => ?_
    have hw : Arr3 W W1.heap.size y m d := by simp [Arr3, hz, hc, go_sem]
    have htW : Tab_Y W := ht.keep hb
    replace hb := hb1.trans hb
    clear hc hf hz
    refine wp_region_uni (S := (fun w' => Bel W w' ∧ (∀ b o, b < W.heap.size → w'.cell? ⟨b, o, none⟩ = W.cell? ⟨b, o, none⟩))) (by kernel_rfl) (by kernel_rfl) keep0 ?_
    repeat (first | (refine wpUni_skip (by rfl) ?_; (try simp only [Act.put, List.setIfInBounds_toArray, List.set_cons_zero, List.set_cons_succ]))
                                                            | (refine wpUni_value (by rfl) (fun w hS => by (try dsimp only at hS); go_simp; first | done | with_reducible rfl) ?_; (try simp only [Act.put, List.setIfInBounds_toArray, List.set_cons_zero, List.set_cons_succ]))
                                                            | (refine wpUni_call (f := 102) (by rfl) (fun w => by go_simp; first | done | with_reducible rfl) (fun w hS => (padded_4 y (by omega) (by omega) w (htW.keep hS.1)).mono fun e w' ⟨he, hb⟩ => ⟨he, keep1 hS hb⟩) ?_; (try simp only [Act.put, List.setIfInBounds_toArray, List.set_cons_zero, List.set_cons_succ]))
                                                            | (refine wpUni_call (f := 102) (by rfl) (fun w => by go_simp; first | done | with_reducible rfl) (fun w hS => (padded_2 m (by omega) (by omega) w (htW.keep hS.1)).mono fun e w' ⟨he, hb⟩ => ⟨he, keep1 hS hb⟩) ?_; (try simp only [Act.put, List.setIfInBounds_toArray, List.set_cons_zero, List.set_cons_succ]))
                                                            | (refine wpUni_call (f := 102) (by rfl) (fun w => by go_simp; first | done | with_reducible rfl) (fun w hS => (padded_2 d (by omega) (by omega) w (htW.keep hS.1)).mono fun e w' ⟨he, hb⟩ => ⟨he, keep1 hS hb⟩) ?_; (try simp only [Act.put, List.setIfInBounds_toArray, List.set_cons_zero, List.set_cons_succ])))
    refine wpUni_nil fun W2 hS => ?_
    have hb2 := hb.trans hS.1
    clear hS
    go_wp2
    go_ret2
    exact ⟨by rw [txt_eq, hl.out]; rfl, hb2⟩
  · rw [show textV_Y n = _ from if_neg h]
    by_cases h1 : 0 ≤ n
    · have k1 : decide (n < 0) = false := by simp; omega
      have k2 : decide (3652058 < n) = true := by simp; omega
      clear h
      go_enter Tryz.func73, Tryz.ntmps73
      go_wp2
      go_ret2
      exact ⟨rfl, Bel.refl _⟩
    · have k1 : decide (n < 0) = true := by simp; omega
      clear h
      go_enter Tryz.func73, Tryz.ntmps73
      go_wp2
      go_ret2
      exact ⟨rfl, Bel.refl _⟩
def dB_Y (c : UInt8) : Bool := decide (48 ≤ c.toNat ∧ c.toNat ≤ 57)
def dOk_Y (l : List UInt8) : Bool := l.all dB_Y
def numL_Y (l : List UInt8) : Nat := l.foldl (fun a c => a * 10 + (c.toNat - 48)) 0
theorem numL_snoc (l : List UInt8) (c : UInt8) : numL_Y (l ++ [c]) = numL_Y l * 10 + (c.toNat - 48) := by simp [numL_Y, List.foldl_append]
theorem dOk_snoc (l : List UInt8) (c : UInt8) : dOk_Y (l ++ [c]) = (dOk_Y l && dB_Y c) := by simp [dOk_Y]
theorem fold_bd_Y (l : List UInt8) : ∀ a, dOk_Y l = true → l.foldl (fun a c => a * 10 + (c.toNat - 48)) a + 1 ≤ (a + 1) * 10 ^ l.length := by
  induction l with
  | nil => intro a _; simp
  | cons c r ih =>
    intro a h
    simp only [dOk_Y, List.all_cons, Bool.and_eq_true] at h
    have hc := h.1
    simp only [dB_Y, decide_eq_true_eq] at hc
    have := ih (a * 10 + (c.toNat - 48)) h.2
    simp only [List.foldl_cons, List.length_cons, Nat.pow_succ]
    refine Nat.le_trans this ?_
    have h2 : a * 10 + (c.toNat - 48) + 1 ≤ (a + 1) * 10 := by omega
    calc (a * 10 + (c.toNat - 48) + 1) * 10 ^ r.length ≤ ((a + 1) * 10) * 10 ^ r.length := Nat.mul_le_mul_right _ h2
      _ = (a + 1) * (10 ^ r.length * 10) := by rw [Nat.mul_assoc, Nat.mul_comm 10]
theorem numL_bd_Y (l : List UInt8) (h : dOk_Y l = true) (hl : l.length ≤ 4) : numL_Y l ≤ 9999 := by
  have := fold_bd_Y l 0 h
  have h2 : 10 ^ l.length ≤ 10 ^ 4 := Nat.pow_le_pow_right (by omega) hl
  unfold numL_Y
  omega
theorem take_snoc (s : ByteArray) (k : Nat) (h : k < s.size) : s.data.toList.take (k + 1) = s.data.toList.take k ++ [s[k]] := by
  rw [List.take_succ_eq_append_getElem (by simpa using h)]; rfl
def numV (l : List UInt8) : Value := if dOk_Y l = true then .tuple #[.int .i64 (numL_Y l), .bool true] else .tuple #[.int .i64 0, .bool false]
theorem dOk_take (l : List UInt8) (k : Nat) (h : dOk_Y l = true) : dOk_Y (l.take k) = true := by
  simp only [dOk_Y, List.all_eq_true] at h ⊢
  exact fun x hx => h x (List.mem_of_mem_take hx)
set_option maxHeartbeats 800000 in
theorem dnum_any (s : ByteArray) (hs : s.size ≤ 4) (w : World) : Calls Tryz.prog 88 #[.string s] w fun e w' => e = .returned (numV s.data.toList) ∧ Bel w w' := by
  go_enter Tryz.func88, Tryz.ntmps88
  go_wp2
  go_loop [4, 8] (fun n i => ∃ k : Nat, k ≤ s.size ∧ i = .int .i64 k ∧ n = .int .i64 (numL_Y (s.data.toList.take k)) ∧ dOk_Y (s.data.toList.take k) = true) (fun _ i => s.size - (intOf i).toNat)
  case atStart => exact ⟨0, Nat.zero_le _, rfl, rfl, rfl⟩
  case round =>
    obtain ⟨k, hk, rfl, rfl, hok⟩ := hrel
    by_cases hlt : k < s.size
    · have hbd := numL_bd_Y _ hok (by have := List.length_take_le k s.data.toList; omega)
      have hts := take_snoc s k hlt
      have HS := Lib.hid (show numL_Y (s.data.toList.take (k + 1)) = _ by rw [hts, numL_snoc])
      have HO := Lib.hid (show dOk_Y (s.data.toList.take (k + 1)) = (true && dB_Y s[k]) by rw [hts, dOk_snoc, hok])
      have HK := Lib.hid (dOk_take s.data.toList (k + 1))
      clear hts hok
      by_cases h1 : 48 ≤ s[k].toNat
      · have b1 : decide ((s[k].toNat : Int) < 48) = false := by simp; omega
        by_cases h2 : s[k].toNat ≤ 57
        · have b2 : decide (57 < (s[k].toNat : Int)) = false := by simp; omega
          have HB := Lib.hid (show dB_Y s[k] = true by simp [dB_Y, h1, h2])
          go_wp2
          go_round
          case rel => exact ⟨k + 1, by omega, by go_num, by rw [HS.out]; go_num, by rw [HO.out, HB.out]; rfl⟩
          case measure => simp [intOf]; omega
        · have b2 : decide (57 < (s[k].toNat : Int)) = true := by simp; omega
          have HB : Hid (numV s.data.toList = .tuple #[.int .i64 0, .bool false]) :=
            if_neg fun h => by have := HK.out h; rw [HO.out] at this; simp [dB_Y] at this; omega
          go_wp2
          go_ret2
          exact ⟨by rw [HB.out]; rfl, Bel.refl _⟩
      · have b1 : decide ((s[k].toNat : Int) < 48) = true := by simp; omega
        have HB : Hid (numV s.data.toList = .tuple #[.int .i64 0, .bool false]) :=
            if_neg fun h => by have := HK.out h; rw [HO.out] at this; simp [dB_Y] at this; omega
        go_wp2
        go_ret2
        exact ⟨by rw [HB.out]; rfl, Bel.refl _⟩
    · have hall : s.data.toList.take k = s.data.toList := List.take_of_length_le (by simp; omega)
      have HB : Hid (numV s.data.toList = .tuple #[.int .i64 (numL_Y (s.data.toList.take k)), .bool true]) := by rw [hall] at hok ⊢; exact if_pos hok
      clear hall hok
      go_wp2
      go_ret2
      exact ⟨by rw [HB.out]; rfl, Bel.refl _⟩
def badV : Value := .tuple #[.int .i64 0, .int .i64 5]
def parseL (a b c d f g i j : UInt8) : Value :=
  if dOk_Y [a, b, c, d] = true ∧ dOk_Y [f, g] = true ∧ dOk_Y [i, j] = true then dayV (numL_Y [a, b, c, d]) (numL_Y [f, g]) (numL_Y [i, j]) else badV
def parseV_Y (s : ByteArray) : Value :=
  match s.data.toList with
  | [a, b, c, d, e, f, g, h, i, j] => if e = 45 ∧ h = 45 then parseL a b c d f g i j else badV
  | _ => badV
theorem ten (s : ByteArray) (h : s.size = 10) : ∃ a b c d e f g h i j, s = ⟨#[a, b, c, d, e, f, g, h, i, j]⟩ := by
  obtain ⟨⟨l⟩⟩ := s
  have hl : l.length = 10 := h
  match l, hl with
  | [a, b, c, d, e, f, g, h, i, j], _ => exact ⟨a, b, c, d, e, f, g, h, i, j, rfl⟩
theorem parseV_no (s : ByteArray) (h : ¬ s.size = 10) : parseV_Y s = badV := by
  obtain ⟨⟨l⟩⟩ := s
  unfold parseV_Y
  split
  · rename_i hl; simp only at hl; subst hl; exact absurd rfl h
  · rfl
theorem u8_ne {e : UInt8} (h : ¬ e = 45) : ((e.toNat : Int) != 45) = true := by
  simp only [bne_iff_ne, ne_eq]
  exact fun h' => h (UInt8.toNat_inj.mp (by have : e.toNat = 45 := by omega
                                            rw [this]; rfl))
set_option maxHeartbeats 4000000 in
theorem parse_any_Y (s : ByteArray) (w : World) : Calls Tryz.prog 62 #[.string s] w fun e w' => e = .returned (parseV_Y s) ∧ Bel w w' := by
  by_cases hs : s.size = 10
  · obtain ⟨a, b, c, d, e, f, g, h, i, j, hs'⟩ := ten s hs
    have i4 : s[4]'(by omega) = e := by subst hs'; rfl
    have i7 : s[7]'(by omega) = h := by subst hs'; rfl
    have hnl : ¬ s.size < 4 := by omega
    by_cases he : e = 45
    · subst he
      have c4 : ((s[4]'(by omega)).toNat : Int) = 45 := by rw [i4]; rfl
      by_cases hh : h = 45
      · subst hh
        have c7 : ((s[7]'(by omega)).toNat : Int) = 45 := by rw [i7]; rfl
        rw [show parseV_Y s = parseL a b c d f g i j by rw [hs']; simp [parseV_Y]]
        have x1 : s.extract 0 4 = ⟨#[a, b, c, d]⟩ := by rw [hs']; exact ByteArray.ext (by simp [ByteArray.data_extract])
        have x2 : s.extract 5 7 = ⟨#[f, g]⟩ := by rw [hs']; exact ByteArray.ext (by simp [ByteArray.data_extract])
        have x3 : s.extract 8 10 = ⟨#[i, j]⟩ := by rw [hs']; exact ByteArray.ext (by simp [ByteArray.data_extract])
        have ix0 : ∀ w, Sem.run Tryz.prog (Instr.index 111 (.agg #[.string ⟨#[a, b, c, d]⟩, .string ⟨#[f, g]⟩, .string ⟨#[i, j]⟩]) (.int .i64 0)) w = .ok (.string ⟨#[a, b, c, d]⟩) w := fun w => by kernel_rfl
        have ix1 : ∀ w, Sem.run Tryz.prog (Instr.index 111 (.agg #[.string ⟨#[a, b, c, d]⟩, .string ⟨#[f, g]⟩, .string ⟨#[i, j]⟩]) (.int .i64 1)) w = .ok (.string ⟨#[f, g]⟩) w := fun w => by kernel_rfl
        have ix2 : ∀ w, Sem.run Tryz.prog (Instr.index 111 (.agg #[.string ⟨#[a, b, c, d]⟩, .string ⟨#[f, g]⟩, .string ⟨#[i, j]⟩]) (.int .i64 2)) w = .ok (.string ⟨#[i, j]⟩) w := fun w => by kernel_rfl
        clear hs' i4 i7
        go_enter Tryz.func62, Tryz.ntmps62
        go_wp2_with fail
        go_region
        go_wp2_with fail
        refine under_name (((Bel.refl w).alloc _).drew) fun W hc hf hz hb => ?_
        have hA : Sl3 W w.heap.size 0 0 0 := by simp [Sl3, Arr3, Free3, hz, hc, hf, go_sem]
        clear hc hf hz
        go_loopg [29] 3 (fun g' i' wr => Bel w wr ∧
          ((i' = .int .i64 0 ∧ Sl3 wr w.heap.size 0 0 0 ∧ g' = 3) ∨
           (i' = .int .i64 1 ∧ Sl3 wr w.heap.size (numL_Y [a, b, c, d]) 0 0 ∧ g' = 2 ∧ Hid (dOk_Y [a, b, c, d] = true)) ∨
           (i' = .int .i64 2 ∧ Sl3 wr w.heap.size (numL_Y [a, b, c, d]) (numL_Y [f, g]) 0 ∧ g' = 1 ∧ Hid (dOk_Y [a, b, c, d] = true ∧ dOk_Y [f, g] = true)) ∨
           (i' = .int .i64 3 ∧ Sl3 wr w.heap.size (numL_Y [a, b, c, d]) (numL_Y [f, g]) (numL_Y [i, j]) ∧ g' = 0 ∧ Hid (dOk_Y [a, b, c, d] = true ∧ dOk_Y [f, g] = true ∧ dOk_Y [i, j] = true))))
        case atStart => exact ⟨hb, .inl ⟨rfl, hA, rfl⟩⟩
        case round =>
          clear hb hA
          obtain ⟨hb, ⟨rfl, hA, hg⟩ | ⟨rfl, hA, hg, hd⟩ | ⟨rfl, hA, hg, hd⟩ | ⟨rfl, hA, hg, hd⟩⟩ := hrel
          · have Hg := Lib.hid hg
            clear hg
            by_cases hok : dOk_Y [a, b, c, d] = true
            · have hnum : ∀ w, Calls Tryz.prog 88 #[.string ⟨#[a, b, c, d]⟩] w fun e w' => e = .returned (.tuple #[.int .i64 (numL_Y [a, b, c, d]), .bool true]) ∧ Bel w w' := fun w => by
                rw [← show numV [a, b, c, d] = .tuple #[.int .i64 (numL_Y [a, b, c, d]), .bool true] from if_pos hok]
                exact dnum_any ⟨#[a, b, c, d]⟩ (by simp [ByteArray.size]) w
              have Hok := Lib.hid hok
              clear hok
              go_wp2_with (go_at_call 88; refine (hnum _).mono ?_; rintro e w2 ⟨rfl, hb2⟩
                           replace hA := hA.keep hb2; replace hb := hb.trans hb2; clear hb2)
              go_roundg 2
              case measure => have := Hg.out; omega
              case rel => exact ⟨hb.setCell (by simp) _, .inr (.inl ⟨rfl, by simp [Sl3, Arr3, Free3, go_sem, hA], rfl, Hok⟩)⟩
            · have hnum : ∀ w, Calls Tryz.prog 88 #[.string ⟨#[a, b, c, d]⟩] w fun e w' => e = .returned (.tuple #[.int .i64 0, .bool false]) ∧ Bel w w' := fun w => by
                rw [← show numV [a, b, c, d] = .tuple #[.int .i64 0, .bool false] from if_neg hok]
                exact dnum_any ⟨#[a, b, c, d]⟩ (by simp [ByteArray.size]) w
              have hbad := Lib.hid (show parseL a b c d f g i j = .tuple #[.int .i64 0, .int .i64 5] from if_neg fun h => hok h.1)
              clear hok
              go_wp2_with (go_at_call 88; refine (hnum _).mono ?_; rintro e w2 ⟨rfl, hb2⟩
                           replace hA := hA.keep hb2; replace hb := hb.trans hb2; clear hb2)
              go_ret2
              exact ⟨by rw [hbad.out]; rfl, hb⟩
          · have Hg := Lib.hid hg
            clear hg
            by_cases hok : dOk_Y [f, g] = true
            · have hnum : ∀ w, Calls Tryz.prog 88 #[.string ⟨#[f, g]⟩] w fun e w' => e = .returned (.tuple #[.int .i64 (numL_Y [f, g]), .bool true]) ∧ Bel w w' := fun w => by
                rw [← show numV [f, g] = .tuple #[.int .i64 (numL_Y [f, g]), .bool true] from if_pos hok]
                exact dnum_any ⟨#[f, g]⟩ (by simp [ByteArray.size]) w
              have Hok := Lib.hid hok
              clear hok
              go_wp2_with (go_at_call 88; refine (hnum _).mono ?_; rintro e w2 ⟨rfl, hb2⟩
                           replace hA := hA.keep hb2; replace hb := hb.trans hb2; clear hb2)
              go_roundg 1
              case measure => have := Hg.out; omega
              case rel => exact ⟨hb.setCell (by simp) _, .inr (.inr (.inl ⟨rfl, by simp [Sl3, Arr3, Free3, go_sem, hA], rfl, ⟨hd.out, Hok.out⟩⟩))⟩
            · have hnum : ∀ w, Calls Tryz.prog 88 #[.string ⟨#[f, g]⟩] w fun e w' => e = .returned (.tuple #[.int .i64 0, .bool false]) ∧ Bel w w' := fun w => by
                rw [← show numV [f, g] = .tuple #[.int .i64 0, .bool false] from if_neg hok]
                exact dnum_any ⟨#[f, g]⟩ (by simp [ByteArray.size]) w
              have hbad := Lib.hid (show parseL a b c d f g i j = .tuple #[.int .i64 0, .int .i64 5] from if_neg fun h => hok h.2.1)
              clear hok
              go_wp2_with (go_at_call 88; refine (hnum _).mono ?_; rintro e w2 ⟨rfl, hb2⟩
                           replace hA := hA.keep hb2; replace hb := hb.trans hb2; clear hb2)
              go_ret2
              exact ⟨by rw [hbad.out]; rfl, hb⟩
          · have Hg := Lib.hid hg
            clear hg
            by_cases hok : dOk_Y [i, j] = true
            · have hnum : ∀ w, Calls Tryz.prog 88 #[.string ⟨#[i, j]⟩] w fun e w' => e = .returned (.tuple #[.int .i64 (numL_Y [i, j]), .bool true]) ∧ Bel w w' := fun w => by
                rw [← show numV [i, j] = .tuple #[.int .i64 (numL_Y [i, j]), .bool true] from if_pos hok]
                exact dnum_any ⟨#[i, j]⟩ (by simp [ByteArray.size]) w
              have Hok := Lib.hid hok
              clear hok
              go_wp2_with (go_at_call 88; refine (hnum _).mono ?_; rintro e w2 ⟨rfl, hb2⟩
                           replace hA := hA.keep hb2; replace hb := hb.trans hb2; clear hb2)
              go_roundg 0
              case measure => have := Hg.out; omega
              case rel => exact ⟨hb.setCell (by simp) _, .inr (.inr (.inr ⟨rfl, by simp [Sl3, Arr3, Free3, go_sem, hA], rfl, ⟨hd.out.1, hd.out.2, Hok.out⟩⟩))⟩
            · have hnum : ∀ w, Calls Tryz.prog 88 #[.string ⟨#[i, j]⟩] w fun e w' => e = .returned (.tuple #[.int .i64 0, .bool false]) ∧ Bel w w' := fun w => by
                rw [← show numV [i, j] = .tuple #[.int .i64 0, .bool false] from if_neg hok]
                exact dnum_any ⟨#[i, j]⟩ (by simp [ByteArray.size]) w
              have hbad := Lib.hid (show parseL a b c d f g i j = .tuple #[.int .i64 0, .int .i64 5] from if_neg fun h => hok h.2.2)
              clear hok
              go_wp2_with (go_at_call 88; refine (hnum _).mono ?_; rintro e w2 ⟨rfl, hb2⟩
                           replace hA := hA.keep hb2; replace hb := hb.trans hb2; clear hb2)
              go_ret2
              exact ⟨by rw [hbad.out]; rfl, hb⟩
          · have hok : parseL a b c d f g i j = dayV (numL_Y [a, b, c, d]) (numL_Y [f, g]) (numL_Y [i, j]) := if_pos hd.out
            have Hok := Lib.hid hok
            clear hok
            have hv : ∃ x y, dayV (numL_Y [a, b, c, d]) (numL_Y [f, g]) (numL_Y [i, j]) = .tuple #[.int .i64 x, .int .i64 y] := by
              unfold dayV
              split
              · exact ⟨_, _, rfl⟩
              · exact ⟨_, _, rfl⟩
            obtain ⟨x, y, hxy⟩ := hv
            have Hxy := Lib.hid hxy
            have hday := day_any (numL_Y [a, b, c, d]) (numL_Y [f, g]) (numL_Y [i, j])
            rw [hxy] at hday
            clear hxy
            go_wp2_with (go_at_call 89; refine (hday _).mono ?_; rintro e w2 ⟨rfl, hb2⟩
                         replace hb := hb.trans hb2; clear hb2)
            go_ret2
            exact ⟨by rw [Hok.out, Hxy.out]; rfl, hb⟩
      · rw [show parseV_Y s = badV by rw [hs']; simp [parseV_Y, hh]]
        have b1 : (((s[7]'(by omega)).toNat : Int) != 45) = true := by rw [i7]; exact u8_ne hh
        clear hh i4 i7 hs'
        unfold badV
        go_enter Tryz.func62, Tryz.ntmps62
        go_wp2
        go_ret2
        exact ⟨rfl, Bel.refl _⟩
    · rw [show parseV_Y s = badV by rw [hs']; simp [parseV_Y, he]]
      have b1 : (((s[4]'(by omega)).toNat : Int) != 45) = true := by rw [i4]; exact u8_ne he
      clear he i4 i7 hs'
      unfold badV
      go_enter Tryz.func62, Tryz.ntmps62
      go_wp2
      go_ret2
      exact ⟨rfl, Bel.refl _⟩
  · rw [parseV_no s hs]
    have b1 : (((s.size : Nat) : Int) != 10) = true := by simp; omega
    clear hs
    unfold badV
    go_enter Tryz.func62, Tryz.ntmps62
    go_wp2
    go_ret2
    exact ⟨rfl, Bel.refl _⟩
theorem dayV_sh (a b c : Int) : ∃ x y, dayV a b c = .tuple #[.int .i64 x, .int .i64 y] := by
  unfold dayV
  split
  · exact ⟨_, _, rfl⟩
  · exact ⟨_, _, rfl⟩
theorem dgt_nat (n k : Nat) : (dgt_Y n k).toNat = 48 + n / k % 10 := by
  unfold dgt_Y
  rw [UInt8.toNat_ofNat']
  omega
theorem dB_dgt (n k : Nat) : dB_Y (dgt_Y n k) = true := by simp only [dB_Y, dgt_nat, decide_eq_true_eq]; omega
theorem numL_4 (n : Nat) (h : n < 10000) : numL_Y [dgt_Y n 1000, dgt_Y n 100, dgt_Y n 10, dgt_Y n 1] = n := by
  simp only [numL_Y, List.foldl_cons, List.foldl_nil, dgt_nat]; omega
theorem numL_2 (n : Nat) (h : n < 100) : numL_Y [dgt_Y n 10, dgt_Y n 1] = n := by
  simp only [numL_Y, List.foldl_cons, List.foldl_nil, dgt_nat]; omega
theorem parse_txt (y m d : Nat) (hy : y < 10000) (hm : m < 100) (hd : d < 100) : parseV_Y (txt y m d) = dayV y m d := by
  have : parseV_Y (txt y m d) = parseL (dgt_Y y 1000) (dgt_Y y 100) (dgt_Y y 10) (dgt_Y y 1) (dgt_Y m 10) (dgt_Y m 1) (dgt_Y d 10) (dgt_Y d 1) := by simp [parseV_Y, txt]
  rw [this, parseL, if_pos ⟨by simp [dOk_Y, dB_dgt], by simp [dOk_Y, dB_dgt], by simp [dOk_Y, dB_dgt]⟩, numL_4 y hy, numL_2 m hm, numL_2 d hd]
theorem back (n : Int) (h1 : 0 ≤ n) (h2 : n ≤ 3652058) : dateV n = .tuple #[.int .i64 (dY n), .int .i64 (dM n), .int .i64 (dD n), .int .i64 0] ∧
    dayV (dY n) (dM n) (dD n) = .tuple #[.int .i64 n, .int .i64 0] ∧ textV_Y n = .tuple #[.string (dtx n), .int .i64 0] ∧
    parseV_Y (dtx n) = .tuple #[.int .i64 n, .int .i64 0] ∧ (dtx n).size = 10 := by
  obtain ⟨hs, hn⟩ := date_spec n h1 h2
  have hs' := hs
  obtain ⟨s1, s2, s3, s4, s5, s6⟩ := hs'
  have s7 := lenM_bd (dY n) (dM n)
  have hd : dayV (dY n) (dM n) (dD n) = .tuple #[.int .i64 n, .int .i64 0] := by rw [show dayV (dY n) (dM n) (dD n) = _ from if_pos hs, hn]
  refine ⟨if_pos ⟨h1, h2⟩, hd, if_pos ⟨h1, h2⟩, ?_, rfl⟩
  unfold dtx
  rw [parse_txt _ _ _ (by omega) (by omega) (by omega), show ((dY n).toNat : Int) = dY n by omega, show ((dM n).toNat : Int) = dM n by omega, show ((dD n).toNat : Int) = dD n by omega, hd]
def decI_Y (m : Nat) : List UInt8 := if m < 10 then [] else Lib.decDigits (m / 10)
theorem decI_eq_Y (m : Nat) : Lib.decDigits m = decI_Y m ++ [dgt_Y m 1] := by
  unfold decI_Y
  by_cases h : m < 10
  · rw [if_pos h, dec1_Y m h]; rfl
  · rw [if_neg h, decS_Y m (by omega)]
theorem conv1_Y (m : Nat) (z : Int) (hz : z = 48 + (m : Int) % 10) (w : World) : Sem.run Tryz.prog (convert 46 9 (.slice (some ⟨w.heap.size, 0, none⟩) 1 1)) (w.alloc (.cells #[.int .u8 z] 5)) =
    .ok (.string ⟨#[dgt_Y m 1]⟩) (w.alloc (.cells #[.int .u8 z] 5)) := by
  refine Lib.run_convert_whole (P := Tryz.prog) (w.alloc (.cells #[.int .u8 z] 5)) 46 5 9 (by kernel_rfl) (by kernel_rfl) (by kernel_rfl) w.heap.size 0 ⟨#[dgt_Y m 1]⟩ ?_ 1
  intro i hi
  obtain rfl : i = 0 := by simp [ByteArray.size] at hi; omega
  have h : (((⟨#[dgt_Y m 1]⟩ : ByteArray)[0]'hi).toNat : Int) = z := by
    show ((dgt_Y m 1).toNat : Int) = z
    rw [dgt_nat, hz]; omega
  rw [h]
  simp [go_sem]
set_option maxHeartbeats 2000000 in
theorem rnum_any (n : Nat) (hn : n < 10000) (w : World) : Calls Tryz.prog 104 #[.int .i64 n] w fun e w' => e = .returned (.string ⟨(Lib.decDigits n).toArray⟩) ∧ Bel w w' := by
  have hc := fun w => conv1_Y n (48 + (n : Int) % 10) rfl w
  have hlen := dec_len n hn
  have hlen4 := hlen.2.1
  clear hlen
  go_enter Tryz.func104, Tryz.ntmps104
  go_wp2_with fail
  clear hc
  go_loopg [0, 3] n (fun g v s wr => ∃ (m : Nat) (tl : List UInt8), v = .int .i64 m ∧ s = .string ⟨(dgt_Y m 1 :: tl).toArray⟩ ∧ Hid (Lib.decDigits n = decI_Y m ++ dgt_Y m 1 :: tl) ∧ m < 10000 ∧ Bel w wr ∧ g = m)
  case atStart => exact ⟨n, [], rfl, rfl, decI_eq_Y n, hn, (Bel.refl w).alloc _, rfl⟩
  case round =>
    obtain ⟨m, tl, rfl, rfl, hd, hm, hb, hg⟩ := hrel
    have Hg := Lib.hid hg
    clear hg
    have htl : tl.length ≤ 3 := by
      have h := congrArg List.length hd.out
      simp at h; omega
    by_cases hm10 : m < 10
    · have hfin : Hid ((⟨(dgt_Y m 1 :: tl).toArray⟩ : ByteArray) = ⟨(Lib.decDigits n).toArray⟩) := by
        simp only [Hid]; rw [hd.out, decI_Y, if_pos hm10]; rfl
      go_wp2
      go_ret
      exact ⟨by rw [← hfin.out]; rfl, hb⟩
    · have hc := fun w => conv1_Y (m / 10) (48 + (m : Int) / 10 % 10) (by omega) w
      have hs : ¬ 9223372036854775807 < 1 + (tl.length + 1) := by omega
      have hnext : Hid (Lib.decDigits n = decI_Y (m / 10) ++ dgt_Y (m / 10) 1 :: (dgt_Y m 1 :: tl)) := by
        simp only [Hid]; rw [hd.out]
        have : decI_Y m = decI_Y (m / 10) ++ [dgt_Y (m / 10) 1] := by rw [← decI_eq_Y]; unfold decI_Y; rw [if_neg hm10]
        rw [this]; simp
      go_wp2_with fail
      go_roundg (m / 10)
      case measure => have := Hg.out; omega
      case rel => exact ⟨m / 10, dgt_Y m 1 :: tl, by go_num, by rw [show dgt_Y (m / 10) 1 :: dgt_Y m 1 :: tl = [dgt_Y (m / 10) 1] ++ (dgt_Y m 1 :: tl) from rfl, ← app_bytes_Y], hnext, by omega, hb.alloc _, rfl⟩
set_option maxHeartbeats 2000000 in
theorem rpadded_t (n k : Nat) (hn : n < 10000) (hk : (Lib.decDigits n).length ≤ k) (hk4 : k ≤ 4) (w : World) : Calls Tryz.prog 77 #[.int .i64 n, .int .i64 k] w fun e w' =>
    e = .returned (.string ⟨(padL_Y k n).toArray⟩) ∧ Bel w w' := by
  have Hk := Lib.hid hk
  clear hk
  have hlen := (dec_len n hn).2.1
  go_enter Tryz.func77, Tryz.ntmps77
  go_wp2_with (go_at_call 104; refine (rnum_any n hn _).mono ?_; rintro e w1 ⟨rfl, hb1⟩)
  go_loopg [5] (k - (Lib.decDigits n).length) (fun g s wr => ∃ (L : List UInt8) (c : Nat), s = .string ⟨L.toArray⟩ ∧ Hid (L = Lib.repeatL [48] c ++ Lib.decDigits n ∧ L.length = c + (Lib.decDigits n).length ∧ L.length ≤ k ∧ g = k - L.length) ∧ Bel w wr)
  case atStart => exact ⟨Lib.decDigits n, 0, rfl, ⟨rfl, by omega, Hk.out, rfl⟩, hb1⟩
  case round =>
    obtain ⟨L, c, rfl, hL, hb⟩ := hrel
    clear hb1
    have hL4 : L.length ≤ 4 := by have := hL.out.2.2.1; omega
    by_cases hlt : L.length < k
    · have hs : ¬ 9223372036854775807 < 1 + L.length := by omega
      have hcon : Hid ((⟨#[48]⟩ : ByteArray) ++ ⟨L.toArray⟩ = ⟨(48 :: L).toArray⟩) := app_bytes_Y [48] L
      go_wp2_with fail
      go_roundg (gk - 1)
      case measure => have := hL.out.2.2.2; omega
      case rel => exact ⟨48 :: L, c + 1, by rw [← hcon.out], ⟨by rw [hL.out.1]; rfl, by have := hL.out.2.1; simp; omega, by simp; omega, by have := hL.out.2.2.2; simp; omega⟩, hb⟩
    · have hfin : Hid (L = padL_Y k n) := by
        have h1 := hL.out.1
        have h2 := hL.out.2.1
        have h3 := hL.out.2.2.1
        simp only [Hid]; rw [h1, padL_Y, show c = k - (Lib.decDigits n).length by omega]
      go_wp2
      go_ret
      exact ⟨by rw [← hfin.out]; rfl, hb⟩
def padZ (z k : Int) : ByteArray := ⟨(padL_Y k.toNat z.toNat).toArray⟩
theorem padZ_4 (z : Int) (h0 : 0 ≤ z) (h1 : z < 10000) : padZ z 4 = ⟨#[dgt_Y z.toNat 1000, dgt_Y z.toNat 100, dgt_Y z.toNat 10, dgt_Y z.toNat 1]⟩ := by
  unfold padZ
  rw [show (4 : Int).toNat = 4 from rfl, padL_4 _ (by omega)]; rfl
theorem padZ_2 (z : Int) (h0 : 0 ≤ z) (h1 : z < 100) : padZ z 2 = ⟨#[dgt_Y z.toNat 10, dgt_Y z.toNat 1]⟩ := by
  unfold padZ
  rw [show (2 : Int).toNat = 2 from rfl, padL_2 _ (by omega)]; rfl
theorem rpadded_z (z k : Int) (h0 : 0 ≤ z) (h1 : z < 10000) (hk : k = 4 ∨ (k = 2 ∧ z < 100)) (w : World) : Calls Tryz.prog 77 #[.int .i64 z, .int .i64 k] w fun e w' => e = .returned (.string (padZ z k)) ∧ Bel w w' := by
  obtain ⟨n, rfl⟩ : ∃ n : Nat, z = n := ⟨z.toNat, by omega⟩
  obtain ⟨q, rfl⟩ : ∃ q : Nat, k = q := ⟨k.toNat, by omega⟩
  have := dec_len n (by omega)
  exact rpadded_t n q (by omega) (by omega) (by omega) w
set_option maxHeartbeats 2000000 in
theorem rtext_any_Y (n : Int) (w : World) : Calls Tryz.prog 52 #[.int .i64 n] w fun e w' => e = .returned (textV_Y n) ∧ Bel w w' := by
  have hb : Bel w w := Bel.refl _
  by_cases h : 0 ≤ n ∧ n ≤ 3652058
  · rw [show textV_Y n = _ from if_pos h]
    obtain ⟨h1, h2⟩ := h
    have hl : Hid (txt (dY n).toNat (dM n).toNat (dD n).toNat = dtx n) := rfl
    obtain ⟨⟨s1, s2, s3, s4, s5, s6⟩, -⟩ := date_spec n h1 h2
    have s7 := lenM_bd (dY n) (dM n)
    have hd := Lib.hid (back n h1 h2).1
    generalize dY n = y at *
    generalize dM n = m at *
    generalize dD n = d at *
    have p1 := Lib.hid (padZ_4 y (by omega) (by omega))
    have p2 := Lib.hid (padZ_2 m (by omega) (by omega))
    have p3 := Lib.hid (padZ_2 d (by omega) (by omega))
    go_enter Tryz.func52, Tryz.ntmps52
    go_wp2_with (first
      | (go_at_call 76; refine (rdate_any _ _).mono ?_; rintro e w1 ⟨rfl, hb1⟩; rw [hd.out]; replace hb := hb.trans hb1; clear hb1)
      | (go_at_call 77; refine (rpadded_z _ _ (by omega) (by omega) (by omega) _).mono ?_; rintro e w1 ⟨rfl, hb1⟩; (first | rw [p1.out] | rw [p2.out] | rw [p3.out]); replace hb := hb.trans hb1; clear hb1))
    go_ret2
    exact ⟨by rw [txt_eq, hl.out]; rfl, hb⟩
  · rw [show textV_Y n = _ from if_neg h]
    have hd := Lib.hid (show dateV n = _ from if_neg h)
    clear h
    go_enter Tryz.func52, Tryz.ntmps52
    go_wp2_with (go_at_call 76; refine (rdate_any _ _).mono ?_; rintro e w1 ⟨rfl, hb1⟩; rw [hd.out]; replace hb := hb.trans hb1; clear hb1)
    go_ret2
    exact ⟨rfl, hb⟩
theorem dB_lo {x : UInt8} (h : dB_Y x = true) : 48 ≤ x.toNat := by simp only [dB_Y, decide_eq_true_eq] at h; exact h.1
theorem dB_hi {x : UInt8} (h : dB_Y x = true) : x.toNat ≤ 57 := by simp only [dB_Y, decide_eq_true_eq] at h; exact h.2
set_option maxRecDepth 100000 in
set_option maxHeartbeats 8000000 in
theorem rparse_any_Y (s : ByteArray) (w : World) : Calls Tryz.prog 42 #[.string s] w fun e w' => e = .returned (parseV_Y s) ∧ Bel w w' := by
  by_cases hs : s.size = 10
  · obtain ⟨a, b, c, d, e, f, g, h, i, j, hs'⟩ := ten s hs
    have i0 : s[0]'(by omega) = a := by subst hs'; rfl
    have i1 : s[1]'(by omega) = b := by subst hs'; rfl
    have i2 : s[2]'(by omega) = c := by subst hs'; rfl
    have i3 : s[3]'(by omega) = d := by subst hs'; rfl
    have i4 : s[4]'(by omega) = e := by subst hs'; rfl
    have i5 : s[5]'(by omega) = f := by subst hs'; rfl
    have i6 : s[6]'(by omega) = g := by subst hs'; rfl
    have i7 : s[7]'(by omega) = h := by subst hs'; rfl
    have i8 : s[8]'(by omega) = i := by subst hs'; rfl
    have i9 : s[9]'(by omega) = j := by subst hs'; rfl
    have hyes : (dB_Y a = true ∧ dB_Y b = true ∧ dB_Y c = true ∧ dB_Y d = true ∧ e = 45 ∧ dB_Y f = true ∧ dB_Y g = true ∧ h = 45 ∧ dB_Y i = true ∧ dB_Y j = true) → parseV_Y s = dayV (numL_Y [a, b, c, d]) (numL_Y [f, g]) (numL_Y [i, j]) := fun hh => by
      rw [hs', parseV_Y]
      simp_all [parseL, dOk_Y]
    have hno : ¬ (dB_Y a = true ∧ dB_Y b = true ∧ dB_Y c = true ∧ dB_Y d = true ∧ e = 45 ∧ dB_Y f = true ∧ dB_Y g = true ∧ h = 45 ∧ dB_Y i = true ∧ dB_Y j = true) → parseV_Y s = badV := fun hh => by
      rw [hs', parseV_Y]
      simp only
      by_cases h1 : e = 45 ∧ h = 45
      · rw [if_pos h1, parseL]
        refine if_neg fun h2 => hh ?_
        simp [dOk_Y] at h2
        simp_all
      · exact if_neg h1
    clear hs'
    unfold badV at hno
    have HNO := Lib.hid hno
    have HYES := Lib.hid hyes
    clear hno hyes
    go_enter Tryz.func42, Tryz.ntmps42
    go_wp2_with fail
    refine under_name ((Bel.refl w).alloc _) fun W hc hf hz hb => ?_
    have hA : Sl3 W w.heap.size 0 0 0 := by simp [Sl3, Arr3, Free3, hz, hc, hf, go_sem]
    clear hc hf hz
    go_loopg [5, 6] 10 (fun g' k' i' wr => Bel w wr ∧
          ((i' = .int .i64 0 ∧ k' = .int .i64 0 ∧ g' = 10 ∧ Sl3 wr w.heap.size 0 0 0) ∨
           (i' = .int .i64 1 ∧ k' = .int .i64 0 ∧ g' = 9 ∧ Sl3 wr w.heap.size (numL_Y [a]) 0 0 ∧ Hid (dB_Y a = true)) ∨
           (i' = .int .i64 2 ∧ k' = .int .i64 0 ∧ g' = 8 ∧ Sl3 wr w.heap.size (numL_Y [a, b]) 0 0 ∧ Hid (dB_Y a = true ∧ dB_Y b = true)) ∨
           (i' = .int .i64 3 ∧ k' = .int .i64 0 ∧ g' = 7 ∧ Sl3 wr w.heap.size (numL_Y [a, b, c]) 0 0 ∧ Hid (dB_Y a = true ∧ dB_Y b = true ∧ dB_Y c = true)) ∨
           (i' = .int .i64 4 ∧ k' = .int .i64 0 ∧ g' = 6 ∧ Sl3 wr w.heap.size (numL_Y [a, b, c, d]) 0 0 ∧ Hid (dB_Y a = true ∧ dB_Y b = true ∧ dB_Y c = true ∧ dB_Y d = true)) ∨
           (i' = .int .i64 5 ∧ k' = .int .i64 1 ∧ g' = 5 ∧ Sl3 wr w.heap.size (numL_Y [a, b, c, d]) 0 0 ∧ Hid (dB_Y a = true ∧ dB_Y b = true ∧ dB_Y c = true ∧ dB_Y d = true ∧ e = 45)) ∨
           (i' = .int .i64 6 ∧ k' = .int .i64 1 ∧ g' = 4 ∧ Sl3 wr w.heap.size (numL_Y [a, b, c, d]) (numL_Y [f]) 0 ∧ Hid (dB_Y a = true ∧ dB_Y b = true ∧ dB_Y c = true ∧ dB_Y d = true ∧ e = 45 ∧ dB_Y f = true)) ∨
           (i' = .int .i64 7 ∧ k' = .int .i64 1 ∧ g' = 3 ∧ Sl3 wr w.heap.size (numL_Y [a, b, c, d]) (numL_Y [f, g]) 0 ∧ Hid (dB_Y a = true ∧ dB_Y b = true ∧ dB_Y c = true ∧ dB_Y d = true ∧ e = 45 ∧ dB_Y f = true ∧ dB_Y g = true)) ∨
           (i' = .int .i64 8 ∧ k' = .int .i64 2 ∧ g' = 2 ∧ Sl3 wr w.heap.size (numL_Y [a, b, c, d]) (numL_Y [f, g]) 0 ∧ Hid (dB_Y a = true ∧ dB_Y b = true ∧ dB_Y c = true ∧ dB_Y d = true ∧ e = 45 ∧ dB_Y f = true ∧ dB_Y g = true ∧ h = 45)) ∨
           (i' = .int .i64 9 ∧ k' = .int .i64 2 ∧ g' = 1 ∧ Sl3 wr w.heap.size (numL_Y [a, b, c, d]) (numL_Y [f, g]) (numL_Y [i]) ∧ Hid (dB_Y a = true ∧ dB_Y b = true ∧ dB_Y c = true ∧ dB_Y d = true ∧ e = 45 ∧ dB_Y f = true ∧ dB_Y g = true ∧ h = 45 ∧ dB_Y i = true)) ∨
           (i' = .int .i64 10 ∧ k' = .int .i64 2 ∧ g' = 0 ∧ Sl3 wr w.heap.size (numL_Y [a, b, c, d]) (numL_Y [f, g]) (numL_Y [i, j]) ∧ Hid (dB_Y a = true ∧ dB_Y b = true ∧ dB_Y c = true ∧ dB_Y d = true ∧ e = 45 ∧ dB_Y f = true ∧ dB_Y g = true ∧ h = 45 ∧ dB_Y i = true ∧ dB_Y j = true))))
    case atStart => exact ⟨hb, .inl ⟨rfl, rfl, rfl, hA⟩⟩
    case round =>
          clear hb hA
          obtain ⟨hb, ⟨rfl, rfl, hg, hA⟩ | ⟨rfl, rfl, hg, hA, hd⟩ | ⟨rfl, rfl, hg, hA, hd⟩ | ⟨rfl, rfl, hg, hA, hd⟩ | ⟨rfl, rfl, hg, hA, hd⟩ | ⟨rfl, rfl, hg, hA, hd⟩ | ⟨rfl, rfl, hg, hA, hd⟩ | ⟨rfl, rfl, hg, hA, hd⟩ | ⟨rfl, rfl, hg, hA, hd⟩ | ⟨rfl, rfl, hg, hA, hd⟩ | ⟨rfl, rfl, hg, hA, hd⟩⟩ := hrel
          · have Hg := Lib.hid hg
            clear hg
            by_cases h1 : 48 ≤ a.toNat
            · by_cases h2 : a.toNat ≤ 57
              · have Hn : Hid (dB_Y a = true) := by have hok : dB_Y a = true := decide_eq_true (p := 48 ≤ a.toNat ∧ a.toNat ≤ 57) ⟨h1, h2⟩; exact hok
                have b1 : decide ((a.toNat : Int) < 48) = false := by simp; omega
                have b2 : decide (57 < (a.toNat : Int)) = false := by simp; omega
                have hnew := Lib.hid (show ((numL_Y [a] : Nat) : Int) = ((a.toNat : Int) - 48) by rw [show numL_Y [a] = 0 * 10 + (a.toNat - 48) from rfl]; omega)
                go_wp2_with fail
                go_region
                go_wp2_with fail
                go_roundg 9
                case measure => have := Hg.out; omega
                case rel => exact ⟨by repeat (first | exact hb | apply Bel.drew | refine Bel.setCell ?_ (by simp) _), (.inr (.inl ⟨rfl, rfl, rfl, by rw [hnew.out]; simp [Sl3, Arr3, Free3, go_sem, hA], Hn⟩))⟩
              · have hbad := Lib.hid (HNO.out (fun hh => h2 (dB_hi hh.1)))
                have b1 : decide ((a.toNat : Int) < 48) = false := by simp; omega
                have b2 : decide (57 < (a.toNat : Int)) = true := by simp; omega
                go_wp2
                go_ret2
                exact ⟨by rw [hbad.out]; rfl, hb⟩
            · have hbad := Lib.hid (HNO.out (fun hh => h1 (dB_lo hh.1)))
              have b1 : decide ((a.toNat : Int) < 48) = true := by simp; omega
              go_wp2
              go_ret2
              exact ⟨by rw [hbad.out]; rfl, hb⟩
          · have Hg := Lib.hid hg
            clear hg
            by_cases h1 : 48 ≤ b.toNat
            · by_cases h2 : b.toNat ≤ 57
              · have Hn : Hid (dB_Y a = true ∧ dB_Y b = true) := by have hok : dB_Y b = true := decide_eq_true (p := 48 ≤ b.toNat ∧ b.toNat ≤ 57) ⟨h1, h2⟩; have q0 := hd.out; exact ⟨q0, hok⟩
                have b1 : decide ((b.toNat : Int) < 48) = false := by simp; omega
                have b2 : decide (57 < (b.toNat : Int)) = false := by simp; omega
                have hbd : numL_Y [a] ≤ 9999 := by have q0 := hd.out; exact numL_bd_Y _ (by simp [dOk_Y, q0]) (by simp)
                have hnew := Lib.hid (show ((numL_Y [a, b] : Nat) : Int) = ((numL_Y [a] : Nat) : Int) * 10 + ((b.toNat : Int) - 48) by rw [show numL_Y [a, b] = numL_Y [a] * 10 + (b.toNat - 48) from rfl]; omega)
                go_wp2_with fail
                go_region
                go_wp2_with fail
                go_roundg 8
                case measure => have := Hg.out; omega
                case rel => exact ⟨by repeat (first | exact hb | apply Bel.drew | refine Bel.setCell ?_ (by simp) _), (.inr (.inr (.inl ⟨rfl, rfl, rfl, by rw [hnew.out]; simp [Sl3, Arr3, Free3, go_sem, hA], Hn⟩)))⟩
              · have hbad := Lib.hid (HNO.out (fun hh => h2 (dB_hi hh.2.1)))
                have b1 : decide ((b.toNat : Int) < 48) = false := by simp; omega
                have b2 : decide (57 < (b.toNat : Int)) = true := by simp; omega
                go_wp2
                go_ret2
                exact ⟨by rw [hbad.out]; rfl, hb⟩
            · have hbad := Lib.hid (HNO.out (fun hh => h1 (dB_lo hh.2.1)))
              have b1 : decide ((b.toNat : Int) < 48) = true := by simp; omega
              go_wp2
              go_ret2
              exact ⟨by rw [hbad.out]; rfl, hb⟩
          · have Hg := Lib.hid hg
            clear hg
            by_cases h1 : 48 ≤ c.toNat
            · by_cases h2 : c.toNat ≤ 57
              · have Hn : Hid (dB_Y a = true ∧ dB_Y b = true ∧ dB_Y c = true) := by have hok : dB_Y c = true := decide_eq_true (p := 48 ≤ c.toNat ∧ c.toNat ≤ 57) ⟨h1, h2⟩; obtain ⟨q0, q1⟩ := hd.out; exact ⟨q0, q1, hok⟩
                have b1 : decide ((c.toNat : Int) < 48) = false := by simp; omega
                have b2 : decide (57 < (c.toNat : Int)) = false := by simp; omega
                have hbd : numL_Y [a, b] ≤ 9999 := by obtain ⟨q0, q1⟩ := hd.out; exact numL_bd_Y _ (by simp [dOk_Y, q0, q1]) (by simp)
                have hnew := Lib.hid (show ((numL_Y [a, b, c] : Nat) : Int) = ((numL_Y [a, b] : Nat) : Int) * 10 + ((c.toNat : Int) - 48) by rw [show numL_Y [a, b, c] = numL_Y [a, b] * 10 + (c.toNat - 48) from rfl]; omega)
                go_wp2_with fail
                go_region
                go_wp2_with fail
                go_roundg 7
                case measure => have := Hg.out; omega
                case rel => exact ⟨by repeat (first | exact hb | apply Bel.drew | refine Bel.setCell ?_ (by simp) _), (.inr (.inr (.inr (.inl ⟨rfl, rfl, rfl, by rw [hnew.out]; simp [Sl3, Arr3, Free3, go_sem, hA], Hn⟩))))⟩
              · have hbad := Lib.hid (HNO.out (fun hh => h2 (dB_hi hh.2.2.1)))
                have b1 : decide ((c.toNat : Int) < 48) = false := by simp; omega
                have b2 : decide (57 < (c.toNat : Int)) = true := by simp; omega
                go_wp2
                go_ret2
                exact ⟨by rw [hbad.out]; rfl, hb⟩
            · have hbad := Lib.hid (HNO.out (fun hh => h1 (dB_lo hh.2.2.1)))
              have b1 : decide ((c.toNat : Int) < 48) = true := by simp; omega
              go_wp2
              go_ret2
              exact ⟨by rw [hbad.out]; rfl, hb⟩
          · have Hg := Lib.hid hg
            clear hg
            by_cases h1 : 48 ≤ d.toNat
            · by_cases h2 : d.toNat ≤ 57
              · have Hn : Hid (dB_Y a = true ∧ dB_Y b = true ∧ dB_Y c = true ∧ dB_Y d = true) := by have hok : dB_Y d = true := decide_eq_true (p := 48 ≤ d.toNat ∧ d.toNat ≤ 57) ⟨h1, h2⟩; obtain ⟨q0, q1, q2⟩ := hd.out; exact ⟨q0, q1, q2, hok⟩
                have b1 : decide ((d.toNat : Int) < 48) = false := by simp; omega
                have b2 : decide (57 < (d.toNat : Int)) = false := by simp; omega
                have hbd : numL_Y [a, b, c] ≤ 9999 := by obtain ⟨q0, q1, q2⟩ := hd.out; exact numL_bd_Y _ (by simp [dOk_Y, q0, q1, q2]) (by simp)
                have hnew := Lib.hid (show ((numL_Y [a, b, c, d] : Nat) : Int) = ((numL_Y [a, b, c] : Nat) : Int) * 10 + ((d.toNat : Int) - 48) by rw [show numL_Y [a, b, c, d] = numL_Y [a, b, c] * 10 + (d.toNat - 48) from rfl]; omega)
                go_wp2_with fail
                go_region
                go_wp2_with fail
                go_roundg 6
                case measure => have := Hg.out; omega
                case rel => exact ⟨by repeat (first | exact hb | apply Bel.drew | refine Bel.setCell ?_ (by simp) _), (.inr (.inr (.inr (.inr (.inl ⟨rfl, rfl, rfl, by rw [hnew.out]; simp [Sl3, Arr3, Free3, go_sem, hA], Hn⟩)))))⟩
              · have hbad := Lib.hid (HNO.out (fun hh => h2 (dB_hi hh.2.2.2.1)))
                have b1 : decide ((d.toNat : Int) < 48) = false := by simp; omega
                have b2 : decide (57 < (d.toNat : Int)) = true := by simp; omega
                go_wp2
                go_ret2
                exact ⟨by rw [hbad.out]; rfl, hb⟩
            · have hbad := Lib.hid (HNO.out (fun hh => h1 (dB_lo hh.2.2.2.1)))
              have b1 : decide ((d.toNat : Int) < 48) = true := by simp; omega
              go_wp2
              go_ret2
              exact ⟨by rw [hbad.out]; rfl, hb⟩
          · have Hg := Lib.hid hg
            clear hg
            by_cases hok : e = 45
            · have Hn : Hid (dB_Y a = true ∧ dB_Y b = true ∧ dB_Y c = true ∧ dB_Y d = true ∧ e = 45) := by obtain ⟨q0, q1, q2, q3⟩ := hd.out; exact ⟨q0, q1, q2, q3, hok⟩
              have b1 : ((e.toNat : Int) != 45) = false := by rw [hok]; rfl
              clear hok
              go_wp2
              go_roundg 5
              case measure => have := Hg.out; omega
              case rel => exact ⟨hb, (.inr (.inr (.inr (.inr (.inr (.inl ⟨rfl, rfl, rfl, hA, Hn⟩))))))⟩
            · have hbad := Lib.hid (HNO.out (fun hh => hok hh.2.2.2.2.1))
              have b1 : ((e.toNat : Int) != 45) = true := u8_ne hok
              clear hok
              go_wp2
              go_ret2
              exact ⟨by rw [hbad.out]; rfl, hb⟩
          · have Hg := Lib.hid hg
            clear hg
            by_cases h1 : 48 ≤ f.toNat
            · by_cases h2 : f.toNat ≤ 57
              · have Hn : Hid (dB_Y a = true ∧ dB_Y b = true ∧ dB_Y c = true ∧ dB_Y d = true ∧ e = 45 ∧ dB_Y f = true) := by have hok : dB_Y f = true := decide_eq_true (p := 48 ≤ f.toNat ∧ f.toNat ≤ 57) ⟨h1, h2⟩; obtain ⟨q0, q1, q2, q3, q4⟩ := hd.out; exact ⟨q0, q1, q2, q3, q4, hok⟩
                have b1 : decide ((f.toNat : Int) < 48) = false := by simp; omega
                have b2 : decide (57 < (f.toNat : Int)) = false := by simp; omega
                have hnew := Lib.hid (show ((numL_Y [f] : Nat) : Int) = ((f.toNat : Int) - 48) by rw [show numL_Y [f] = 0 * 10 + (f.toNat - 48) from rfl]; omega)
                go_wp2_with fail
                go_region
                go_wp2_with fail
                go_roundg 4
                case measure => have := Hg.out; omega
                case rel => exact ⟨by repeat (first | exact hb | apply Bel.drew | refine Bel.setCell ?_ (by simp) _), (.inr (.inr (.inr (.inr (.inr (.inr (.inl ⟨rfl, rfl, rfl, by rw [hnew.out]; simp [Sl3, Arr3, Free3, go_sem, hA], Hn⟩)))))))⟩
              · have hbad := Lib.hid (HNO.out (fun hh => h2 (dB_hi hh.2.2.2.2.2.1)))
                have b1 : decide ((f.toNat : Int) < 48) = false := by simp; omega
                have b2 : decide (57 < (f.toNat : Int)) = true := by simp; omega
                go_wp2
                go_ret2
                exact ⟨by rw [hbad.out]; rfl, hb⟩
            · have hbad := Lib.hid (HNO.out (fun hh => h1 (dB_lo hh.2.2.2.2.2.1)))
              have b1 : decide ((f.toNat : Int) < 48) = true := by simp; omega
              go_wp2
              go_ret2
              exact ⟨by rw [hbad.out]; rfl, hb⟩
          · have Hg := Lib.hid hg
            clear hg
            by_cases h1 : 48 ≤ g.toNat
            · by_cases h2 : g.toNat ≤ 57
              · have Hn : Hid (dB_Y a = true ∧ dB_Y b = true ∧ dB_Y c = true ∧ dB_Y d = true ∧ e = 45 ∧ dB_Y f = true ∧ dB_Y g = true) := by have hok : dB_Y g = true := decide_eq_true (p := 48 ≤ g.toNat ∧ g.toNat ≤ 57) ⟨h1, h2⟩; obtain ⟨q0, q1, q2, q3, q4, q5⟩ := hd.out; exact ⟨q0, q1, q2, q3, q4, q5, hok⟩
                have b1 : decide ((g.toNat : Int) < 48) = false := by simp; omega
                have b2 : decide (57 < (g.toNat : Int)) = false := by simp; omega
                have hbd : numL_Y [f] ≤ 9999 := by obtain ⟨q0, q1, q2, q3, q4, q5⟩ := hd.out; exact numL_bd_Y _ (by simp [dOk_Y, q0, q1, q2, q3, q4, q5]) (by simp)
                have hnew := Lib.hid (show ((numL_Y [f, g] : Nat) : Int) = ((numL_Y [f] : Nat) : Int) * 10 + ((g.toNat : Int) - 48) by rw [show numL_Y [f, g] = numL_Y [f] * 10 + (g.toNat - 48) from rfl]; omega)
                go_wp2_with fail
                go_region
                go_wp2_with fail
                go_roundg 3
                case measure => have := Hg.out; omega
                case rel => exact ⟨by repeat (first | exact hb | apply Bel.drew | refine Bel.setCell ?_ (by simp) _), (.inr (.inr (.inr (.inr (.inr (.inr (.inr (.inl ⟨rfl, rfl, rfl, by rw [hnew.out]; simp [Sl3, Arr3, Free3, go_sem, hA], Hn⟩))))))))⟩
              · have hbad := Lib.hid (HNO.out (fun hh => h2 (dB_hi hh.2.2.2.2.2.2.1)))
                have b1 : decide ((g.toNat : Int) < 48) = false := by simp; omega
                have b2 : decide (57 < (g.toNat : Int)) = true := by simp; omega
                go_wp2
                go_ret2
                exact ⟨by rw [hbad.out]; rfl, hb⟩
            · have hbad := Lib.hid (HNO.out (fun hh => h1 (dB_lo hh.2.2.2.2.2.2.1)))
              have b1 : decide ((g.toNat : Int) < 48) = true := by simp; omega
              go_wp2
              go_ret2
              exact ⟨by rw [hbad.out]; rfl, hb⟩
          · have Hg := Lib.hid hg
            clear hg
            by_cases hok : h = 45
            · have Hn : Hid (dB_Y a = true ∧ dB_Y b = true ∧ dB_Y c = true ∧ dB_Y d = true ∧ e = 45 ∧ dB_Y f = true ∧ dB_Y g = true ∧ h = 45) := by obtain ⟨q0, q1, q2, q3, q4, q5, q6⟩ := hd.out; exact ⟨q0, q1, q2, q3, q4, q5, q6, hok⟩
              have b1 : ((h.toNat : Int) != 45) = false := by rw [hok]; rfl
              clear hok
              go_wp2
              go_roundg 2
              case measure => have := Hg.out; omega
              case rel => exact ⟨hb, (.inr (.inr (.inr (.inr (.inr (.inr (.inr (.inr (.inl ⟨rfl, rfl, rfl, hA, Hn⟩)))))))))⟩
            · have hbad := Lib.hid (HNO.out (fun hh => hok hh.2.2.2.2.2.2.2.1))
              have b1 : ((h.toNat : Int) != 45) = true := u8_ne hok
              clear hok
              go_wp2
              go_ret2
              exact ⟨by rw [hbad.out]; rfl, hb⟩
          · have Hg := Lib.hid hg
            clear hg
            by_cases h1 : 48 ≤ i.toNat
            · by_cases h2 : i.toNat ≤ 57
              · have Hn : Hid (dB_Y a = true ∧ dB_Y b = true ∧ dB_Y c = true ∧ dB_Y d = true ∧ e = 45 ∧ dB_Y f = true ∧ dB_Y g = true ∧ h = 45 ∧ dB_Y i = true) := by have hok : dB_Y i = true := decide_eq_true (p := 48 ≤ i.toNat ∧ i.toNat ≤ 57) ⟨h1, h2⟩; obtain ⟨q0, q1, q2, q3, q4, q5, q6, q7⟩ := hd.out; exact ⟨q0, q1, q2, q3, q4, q5, q6, q7, hok⟩
                have b1 : decide ((i.toNat : Int) < 48) = false := by simp; omega
                have b2 : decide (57 < (i.toNat : Int)) = false := by simp; omega
                have hnew := Lib.hid (show ((numL_Y [i] : Nat) : Int) = ((i.toNat : Int) - 48) by rw [show numL_Y [i] = 0 * 10 + (i.toNat - 48) from rfl]; omega)
                go_wp2_with fail
                go_region
                go_wp2_with fail
                go_roundg 1
                case measure => have := Hg.out; omega
                case rel => exact ⟨by repeat (first | exact hb | apply Bel.drew | refine Bel.setCell ?_ (by simp) _), (.inr (.inr (.inr (.inr (.inr (.inr (.inr (.inr (.inr (.inl ⟨rfl, rfl, rfl, by rw [hnew.out]; simp [Sl3, Arr3, Free3, go_sem, hA], Hn⟩))))))))))⟩
              · have hbad := Lib.hid (HNO.out (fun hh => h2 (dB_hi hh.2.2.2.2.2.2.2.2.1)))
                have b1 : decide ((i.toNat : Int) < 48) = false := by simp; omega
                have b2 : decide (57 < (i.toNat : Int)) = true := by simp; omega
                go_wp2
                go_ret2
                exact ⟨by rw [hbad.out]; rfl, hb⟩
            · have hbad := Lib.hid (HNO.out (fun hh => h1 (dB_lo hh.2.2.2.2.2.2.2.2.1)))
              have b1 : decide ((i.toNat : Int) < 48) = true := by simp; omega
              go_wp2
              go_ret2
              exact ⟨by rw [hbad.out]; rfl, hb⟩
          · have Hg := Lib.hid hg
            clear hg
            by_cases h1 : 48 ≤ j.toNat
            · by_cases h2 : j.toNat ≤ 57
              · have Hn : Hid (dB_Y a = true ∧ dB_Y b = true ∧ dB_Y c = true ∧ dB_Y d = true ∧ e = 45 ∧ dB_Y f = true ∧ dB_Y g = true ∧ h = 45 ∧ dB_Y i = true ∧ dB_Y j = true) := by have hok : dB_Y j = true := decide_eq_true (p := 48 ≤ j.toNat ∧ j.toNat ≤ 57) ⟨h1, h2⟩; obtain ⟨q0, q1, q2, q3, q4, q5, q6, q7, q8⟩ := hd.out; exact ⟨q0, q1, q2, q3, q4, q5, q6, q7, q8, hok⟩
                have b1 : decide ((j.toNat : Int) < 48) = false := by simp; omega
                have b2 : decide (57 < (j.toNat : Int)) = false := by simp; omega
                have hbd : numL_Y [i] ≤ 9999 := by obtain ⟨q0, q1, q2, q3, q4, q5, q6, q7, q8⟩ := hd.out; exact numL_bd_Y _ (by simp [dOk_Y, q0, q1, q2, q3, q4, q5, q6, q7, q8]) (by simp)
                have hnew := Lib.hid (show ((numL_Y [i, j] : Nat) : Int) = ((numL_Y [i] : Nat) : Int) * 10 + ((j.toNat : Int) - 48) by rw [show numL_Y [i, j] = numL_Y [i] * 10 + (j.toNat - 48) from rfl]; omega)
                go_wp2_with fail
                go_region
                go_wp2_with fail
                go_roundg 0
                case measure => have := Hg.out; omega
                case rel => exact ⟨by repeat (first | exact hb | apply Bel.drew | refine Bel.setCell ?_ (by simp) _), (.inr (.inr (.inr (.inr (.inr (.inr (.inr (.inr (.inr (.inr ⟨rfl, rfl, rfl, by rw [hnew.out]; simp [Sl3, Arr3, Free3, go_sem, hA], Hn⟩))))))))))⟩
              · have hbad := Lib.hid (HNO.out (fun hh => h2 (dB_hi hh.2.2.2.2.2.2.2.2.2)))
                have b1 : decide ((j.toNat : Int) < 48) = false := by simp; omega
                have b2 : decide (57 < (j.toNat : Int)) = true := by simp; omega
                go_wp2
                go_ret2
                exact ⟨by rw [hbad.out]; rfl, hb⟩
            · have hbad := Lib.hid (HNO.out (fun hh => h1 (dB_lo hh.2.2.2.2.2.2.2.2.2)))
              have b1 : decide ((j.toNat : Int) < 48) = true := by simp; omega
              go_wp2
              go_ret2
              exact ⟨by rw [hbad.out]; rfl, hb⟩
          · have hgood := Lib.hid (HYES.out hd.out)
            have hv := dayV_sh (numL_Y [a, b, c, d]) (numL_Y [f, g]) (numL_Y [i, j])
            obtain ⟨x, y, hxy⟩ := hv
            have Hxy := Lib.hid hxy
            have hday := rday_any (numL_Y [a, b, c, d]) (numL_Y [f, g]) (numL_Y [i, j])
            rw [hxy] at hday
            clear hxy
            go_wp2_with (go_at_call 67; refine (hday _).mono ?_; rintro e w2 ⟨rfl, hb2⟩
                         replace hb := hb.trans hb2; clear hb2)
            go_ret2
            exact ⟨by rw [hgood.out, Hxy.out]; rfl, hb⟩
  · rw [parseV_no s hs]
    have b1 : (((s.size : Nat) : Int) != 10) = true := by simp; omega
    clear hs
    unfold badV
    go_enter Tryz.func42, Tryz.ntmps42
    go_wp2
    go_ret2
    exact ⟨rfl, Bel.refl _⟩
def sgn_C (r : Nat) : Bool := r == 9 || r == 10 || r == 13 || (decide (32 ≤ r) && decide (r ≤ 0xD7FF)) || (decide (0xE000 ≤ r) && decide (r ≤ 0xFFFD)) || (decide (0x10000 ≤ r) && decide (r ≤ 0x10FFFF))
/-- As Go ranges over a string: g the bytes from here on, m how many are left. -/
def dec (g : Nat → Nat) (m : Nat) : Nat × Nat :=
  if g 0 < 0x80 then (g 0, 1)
  else if g 0 / 32 = 6 ∧ (1 < m ∧ g 1 / 64 = 2) then
    (if 0x80 ≤ g 0 % 32 * 64 + g 1 % 64 then (g 0 % 32 * 64 + g 1 % 64, 2) else (0xFFFD, 1))
  else if g 0 / 16 = 14 ∧ (1 < m ∧ g 1 / 64 = 2) ∧ (2 < m ∧ g 2 / 64 = 2) then
    (if 0x800 ≤ g 0 % 16 * 4096 + g 1 % 64 * 64 + g 2 % 64 ∧ (g 0 % 16 * 4096 + g 1 % 64 * 64 + g 2 % 64 < 0xD800 ∨ 0xE000 ≤ g 0 % 16 * 4096 + g 1 % 64 * 64 + g 2 % 64) then
      (g 0 % 16 * 4096 + g 1 % 64 * 64 + g 2 % 64, 3) else (0xFFFD, 1))
  else if g 0 / 8 = 30 ∧ (1 < m ∧ g 1 / 64 = 2) ∧ (2 < m ∧ g 2 / 64 = 2) ∧ (3 < m ∧ g 3 / 64 = 2) then
    (if 0x10000 ≤ g 0 % 8 * 262144 + g 1 % 64 * 4096 + g 2 % 64 * 64 + g 3 % 64 ∧ g 0 % 8 * 262144 + g 1 % 64 * 4096 + g 2 % 64 * 64 + g 3 % 64 ≤ 0x10FFFF then
      (g 0 % 8 * 262144 + g 1 % 64 * 4096 + g 2 % 64 * 64 + g 3 % 64, 4) else (0xFFFD, 1))
  else (0xFFFD, 1)
/-- As the document looks: 0 for none. -/
def first (g : Nat → Nat) (m : Nat) : Nat × Nat :=
  if g 0 < 0x80 then (if sgn_C (g 0) = true then (g 0, 1) else (0, 0))
  else if 0xC0 ≤ g 0 ∧ g 0 < 0xE0 then
    (if 1 < m ∧ 0x80 ≤ g 1 ∧ g 1 < 0xC0 ∧ 0x80 ≤ (g 0 - 0xC0) * 64 + (g 1 - 0x80) ∧ sgn_C ((g 0 - 0xC0) * 64 + (g 1 - 0x80)) = true then ((g 0 - 0xC0) * 64 + (g 1 - 0x80), 2) else (0, 0))
  else if 0xE0 ≤ g 0 ∧ g 0 < 0xF0 then
    (if 2 < m ∧ 0x80 ≤ g 1 ∧ g 1 < 0xC0 ∧ 0x80 ≤ g 2 ∧ g 2 < 0xC0 ∧ 0x800 ≤ ((g 0 - 0xE0) * 64 + (g 1 - 0x80)) * 64 + (g 2 - 0x80) ∧ sgn_C (((g 0 - 0xE0) * 64 + (g 1 - 0x80)) * 64 + (g 2 - 0x80)) = true then
      (((g 0 - 0xE0) * 64 + (g 1 - 0x80)) * 64 + (g 2 - 0x80), 3) else (0, 0))
  else if 0xF0 ≤ g 0 ∧ g 0 < 0xF8 then
    (if 3 < m ∧ 0x80 ≤ g 1 ∧ g 1 < 0xC0 ∧ 0x80 ≤ g 2 ∧ g 2 < 0xC0 ∧ 0x80 ≤ g 3 ∧ g 3 < 0xC0 ∧ 0x10000 ≤ (((g 0 - 0xF0) * 64 + (g 1 - 0x80)) * 64 + (g 2 - 0x80)) * 64 + (g 3 - 0x80) ∧
        sgn_C ((((g 0 - 0xF0) * 64 + (g 1 - 0x80)) * 64 + (g 2 - 0x80)) * 64 + (g 3 - 0x80)) = true then
      ((((g 0 - 0xF0) * 64 + (g 1 - 0x80)) * 64 + (g 2 - 0x80)) * 64 + (g 3 - 0x80), 4) else (0, 0))
  else (0, 0)
/-- Whether the bytes are U+FFFD's own. -/
def own (g : Nat → Nat) (m : Nat) : Bool := decide (2 < m) && decide (g 0 = 0xEF) && decide (g 1 = 0xBF) && decide (g 2 = 0xBD)
/-- What the program holds for a sign that may stand. -/
def may (g : Nat → Nat) (m : Nat) : Bool := sgn_C (dec g m).1 && !(decide ((dec g m).1 = 0xFFFD) && !own g m)
theorem sgn_iff (r : Nat) : sgn_C r = true ↔ (r = 9 ∨ r = 10 ∨ r = 13 ∨ (32 ≤ r ∧ r ≤ 0xD7FF) ∨ (0xE000 ≤ r ∧ r ≤ 0xFFFD) ∨ (0x10000 ≤ r ∧ r ≤ 0x10FFFF)) := by
  unfold sgn_C
  simp only [Bool.or_eq_true, Bool.and_eq_true, beq_iff_eq, decide_eq_true_eq]
  omega
theorem own_iff (g : Nat → Nat) (m : Nat) : own g m = true ↔ (2 < m ∧ g 0 = 0xEF ∧ g 1 = 0xBF ∧ g 2 = 0xBD) := by
  unfold own
  simp only [Bool.and_eq_true, decide_eq_true_eq]
  omega
theorem may_iff (g : Nat → Nat) (m : Nat) : may g m = true ↔ (sgn_C (dec g m).1 = true ∧ ((dec g m).1 = 0xFFFD → own g m = true)) := by
  unfold may
  cases sgn_C (dec g m).1 <;> cases own g m <;> by_cases h : (dec g m).1 = 0xFFFD <;> simp [h]
theorem pair (g : Nat → Nat) (m : Nat) (h0 : ∀ i, g i < 256) (P : Prop) [Decidable P] (r n : Nat) (hd : dec g m = if P then (r, n) else (0xFFFD, 1)) (hP : P → (r = 0xFFFD → own g m = true)) (hN : ¬ P → own g m = false) :
    (if may g m = true then dec g m else (0, 0)) = if P ∧ sgn_C r = true then (r, n) else (0, 0) := by
  by_cases hp : P
  · rw [if_pos hp] at hd
    by_cases hs : sgn_C r = true
    · rw [if_pos ((may_iff g m).2 (by rw [hd]; exact ⟨hs, hP hp⟩)), if_pos ⟨hp, hs⟩, hd]
    · rw [if_neg (fun h => hs (by have := ((may_iff g m).1 h).1; rwa [hd] at this)), if_neg (fun h => hs h.2)]
  · rw [if_neg hp] at hd
    rw [if_neg (fun h => by
      have := ((may_iff g m).1 h).2 (by rw [hd])
      rw [hN hp] at this
      cases this), if_neg (fun h => hp h.1)]
theorem own_no {g : Nat → Nat} {m : Nat} (h : ¬ (2 < m ∧ g 0 = 0xEF ∧ g 1 = 0xBF ∧ g 2 = 0xBD)) : own g m = false := by
  cases ho : own g m with
  | false => rfl
  | true => exact absurd ((own_iff g m).1 ho) h
theorem first_is (g : Nat → Nat) (m : Nat) (h0 : ∀ i, g i < 256) (hm : 0 < m) : (if may g m = true then dec g m else (0, 0)) = first g m := by
  have a0 := h0 0
  have a1 := h0 1
  have a2 := h0 2
  have a3 := h0 3
  by_cases c1 : g 0 < 0x80
  · have hd : dec g m = if True then (g 0, 1) else (0xFFFD, 1) := by rw [dec, if_pos c1, if_pos trivial]
    rw [pair g m h0 True _ _ hd (fun _ h => by omega) (fun h => absurd trivial h), first, if_pos c1]
    simp
  · by_cases c2 : g 0 / 32 = 6
    · have e : g 0 % 32 * 64 + g 1 % 64 = g 0 % 32 * 64 + g 1 % 64 := rfl
      have hd : dec g m = if ((1 < m ∧ g 1 / 64 = 2) ∧ 0x80 ≤ g 0 % 32 * 64 + g 1 % 64) then (g 0 % 32 * 64 + g 1 % 64, 2) else (0xFFFD, 1) := by
        rw [dec, if_neg c1]
        by_cases c3 : 1 < m ∧ g 1 / 64 = 2
        · rw [if_pos ⟨c2, c3⟩]
          by_cases c4 : 0x80 ≤ g 0 % 32 * 64 + g 1 % 64
          · rw [if_pos c4, if_pos ⟨c3, c4⟩]
          · rw [if_neg c4, if_neg (fun h => c4 h.2)]
        · rw [if_neg (fun h => c3 h.2), if_neg (by omega), if_neg (by omega), if_neg (fun h => c3 h.1)]
      rw [pair g m h0 _ _ _ hd (fun _ h => by omega) (fun _ => own_no (by omega)), first, if_neg c1, if_pos (show 0xC0 ≤ g 0 ∧ g 0 < 0xE0 by omega)]
      by_cases c3 : 1 < m ∧ g 1 / 64 = 2
      · have e1 : (g 0 - 0xC0) * 64 + (g 1 - 0x80) = g 0 % 32 * 64 + g 1 % 64 := by omega
        rw [e1]
        have : (((1 < m ∧ g 1 / 64 = 2) ∧ 0x80 ≤ g 0 % 32 * 64 + g 1 % 64) ∧ sgn_C (g 0 % 32 * 64 + g 1 % 64) = true) ↔ (1 < m ∧ 0x80 ≤ g 1 ∧ g 1 < 0xC0 ∧ 0x80 ≤ g 0 % 32 * 64 + g 1 % 64 ∧ sgn_C (g 0 % 32 * 64 + g 1 % 64) = true) := by
          constructor
          · rintro ⟨⟨⟨x, y⟩, z⟩, u⟩; exact ⟨x, by omega, by omega, z, u⟩
          · rintro ⟨x, y, y', z, u⟩; exact ⟨⟨⟨x, by omega⟩, z⟩, u⟩
        by_cases hq : (1 < m ∧ 0x80 ≤ g 1 ∧ g 1 < 0xC0 ∧ 0x80 ≤ g 0 % 32 * 64 + g 1 % 64 ∧ sgn_C (g 0 % 32 * 64 + g 1 % 64) = true)
        · rw [if_pos hq, if_pos (this.2 hq)]
        · rw [if_neg hq, if_neg (fun h => hq (this.1 h))]
      · rw [if_neg (fun h => c3 h.1.1), if_neg (fun h => c3 ⟨h.1, by omega⟩)]
    · by_cases c5 : g 0 / 16 = 14
      · have hd : dec g m = if (((1 < m ∧ g 1 / 64 = 2) ∧ (2 < m ∧ g 2 / 64 = 2)) ∧ 0x800 ≤ g 0 % 16 * 4096 + g 1 % 64 * 64 + g 2 % 64 ∧ (g 0 % 16 * 4096 + g 1 % 64 * 64 + g 2 % 64 < 0xD800 ∨ 0xE000 ≤ g 0 % 16 * 4096 + g 1 % 64 * 64 + g 2 % 64)) then (g 0 % 16 * 4096 + g 1 % 64 * 64 + g 2 % 64, 3) else (0xFFFD, 1) := by
          rw [dec, if_neg c1, if_neg (fun h => c2 h.1)]
          by_cases c3 : (1 < m ∧ g 1 / 64 = 2) ∧ (2 < m ∧ g 2 / 64 = 2)
          · rw [if_pos ⟨c5, c3⟩]
            by_cases c4 : 0x800 ≤ g 0 % 16 * 4096 + g 1 % 64 * 64 + g 2 % 64 ∧ (g 0 % 16 * 4096 + g 1 % 64 * 64 + g 2 % 64 < 0xD800 ∨ 0xE000 ≤ g 0 % 16 * 4096 + g 1 % 64 * 64 + g 2 % 64)
            · rw [if_pos c4, if_pos ⟨c3, c4⟩]
            · rw [if_neg c4, if_neg (fun h => c4 h.2)]
          · rw [if_neg (fun h => c3 h.2), if_neg (by omega), if_neg (fun h => c3 h.1)]
        rw [pair g m h0 _ _ _ hd (fun h h' => (own_iff g m).2 (by omega)) (fun h => own_no (by omega)), first, if_neg c1, if_neg (show ¬ (0xC0 ≤ g 0 ∧ g 0 < 0xE0) by omega), if_pos (show 0xE0 ≤ g 0 ∧ g 0 < 0xF0 by omega)]
        by_cases c3 : (1 < m ∧ g 1 / 64 = 2) ∧ (2 < m ∧ g 2 / 64 = 2)
        · have e1 : ((g 0 - 0xE0) * 64 + (g 1 - 0x80)) * 64 + (g 2 - 0x80) = g 0 % 16 * 4096 + g 1 % 64 * 64 + g 2 % 64 := by omega
          rw [e1]
          generalize g 0 % 16 * 4096 + g 1 % 64 * 64 + g 2 % 64 = r
          have := sgn_iff r
          by_cases hs : sgn_C r = true
          · have hr := this.1 hs
            by_cases h8 : 0x800 ≤ r
            · rw [if_pos ⟨⟨c3, h8, by omega⟩, hs⟩, if_pos ⟨by omega, by omega, by omega, by omega, by omega, h8, hs⟩]
            · rw [if_neg (fun h => h8 h.1.2.1), if_neg (fun h => h8 h.2.2.2.2.2.1)]
          · rw [if_neg (fun h => hs h.2), if_neg (fun h => hs h.2.2.2.2.2.2)]
        · rw [if_neg (fun h => c3 h.1.1), if_neg (fun h => c3 (by omega))]
      · by_cases c6 : g 0 / 8 = 30
        · have hd : dec g m = if (((1 < m ∧ g 1 / 64 = 2) ∧ (2 < m ∧ g 2 / 64 = 2) ∧ (3 < m ∧ g 3 / 64 = 2)) ∧ 0x10000 ≤ g 0 % 8 * 262144 + g 1 % 64 * 4096 + g 2 % 64 * 64 + g 3 % 64 ∧ g 0 % 8 * 262144 + g 1 % 64 * 4096 + g 2 % 64 * 64 + g 3 % 64 ≤ 0x10FFFF) then (g 0 % 8 * 262144 + g 1 % 64 * 4096 + g 2 % 64 * 64 + g 3 % 64, 4) else (0xFFFD, 1) := by
            rw [dec, if_neg c1, if_neg (fun h => c2 h.1), if_neg (fun h => c5 h.1)]
            by_cases c3 : (1 < m ∧ g 1 / 64 = 2) ∧ (2 < m ∧ g 2 / 64 = 2) ∧ (3 < m ∧ g 3 / 64 = 2)
            · rw [if_pos ⟨c6, c3⟩]
              by_cases c4 : 0x10000 ≤ g 0 % 8 * 262144 + g 1 % 64 * 4096 + g 2 % 64 * 64 + g 3 % 64 ∧ g 0 % 8 * 262144 + g 1 % 64 * 4096 + g 2 % 64 * 64 + g 3 % 64 ≤ 0x10FFFF
              · rw [if_pos c4, if_pos ⟨c3, c4⟩]
              · rw [if_neg c4, if_neg (fun h => c4 h.2)]
            · rw [if_neg (fun h => c3 h.2), if_neg (fun h => c3 h.1)]
          rw [pair g m h0 _ _ _ hd (fun h h' => by omega) (fun h => own_no (by omega)), first, if_neg c1, if_neg (show ¬ (0xC0 ≤ g 0 ∧ g 0 < 0xE0) by omega), if_neg (show ¬ (0xE0 ≤ g 0 ∧ g 0 < 0xF0) by omega), if_pos (show 0xF0 ≤ g 0 ∧ g 0 < 0xF8 by omega)]
          by_cases c3 : (1 < m ∧ g 1 / 64 = 2) ∧ (2 < m ∧ g 2 / 64 = 2) ∧ (3 < m ∧ g 3 / 64 = 2)
          · have e1 : (((g 0 - 0xF0) * 64 + (g 1 - 0x80)) * 64 + (g 2 - 0x80)) * 64 + (g 3 - 0x80) = g 0 % 8 * 262144 + g 1 % 64 * 4096 + g 2 % 64 * 64 + g 3 % 64 := by omega
            rw [e1]
            generalize g 0 % 8 * 262144 + g 1 % 64 * 4096 + g 2 % 64 * 64 + g 3 % 64 = r
            have := sgn_iff r
            by_cases hs : sgn_C r = true
            · have hr := this.1 hs
              by_cases h8 : 0x10000 ≤ r
              · rw [if_pos ⟨⟨c3, h8, by omega⟩, hs⟩, if_pos ⟨by omega, by omega, by omega, by omega, by omega, by omega, by omega, h8, hs⟩]
              · rw [if_neg (fun h => h8 h.1.2.1), if_neg (fun h => h8 h.2.2.2.2.2.2.2.1)]
            · rw [if_neg (fun h => hs h.2), if_neg (fun h => hs h.2.2.2.2.2.2.2.2)]
          · rw [if_neg (fun h => c3 h.1.1), if_neg (fun h => c3 (by omega))]
        · have hd : dec g m = if False then (0, 0) else (0xFFFD, 1) := by
            rw [dec, if_neg c1, if_neg (fun h => c2 h.1), if_neg (fun h => c5 h.1), if_neg (fun h => c6 h.1), if_neg (fun h => h)]
          rw [pair g m h0 False _ _ hd (fun h => h.elim) (fun _ => own_no (by omega)), first, if_neg c1, if_neg (show ¬ (0xC0 ≤ g 0 ∧ g 0 < 0xE0) by omega), if_neg (show ¬ (0xE0 ≤ g 0 ∧ g 0 < 0xF0) by omega), if_neg (show ¬ (0xF0 ≤ g 0 ∧ g 0 < 0xF8) by omega)]
          simp
/-- The bytes from a place on. -/
def gOf (s : ByteArray) (pos i : Nat) : Nat := (s.get! (pos + i)).toNat
theorem gOf_lt (s : ByteArray) (pos i : Nat) : gOf s pos i < 256 := (s.get! (pos + i)).toNat_lt
theorem ite_ext {P Q : Prop} [Decidable P] [Decidable Q] {α : Type} {a b c d : α} (h : P ↔ Q) (h1 : Q → a = c) (h2 : ¬ Q → b = d) : (if P then a else b) = if Q then c else d := by
  by_cases hq : Q
  · rw [if_pos (h.2 hq), if_pos hq, h1 hq]
  · rw [if_neg (fun hp => hq (h.1 hp)), if_neg hq, h2 hq]
theorem decode_is (s : ByteArray) (pos : Nat) (h : pos < s.size) : Utf8.decode s pos = dec (gOf s pos) (s.size - pos) := by
  have a0 := gOf_lt s pos 0
  have a1 := gOf_lt s pos 1
  have a2 := gOf_lt s pos 2
  have a3 := gOf_lt s pos 3
  have c : ∀ k, (decide (pos + k < s.size) && gOf s pos k / 64 == 2) = decide (k < s.size - pos ∧ gOf s pos k / 64 = 2) := by
    intro k
    rw [Bool.eq_iff_iff]
    simp only [Bool.and_eq_true, decide_eq_true_eq, beq_iff_eq]
    omega
  have e : Utf8.decode s pos = (
    if gOf s pos 0 < 0x80 then (gOf s pos 0, 1)
    else if (gOf s pos 0 / 32 == 6 && (decide (pos + 1 < s.size) && gOf s pos 1 / 64 == 2)) = true then
      (if gOf s pos 0 % 32 * 64 + gOf s pos 1 % 64 ≥ 0x80 then (gOf s pos 0 % 32 * 64 + gOf s pos 1 % 64, 2) else (Utf8.runeError, 1))
    else if (gOf s pos 0 / 16 == 14 && (decide (pos + 1 < s.size) && gOf s pos 1 / 64 == 2) && (decide (pos + 2 < s.size) && gOf s pos 2 / 64 == 2)) = true then
      (if (decide (gOf s pos 0 % 16 * 4096 + gOf s pos 1 % 64 * 64 + gOf s pos 2 % 64 ≥ 0x800) && Utf8.valid (gOf s pos 0 % 16 * 4096 + gOf s pos 1 % 64 * 64 + gOf s pos 2 % 64 : Nat)) = true then (gOf s pos 0 % 16 * 4096 + gOf s pos 1 % 64 * 64 + gOf s pos 2 % 64, 3) else (Utf8.runeError, 1))
    else if (gOf s pos 0 / 8 == 30 && (decide (pos + 1 < s.size) && gOf s pos 1 / 64 == 2) && (decide (pos + 2 < s.size) && gOf s pos 2 / 64 == 2) && (decide (pos + 3 < s.size) && gOf s pos 3 / 64 == 2)) = true then
      (if (decide (gOf s pos 0 % 8 * 262144 + gOf s pos 1 % 64 * 4096 + gOf s pos 2 % 64 * 64 + gOf s pos 3 % 64 ≥ 0x10000) && Utf8.valid (gOf s pos 0 % 8 * 262144 + gOf s pos 1 % 64 * 4096 + gOf s pos 2 % 64 * 64 + gOf s pos 3 % 64 : Nat)) = true then (gOf s pos 0 % 8 * 262144 + gOf s pos 1 % 64 * 4096 + gOf s pos 2 % 64 * 64 + gOf s pos 3 % 64, 4) else (Utf8.runeError, 1))
    else (Utf8.runeError, 1)) := rfl
  rw [e, c 1, c 2, c 3]
  have v : ∀ r : Nat, Utf8.valid (r : Int) = true ↔ (r < 0xD800 ∨ (0xE000 ≤ r ∧ r ≤ 0x10FFFF)) := by
    intro r
    unfold Utf8.valid
    simp only [Bool.or_eq_true, Bool.and_eq_true, decide_eq_true_eq]
    omega
  simp only [Bool.and_eq_true, decide_eq_true_eq, beq_iff_eq, v]
  unfold dec Utf8.runeError
  generalize gOf s pos 0 = x0 at *
  generalize gOf s pos 1 = x1 at *
  generalize gOf s pos 2 = x2 at *
  generalize gOf s pos 3 = x3 at *
  refine ite_ext Iff.rfl (fun _ => rfl) fun h1 => ite_ext Iff.rfl (fun _ => ite_ext Iff.rfl (fun _ => rfl) fun _ => rfl) fun h2 => ite_ext (by rw [and_assoc]) (fun h3 => ?_) fun h3 => ite_ext (by rw [and_assoc, and_assoc]) (fun h5 => ?_) fun _ => rfl
  · have hb : x0 % 16 * 4096 + x1 % 64 * 64 + x2 % 64 ≤ 0xFFFF := by omega
    revert hb
    generalize x0 % 16 * 4096 + x1 % 64 * 64 + x2 % 64 = r
    intro hb
    exact ite_ext (by omega) (fun _ => rfl) fun _ => rfl
  · generalize x0 % 8 * 262144 + x1 % 64 * 4096 + x2 % 64 * 64 + x3 % 64 = r
    exact ite_ext (by omega) (fun _ => rfl) fun _ => rfl
/-- Whether a sign that may stand begins at a place, and how many bytes it has. -/
def okAt (s : ByteArray) (pos : Nat) : Bool := may (gOf s pos) (s.size - pos)
def wdAt (s : ByteArray) (pos : Nat) : Nat := (dec (gOf s pos) (s.size - pos)).2
def badFrom (s : ByteArray) : Nat → Nat → Int
  | 0, _ => -1
  | f + 1, pos => if pos < s.size then (if okAt s pos = true then badFrom s f (pos + wdAt s pos) else pos) else -1
def badV_C (s : ByteArray) : Int := badFrom s s.size 0
set_option maxRecDepth 100000 in
set_option maxHeartbeats 4000000 in
theorem rsign_any (r : Nat) (hr : r ≤ 2147483647) (w : World) : Calls Tryz.prog 118 #[.int .i64 r] w fun e w' => e = .returned (.bool (sgn_C r)) ∧ w' = w := by
  have hi : (r : Int) ≤ 2147483647 := by omega
  have hc : (r < 9) ∨ (r = 9) ∨ (r = 10) ∨ (10 < r ∧ r < 13) ∨ (r = 13) ∨ (13 < r ∧ r < 32) ∨ (32 ≤ r ∧ r ≤ 55295) ∨ (55295 < r ∧ r < 57344) ∨ (57344 ≤ r ∧ r ≤ 65533) ∨ (65533 < r ∧ r < 65536) ∨ (65536 ≤ r ∧ r ≤ 1114111) ∨ (1114111 < r) := by omega
  have hs := sgn_iff r
  rcases hc with h | h | h | h | h | h | h | h | h | h | h | h
  · have L := Lib.hid (show sgn_C r = false from by rw [Bool.eq_false_iff]; exact fun h' => by have := hs.1 h'; omega)
    have e9 : ((r : Int) == 9) = false := by rw [beq_eq_false_iff_ne]; omega
    have e10 : ((r : Int) == 10) = false := by rw [beq_eq_false_iff_ne]; omega
    have e13 : ((r : Int) == 13) = false := by rw [beq_eq_false_iff_ne]; omega
    have g32 : decide ((32 : Int) ≤ r) = false := by exact decide_eq_false (by omega)
    have g57344 : decide ((57344 : Int) ≤ r) = false := by exact decide_eq_false (by omega)
    have g65536 : decide ((65536 : Int) ≤ r) = false := by exact decide_eq_false (by omega)
    have l55295 : decide ((r : Int) ≤ 55295) = true := by exact decide_eq_true (by omega)
    have l65533 : decide ((r : Int) ≤ 65533) = true := by exact decide_eq_true (by omega)
    have l1114111 : decide ((r : Int) ≤ 1114111) = true := by exact decide_eq_true (by omega)
    clear hs h hr hi
    go_enter Tryz.func118, Tryz.ntmps118
    go_wp2
    go_ret
    exact ⟨by (rw [L.out]) <;> rfl, rfl⟩
  · have L := Lib.hid (show sgn_C r = true from hs.2 (by omega))
    subst h
    clear hs hr hi
    go_enter Tryz.func118, Tryz.ntmps118
    go_wp2
    go_ret
    exact ⟨by (rw [L.out]) <;> rfl, rfl⟩
  · have L := Lib.hid (show sgn_C r = true from hs.2 (by omega))
    subst h
    clear hs hr hi
    go_enter Tryz.func118, Tryz.ntmps118
    go_wp2
    go_ret
    exact ⟨by (rw [L.out]) <;> rfl, rfl⟩
  · have L := Lib.hid (show sgn_C r = false from by rw [Bool.eq_false_iff]; exact fun h' => by have := hs.1 h'; omega)
    have e9 : ((r : Int) == 9) = false := by rw [beq_eq_false_iff_ne]; omega
    have e10 : ((r : Int) == 10) = false := by rw [beq_eq_false_iff_ne]; omega
    have e13 : ((r : Int) == 13) = false := by rw [beq_eq_false_iff_ne]; omega
    have g32 : decide ((32 : Int) ≤ r) = false := by exact decide_eq_false (by omega)
    have g57344 : decide ((57344 : Int) ≤ r) = false := by exact decide_eq_false (by omega)
    have g65536 : decide ((65536 : Int) ≤ r) = false := by exact decide_eq_false (by omega)
    have l55295 : decide ((r : Int) ≤ 55295) = true := by exact decide_eq_true (by omega)
    have l65533 : decide ((r : Int) ≤ 65533) = true := by exact decide_eq_true (by omega)
    have l1114111 : decide ((r : Int) ≤ 1114111) = true := by exact decide_eq_true (by omega)
    clear hs h hr hi
    go_enter Tryz.func118, Tryz.ntmps118
    go_wp2
    go_ret
    exact ⟨by (rw [L.out]) <;> rfl, rfl⟩
  · have L := Lib.hid (show sgn_C r = true from hs.2 (by omega))
    subst h
    clear hs hr hi
    go_enter Tryz.func118, Tryz.ntmps118
    go_wp2
    go_ret
    exact ⟨by (rw [L.out]) <;> rfl, rfl⟩
  · have L := Lib.hid (show sgn_C r = false from by rw [Bool.eq_false_iff]; exact fun h' => by have := hs.1 h'; omega)
    have e9 : ((r : Int) == 9) = false := by rw [beq_eq_false_iff_ne]; omega
    have e10 : ((r : Int) == 10) = false := by rw [beq_eq_false_iff_ne]; omega
    have e13 : ((r : Int) == 13) = false := by rw [beq_eq_false_iff_ne]; omega
    have g32 : decide ((32 : Int) ≤ r) = false := by exact decide_eq_false (by omega)
    have g57344 : decide ((57344 : Int) ≤ r) = false := by exact decide_eq_false (by omega)
    have g65536 : decide ((65536 : Int) ≤ r) = false := by exact decide_eq_false (by omega)
    have l55295 : decide ((r : Int) ≤ 55295) = true := by exact decide_eq_true (by omega)
    have l65533 : decide ((r : Int) ≤ 65533) = true := by exact decide_eq_true (by omega)
    have l1114111 : decide ((r : Int) ≤ 1114111) = true := by exact decide_eq_true (by omega)
    clear hs h hr hi
    go_enter Tryz.func118, Tryz.ntmps118
    go_wp2
    go_ret
    exact ⟨by (rw [L.out]) <;> rfl, rfl⟩
  · have L := Lib.hid (show sgn_C r = true from hs.2 (by omega))
    have e9 : ((r : Int) == 9) = false := by rw [beq_eq_false_iff_ne]; omega
    have e10 : ((r : Int) == 10) = false := by rw [beq_eq_false_iff_ne]; omega
    have e13 : ((r : Int) == 13) = false := by rw [beq_eq_false_iff_ne]; omega
    have g32 : decide ((32 : Int) ≤ r) = true := by exact decide_eq_true (by omega)
    have g57344 : decide ((57344 : Int) ≤ r) = false := by exact decide_eq_false (by omega)
    have g65536 : decide ((65536 : Int) ≤ r) = false := by exact decide_eq_false (by omega)
    have l55295 : decide ((r : Int) ≤ 55295) = true := by exact decide_eq_true (by omega)
    have l65533 : decide ((r : Int) ≤ 65533) = true := by exact decide_eq_true (by omega)
    have l1114111 : decide ((r : Int) ≤ 1114111) = true := by exact decide_eq_true (by omega)
    clear hs h hr hi
    go_enter Tryz.func118, Tryz.ntmps118
    go_wp2
    go_ret
    exact ⟨by (rw [L.out]) <;> rfl, rfl⟩
  · have L := Lib.hid (show sgn_C r = false from by rw [Bool.eq_false_iff]; exact fun h' => by have := hs.1 h'; omega)
    have e9 : ((r : Int) == 9) = false := by rw [beq_eq_false_iff_ne]; omega
    have e10 : ((r : Int) == 10) = false := by rw [beq_eq_false_iff_ne]; omega
    have e13 : ((r : Int) == 13) = false := by rw [beq_eq_false_iff_ne]; omega
    have g32 : decide ((32 : Int) ≤ r) = true := by exact decide_eq_true (by omega)
    have g57344 : decide ((57344 : Int) ≤ r) = false := by exact decide_eq_false (by omega)
    have g65536 : decide ((65536 : Int) ≤ r) = false := by exact decide_eq_false (by omega)
    have l55295 : decide ((r : Int) ≤ 55295) = false := by exact decide_eq_false (by omega)
    have l65533 : decide ((r : Int) ≤ 65533) = true := by exact decide_eq_true (by omega)
    have l1114111 : decide ((r : Int) ≤ 1114111) = true := by exact decide_eq_true (by omega)
    clear hs h hr hi
    go_enter Tryz.func118, Tryz.ntmps118
    go_wp2
    go_ret
    exact ⟨by (rw [L.out]) <;> rfl, rfl⟩
  · have L := Lib.hid (show sgn_C r = true from hs.2 (by omega))
    have e9 : ((r : Int) == 9) = false := by rw [beq_eq_false_iff_ne]; omega
    have e10 : ((r : Int) == 10) = false := by rw [beq_eq_false_iff_ne]; omega
    have e13 : ((r : Int) == 13) = false := by rw [beq_eq_false_iff_ne]; omega
    have g32 : decide ((32 : Int) ≤ r) = true := by exact decide_eq_true (by omega)
    have g57344 : decide ((57344 : Int) ≤ r) = true := by exact decide_eq_true (by omega)
    have g65536 : decide ((65536 : Int) ≤ r) = false := by exact decide_eq_false (by omega)
    have l55295 : decide ((r : Int) ≤ 55295) = false := by exact decide_eq_false (by omega)
    have l65533 : decide ((r : Int) ≤ 65533) = true := by exact decide_eq_true (by omega)
    have l1114111 : decide ((r : Int) ≤ 1114111) = true := by exact decide_eq_true (by omega)
    clear hs h hr hi
    go_enter Tryz.func118, Tryz.ntmps118
    go_wp2
    go_ret
    exact ⟨by (rw [L.out]) <;> rfl, rfl⟩
  · have L := Lib.hid (show sgn_C r = false from by rw [Bool.eq_false_iff]; exact fun h' => by have := hs.1 h'; omega)
    have e9 : ((r : Int) == 9) = false := by rw [beq_eq_false_iff_ne]; omega
    have e10 : ((r : Int) == 10) = false := by rw [beq_eq_false_iff_ne]; omega
    have e13 : ((r : Int) == 13) = false := by rw [beq_eq_false_iff_ne]; omega
    have g32 : decide ((32 : Int) ≤ r) = true := by exact decide_eq_true (by omega)
    have g57344 : decide ((57344 : Int) ≤ r) = true := by exact decide_eq_true (by omega)
    have g65536 : decide ((65536 : Int) ≤ r) = false := by exact decide_eq_false (by omega)
    have l55295 : decide ((r : Int) ≤ 55295) = false := by exact decide_eq_false (by omega)
    have l65533 : decide ((r : Int) ≤ 65533) = false := by exact decide_eq_false (by omega)
    have l1114111 : decide ((r : Int) ≤ 1114111) = true := by exact decide_eq_true (by omega)
    clear hs h hr hi
    go_enter Tryz.func118, Tryz.ntmps118
    go_wp2
    go_ret
    exact ⟨by (rw [L.out]) <;> rfl, rfl⟩
  · have L := Lib.hid (show sgn_C r = true from hs.2 (by omega))
    have e9 : ((r : Int) == 9) = false := by rw [beq_eq_false_iff_ne]; omega
    have e10 : ((r : Int) == 10) = false := by rw [beq_eq_false_iff_ne]; omega
    have e13 : ((r : Int) == 13) = false := by rw [beq_eq_false_iff_ne]; omega
    have g32 : decide ((32 : Int) ≤ r) = true := by exact decide_eq_true (by omega)
    have g57344 : decide ((57344 : Int) ≤ r) = true := by exact decide_eq_true (by omega)
    have g65536 : decide ((65536 : Int) ≤ r) = true := by exact decide_eq_true (by omega)
    have l55295 : decide ((r : Int) ≤ 55295) = false := by exact decide_eq_false (by omega)
    have l65533 : decide ((r : Int) ≤ 65533) = false := by exact decide_eq_false (by omega)
    have l1114111 : decide ((r : Int) ≤ 1114111) = true := by exact decide_eq_true (by omega)
    clear hs h hr hi
    go_enter Tryz.func118, Tryz.ntmps118
    go_wp2
    go_ret
    exact ⟨by (rw [L.out]) <;> rfl, rfl⟩
  · have L := Lib.hid (show sgn_C r = false from by rw [Bool.eq_false_iff]; exact fun h' => by have := hs.1 h'; omega)
    have e9 : ((r : Int) == 9) = false := by rw [beq_eq_false_iff_ne]; omega
    have e10 : ((r : Int) == 10) = false := by rw [beq_eq_false_iff_ne]; omega
    have e13 : ((r : Int) == 13) = false := by rw [beq_eq_false_iff_ne]; omega
    have g32 : decide ((32 : Int) ≤ r) = true := by exact decide_eq_true (by omega)
    have g57344 : decide ((57344 : Int) ≤ r) = true := by exact decide_eq_true (by omega)
    have g65536 : decide ((65536 : Int) ≤ r) = true := by exact decide_eq_true (by omega)
    have l55295 : decide ((r : Int) ≤ 55295) = false := by exact decide_eq_false (by omega)
    have l65533 : decide ((r : Int) ≤ 65533) = false := by exact decide_eq_false (by omega)
    have l1114111 : decide ((r : Int) ≤ 1114111) = false := by exact decide_eq_false (by omega)
    clear hs h hr hi
    go_enter Tryz.func118, Tryz.ntmps118
    go_wp2
    go_ret
    exact ⟨by (rw [L.out]) <;> rfl, rfl⟩
set_option maxRecDepth 100000 in
set_option maxHeartbeats 4000000 in
theorem valid_any (r : Nat) (hr : r ≤ 2147483647) (w : World) : Calls Tryz.prog 120 #[.int .i32 r] w fun e w' => e = .returned (.bool (sgn_C r)) ∧ w' = w := by
  have hi : (r : Int) ≤ 2147483647 := by omega
  have hc : (r < 9) ∨ (r = 9) ∨ (r = 10) ∨ (10 < r ∧ r < 13) ∨ (r = 13) ∨ (13 < r ∧ r < 32) ∨ (32 ≤ r ∧ r ≤ 55295) ∨ (55295 < r ∧ r < 57344) ∨ (57344 ≤ r ∧ r ≤ 65533) ∨ (65533 < r ∧ r < 65536) ∨ (65536 ≤ r ∧ r ≤ 1114111) ∨ (1114111 < r) := by omega
  have hs := sgn_iff r
  rcases hc with h | h | h | h | h | h | h | h | h | h | h | h
  · have L := Lib.hid (show sgn_C r = false from by rw [Bool.eq_false_iff]; exact fun h' => by have := hs.1 h'; omega)
    have e9 : ((r : Int) == 9) = false := by rw [beq_eq_false_iff_ne]; omega
    have e10 : ((r : Int) == 10) = false := by rw [beq_eq_false_iff_ne]; omega
    have e13 : ((r : Int) == 13) = false := by rw [beq_eq_false_iff_ne]; omega
    have g32 : decide ((32 : Int) ≤ r) = false := by exact decide_eq_false (by omega)
    have g57344 : decide ((57344 : Int) ≤ r) = false := by exact decide_eq_false (by omega)
    have g65536 : decide ((65536 : Int) ≤ r) = false := by exact decide_eq_false (by omega)
    have l55295 : decide ((r : Int) ≤ 55295) = true := by exact decide_eq_true (by omega)
    have l65533 : decide ((r : Int) ≤ 65533) = true := by exact decide_eq_true (by omega)
    have l1114111 : decide ((r : Int) ≤ 1114111) = true := by exact decide_eq_true (by omega)
    clear hs h hr hi
    go_enter Tryz.func120, Tryz.ntmps120
    go_wp2
    go_ret
    exact ⟨by (rw [L.out]) <;> rfl, rfl⟩
  · have L := Lib.hid (show sgn_C r = true from hs.2 (by omega))
    subst h
    clear hs hr hi
    go_enter Tryz.func120, Tryz.ntmps120
    go_wp2
    go_ret
    exact ⟨by (rw [L.out]) <;> rfl, rfl⟩
  · have L := Lib.hid (show sgn_C r = true from hs.2 (by omega))
    subst h
    clear hs hr hi
    go_enter Tryz.func120, Tryz.ntmps120
    go_wp2
    go_ret
    exact ⟨by (rw [L.out]) <;> rfl, rfl⟩
  · have L := Lib.hid (show sgn_C r = false from by rw [Bool.eq_false_iff]; exact fun h' => by have := hs.1 h'; omega)
    have e9 : ((r : Int) == 9) = false := by rw [beq_eq_false_iff_ne]; omega
    have e10 : ((r : Int) == 10) = false := by rw [beq_eq_false_iff_ne]; omega
    have e13 : ((r : Int) == 13) = false := by rw [beq_eq_false_iff_ne]; omega
    have g32 : decide ((32 : Int) ≤ r) = false := by exact decide_eq_false (by omega)
    have g57344 : decide ((57344 : Int) ≤ r) = false := by exact decide_eq_false (by omega)
    have g65536 : decide ((65536 : Int) ≤ r) = false := by exact decide_eq_false (by omega)
    have l55295 : decide ((r : Int) ≤ 55295) = true := by exact decide_eq_true (by omega)
    have l65533 : decide ((r : Int) ≤ 65533) = true := by exact decide_eq_true (by omega)
    have l1114111 : decide ((r : Int) ≤ 1114111) = true := by exact decide_eq_true (by omega)
    clear hs h hr hi
    go_enter Tryz.func120, Tryz.ntmps120
    go_wp2
    go_ret
    exact ⟨by (rw [L.out]) <;> rfl, rfl⟩
  · have L := Lib.hid (show sgn_C r = true from hs.2 (by omega))
    subst h
    clear hs hr hi
    go_enter Tryz.func120, Tryz.ntmps120
    go_wp2
    go_ret
    exact ⟨by (rw [L.out]) <;> rfl, rfl⟩
  · have L := Lib.hid (show sgn_C r = false from by rw [Bool.eq_false_iff]; exact fun h' => by have := hs.1 h'; omega)
    have e9 : ((r : Int) == 9) = false := by rw [beq_eq_false_iff_ne]; omega
    have e10 : ((r : Int) == 10) = false := by rw [beq_eq_false_iff_ne]; omega
    have e13 : ((r : Int) == 13) = false := by rw [beq_eq_false_iff_ne]; omega
    have g32 : decide ((32 : Int) ≤ r) = false := by exact decide_eq_false (by omega)
    have g57344 : decide ((57344 : Int) ≤ r) = false := by exact decide_eq_false (by omega)
    have g65536 : decide ((65536 : Int) ≤ r) = false := by exact decide_eq_false (by omega)
    have l55295 : decide ((r : Int) ≤ 55295) = true := by exact decide_eq_true (by omega)
    have l65533 : decide ((r : Int) ≤ 65533) = true := by exact decide_eq_true (by omega)
    have l1114111 : decide ((r : Int) ≤ 1114111) = true := by exact decide_eq_true (by omega)
    clear hs h hr hi
    go_enter Tryz.func120, Tryz.ntmps120
    go_wp2
    go_ret
    exact ⟨by (rw [L.out]) <;> rfl, rfl⟩
  · have L := Lib.hid (show sgn_C r = true from hs.2 (by omega))
    have e9 : ((r : Int) == 9) = false := by rw [beq_eq_false_iff_ne]; omega
    have e10 : ((r : Int) == 10) = false := by rw [beq_eq_false_iff_ne]; omega
    have e13 : ((r : Int) == 13) = false := by rw [beq_eq_false_iff_ne]; omega
    have g32 : decide ((32 : Int) ≤ r) = true := by exact decide_eq_true (by omega)
    have g57344 : decide ((57344 : Int) ≤ r) = false := by exact decide_eq_false (by omega)
    have g65536 : decide ((65536 : Int) ≤ r) = false := by exact decide_eq_false (by omega)
    have l55295 : decide ((r : Int) ≤ 55295) = true := by exact decide_eq_true (by omega)
    have l65533 : decide ((r : Int) ≤ 65533) = true := by exact decide_eq_true (by omega)
    have l1114111 : decide ((r : Int) ≤ 1114111) = true := by exact decide_eq_true (by omega)
    clear hs h hr hi
    go_enter Tryz.func120, Tryz.ntmps120
    go_wp2
    go_ret
    exact ⟨by (rw [L.out]) <;> rfl, rfl⟩
  · have L := Lib.hid (show sgn_C r = false from by rw [Bool.eq_false_iff]; exact fun h' => by have := hs.1 h'; omega)
    have e9 : ((r : Int) == 9) = false := by rw [beq_eq_false_iff_ne]; omega
    have e10 : ((r : Int) == 10) = false := by rw [beq_eq_false_iff_ne]; omega
    have e13 : ((r : Int) == 13) = false := by rw [beq_eq_false_iff_ne]; omega
    have g32 : decide ((32 : Int) ≤ r) = true := by exact decide_eq_true (by omega)
    have g57344 : decide ((57344 : Int) ≤ r) = false := by exact decide_eq_false (by omega)
    have g65536 : decide ((65536 : Int) ≤ r) = false := by exact decide_eq_false (by omega)
    have l55295 : decide ((r : Int) ≤ 55295) = false := by exact decide_eq_false (by omega)
    have l65533 : decide ((r : Int) ≤ 65533) = true := by exact decide_eq_true (by omega)
    have l1114111 : decide ((r : Int) ≤ 1114111) = true := by exact decide_eq_true (by omega)
    clear hs h hr hi
    go_enter Tryz.func120, Tryz.ntmps120
    go_wp2
    go_ret
    exact ⟨by (rw [L.out]) <;> rfl, rfl⟩
  · have L := Lib.hid (show sgn_C r = true from hs.2 (by omega))
    have e9 : ((r : Int) == 9) = false := by rw [beq_eq_false_iff_ne]; omega
    have e10 : ((r : Int) == 10) = false := by rw [beq_eq_false_iff_ne]; omega
    have e13 : ((r : Int) == 13) = false := by rw [beq_eq_false_iff_ne]; omega
    have g32 : decide ((32 : Int) ≤ r) = true := by exact decide_eq_true (by omega)
    have g57344 : decide ((57344 : Int) ≤ r) = true := by exact decide_eq_true (by omega)
    have g65536 : decide ((65536 : Int) ≤ r) = false := by exact decide_eq_false (by omega)
    have l55295 : decide ((r : Int) ≤ 55295) = false := by exact decide_eq_false (by omega)
    have l65533 : decide ((r : Int) ≤ 65533) = true := by exact decide_eq_true (by omega)
    have l1114111 : decide ((r : Int) ≤ 1114111) = true := by exact decide_eq_true (by omega)
    clear hs h hr hi
    go_enter Tryz.func120, Tryz.ntmps120
    go_wp2
    go_ret
    exact ⟨by (rw [L.out]) <;> rfl, rfl⟩
  · have L := Lib.hid (show sgn_C r = false from by rw [Bool.eq_false_iff]; exact fun h' => by have := hs.1 h'; omega)
    have e9 : ((r : Int) == 9) = false := by rw [beq_eq_false_iff_ne]; omega
    have e10 : ((r : Int) == 10) = false := by rw [beq_eq_false_iff_ne]; omega
    have e13 : ((r : Int) == 13) = false := by rw [beq_eq_false_iff_ne]; omega
    have g32 : decide ((32 : Int) ≤ r) = true := by exact decide_eq_true (by omega)
    have g57344 : decide ((57344 : Int) ≤ r) = true := by exact decide_eq_true (by omega)
    have g65536 : decide ((65536 : Int) ≤ r) = false := by exact decide_eq_false (by omega)
    have l55295 : decide ((r : Int) ≤ 55295) = false := by exact decide_eq_false (by omega)
    have l65533 : decide ((r : Int) ≤ 65533) = false := by exact decide_eq_false (by omega)
    have l1114111 : decide ((r : Int) ≤ 1114111) = true := by exact decide_eq_true (by omega)
    clear hs h hr hi
    go_enter Tryz.func120, Tryz.ntmps120
    go_wp2
    go_ret
    exact ⟨by (rw [L.out]) <;> rfl, rfl⟩
  · have L := Lib.hid (show sgn_C r = true from hs.2 (by omega))
    have e9 : ((r : Int) == 9) = false := by rw [beq_eq_false_iff_ne]; omega
    have e10 : ((r : Int) == 10) = false := by rw [beq_eq_false_iff_ne]; omega
    have e13 : ((r : Int) == 13) = false := by rw [beq_eq_false_iff_ne]; omega
    have g32 : decide ((32 : Int) ≤ r) = true := by exact decide_eq_true (by omega)
    have g57344 : decide ((57344 : Int) ≤ r) = true := by exact decide_eq_true (by omega)
    have g65536 : decide ((65536 : Int) ≤ r) = true := by exact decide_eq_true (by omega)
    have l55295 : decide ((r : Int) ≤ 55295) = false := by exact decide_eq_false (by omega)
    have l65533 : decide ((r : Int) ≤ 65533) = false := by exact decide_eq_false (by omega)
    have l1114111 : decide ((r : Int) ≤ 1114111) = true := by exact decide_eq_true (by omega)
    clear hs h hr hi
    go_enter Tryz.func120, Tryz.ntmps120
    go_wp2
    go_ret
    exact ⟨by (rw [L.out]) <;> rfl, rfl⟩
  · have L := Lib.hid (show sgn_C r = false from by rw [Bool.eq_false_iff]; exact fun h' => by have := hs.1 h'; omega)
    have e9 : ((r : Int) == 9) = false := by rw [beq_eq_false_iff_ne]; omega
    have e10 : ((r : Int) == 10) = false := by rw [beq_eq_false_iff_ne]; omega
    have e13 : ((r : Int) == 13) = false := by rw [beq_eq_false_iff_ne]; omega
    have g32 : decide ((32 : Int) ≤ r) = true := by exact decide_eq_true (by omega)
    have g57344 : decide ((57344 : Int) ≤ r) = true := by exact decide_eq_true (by omega)
    have g65536 : decide ((65536 : Int) ≤ r) = true := by exact decide_eq_true (by omega)
    have l55295 : decide ((r : Int) ≤ 55295) = false := by exact decide_eq_false (by omega)
    have l65533 : decide ((r : Int) ≤ 65533) = false := by exact decide_eq_false (by omega)
    have l1114111 : decide ((r : Int) ≤ 1114111) = false := by exact decide_eq_false (by omega)
    clear hs h hr hi
    go_enter Tryz.func120, Tryz.ntmps120
    go_wp2
    go_ret
    exact ⟨by (rw [L.out]) <;> rfl, rfl⟩
/-- Whether a text begins with the three bytes of U+FFFD. -/
def ownB (s : ByteArray) : Bool := Lib.hasPrefix s.data.toList [239, 191, 189]
theorem hasPrefix_any (s : ByteArray) (w : World) : Calls Tryz.prog 124 #[.string s, .string ⟨#[239, 191, 189]⟩] w fun e w' => e = .returned (.bool (ownB s)) ∧ w' = w :=
  Tryz.strings_HasPrefix s ⟨#[239, 191, 189]⟩ w
def brokenB (s : ByteArray) (r : Nat) : Bool := decide (r = 65533) && !ownB s
set_option maxRecDepth 100000 in
theorem broken_any (s : ByteArray) (r : Nat) (hr : r ≤ 2147483647) (w : World) : Calls Tryz.prog 121 #[.string s, .int .i32 r] w fun e w' => e = .returned (.bool (brokenB s r)) ∧ w' = w := by
  by_cases h : r = 65533
  · have L := Lib.hid (show brokenB s r = !ownB s by rw [brokenB, h]; simp)
    subst h
    clear hr
    go_enter Tryz.func121, Tryz.ntmps121
    go_wp2_with (go_at_call 124; refine (hasPrefix_any _ _).mono ?_; rintro e W1 ⟨rfl, rfl⟩)
    go_ret
    exact ⟨by (rw [L.out]) <;> rfl, rfl⟩
  · have L := Lib.hid (show brokenB s r = false by rw [brokenB, decide_eq_false h]; rfl)
    have e1 : ((r : Int) == 65533) = false := by rw [beq_eq_false_iff_ne]; omega
    clear h hr
    go_enter Tryz.func121, Tryz.ntmps121
    go_wp2_with fail
    go_ret
    exact ⟨by (rw [L.out]) <;> rfl, rfl⟩
theorem get_list (s : ByteArray) (k : Nat) : s.get! k = s.data.toList.getD k 0 := by
  obtain ⟨⟨l⟩⟩ := s
  show (Array.mk l)[k]! = _
  rw [List.getD_eq_getElem?_getD]
  by_cases h : k < l.length
  · simp [h]
  · simp [h]; rfl
theorem gOf_list (s : ByteArray) (pos i : Nat) : gOf s pos i = ((s.data.toList.drop pos).getD i 0).toNat := by
  rw [gOf, get_list, List.getD_eq_getElem?_getD, List.getD_eq_getElem?_getD, List.getElem?_drop]
theorem ext_end_C (s : ByteArray) (a : Nat) : (s.extract a s.size).data.toList = s.data.toList.drop a := by
  rw [Lib.extract_data, List.take_of_length_le]
  rw [List.length_drop, Array.length_toList]
  exact Nat.le_refl _
theorem size_list_C (s : ByteArray) : s.data.toList.length = s.size := by rw [Array.length_toList]; rfl
theorem u8_nat (a : UInt8) (n : Nat) (hn : n < 256) : (a.toNat = n) ↔ a = UInt8.ofNat n := by
  constructor
  · intro h; exact UInt8.toNat_inj.mp (by rw [UInt8.toNat_ofNat']; omega)
  · rintro rfl; rw [UInt8.toNat_ofNat']; omega
theorem own_ext (s : ByteArray) (pos : Nat) : ownB (s.extract pos s.size) = own (gOf s pos) (s.size - pos) := by
  have hl : (s.data.toList.drop pos).length = s.size - pos := by rw [List.length_drop, size_list_C]
  rw [Bool.eq_iff_iff, own_iff, ownB, ext_end_C, gOf_list, gOf_list, gOf_list, ← hl]
  generalize s.data.toList.drop pos = l
  unfold Lib.hasPrefix
  match l with
  | [] => simp [List.isPrefixOf]
  | [a] => simp [List.isPrefixOf]
  | [a, b] => simp [List.isPrefixOf]
  | a :: b :: c :: r =>
    simp only [List.isPrefixOf, Bool.and_true, Bool.and_eq_true, beq_iff_eq, List.getD_cons_zero, List.getD_cons_succ, List.length_cons]
    rw [u8_nat a 0xEF (by omega), u8_nat b 0xBF (by omega), u8_nat c 0xBD (by omega)]
    constructor
    · rintro ⟨h1, h2, h3⟩; exact ⟨by omega, h1.symm, h2.symm, h3.symm⟩
    · rintro ⟨-, h1, h2, h3⟩; exact ⟨h1.symm, h2.symm, h3.symm⟩
theorem okAt_is (s : ByteArray) (pos : Nat) : okAt s pos = (sgn_C (dec (gOf s pos) (s.size - pos)).1 && !brokenB (s.extract pos s.size) (dec (gOf s pos) (s.size - pos)).1) := by
  unfold okAt may brokenB
  rw [own_ext]
theorem wd_pos (s : ByteArray) (pos : Nat) : 1 ≤ wdAt s pos := by
  unfold wdAt dec
  repeat' split
  all_goals simp
set_option maxRecDepth 100000 in
set_option maxHeartbeats 4000000 in
theorem bad_any (s : ByteArray) (hs : s.size ≤ 9223372036854775807) (w : World) : Calls Tryz.prog 95 #[.string s] w fun e w' => e = .returned (.int .i64 (badV_C s)) ∧ Bel w w' := by
  go_enter Tryz.func95, Tryz.ntmps95
  go_wp2
  have hit0 : (w.iter s 0).heap[w.heap.size]? = some (.stringIter s 0) := World.iter_heap w s 0
  have hb0 : Bel w (w.iter s 0) := (Bel.refl w).alloc _
  have HB := Lib.hid (And.intro hit0 hb0)
  clear hit0 hb0
  go_loopg [] s.size (fun g wr => ∃ pos fuel : Nat, Hid (wr.heap[w.heap.size]? = some (.stringIter s pos)) ∧ Bel w wr ∧ Hid (badV_C s = badFrom s fuel pos ∧ s.size ≤ fuel + pos ∧ g = s.size - pos))
  case atStart => exact ⟨0, s.size, HB.out.1, HB.out.2, ⟨rfl, by omega, rfl⟩⟩
  case round =>
    obtain ⟨pos, fuel, hit, hb, hh⟩ := hrel
    by_cases hp : pos < s.size
    · have hd := decode_is s pos hp
      have hr := decode_le s pos
      have hok := okAt_is s pos
      obtain ⟨r, hr0⟩ : ∃ r, r = (dec (gOf s pos) (s.size - pos)).1 := ⟨_, rfl⟩
      rw [hd, ← hr0] at hr
      rw [← hr0] at hok
      have hr' := hr
      have hnx0 : ∀ ty, (Instr.next (.pointer (some ⟨w.heap.size, 0, none⟩)) true ty).run Tryz.prog wr = .ok (.tuple #[.bool true, .int .i64 pos, .int .i32 (r : Nat)]) (wr.iterAt w.heap.size s (pos + wdAt s pos)) := fun ty => by
        have h := Lib.run_next_any_at (P := Tryz.prog) wr w.heap.size s pos ty hit.out hp
        rw [hd, ← hr0] at h
        exact h
      have hit2 := Lib.hid (Lib.iterAt_heap wr w.heap.size s pos (pos + wdAt s pos) hit.out)
      have hb2 : Bel w (wr.iterAt w.heap.size s (pos + wdAt s pos)) := Lib.below_iterAt hb (k := w.heap.size) (Nat.le_refl _) s _
      obtain ⟨W2, hW2⟩ : ∃ W2, W2 = wr.iterAt w.heap.size s (pos + wdAt s pos) := ⟨_, rfl⟩
      rw [← hW2] at hit2 hb2
      have hnx : ∀ ty, (Instr.next (.pointer (some ⟨w.heap.size, 0, none⟩)) true ty).run Tryz.prog wr = .ok (.tuple #[.bool true, .int .i64 pos, .int .i32 (r : Nat)]) W2 := fun ty => by rw [hW2]; exact hnx0 ty
      obtain ⟨f, rfl⟩ : ∃ f, fuel = f + 1 := ⟨fuel - 1, by have := hh.out.2.1; omega⟩
      have hstep := hh.out.1
      rw [badFrom, if_pos hp] at hstep
      have hwd := wd_pos s pos
      have HOK := Lib.hid hok
      have HST := Lib.hid hstep
      have HWD := Lib.hid hwd
      have i1 : (pos : Int) < s.size := by omega
      have i2 : (s.size : Int) ≤ 9223372036854775807 := by omega
      clear hd hr hok hr0 hnx0 hW2 hstep hwd hb
      cases hv : sgn_C r with
      | false =>
        have HV := Lib.hid hv
        have L := Lib.hid (show badV_C s = pos by rw [HST.out, HOK.out, hv]; rfl)
        have HK := HV
        clear hv
        go_wp2_with (first
          | (go_at_call 120; refine (valid_any r hr' _).mono ?_; rintro e V1 ⟨rfl, rfl⟩; rw [HV.out])
          | (go_at_call 121; refine (broken_any _ r hr' _).mono ?_; rintro e V2 ⟨rfl, rfl⟩; rw [HK.out]))
        go_ret
        exact ⟨by (rw [L.out]) <;> rfl, hb2⟩
      | true =>
        have HV := Lib.hid hv
        cases hk : brokenB (s.extract pos s.size) r with
        | true =>
          have HK := Lib.hid hk
          have L := Lib.hid (show badV_C s = pos by rw [HST.out, HOK.out, hv, hk]; rfl)
          clear hv hk
          go_wp2_with (first
            | (go_at_call 120; refine (valid_any r hr' _).mono ?_; rintro e V1 ⟨rfl, rfl⟩; rw [HV.out])
            | (go_at_call 121; refine (broken_any _ r hr' _).mono ?_; rintro e V2 ⟨rfl, rfl⟩; rw [HK.out]))
          go_ret
          exact ⟨by (rw [L.out]) <;> rfl, hb2⟩
        | false =>
          have HK := Lib.hid hk
          have L := Lib.hid (show badV_C s = badFrom s f (pos + wdAt s pos) by rw [HST.out, HOK.out, hv, hk]; rfl)
          clear hv hk
          go_wp2_with (first
            | (go_at_call 120; refine (valid_any r hr' _).mono ?_; rintro e V1 ⟨rfl, rfl⟩; rw [HV.out])
            | (go_at_call 121; refine (broken_any _ r hr' _).mono ?_; rintro e V2 ⟨rfl, rfl⟩; rw [HK.out]))
          go_roundg (s.size - (pos + wdAt s pos))
          case measure => have := hh.out.2.2; have := HWD.out; omega
          case rel => exact ⟨pos + wdAt s pos, f, hit2, hb2, ⟨L.out, by have := hh.out.2.1; have := HWD.out; omega, rfl⟩⟩
    · have hnx : ∀ ty, (Instr.next (.pointer (some ⟨w.heap.size, 0, none⟩)) true ty).run Tryz.prog wr = .ok (.tuple #[.bool false]) wr := fun ty => Lib.run_next_end_at wr w.heap.size s pos ty hit.out hp
      have L := Lib.hid (show badV_C s = -1 by
        rw [hh.out.1]
        cases fuel with
        | zero => rfl
        | succ f => rw [badFrom, if_neg hp])
      go_wp2
      go_ret
      exact ⟨by (rw [L.out]) <;> rfl, hb⟩
def accF (r0 : Nat) (g : Nat → Nat) : Nat → Nat
  | 0 => r0
  | k + 1 => accF r0 g k * 64 + (g (k + 1) - 0x80)
def conts (g : Nat → Nat) (k : Nat) : Prop := ∀ i, 1 ≤ i → i ≤ k → 0x80 ≤ g i ∧ g i < 0xC0
instance (g : Nat → Nat) (k : Nat) : Decidable (conts g k) := by
  have : conts g k ↔ ∀ i, i < k → 0x80 ≤ g (i + 1) ∧ g (i + 1) < 0xC0 := by
    constructor
    · intro h i hi; exact h (i + 1) (by omega) (by omega)
    · intro h i h1 h2
      have := h (i - 1) (by omega)
      rwa [show i - 1 + 1 = i by omega] at this
  exact decidable_of_iff _ this.symm
/-- What comes out of so many bytes. -/
def firstT (r0 n least : Nat) (g : Nat → Nat) (m : Nat) : Nat × Nat :=
  if n ≤ m ∧ conts g (n - 1) ∧ least ≤ accF r0 g (n - 1) ∧ sgn_C (accF r0 g (n - 1)) = true then (accF r0 g (n - 1), n) else (0, 0)
theorem conts1 (g : Nat → Nat) : conts g 0 := fun i h1 h2 => by omega
theorem conts_s (g : Nat → Nat) (k : Nat) : conts g (k + 1) ↔ conts g k ∧ 0x80 ≤ g (k + 1) ∧ g (k + 1) < 0xC0 := by
  constructor
  · intro h; exact ⟨fun i h1 h2 => h i h1 (by omega), h (k + 1) (by omega) (by omega)⟩
  · rintro ⟨h, h'⟩ i h1 h2
    by_cases hi : i = k + 1
    · subst hi; exact h'
    · exact h i h1 (by omega)
theorem first_T (g : Nat → Nat) (m : Nat) (hm : 0 < m) : first g m = if g 0 < 0x80 then firstT (g 0) 1 0 g m else if 0xC0 ≤ g 0 ∧ g 0 < 0xE0 then firstT (g 0 - 0xC0) 2 0x80 g m
    else if 0xE0 ≤ g 0 ∧ g 0 < 0xF0 then firstT (g 0 - 0xE0) 3 0x800 g m else if 0xF0 ≤ g 0 ∧ g 0 < 0xF8 then firstT (g 0 - 0xF0) 4 0x10000 g m else (0, 0) := by
  unfold first firstT
  refine ite_ext Iff.rfl (fun _ => ite_ext ?_ (fun _ => rfl) fun _ => rfl) fun _ => ite_ext Iff.rfl (fun _ => ite_ext ?_ (fun _ => rfl) fun _ => rfl) fun _ => ite_ext Iff.rfl (fun _ => ite_ext ?_ (fun _ => rfl) fun _ => rfl) fun _ => ite_ext Iff.rfl (fun _ => ite_ext ?_ (fun _ => rfl) fun _ => rfl) fun _ => rfl
  · exact ⟨fun h => ⟨hm, conts1 g, Nat.zero_le _, h⟩, fun h => h.2.2.2⟩
  · rw [show (2 : Nat) - 1 = 0 + 1 from rfl, conts_s]
    exact ⟨fun ⟨a, b, c, d, e⟩ => ⟨a, ⟨conts1 g, b, c⟩, d, e⟩, fun ⟨a, ⟨_, b, c⟩, d, e⟩ => ⟨a, b, c, d, e⟩⟩
  · rw [show (3 : Nat) - 1 = 0 + 1 + 1 from rfl, conts_s, conts_s]
    exact ⟨fun ⟨a, b, c, b', c', d, e⟩ => ⟨a, ⟨⟨conts1 g, b, c⟩, b', c'⟩, d, e⟩, fun ⟨a, ⟨⟨_, b, c⟩, b', c'⟩, d, e⟩ => ⟨a, b, c, b', c', d, e⟩⟩
  · rw [show (4 : Nat) - 1 = 0 + 1 + 1 + 1 from rfl, conts_s, conts_s, conts_s]
    exact ⟨fun ⟨a, b, c, b', c', b'', c'', d, e⟩ => ⟨a, ⟨⟨⟨conts1 g, b, c⟩, b', c'⟩, b'', c''⟩, d, e⟩, fun ⟨a, ⟨⟨⟨_, b, c⟩, b', c'⟩, b'', c''⟩, d, e⟩ => ⟨a, b, c, b', c', b'', c'', d, e⟩⟩
theorem gOf_at (s : ByteArray) (i : Nat) (h : i < s.size) : (s[i]'h).toNat = gOf s 0 i := by
  rw [gOf, Nat.zero_add, get_list, List.getD_eq_getElem?_getD, List.getElem?_eq_getElem (by rw [size_list_C]; exact h)]; rfl
theorem acc_bd (r0 : Nat) (g : Nat → Nat) (h : r0 ≤ 127) (hg : ∀ i, g i < 256) (k : Nat) (hk : k ≤ 3) : accF r0 g k ≤ 40000000 := by
  have st : ∀ j, accF r0 g (j + 1) ≤ accF r0 g j * 64 + 127 := fun j => by
    have := hg (j + 1)
    show accF r0 g j * 64 + (g (j + 1) - 0x80) ≤ _
    omega
  have s0 : accF r0 g 0 ≤ 127 := h
  have s1 : accF r0 g 1 ≤ accF r0 g 0 * 64 + 127 := st 0
  have s2 : accF r0 g 2 ≤ accF r0 g 1 * 64 + 127 := st 1
  have s3 : accF r0 g 3 ≤ accF r0 g 2 * 64 + 127 := st 2
  have hc : k = 0 ∨ k = 1 ∨ k = 2 ∨ k = 3 := by omega
  rcases hc with rfl | rfl | rfl | rfl <;> omega
set_option maxRecDepth 100000 in
set_option maxHeartbeats 8000000 in
theorem rfirst_any (s : ByteArray) (h0 : 0 < s.size) (hs : s.size ≤ 9223372036854775807) (w : World) : Calls Tryz.prog 92 #[.string s] w fun e w' => e = .returned (.tuple #[.int .i64 ((first (gOf s 0) s.size).1 : Nat), .int .i64 ((first (gOf s 0) s.size).2 : Nat)]) ∧ w' = w := by
  have hF := first_T (gOf s 0) s.size h0
  have hg := gOf_lt s 0
  have e0 := gOf_at s 0 h0
  have i0 : (0 : Int) < s.size := by omega
  have i1 : (s.size : Int) ≤ 9223372036854775807 := by omega
  have b0 := hg 0
  have HG := Lib.hid hg
  have HA := Lib.hid (gOf_at s)
  by_cases c5 : gOf s 0 0 < 0x80 ∨ (0xC0 ≤ gOf s 0 0 ∧ gOf s 0 0 < 0xF8)
  · have hc4 : (gOf s 0 0 < 0x80) ∨ (0xC0 ≤ gOf s 0 0 ∧ gOf s 0 0 < 0xE0) ∨ (0xE0 ≤ gOf s 0 0 ∧ gOf s 0 0 < 0xF0) ∨ (0xF0 ≤ gOf s 0 0 ∧ gOf s 0 0 < 0xF8) := by omega
    clear c5
    rcases hc4 with cc | cc | cc | cc
    · have hT : first (gOf s 0) s.size = firstT (gOf s 0 0) 1 0 (gOf s 0) s.size := by rw [hF, if_pos cc]
      obtain ⟨R, hR⟩ : ∃ R, R = gOf s 0 0 := ⟨_, rfl⟩
      rw [← hR] at hT
      have hRi : (s[0].toNat : Int) = (R : Int) := by omega
      have hR127 : R ≤ 127 := by omega
      have b1 : (0 : Int) ≤ s[0].toNat := by omega
      have b2 : (s[0].toNat : Int) < 128 := by omega
      have BD := Lib.hid (fun k hk => acc_bd R (gOf s 0) hR127 HG.out k hk)
      have HT := Lib.hid hT
      have HRI := Lib.hid hRi
      have RB := Lib.hid hR127
      clear hF hT hRi hR127 hR cc hg b0 e0
      by_cases hm : (s.size : Int) < 1
      · have L := Lib.hid (show first (gOf s 0) s.size = (0, 0) by rw [HT.out, firstT, if_neg (fun h => by have := h.1; omega)])
        go_enter Tryz.func92, Tryz.ntmps92
        go_wp2
        go_ret2
        exact ⟨by (rw [L.out]) <;> rfl, rfl⟩
      · go_enter Tryz.func92, Tryz.ntmps92
        go_wp2_with fail
        go_loopg [6, 8] 1 (fun g v6 v8 wr => ∃ k : Nat, v6 = .int .i64 ((accF R (gOf s 0) k : Nat) : Int) ∧ v8 = .int .i64 ((k : Int) + 1) ∧ Hid (k ≤ 1 - 1 ∧ conts (gOf s 0) k ∧ g = 1 - k) ∧ wr = w)
        case atStart => exact ⟨0, by first | rw [HRI.out]; rfl | (rw [← HRI.out]; rfl), rfl, ⟨by omega, conts1 _, rfl⟩, rfl⟩
        case round =>
          obtain ⟨k, rfl, rfl, hh, rfl⟩ := hrel
          obtain ⟨hk, hct, -⟩ := hh.out
          have hbd := BD.out k (by omega)
          have hbi : ((accF R (gOf s 0) k : Nat) : Int) ≤ 40000000 := by omega
          by_cases hlt : k + 1 < 1
          · have hks : k + 1 < s.size := by omega
            have hga := HA.out (k + 1) hks
            have hg1 := HG.out (k + 1)
            have CS := Lib.hid (conts_s (gOf s 0) k)
            have HAC := Lib.hid (show accF R (gOf s 0) (k + 1) = accF R (gOf s 0) k * 64 + (gOf s 0 (k + 1) - 0x80) from rfl)
            have k1 : (k : Int) + 1 < 1 := by omega
            have k2 : (k : Int) + 1 < s.size := by omega
            rw [← hga] at CS HAC hg1
            obtain ⟨a, ha⟩ : ∃ a, a = accF R (gOf s 0) k := ⟨_, rfl⟩
            rw [← ha] at hbi HAC ⊢
            have k3 : (s[k + 1].toNat : Int) ≤ 255 := by omega
            by_cases hc : 0x80 ≤ s[k + 1].toNat ∧ s[k + 1].toNat < 0xC0
            · obtain ⟨hc1, hc2⟩ := hc
              have k4 : (128 : Int) ≤ s[k + 1].toNat := by omega
              have k5 : (s[k + 1].toNat : Int) < 192 := by omega
              have NC := Lib.hid (CS.out.2 ⟨hct, hc1, hc2⟩)
              have E := Lib.hid (show (a : Int) * 64 + (s[k + 1].toNat : Int) - 128 = ((accF R (gOf s 0) (k + 1) : Nat) : Int) by rw [HAC.out]; omega)
              clear hbd ha hga hg1 hc1 hc2 hk hct
              exfalso; omega
            · have L := Lib.hid (show first (gOf s 0) s.size = (0, 0) by
                rw [HT.out, firstT, if_neg (fun h => hc (by rw [hga]; exact h.2.1 (k + 1) (by omega) (by omega)))])
              have k4 : (s[k + 1].toNat : Int) < 128 ∨ (192 : Int) ≤ s[k + 1].toNat := by omega
              clear hbd ha hga hg1 hc hk hct
              rcases k4 with k4 | k4
              all_goals
                exfalso; omega
          · obtain rfl : k = 1 - 1 := by omega
            have hsg := fun w => rsign_any (accF R (gOf s 0) (1 - 1)) (by omega) w
            have HF2 := Lib.hid (show firstT R 1 0 (gOf s 0) s.size = if 1 ≤ s.size ∧ conts (gOf s 0) (1 - 1) ∧ 0 ≤ accF R (gOf s 0) (1 - 1) ∧ sgn_C (accF R (gOf s 0) (1 - 1)) = true then (accF R (gOf s 0) (1 - 1), 1) else (0, 0) from rfl)
            obtain ⟨a, ha⟩ : ∃ a, a = accF R (gOf s 0) (1 - 1) := ⟨_, rfl⟩
            rw [← ha] at hbi hsg HF2 ⊢
            have HSG := Lib.hid hsg
            have HCT := Lib.hid hct
            clear hbd ha hsg hk hct
            have hns : 1 ≤ s.size := by omega
            cases hsv : sgn_C a with
            | false =>
              have HSV := Lib.hid hsv
              have L := Lib.hid (show first (gOf s 0) s.size = (0, 0) by rw [HT.out, HF2.out, if_neg (fun h => by have := h.2.2.2; rw [hsv] at this; cases this)])
              clear hsv hns
              by_cases hl : (a : Int) < 0
              · exfalso; omega
              · go_wp2_with (go_at_call 118; refine (HSG.out _).mono ?_; rintro e W1 ⟨rfl, rfl⟩; rw [HSV.out])
                go_ret2
                exact ⟨by (rw [L.out]) <;> rfl, rfl⟩
            | true =>
              have HSV := Lib.hid hsv
              by_cases hl : (a : Int) < 0
              · exfalso; omega
              · have L := Lib.hid (show first (gOf s 0) s.size = (a, 1) by rw [HT.out, HF2.out, if_pos ⟨hns, HCT.out, by omega, hsv⟩])
                clear hsv hns
                go_wp2_with (go_at_call 118; refine (HSG.out _).mono ?_; rintro e W1 ⟨rfl, rfl⟩; rw [HSV.out])
                go_ret2
                exact ⟨by (rw [L.out]) <;> rfl, rfl⟩
    · have hT : first (gOf s 0) s.size = firstT (gOf s 0 0 - 0xC0) 2 128 (gOf s 0) s.size := by rw [hF, if_neg (by omega), if_pos cc]
      obtain ⟨R, hR⟩ : ∃ R, R = gOf s 0 0 - 0xC0 := ⟨_, rfl⟩
      rw [← hR] at hT
      have hRi : (s[0].toNat : Int) - 192 = (R : Int) := by omega
      have hR127 : R ≤ 127 := by omega
      have b1 : (192 : Int) ≤ s[0].toNat := by omega
      have b2 : (s[0].toNat : Int) < 224 := by omega
      have BD := Lib.hid (fun k hk => acc_bd R (gOf s 0) hR127 HG.out k hk)
      have HT := Lib.hid hT
      have HRI := Lib.hid hRi
      have RB := Lib.hid hR127
      clear hF hT hRi hR127 hR cc hg b0 e0
      by_cases hm : (s.size : Int) < 2
      · have L := Lib.hid (show first (gOf s 0) s.size = (0, 0) by rw [HT.out, firstT, if_neg (fun h => by have := h.1; omega)])
        go_enter Tryz.func92, Tryz.ntmps92
        go_wp2
        go_ret2
        exact ⟨by (rw [L.out]) <;> rfl, rfl⟩
      · go_enter Tryz.func92, Tryz.ntmps92
        go_wp2_with fail
        go_loopg [6, 8] 2 (fun g v6 v8 wr => ∃ k : Nat, v6 = .int .i64 ((accF R (gOf s 0) k : Nat) : Int) ∧ v8 = .int .i64 ((k : Int) + 1) ∧ Hid (k ≤ 2 - 1 ∧ conts (gOf s 0) k ∧ g = 2 - k) ∧ wr = w)
        case atStart => exact ⟨0, by first | rw [HRI.out]; rfl | (rw [← HRI.out]; rfl), rfl, ⟨by omega, conts1 _, rfl⟩, rfl⟩
        case round =>
          obtain ⟨k, rfl, rfl, hh, rfl⟩ := hrel
          obtain ⟨hk, hct, -⟩ := hh.out
          have hbd := BD.out k (by omega)
          have hbi : ((accF R (gOf s 0) k : Nat) : Int) ≤ 40000000 := by omega
          by_cases hlt : k + 1 < 2
          · have hks : k + 1 < s.size := by omega
            have hga := HA.out (k + 1) hks
            have hg1 := HG.out (k + 1)
            have CS := Lib.hid (conts_s (gOf s 0) k)
            have HAC := Lib.hid (show accF R (gOf s 0) (k + 1) = accF R (gOf s 0) k * 64 + (gOf s 0 (k + 1) - 0x80) from rfl)
            have k1 : (k : Int) + 1 < 2 := by omega
            have k2 : (k : Int) + 1 < s.size := by omega
            rw [← hga] at CS HAC hg1
            obtain ⟨a, ha⟩ : ∃ a, a = accF R (gOf s 0) k := ⟨_, rfl⟩
            rw [← ha] at hbi HAC ⊢
            have k3 : (s[k + 1].toNat : Int) ≤ 255 := by omega
            by_cases hc : 0x80 ≤ s[k + 1].toNat ∧ s[k + 1].toNat < 0xC0
            · obtain ⟨hc1, hc2⟩ := hc
              have k4 : (128 : Int) ≤ s[k + 1].toNat := by omega
              have k5 : (s[k + 1].toNat : Int) < 192 := by omega
              have NC := Lib.hid (CS.out.2 ⟨hct, hc1, hc2⟩)
              have E := Lib.hid (show (a : Int) * 64 + (s[k + 1].toNat : Int) - 128 = ((accF R (gOf s 0) (k + 1) : Nat) : Int) by rw [HAC.out]; omega)
              clear hbd ha hga hg1 hc1 hc2 hk hct
              · go_wp2
                go_roundg (gk - 1)
                case measure => have := hh.out.2.2; omega
                case rel => exact ⟨k + 1, by rw [E.out], by go_num, ⟨by omega, NC.out, by have := hh.out.2.2; omega⟩, rfl⟩
            · have L := Lib.hid (show first (gOf s 0) s.size = (0, 0) by
                rw [HT.out, firstT, if_neg (fun h => hc (by rw [hga]; exact h.2.1 (k + 1) (by omega) (by omega)))])
              have k4 : (s[k + 1].toNat : Int) < 128 ∨ (192 : Int) ≤ s[k + 1].toNat := by omega
              clear hbd ha hga hg1 hc hk hct
              rcases k4 with k4 | k4
              all_goals
                · go_wp2
                  go_ret2
                  exact ⟨by (rw [L.out]) <;> rfl, rfl⟩
          · obtain rfl : k = 2 - 1 := by omega
            have hsg := fun w => rsign_any (accF R (gOf s 0) (2 - 1)) (by omega) w
            have HF2 := Lib.hid (show firstT R 2 128 (gOf s 0) s.size = if 2 ≤ s.size ∧ conts (gOf s 0) (2 - 1) ∧ 128 ≤ accF R (gOf s 0) (2 - 1) ∧ sgn_C (accF R (gOf s 0) (2 - 1)) = true then (accF R (gOf s 0) (2 - 1), 2) else (0, 0) from rfl)
            obtain ⟨a, ha⟩ : ∃ a, a = accF R (gOf s 0) (2 - 1) := ⟨_, rfl⟩
            rw [← ha] at hbi hsg HF2 ⊢
            have HSG := Lib.hid hsg
            have HCT := Lib.hid hct
            clear hbd ha hsg hk hct
            have hns : 2 ≤ s.size := by omega
            cases hsv : sgn_C a with
            | false =>
              have HSV := Lib.hid hsv
              have L := Lib.hid (show first (gOf s 0) s.size = (0, 0) by rw [HT.out, HF2.out, if_neg (fun h => by have := h.2.2.2; rw [hsv] at this; cases this)])
              clear hsv hns
              by_cases hl : (a : Int) < 128
              · · go_wp2_with fail
                  go_ret2
                  exact ⟨by (rw [L.out]) <;> rfl, rfl⟩
              · go_wp2_with (go_at_call 118; refine (HSG.out _).mono ?_; rintro e W1 ⟨rfl, rfl⟩; rw [HSV.out])
                go_ret2
                exact ⟨by (rw [L.out]) <;> rfl, rfl⟩
            | true =>
              have HSV := Lib.hid hsv
              by_cases hl : (a : Int) < 128
              · · have L := Lib.hid (show first (gOf s 0) s.size = (0, 0) by rw [HT.out, HF2.out, if_neg (fun h => by have := h.2.2.1; omega)])
                  clear hsv hns
                  go_wp2_with fail
                  go_ret2
                  exact ⟨by (rw [L.out]) <;> rfl, rfl⟩
              · have L := Lib.hid (show first (gOf s 0) s.size = (a, 2) by rw [HT.out, HF2.out, if_pos ⟨hns, HCT.out, by omega, hsv⟩])
                clear hsv hns
                go_wp2_with (go_at_call 118; refine (HSG.out _).mono ?_; rintro e W1 ⟨rfl, rfl⟩; rw [HSV.out])
                go_ret2
                exact ⟨by (rw [L.out]) <;> rfl, rfl⟩
    · have hT : first (gOf s 0) s.size = firstT (gOf s 0 0 - 0xE0) 3 2048 (gOf s 0) s.size := by rw [hF, if_neg (by omega), if_neg (by omega), if_pos cc]
      obtain ⟨R, hR⟩ : ∃ R, R = gOf s 0 0 - 0xE0 := ⟨_, rfl⟩
      rw [← hR] at hT
      have hRi : (s[0].toNat : Int) - 224 = (R : Int) := by omega
      have hR127 : R ≤ 127 := by omega
      have b1 : (224 : Int) ≤ s[0].toNat := by omega
      have b2 : (s[0].toNat : Int) < 240 := by omega
      have BD := Lib.hid (fun k hk => acc_bd R (gOf s 0) hR127 HG.out k hk)
      have HT := Lib.hid hT
      have HRI := Lib.hid hRi
      have RB := Lib.hid hR127
      clear hF hT hRi hR127 hR cc hg b0 e0
      by_cases hm : (s.size : Int) < 3
      · have L := Lib.hid (show first (gOf s 0) s.size = (0, 0) by rw [HT.out, firstT, if_neg (fun h => by have := h.1; omega)])
        go_enter Tryz.func92, Tryz.ntmps92
        go_wp2
        go_ret2
        exact ⟨by (rw [L.out]) <;> rfl, rfl⟩
      · go_enter Tryz.func92, Tryz.ntmps92
        go_wp2_with fail
        go_loopg [6, 8] 3 (fun g v6 v8 wr => ∃ k : Nat, v6 = .int .i64 ((accF R (gOf s 0) k : Nat) : Int) ∧ v8 = .int .i64 ((k : Int) + 1) ∧ Hid (k ≤ 3 - 1 ∧ conts (gOf s 0) k ∧ g = 3 - k) ∧ wr = w)
        case atStart => exact ⟨0, by first | rw [HRI.out]; rfl | (rw [← HRI.out]; rfl), rfl, ⟨by omega, conts1 _, rfl⟩, rfl⟩
        case round =>
          obtain ⟨k, rfl, rfl, hh, rfl⟩ := hrel
          obtain ⟨hk, hct, -⟩ := hh.out
          have hbd := BD.out k (by omega)
          have hbi : ((accF R (gOf s 0) k : Nat) : Int) ≤ 40000000 := by omega
          by_cases hlt : k + 1 < 3
          · have hks : k + 1 < s.size := by omega
            have hga := HA.out (k + 1) hks
            have hg1 := HG.out (k + 1)
            have CS := Lib.hid (conts_s (gOf s 0) k)
            have HAC := Lib.hid (show accF R (gOf s 0) (k + 1) = accF R (gOf s 0) k * 64 + (gOf s 0 (k + 1) - 0x80) from rfl)
            have k1 : (k : Int) + 1 < 3 := by omega
            have k2 : (k : Int) + 1 < s.size := by omega
            rw [← hga] at CS HAC hg1
            obtain ⟨a, ha⟩ : ∃ a, a = accF R (gOf s 0) k := ⟨_, rfl⟩
            rw [← ha] at hbi HAC ⊢
            have k3 : (s[k + 1].toNat : Int) ≤ 255 := by omega
            by_cases hc : 0x80 ≤ s[k + 1].toNat ∧ s[k + 1].toNat < 0xC0
            · obtain ⟨hc1, hc2⟩ := hc
              have k4 : (128 : Int) ≤ s[k + 1].toNat := by omega
              have k5 : (s[k + 1].toNat : Int) < 192 := by omega
              have NC := Lib.hid (CS.out.2 ⟨hct, hc1, hc2⟩)
              have E := Lib.hid (show (a : Int) * 64 + (s[k + 1].toNat : Int) - 128 = ((accF R (gOf s 0) (k + 1) : Nat) : Int) by rw [HAC.out]; omega)
              clear hbd ha hga hg1 hc1 hc2 hk hct
              · go_wp2
                go_roundg (gk - 1)
                case measure => have := hh.out.2.2; omega
                case rel => exact ⟨k + 1, by rw [E.out], by go_num, ⟨by omega, NC.out, by have := hh.out.2.2; omega⟩, rfl⟩
            · have L := Lib.hid (show first (gOf s 0) s.size = (0, 0) by
                rw [HT.out, firstT, if_neg (fun h => hc (by rw [hga]; exact h.2.1 (k + 1) (by omega) (by omega)))])
              have k4 : (s[k + 1].toNat : Int) < 128 ∨ (192 : Int) ≤ s[k + 1].toNat := by omega
              clear hbd ha hga hg1 hc hk hct
              rcases k4 with k4 | k4
              all_goals
                · go_wp2
                  go_ret2
                  exact ⟨by (rw [L.out]) <;> rfl, rfl⟩
          · obtain rfl : k = 3 - 1 := by omega
            have hsg := fun w => rsign_any (accF R (gOf s 0) (3 - 1)) (by omega) w
            have HF2 := Lib.hid (show firstT R 3 2048 (gOf s 0) s.size = if 3 ≤ s.size ∧ conts (gOf s 0) (3 - 1) ∧ 2048 ≤ accF R (gOf s 0) (3 - 1) ∧ sgn_C (accF R (gOf s 0) (3 - 1)) = true then (accF R (gOf s 0) (3 - 1), 3) else (0, 0) from rfl)
            obtain ⟨a, ha⟩ : ∃ a, a = accF R (gOf s 0) (3 - 1) := ⟨_, rfl⟩
            rw [← ha] at hbi hsg HF2 ⊢
            have HSG := Lib.hid hsg
            have HCT := Lib.hid hct
            clear hbd ha hsg hk hct
            have hns : 3 ≤ s.size := by omega
            cases hsv : sgn_C a with
            | false =>
              have HSV := Lib.hid hsv
              have L := Lib.hid (show first (gOf s 0) s.size = (0, 0) by rw [HT.out, HF2.out, if_neg (fun h => by have := h.2.2.2; rw [hsv] at this; cases this)])
              clear hsv hns
              by_cases hl : (a : Int) < 2048
              · · go_wp2_with fail
                  go_ret2
                  exact ⟨by (rw [L.out]) <;> rfl, rfl⟩
              · go_wp2_with (go_at_call 118; refine (HSG.out _).mono ?_; rintro e W1 ⟨rfl, rfl⟩; rw [HSV.out])
                go_ret2
                exact ⟨by (rw [L.out]) <;> rfl, rfl⟩
            | true =>
              have HSV := Lib.hid hsv
              by_cases hl : (a : Int) < 2048
              · · have L := Lib.hid (show first (gOf s 0) s.size = (0, 0) by rw [HT.out, HF2.out, if_neg (fun h => by have := h.2.2.1; omega)])
                  clear hsv hns
                  go_wp2_with fail
                  go_ret2
                  exact ⟨by (rw [L.out]) <;> rfl, rfl⟩
              · have L := Lib.hid (show first (gOf s 0) s.size = (a, 3) by rw [HT.out, HF2.out, if_pos ⟨hns, HCT.out, by omega, hsv⟩])
                clear hsv hns
                go_wp2_with (go_at_call 118; refine (HSG.out _).mono ?_; rintro e W1 ⟨rfl, rfl⟩; rw [HSV.out])
                go_ret2
                exact ⟨by (rw [L.out]) <;> rfl, rfl⟩
    · have hT : first (gOf s 0) s.size = firstT (gOf s 0 0 - 0xF0) 4 65536 (gOf s 0) s.size := by rw [hF, if_neg (by omega), if_neg (by omega), if_neg (by omega), if_pos cc]
      obtain ⟨R, hR⟩ : ∃ R, R = gOf s 0 0 - 0xF0 := ⟨_, rfl⟩
      rw [← hR] at hT
      have hRi : (s[0].toNat : Int) - 240 = (R : Int) := by omega
      have hR127 : R ≤ 127 := by omega
      have b1 : (240 : Int) ≤ s[0].toNat := by omega
      have b2 : (s[0].toNat : Int) < 248 := by omega
      have BD := Lib.hid (fun k hk => acc_bd R (gOf s 0) hR127 HG.out k hk)
      have HT := Lib.hid hT
      have HRI := Lib.hid hRi
      have RB := Lib.hid hR127
      clear hF hT hRi hR127 hR cc hg b0 e0
      by_cases hm : (s.size : Int) < 4
      · have L := Lib.hid (show first (gOf s 0) s.size = (0, 0) by rw [HT.out, firstT, if_neg (fun h => by have := h.1; omega)])
        go_enter Tryz.func92, Tryz.ntmps92
        go_wp2
        go_ret2
        exact ⟨by (rw [L.out]) <;> rfl, rfl⟩
      · go_enter Tryz.func92, Tryz.ntmps92
        go_wp2_with fail
        go_loopg [6, 8] 4 (fun g v6 v8 wr => ∃ k : Nat, v6 = .int .i64 ((accF R (gOf s 0) k : Nat) : Int) ∧ v8 = .int .i64 ((k : Int) + 1) ∧ Hid (k ≤ 4 - 1 ∧ conts (gOf s 0) k ∧ g = 4 - k) ∧ wr = w)
        case atStart => exact ⟨0, by first | rw [HRI.out]; rfl | (rw [← HRI.out]; rfl), rfl, ⟨by omega, conts1 _, rfl⟩, rfl⟩
        case round =>
          obtain ⟨k, rfl, rfl, hh, rfl⟩ := hrel
          obtain ⟨hk, hct, -⟩ := hh.out
          have hbd := BD.out k (by omega)
          have hbi : ((accF R (gOf s 0) k : Nat) : Int) ≤ 40000000 := by omega
          by_cases hlt : k + 1 < 4
          · have hks : k + 1 < s.size := by omega
            have hga := HA.out (k + 1) hks
            have hg1 := HG.out (k + 1)
            have CS := Lib.hid (conts_s (gOf s 0) k)
            have HAC := Lib.hid (show accF R (gOf s 0) (k + 1) = accF R (gOf s 0) k * 64 + (gOf s 0 (k + 1) - 0x80) from rfl)
            have k1 : (k : Int) + 1 < 4 := by omega
            have k2 : (k : Int) + 1 < s.size := by omega
            rw [← hga] at CS HAC hg1
            obtain ⟨a, ha⟩ : ∃ a, a = accF R (gOf s 0) k := ⟨_, rfl⟩
            rw [← ha] at hbi HAC ⊢
            have k3 : (s[k + 1].toNat : Int) ≤ 255 := by omega
            by_cases hc : 0x80 ≤ s[k + 1].toNat ∧ s[k + 1].toNat < 0xC0
            · obtain ⟨hc1, hc2⟩ := hc
              have k4 : (128 : Int) ≤ s[k + 1].toNat := by omega
              have k5 : (s[k + 1].toNat : Int) < 192 := by omega
              have NC := Lib.hid (CS.out.2 ⟨hct, hc1, hc2⟩)
              have E := Lib.hid (show (a : Int) * 64 + (s[k + 1].toNat : Int) - 128 = ((accF R (gOf s 0) (k + 1) : Nat) : Int) by rw [HAC.out]; omega)
              clear hbd ha hga hg1 hc1 hc2 hk hct
              · go_wp2
                go_roundg (gk - 1)
                case measure => have := hh.out.2.2; omega
                case rel => exact ⟨k + 1, by rw [E.out], by go_num, ⟨by omega, NC.out, by have := hh.out.2.2; omega⟩, rfl⟩
            · have L := Lib.hid (show first (gOf s 0) s.size = (0, 0) by
                rw [HT.out, firstT, if_neg (fun h => hc (by rw [hga]; exact h.2.1 (k + 1) (by omega) (by omega)))])
              have k4 : (s[k + 1].toNat : Int) < 128 ∨ (192 : Int) ≤ s[k + 1].toNat := by omega
              clear hbd ha hga hg1 hc hk hct
              rcases k4 with k4 | k4
              all_goals
                · go_wp2
                  go_ret2
                  exact ⟨by (rw [L.out]) <;> rfl, rfl⟩
          · obtain rfl : k = 4 - 1 := by omega
            have hsg := fun w => rsign_any (accF R (gOf s 0) (4 - 1)) (by omega) w
            have HF2 := Lib.hid (show firstT R 4 65536 (gOf s 0) s.size = if 4 ≤ s.size ∧ conts (gOf s 0) (4 - 1) ∧ 65536 ≤ accF R (gOf s 0) (4 - 1) ∧ sgn_C (accF R (gOf s 0) (4 - 1)) = true then (accF R (gOf s 0) (4 - 1), 4) else (0, 0) from rfl)
            obtain ⟨a, ha⟩ : ∃ a, a = accF R (gOf s 0) (4 - 1) := ⟨_, rfl⟩
            rw [← ha] at hbi hsg HF2 ⊢
            have HSG := Lib.hid hsg
            have HCT := Lib.hid hct
            clear hbd ha hsg hk hct
            have hns : 4 ≤ s.size := by omega
            cases hsv : sgn_C a with
            | false =>
              have HSV := Lib.hid hsv
              have L := Lib.hid (show first (gOf s 0) s.size = (0, 0) by rw [HT.out, HF2.out, if_neg (fun h => by have := h.2.2.2; rw [hsv] at this; cases this)])
              clear hsv hns
              by_cases hl : (a : Int) < 65536
              · · go_wp2_with fail
                  go_ret2
                  exact ⟨by (rw [L.out]) <;> rfl, rfl⟩
              · go_wp2_with (go_at_call 118; refine (HSG.out _).mono ?_; rintro e W1 ⟨rfl, rfl⟩; rw [HSV.out])
                go_ret2
                exact ⟨by (rw [L.out]) <;> rfl, rfl⟩
            | true =>
              have HSV := Lib.hid hsv
              by_cases hl : (a : Int) < 65536
              · · have L := Lib.hid (show first (gOf s 0) s.size = (0, 0) by rw [HT.out, HF2.out, if_neg (fun h => by have := h.2.2.1; omega)])
                  clear hsv hns
                  go_wp2_with fail
                  go_ret2
                  exact ⟨by (rw [L.out]) <;> rfl, rfl⟩
              · have L := Lib.hid (show first (gOf s 0) s.size = (a, 4) by rw [HT.out, HF2.out, if_pos ⟨hns, HCT.out, by omega, hsv⟩])
                clear hsv hns
                go_wp2_with (go_at_call 118; refine (HSG.out _).mono ?_; rintro e W1 ⟨rfl, rfl⟩; rw [HSV.out])
                go_ret2
                exact ⟨by (rw [L.out]) <;> rfl, rfl⟩
  · have L := Lib.hid (show first (gOf s 0) s.size = (0, 0) by
      rw [hF, if_neg (fun h => c5 (.inl h)), if_neg (fun h => c5 (.inr (by omega))), if_neg (fun h => c5 (.inr (by omega))), if_neg (fun h => c5 (.inr (by omega)))])
    have b1 : (128 : Int) ≤ s[0].toNat := by omega
    have b2 : (s[0].toNat : Int) < 192 ∨ (248 : Int) ≤ s[0].toNat := by omega
    have b3 : (s[0].toNat : Int) ≤ 255 := by omega
    clear hF c5 hg e0 b0
    rcases b2 with b2 | b2
    all_goals
      go_enter Tryz.func92, Tryz.ntmps92
      go_wp2
      go_ret2
      exact ⟨by (rw [L.out]) <;> rfl, rfl⟩
theorem firstT_le (r0 n least : Nat) (g : Nat → Nat) (m : Nat) : (firstT r0 n least g m).2 ≤ m := by
  unfold firstT
  split
  · rename_i h; exact h.1
  · exact Nat.zero_le _
theorem first_le (g : Nat → Nat) (m : Nat) (hm : 0 < m) : (first g m).2 ≤ m := by
  rw [first_T g m hm]
  split
  · exact firstT_le ..
  · split
    · exact firstT_le ..
    · split
      · exact firstT_le ..
      · split
        · exact firstT_le ..
        · exact Nat.zero_le _
theorem gOf_ext (s : ByteArray) (pos : Nat) : gOf (s.extract pos s.size) 0 = gOf s pos := by
  funext i
  rw [gOf_list, gOf_list, List.drop_zero, ext_end_C]
theorem first_ok (s : ByteArray) (pos : Nat) (h : pos < s.size) : (first (gOf s pos) (s.size - pos)).2 = if okAt s pos = true then wdAt s pos else 0 := by
  rw [← first_is (gOf s pos) (s.size - pos) (gOf_lt s pos) (by omega)]
  unfold okAt wdAt
  split <;> rfl
theorem ext_size (s : ByteArray) (pos : Nat) : (s.extract pos s.size).size = s.size - pos := by simp [ByteArray.size_extract]
set_option maxRecDepth 100000 in
set_option maxHeartbeats 4000000 in
theorem rbad_any (s : ByteArray) (hs : s.size ≤ 9223372036854775807) (w : World) : Calls Tryz.prog 66 #[.string s] w fun e w' => e = .returned (.int .i64 (badV_C s)) ∧ w' = w := by
  have hsi : (s.size : Int) ≤ 9223372036854775807 := by omega
  go_enter Tryz.func66, Tryz.ntmps66
  go_wp2_with fail
  go_loopg [3] s.size (fun g v wr => ∃ pos fuel : Nat, v = .int .i64 pos ∧ pos ≤ s.size ∧ Hid (badV_C s = badFrom s fuel pos ∧ s.size ≤ fuel + pos ∧ g = s.size - pos) ∧ wr = w)
  case atStart => exact ⟨0, s.size, rfl, Nat.zero_le _, ⟨rfl, by omega, rfl⟩, rfl⟩
  case round =>
    obtain ⟨pos, fuel, rfl, hpl, hh, rfl⟩ := hrel
    by_cases hp : pos < s.size
    · have hz : 0 < (s.extract pos s.size).size := by rw [ext_size]; omega
      have hc := fun w => rfirst_any (s.extract pos s.size) hz (by rw [ext_size]; omega) w
      rw [gOf_ext, ext_size] at hc
      have hle := first_le (gOf s pos) (s.size - pos) (by omega)
      have hok := first_ok s pos hp
      obtain ⟨f, rfl⟩ : ∃ f, fuel = f + 1 := ⟨fuel - 1, by have := hh.out.2.1; omega⟩
      have hstep := hh.out.1
      rw [badFrom, if_pos hp] at hstep
      have hwd := wd_pos s pos
      obtain ⟨a, ha⟩ : ∃ a, a = (first (gOf s pos) (s.size - pos)).1 := ⟨_, rfl⟩
      obtain ⟨n, hn⟩ : ∃ n, n = (first (gOf s pos) (s.size - pos)).2 := ⟨_, rfl⟩
      rw [← ha, ← hn] at hc
      rw [← hn] at hle hok
      have HC := Lib.hid hc
      have i1 : (pos : Int) < s.size := by omega
      have i2 : (n : Int) + pos ≤ s.size := by omega
      cases hv : okAt s pos with
      | false =>
        rw [hv, if_neg (by decide)] at hok
        rw [hv, if_neg (by decide)] at hstep
        have L := Lib.hid hstep
        subst hok
        clear hstep hwd hle hc ha hn hv hz
        go_wp2_with (go_at_call 92; refine (HC.out _).mono ?_; rintro e W1 ⟨rfl, rfl⟩)
        go_ret
        exact ⟨by (rw [L.out]) <;> rfl, rfl⟩
      | true =>
        rw [hv, if_pos rfl] at hok
        rw [hv, if_pos rfl] at hstep
        have L := Lib.hid (show badV_C s = badFrom s f (pos + n) by rw [hstep, hok])
        have n1 : (1 : Int) ≤ n := by omega
        have e1 : ((n : Int) == 0) = false := by rw [beq_eq_false_iff_ne]; omega
        clear hstep hwd hle hc ha hn hv hok hz
        go_wp2_with (go_at_call 92; refine (HC.out _).mono ?_; rintro e W1 ⟨rfl, rfl⟩)
        go_roundg (s.size - (pos + n))
        case measure => have := hh.out.2.2; omega
        case rel => exact ⟨pos + n, f, by go_num, by omega, ⟨L.out, by have := hh.out.2.1; omega, rfl⟩, rfl⟩
    · have L := Lib.hid (show badV_C s = -1 by
        rw [hh.out.1]
        cases fuel with
        | zero => rfl
        | succ f => rw [badFrom, if_neg hp])
      go_wp2_with fail
      go_ret
      exact ⟨by (rw [L.out]) <;> rfl, rfl⟩
def goodB (s : ByteArray) : Bool := decide (badV_C s = -1)
theorem badFrom_sg (s : ByteArray) (f : Nat) : ∀ pos, badFrom s f pos = -1 ∨ 0 ≤ badFrom s f pos := by
  induction f with
  | zero => intro pos; exact .inl rfl
  | succ f ih =>
    intro pos
    unfold badFrom
    split
    · split
      · exact ih _
      · exact .inr (by omega)
    · exact .inl rfl
theorem good_any (s : ByteArray) (hs : s.size ≤ 9223372036854775807) (w : World) : Calls Tryz.prog 69 #[.string s] w fun e w' => e = .returned (.bool (goodB s)) ∧ Bel w w' := by
  have hc := fun w => bad_any s hs w
  have h1 := badFrom_sg s s.size 0
  have L := Lib.hid (show goodB s = (badV_C s == -1) from rfl)
  obtain ⟨z, hz⟩ : ∃ z, z = badV_C s := ⟨_, rfl⟩
  rw [← hz] at hc L
  have HC := Lib.hid hc
  clear hc h1 hz
  go_enter Tryz.func69, Tryz.ntmps69
  go_wp2_with (go_at_call 95; refine (HC.out _).mono ?_; rintro e W1 ⟨rfl, hb⟩)
  go_ret
  exact ⟨by (rw [L.out]) <;> rfl, hb⟩
theorem rgood_any (s : ByteArray) (hs : s.size ≤ 9223372036854775807) (w : World) : Calls Tryz.prog 41 #[.string s] w fun e w' => e = .returned (.bool (goodB s)) ∧ w' = w := by
  have hc := fun w => rbad_any s hs w
  have h1 : badV_C s = -1 ∨ 0 ≤ badV_C s := badFrom_sg s s.size 0
  obtain ⟨z, hz⟩ : ∃ z, z = badV_C s := ⟨_, rfl⟩
  have L := Lib.hid (show goodB s = decide (z < 0) by rw [hz, goodB, decide_eq_decide]; omega)
  rw [← hz] at hc
  have HC := Lib.hid hc
  clear hc h1 hz
  go_enter Tryz.func41, Tryz.ntmps41
  go_wp2_with (go_at_call 66; refine (HC.out _).mono ?_; rintro e W1 ⟨rfl, rfl⟩)
  go_ret
  exact ⟨by (rw [L.out]) <;> rfl, rfl⟩
def letB (r : Nat) : Bool := decide (r = 95 ∨ (97 ≤ r ∧ r ≤ 122) ∨ (65 ≤ r ∧ r ≤ 90))
def dgB (r : Nat) : Bool := decide (48 ≤ r ∧ r ≤ 57)
set_option maxRecDepth 100000 in
theorem letter_any (r : Nat) (hr : r ≤ 2147483647) (w : World) : Calls Tryz.prog 43 #[.int .i32 r] w fun e w' => e = .returned (.bool (letB r)) ∧ w' = w := by
  have hi : (r : Int) ≤ 2147483647 := by omega
  have hc : (r < 65) ∨ (65 ≤ r ∧ r ≤ 90) ∨ (90 < r ∧ r < 95) ∨ (r = 95) ∨ (r = 96) ∨ (97 ≤ r ∧ r ≤ 122) ∨ (122 < r) := by omega
  rcases hc with h | h | h | h | h | h | h
  · have L := Lib.hid (show letB r = false from decide_eq_false (by omega))
    have e95 : ((r : Int) == 95) = false := by rw [beq_eq_false_iff_ne]; omega
    have g97 : decide ((97 : Int) ≤ r) = false := by exact decide_eq_false (by omega)
    have l122 : decide ((r : Int) ≤ 122) = true := by exact decide_eq_true (by omega)
    have g65 : decide ((65 : Int) ≤ r) = false := by exact decide_eq_false (by omega)
    have l90 : decide ((r : Int) ≤ 90) = true := by exact decide_eq_true (by omega)
    clear h hr hi
    go_enter Tryz.func43, Tryz.ntmps43
    go_wp2
    go_ret
    exact ⟨by (rw [L.out]) <;> rfl, rfl⟩
  · have L := Lib.hid (show letB r = true from decide_eq_true (by omega))
    have e95 : ((r : Int) == 95) = false := by rw [beq_eq_false_iff_ne]; omega
    have g97 : decide ((97 : Int) ≤ r) = false := by exact decide_eq_false (by omega)
    have l122 : decide ((r : Int) ≤ 122) = true := by exact decide_eq_true (by omega)
    have g65 : decide ((65 : Int) ≤ r) = true := by exact decide_eq_true (by omega)
    have l90 : decide ((r : Int) ≤ 90) = true := by exact decide_eq_true (by omega)
    clear h hr hi
    go_enter Tryz.func43, Tryz.ntmps43
    go_wp2
    go_ret
    exact ⟨by (rw [L.out]) <;> rfl, rfl⟩
  · have L := Lib.hid (show letB r = false from decide_eq_false (by omega))
    have e95 : ((r : Int) == 95) = false := by rw [beq_eq_false_iff_ne]; omega
    have g97 : decide ((97 : Int) ≤ r) = false := by exact decide_eq_false (by omega)
    have l122 : decide ((r : Int) ≤ 122) = true := by exact decide_eq_true (by omega)
    have g65 : decide ((65 : Int) ≤ r) = true := by exact decide_eq_true (by omega)
    have l90 : decide ((r : Int) ≤ 90) = false := by exact decide_eq_false (by omega)
    clear h hr hi
    go_enter Tryz.func43, Tryz.ntmps43
    go_wp2
    go_ret
    exact ⟨by (rw [L.out]) <;> rfl, rfl⟩
  · have L := Lib.hid (show letB r = true from decide_eq_true (by omega))
    have e95 : ((r : Int) == 95) = true := by rw [beq_iff_eq]; omega
    have g97 : decide ((97 : Int) ≤ r) = false := by exact decide_eq_false (by omega)
    have l122 : decide ((r : Int) ≤ 122) = true := by exact decide_eq_true (by omega)
    have g65 : decide ((65 : Int) ≤ r) = true := by exact decide_eq_true (by omega)
    have l90 : decide ((r : Int) ≤ 90) = false := by exact decide_eq_false (by omega)
    clear h hr hi
    go_enter Tryz.func43, Tryz.ntmps43
    go_wp2
    go_ret
    exact ⟨by (rw [L.out]) <;> rfl, rfl⟩
  · have L := Lib.hid (show letB r = false from decide_eq_false (by omega))
    have e95 : ((r : Int) == 95) = false := by rw [beq_eq_false_iff_ne]; omega
    have g97 : decide ((97 : Int) ≤ r) = false := by exact decide_eq_false (by omega)
    have l122 : decide ((r : Int) ≤ 122) = true := by exact decide_eq_true (by omega)
    have g65 : decide ((65 : Int) ≤ r) = true := by exact decide_eq_true (by omega)
    have l90 : decide ((r : Int) ≤ 90) = false := by exact decide_eq_false (by omega)
    clear h hr hi
    go_enter Tryz.func43, Tryz.ntmps43
    go_wp2
    go_ret
    exact ⟨by (rw [L.out]) <;> rfl, rfl⟩
  · have L := Lib.hid (show letB r = true from decide_eq_true (by omega))
    have e95 : ((r : Int) == 95) = false := by rw [beq_eq_false_iff_ne]; omega
    have g97 : decide ((97 : Int) ≤ r) = true := by exact decide_eq_true (by omega)
    have l122 : decide ((r : Int) ≤ 122) = true := by exact decide_eq_true (by omega)
    have g65 : decide ((65 : Int) ≤ r) = true := by exact decide_eq_true (by omega)
    have l90 : decide ((r : Int) ≤ 90) = false := by exact decide_eq_false (by omega)
    clear h hr hi
    go_enter Tryz.func43, Tryz.ntmps43
    go_wp2
    go_ret
    exact ⟨by (rw [L.out]) <;> rfl, rfl⟩
  · have L := Lib.hid (show letB r = false from decide_eq_false (by omega))
    have e95 : ((r : Int) == 95) = false := by rw [beq_eq_false_iff_ne]; omega
    have g97 : decide ((97 : Int) ≤ r) = true := by exact decide_eq_true (by omega)
    have l122 : decide ((r : Int) ≤ 122) = false := by exact decide_eq_false (by omega)
    have g65 : decide ((65 : Int) ≤ r) = true := by exact decide_eq_true (by omega)
    have l90 : decide ((r : Int) ≤ 90) = false := by exact decide_eq_false (by omega)
    clear h hr hi
    go_enter Tryz.func43, Tryz.ntmps43
    go_wp2
    go_ret
    exact ⟨by (rw [L.out]) <;> rfl, rfl⟩
set_option maxRecDepth 100000 in
theorem digit10_any (r : Nat) (hr : r ≤ 2147483647) (w : World) : Calls Tryz.prog 44 #[.int .i32 r, .int .i64 10] w fun e w' => e = .returned (.bool (dgB r)) ∧ w' = w := by
  have hi : (r : Int) ≤ 2147483647 := by omega
  have hc : (r < 48) ∨ (48 ≤ r ∧ r ≤ 57) ∨ (57 < r) := by omega
  rcases hc with h | h | h
  · have L := Lib.hid (show dgB r = false from decide_eq_false (by omega))
    have g48 : decide ((48 : Int) ≤ r) = false := by exact decide_eq_false (by omega)
    have l57 : decide ((r : Int) ≤ 57) = true := by exact decide_eq_true (by omega)
    clear h hr hi
    go_enter Tryz.func44, Tryz.ntmps44
    go_wp2
    go_ret
    exact ⟨by (rw [L.out]) <;> rfl, rfl⟩
  · have L := Lib.hid (show dgB r = true from decide_eq_true (by omega))
    have g48 : decide ((48 : Int) ≤ r) = true := by exact decide_eq_true (by omega)
    have l57 : decide ((r : Int) ≤ 57) = true := by exact decide_eq_true (by omega)
    clear h hr hi
    go_enter Tryz.func44, Tryz.ntmps44
    go_wp2
    go_ret
    exact ⟨by (rw [L.out]) <;> rfl, rfl⟩
  · have L := Lib.hid (show dgB r = false from decide_eq_false (by omega))
    have g48 : decide ((48 : Int) ≤ r) = true := by exact decide_eq_true (by omega)
    have l57 : decide ((r : Int) ≤ 57) = false := by exact decide_eq_false (by omega)
    clear h hr hi
    go_enter Tryz.func44, Tryz.ntmps44
    go_wp2
    go_ret
    exact ⟨by (rw [L.out]) <;> rfl, rfl⟩
/-- Whether a byte may stand at a place of a name. -/
def okN (i b : Nat) : Bool := letB b || (decide (i ≠ 0) && dgB b)
def nameB (s : ByteArray) : Bool := decide (0 < s.size ∧ s.size ≤ 32) && (List.range s.size).all fun i => okN i (gOf s 0 i)
theorem name_no {s : ByteArray} {i : Nat} (h : i < s.size) (hb : okN i (gOf s 0 i) = false) : nameB s = false := by
  unfold nameB
  rw [Bool.and_eq_false_iff]
  right
  rw [Bool.eq_false_iff]
  intro ha
  rw [List.all_eq_true] at ha
  have := ha i (List.mem_range.2 h)
  rw [hb] at this
  cases this
theorem name_yes {s : ByteArray} (h0 : 0 < s.size) (h : s.size ≤ 32) (ha : ∀ i, i < s.size → okN i (gOf s 0 i) = true) : nameB s = true := by
  unfold nameB
  rw [decide_eq_true ⟨h0, h⟩, Bool.true_and, List.all_eq_true]
  intro i hi
  exact ha i (List.mem_range.1 hi)
theorem okN_high (i b : Nat) (h : 128 ≤ b) : okN i b = false := by
  unfold okN letB dgB
  rw [decide_eq_false (by omega), decide_eq_false (p := 48 ≤ b ∧ b ≤ 57) (by omega)]
  simp
theorem dec_low (g : Nat → Nat) (m : Nat) (h : g 0 < 128) : dec g m = (g 0, 1) := if_pos h
theorem dec_hi (g : Nat → Nat) (m : Nat) (h : ¬ g 0 < 128) : 128 ≤ (dec g m).1 := by
  unfold dec
  rw [if_neg h]
  repeat' split
  all_goals simp only
  all_goals omega
theorem gOf_add (s : ByteArray) (pos : Nat) : gOf s pos 0 = gOf s 0 pos := by unfold gOf; rw [Nat.zero_add, Nat.add_zero]
set_option maxRecDepth 100000 in
set_option maxHeartbeats 4000000 in
theorem name_any (s : ByteArray) (hs : s.size ≤ 9223372036854775807) (w : World) : Calls Tryz.prog 20 #[.string s] w fun e w' => e = .returned (.bool (nameB s)) ∧ Bel w w' := by
  have i2 : (s.size : Int) ≤ 9223372036854775807 := by omega
  by_cases h0 : s.size = 0
  · have L := Lib.hid (show nameB s = false by rw [nameB, decide_eq_false (by omega)]; rfl)
    have e0 : s.toList.isEmpty = true := by
      rw [ByteArray.toList_eq, List.isEmpty_iff]
      exact List.eq_nil_of_length_eq_zero (by rw [size_list_C]; exact h0)
    clear h0
    go_enter Tryz.func20, Tryz.ntmps20
    go_wp2
    go_ret
    exact ⟨by (rw [L.out]) <;> rfl, Bel.refl _⟩
  · have e0 : s.toList.isEmpty = false := by
      rw [ByteArray.toList_eq, Bool.eq_false_iff, ne_eq, List.isEmpty_iff]
      intro h
      have := size_list_C s
      rw [h] at this
      simp at this; omega
    by_cases h32 : (32 : Int) < s.size
    · have L := Lib.hid (show nameB s = false by rw [nameB, decide_eq_false (by omega)]; rfl)
      clear h0
      go_enter Tryz.func20, Tryz.ntmps20
      go_wp2
      go_ret
      exact ⟨by (rw [L.out]) <;> rfl, Bel.refl _⟩
    · have SZ := Lib.hid (And.intro (show 0 < s.size by omega) (show s.size ≤ 32 by omega))
      clear h0
      go_enter Tryz.func20, Tryz.ntmps20
      go_wp2
      have hit0 : (w.iter s 0).heap[w.heap.size]? = some (.stringIter s 0) := World.iter_heap w s 0
      have hb0 : Bel w (w.iter s 0) := (Bel.refl w).alloc _
      have HB := Lib.hid (And.intro hit0 hb0)
      clear hit0 hb0
      go_loopg [] s.size (fun g wr => ∃ pos : Nat, Hid (wr.heap[w.heap.size]? = some (.stringIter s pos)) ∧ Bel w wr ∧ Hid (pos ≤ s.size ∧ (∀ i, i < pos → okN i (gOf s 0 i) = true) ∧ g = s.size - pos))
      case atStart => exact ⟨0, HB.out.1, HB.out.2, ⟨Nat.zero_le _, fun i h => by omega, rfl⟩⟩
      case round =>
        obtain ⟨pos, hit, hb, hh⟩ := hrel
        by_cases hp : pos < s.size
        · have hd := decode_is s pos hp
          have hr := decode_le s pos
          obtain ⟨r, hr0⟩ : ∃ r, r = (dec (gOf s pos) (s.size - pos)).1 := ⟨_, rfl⟩
          rw [hd, ← hr0] at hr
          have hr' := hr
          have hnx0 : ∀ ty, (Instr.next (.pointer (some ⟨w.heap.size, 0, none⟩)) true ty).run Tryz.prog wr = .ok (.tuple #[.bool true, .int .i64 pos, .int .i32 (r : Nat)]) (wr.iterAt w.heap.size s (pos + wdAt s pos)) := fun ty => by
            have h := Lib.run_next_any_at (P := Tryz.prog) wr w.heap.size s pos ty hit.out hp
            rw [hd, ← hr0] at h
            exact h
          have hit2 := Lib.hid (Lib.iterAt_heap wr w.heap.size s pos (pos + wdAt s pos) hit.out)
          have hb2 : Bel w (wr.iterAt w.heap.size s (pos + wdAt s pos)) := Lib.below_iterAt hb (k := w.heap.size) (Nat.le_refl _) s _
          obtain ⟨W2, hW2⟩ : ∃ W2, W2 = wr.iterAt w.heap.size s (pos + wdAt s pos) := ⟨_, rfl⟩
          rw [← hW2] at hit2 hb2
          have hnx : ∀ ty, (Instr.next (.pointer (some ⟨w.heap.size, 0, none⟩)) true ty).run Tryz.prog wr = .ok (.tuple #[.bool true, .int .i64 pos, .int .i32 (r : Nat)]) W2 := fun ty => by rw [hW2]; exact hnx0 ty
          have hkey : okN pos r = okN pos (gOf s 0 pos) ∧ (okN pos r = true → wdAt s pos = 1) := by
            by_cases hl : gOf s pos 0 < 128
            · have hdl := dec_low (gOf s pos) (s.size - pos) hl
              rw [hdl] at hr0
              refine ⟨by rw [hr0, gOf_add], fun _ => by unfold wdAt; rw [hdl]⟩
            · have hh1 := dec_hi (gOf s pos) (s.size - pos) hl
              rw [← hr0] at hh1
              have f1 := okN_high pos r hh1
              refine ⟨by rw [f1, okN_high pos _ (by rw [← gOf_add]; omega)], fun h => by rw [f1] at h; cases h⟩
          have KEY := Lib.hid hkey
          have i1 : (pos : Int) < s.size := by omega
          have hok : okN pos r = (letB r || (decide (pos ≠ 0) && dgB r)) := rfl
          have HOK := Lib.hid hok
          have p0 : pos = 0 ∨ pos ≠ 0 := by omega
          clear hd hr hr0 hnx0 hW2 hb hkey hok
          cases hv : letB r with
          | true =>
            have HV := Lib.hid hv
            have HK := HV
            have L := Lib.hid (show okN pos r = true by rw [HOK.out, hv]; rfl)
            clear hv p0
            go_wp2_with (first
              | (go_at_call 43; refine (letter_any r hr' _).mono ?_; rintro e V1 ⟨rfl, rfl⟩; rw [HV.out])
              | (go_at_call 44; refine (digit10_any r hr' _).mono ?_; rintro e V2 ⟨rfl, rfl⟩; rw [HK.out]))
            go_roundg (s.size - (pos + 1))
            case measure => have := hh.out.2.2; omega
            case rel =>
              have h1 := KEY.out.2 L.out
              rw [h1] at hit2
              refine ⟨pos + 1, hit2, hb2, ⟨by omega, fun i hi => ?_, rfl⟩⟩
              by_cases he : i = pos
              · subst he; rw [← KEY.out.1]; exact L.out
              · exact hh.out.2.1 i (by omega)
          | false =>
            have HV := Lib.hid hv
            cases hk : dgB r with
            | true =>
              have HK := Lib.hid hk
              by_cases hz : pos = 0
              · have L := Lib.hid (show nameB s = false from name_no hp (by rw [← KEY.out.1, HOK.out, hv, hz]; rfl))
                subst hz
                clear hv hk p0
                go_wp2_with (first
                  | (go_at_call 43; refine (letter_any r hr' _).mono ?_; rintro e V1 ⟨rfl, rfl⟩; rw [HV.out])
                  | (go_at_call 44; refine (digit10_any r hr' _).mono ?_; rintro e V2 ⟨rfl, rfl⟩; rw [HK.out]))
                go_ret
                exact ⟨by (rw [L.out]) <;> rfl, hb2⟩
              · have L := Lib.hid (show okN pos r = true by rw [HOK.out, hv, hk, decide_eq_true hz]; rfl)
                have e1 : ((pos : Int) == 0) = false := by rw [beq_eq_false_iff_ne]; omega
                clear hv hk p0
                go_wp2_with (first
                  | (go_at_call 43; refine (letter_any r hr' _).mono ?_; rintro e V1 ⟨rfl, rfl⟩; rw [HV.out])
                  | (go_at_call 44; refine (digit10_any r hr' _).mono ?_; rintro e V2 ⟨rfl, rfl⟩; rw [HK.out]))
                go_roundg (s.size - (pos + 1))
                case measure => have := hh.out.2.2; omega
                case rel =>
                  have h1 := KEY.out.2 L.out
                  rw [h1] at hit2
                  refine ⟨pos + 1, hit2, hb2, ⟨by omega, fun i hi => ?_, rfl⟩⟩
                  by_cases he : i = pos
                  · subst he; rw [← KEY.out.1]; exact L.out
                  · exact hh.out.2.1 i (by omega)
            | false =>
              have HK := Lib.hid hk
              have L := Lib.hid (show nameB s = false from name_no hp (by rw [← KEY.out.1, HOK.out, hv, hk]; simp))
              clear hv hk
              rcases p0 with hz | hz
              · subst hz
                go_wp2_with (first
                  | (go_at_call 43; refine (letter_any r hr' _).mono ?_; rintro e V1 ⟨rfl, rfl⟩; rw [HV.out])
                  | (go_at_call 44; refine (digit10_any r hr' _).mono ?_; rintro e V2 ⟨rfl, rfl⟩; rw [HK.out]))
                go_ret
                exact ⟨by (rw [L.out]) <;> rfl, hb2⟩
              · have e1 : ((pos : Int) == 0) = false := by rw [beq_eq_false_iff_ne]; omega
                clear hz
                go_wp2_with (first
                  | (go_at_call 43; refine (letter_any r hr' _).mono ?_; rintro e V1 ⟨rfl, rfl⟩; rw [HV.out])
                  | (go_at_call 44; refine (digit10_any r hr' _).mono ?_; rintro e V2 ⟨rfl, rfl⟩; rw [HK.out]))
                go_ret
                exact ⟨by (rw [L.out]) <;> rfl, hb2⟩
        · have hnx : ∀ ty, (Instr.next (.pointer (some ⟨w.heap.size, 0, none⟩)) true ty).run Tryz.prog wr = .ok (.tuple #[.bool false]) wr := fun ty => Lib.run_next_end_at wr w.heap.size s pos ty hit.out hp
          have L := Lib.hid (show nameB s = true from name_yes SZ.out.1 SZ.out.2 fun i hi => hh.out.2.1 i (by omega))
          go_wp2
          go_ret
          exact ⟨by (rw [L.out]) <;> rfl, hb⟩
set_option maxRecDepth 100000 in
set_option maxHeartbeats 8000000 in
theorem rname_any (s : ByteArray) (hs : s.size ≤ 9223372036854775807) (w : World) : Calls Tryz.prog 21 #[.string s] w fun e w' => e = .returned (.bool (nameB s)) ∧ w' = w := by
  have i2 : (s.size : Int) ≤ 9223372036854775807 := by omega
  by_cases h0 : s.size = 0
  · have L := Lib.hid (show nameB s = false by rw [nameB, decide_eq_false (by omega)]; rfl)
    have e0 : s.toList.isEmpty = true := by
      rw [ByteArray.toList_eq, List.isEmpty_iff]
      exact List.eq_nil_of_length_eq_zero (by rw [size_list_C]; exact h0)
    clear h0
    go_enter Tryz.func21, Tryz.ntmps21
    go_wp2
    go_ret
    exact ⟨by (rw [L.out]) <;> rfl, rfl⟩
  · have e0 : s.toList.isEmpty = false := by
      rw [ByteArray.toList_eq, Bool.eq_false_iff, ne_eq, List.isEmpty_iff]
      intro h
      have := size_list_C s
      rw [h] at this
      simp at this; omega
    by_cases h32 : (32 : Int) < s.size
    · have L := Lib.hid (show nameB s = false by rw [nameB, decide_eq_false (by omega)]; rfl)
      clear h0
      go_enter Tryz.func21, Tryz.ntmps21
      go_wp2
      go_ret
      exact ⟨by (rw [L.out]) <;> rfl, rfl⟩
    · have SZ := Lib.hid (And.intro (show 0 < s.size by omega) (show s.size ≤ 32 by omega))
      clear h0
      go_enter Tryz.func21, Tryz.ntmps21
      go_wp2_with fail
      go_loopg [3] s.size (fun g v wr => ∃ k : Nat, v = .int .i64 k ∧ k ≤ s.size ∧ Hid ((∀ i, i < k → okN i (gOf s 0 i) = true) ∧ g = s.size - k) ∧ wr = w)
      case atStart => exact ⟨0, rfl, Nat.zero_le _, ⟨fun i h => by omega, rfl⟩, rfl⟩
      case round =>
        obtain ⟨k, rfl, hk, hh, rfl⟩ := hrel
        by_cases hp : k < s.size
        · have hc0 := gOf_at s k hp
          have j1 : (k : Int) < s.size := by omega
          have hcb := gOf_lt s 0 k
          rw [← hc0] at hcb
          have HC := Lib.hid hc0
          have hcc : (0 ≤ s[k].toNat ∧ s[k].toNat ≤ 47) ∨ (48 ≤ s[k].toNat ∧ s[k].toNat ≤ 57) ∨ (58 ≤ s[k].toNat ∧ s[k].toNat ≤ 64) ∨ (65 ≤ s[k].toNat ∧ s[k].toNat ≤ 90) ∨ (91 ≤ s[k].toNat ∧ s[k].toNat ≤ 94) ∨ (95 ≤ s[k].toNat ∧ s[k].toNat ≤ 95) ∨ (96 ≤ s[k].toNat ∧ s[k].toNat ≤ 96) ∨ (97 ≤ s[k].toNat ∧ s[k].toNat ≤ 122) ∨ (123 ≤ s[k].toNat ∧ s[k].toNat ≤ 255) := by omega
          clear hc0
          have kz0 : k = 0 ∨ k ≠ 0 := by omega
          rcases hcc with cc | cc | cc | cc | cc | cc | cc | cc | cc
          · have g97 : decide ((97 : Int) ≤ (s[k].toNat : Int)) = false := by exact decide_eq_false (by omega)
            have g65 : decide ((65 : Int) ≤ (s[k].toNat : Int)) = false := by exact decide_eq_false (by omega)
            have l122 : decide ((s[k].toNat : Int) ≤ 122) = true := by exact decide_eq_true (by omega)
            have l90 : decide ((s[k].toNat : Int) ≤ 90) = true := by exact decide_eq_true (by omega)
            have l48 : decide ((s[k].toNat : Int) < 48) = true := by exact decide_eq_true (by omega)
            have g57 : decide ((57 : Int) < (s[k].toNat : Int)) = false := by exact decide_eq_false (by omega)
            have e95 : ((s[k].toNat : Int) == 95) = false := by rw [beq_eq_false_iff_ne]; omega
            have L := Lib.hid (show nameB s = false from name_no hp (by rw [← HC.out, okN, show letB s[k].toNat = false from decide_eq_false (by omega), show dgB s[k].toNat = false from decide_eq_false (by omega)]; simp))
            rcases kz0 with kz | kz
            · subst kz
              clear cc hcb
              go_wp2
              go_ret
              exact ⟨by (rw [L.out]) <;> rfl, rfl⟩
            · have e1 : ((k : Int) == 0) = false := by rw [beq_eq_false_iff_ne]; omega
              clear cc hcb kz
              go_wp2
              go_ret
              exact ⟨by (rw [L.out]) <;> rfl, rfl⟩
          · have g97 : decide ((97 : Int) ≤ (s[k].toNat : Int)) = false := by exact decide_eq_false (by omega)
            have g65 : decide ((65 : Int) ≤ (s[k].toNat : Int)) = false := by exact decide_eq_false (by omega)
            have l122 : decide ((s[k].toNat : Int) ≤ 122) = true := by exact decide_eq_true (by omega)
            have l90 : decide ((s[k].toNat : Int) ≤ 90) = true := by exact decide_eq_true (by omega)
            have l48 : decide ((s[k].toNat : Int) < 48) = false := by exact decide_eq_false (by omega)
            have g57 : decide ((57 : Int) < (s[k].toNat : Int)) = false := by exact decide_eq_false (by omega)
            have e95 : ((s[k].toNat : Int) == 95) = false := by rw [beq_eq_false_iff_ne]; omega
            rcases kz0 with kz | kz
            · have L := Lib.hid (show nameB s = false from name_no hp (by rw [← HC.out, okN, show letB s[k].toNat = false from decide_eq_false (by omega), decide_eq_false (show ¬ k ≠ 0 by omega)]; rfl))
              subst kz
              clear cc hcb
              go_wp2
              go_ret
              exact ⟨by (rw [L.out]) <;> rfl, rfl⟩
            · have OK := Lib.hid (show okN k (gOf s 0 k) = true by rw [← HC.out, okN, show dgB s[k].toNat = true from decide_eq_true (by omega), decide_eq_true kz]; simp)
              have e1 : ((k : Int) == 0) = false := by rw [beq_eq_false_iff_ne]; omega
              clear cc hcb kz
              go_wp2
              go_roundg (s.size - (k + 1))
              case measure => have := hh.out.2; omega
              case rel => exact ⟨k + 1, by go_num, by omega, ⟨fun i hi => by
                by_cases he : i = k
                · subst he; exact OK.out
                · exact hh.out.1 i (by omega), rfl⟩, rfl⟩
          · have g97 : decide ((97 : Int) ≤ (s[k].toNat : Int)) = false := by exact decide_eq_false (by omega)
            have g65 : decide ((65 : Int) ≤ (s[k].toNat : Int)) = false := by exact decide_eq_false (by omega)
            have l122 : decide ((s[k].toNat : Int) ≤ 122) = true := by exact decide_eq_true (by omega)
            have l90 : decide ((s[k].toNat : Int) ≤ 90) = true := by exact decide_eq_true (by omega)
            have l48 : decide ((s[k].toNat : Int) < 48) = false := by exact decide_eq_false (by omega)
            have g57 : decide ((57 : Int) < (s[k].toNat : Int)) = true := by exact decide_eq_true (by omega)
            have e95 : ((s[k].toNat : Int) == 95) = false := by rw [beq_eq_false_iff_ne]; omega
            have L := Lib.hid (show nameB s = false from name_no hp (by rw [← HC.out, okN, show letB s[k].toNat = false from decide_eq_false (by omega), show dgB s[k].toNat = false from decide_eq_false (by omega)]; simp))
            rcases kz0 with kz | kz
            · subst kz
              clear cc hcb
              go_wp2
              go_ret
              exact ⟨by (rw [L.out]) <;> rfl, rfl⟩
            · have e1 : ((k : Int) == 0) = false := by rw [beq_eq_false_iff_ne]; omega
              clear cc hcb kz
              go_wp2
              go_ret
              exact ⟨by (rw [L.out]) <;> rfl, rfl⟩
          · have g97 : decide ((97 : Int) ≤ (s[k].toNat : Int)) = false := by exact decide_eq_false (by omega)
            have g65 : decide ((65 : Int) ≤ (s[k].toNat : Int)) = true := by exact decide_eq_true (by omega)
            have l122 : decide ((s[k].toNat : Int) ≤ 122) = true := by exact decide_eq_true (by omega)
            have l90 : decide ((s[k].toNat : Int) ≤ 90) = true := by exact decide_eq_true (by omega)
            have l48 : decide ((s[k].toNat : Int) < 48) = false := by exact decide_eq_false (by omega)
            have g57 : decide ((57 : Int) < (s[k].toNat : Int)) = true := by exact decide_eq_true (by omega)
            have e95 : ((s[k].toNat : Int) == 95) = false := by rw [beq_eq_false_iff_ne]; omega
            have OK := Lib.hid (show okN k (gOf s 0 k) = true by rw [← HC.out, okN, show letB s[k].toNat = true from decide_eq_true (by omega)]; rfl)
            clear cc hcb kz0
            go_wp2
            go_roundg (s.size - (k + 1))
            case measure => have := hh.out.2; omega
            case rel => exact ⟨k + 1, by go_num, by omega, ⟨fun i hi => by
              by_cases he : i = k
              · subst he; exact OK.out
              · exact hh.out.1 i (by omega), rfl⟩, rfl⟩
          · have g97 : decide ((97 : Int) ≤ (s[k].toNat : Int)) = false := by exact decide_eq_false (by omega)
            have g65 : decide ((65 : Int) ≤ (s[k].toNat : Int)) = true := by exact decide_eq_true (by omega)
            have l122 : decide ((s[k].toNat : Int) ≤ 122) = true := by exact decide_eq_true (by omega)
            have l90 : decide ((s[k].toNat : Int) ≤ 90) = false := by exact decide_eq_false (by omega)
            have l48 : decide ((s[k].toNat : Int) < 48) = false := by exact decide_eq_false (by omega)
            have g57 : decide ((57 : Int) < (s[k].toNat : Int)) = true := by exact decide_eq_true (by omega)
            have e95 : ((s[k].toNat : Int) == 95) = false := by rw [beq_eq_false_iff_ne]; omega
            have L := Lib.hid (show nameB s = false from name_no hp (by rw [← HC.out, okN, show letB s[k].toNat = false from decide_eq_false (by omega), show dgB s[k].toNat = false from decide_eq_false (by omega)]; simp))
            rcases kz0 with kz | kz
            · subst kz
              clear cc hcb
              go_wp2
              go_ret
              exact ⟨by (rw [L.out]) <;> rfl, rfl⟩
            · have e1 : ((k : Int) == 0) = false := by rw [beq_eq_false_iff_ne]; omega
              clear cc hcb kz
              go_wp2
              go_ret
              exact ⟨by (rw [L.out]) <;> rfl, rfl⟩
          · have g97 : decide ((97 : Int) ≤ (s[k].toNat : Int)) = false := by exact decide_eq_false (by omega)
            have g65 : decide ((65 : Int) ≤ (s[k].toNat : Int)) = true := by exact decide_eq_true (by omega)
            have l122 : decide ((s[k].toNat : Int) ≤ 122) = true := by exact decide_eq_true (by omega)
            have l90 : decide ((s[k].toNat : Int) ≤ 90) = false := by exact decide_eq_false (by omega)
            have l48 : decide ((s[k].toNat : Int) < 48) = false := by exact decide_eq_false (by omega)
            have g57 : decide ((57 : Int) < (s[k].toNat : Int)) = true := by exact decide_eq_true (by omega)
            have e95 : ((s[k].toNat : Int) == 95) = true := by rw [beq_iff_eq]; omega
            have OK := Lib.hid (show okN k (gOf s 0 k) = true by rw [← HC.out, okN, show letB s[k].toNat = true from decide_eq_true (by omega)]; rfl)
            clear cc hcb kz0
            go_wp2
            go_roundg (s.size - (k + 1))
            case measure => have := hh.out.2; omega
            case rel => exact ⟨k + 1, by go_num, by omega, ⟨fun i hi => by
              by_cases he : i = k
              · subst he; exact OK.out
              · exact hh.out.1 i (by omega), rfl⟩, rfl⟩
          · have g97 : decide ((97 : Int) ≤ (s[k].toNat : Int)) = false := by exact decide_eq_false (by omega)
            have g65 : decide ((65 : Int) ≤ (s[k].toNat : Int)) = true := by exact decide_eq_true (by omega)
            have l122 : decide ((s[k].toNat : Int) ≤ 122) = true := by exact decide_eq_true (by omega)
            have l90 : decide ((s[k].toNat : Int) ≤ 90) = false := by exact decide_eq_false (by omega)
            have l48 : decide ((s[k].toNat : Int) < 48) = false := by exact decide_eq_false (by omega)
            have g57 : decide ((57 : Int) < (s[k].toNat : Int)) = true := by exact decide_eq_true (by omega)
            have e95 : ((s[k].toNat : Int) == 95) = false := by rw [beq_eq_false_iff_ne]; omega
            have L := Lib.hid (show nameB s = false from name_no hp (by rw [← HC.out, okN, show letB s[k].toNat = false from decide_eq_false (by omega), show dgB s[k].toNat = false from decide_eq_false (by omega)]; simp))
            rcases kz0 with kz | kz
            · subst kz
              clear cc hcb
              go_wp2
              go_ret
              exact ⟨by (rw [L.out]) <;> rfl, rfl⟩
            · have e1 : ((k : Int) == 0) = false := by rw [beq_eq_false_iff_ne]; omega
              clear cc hcb kz
              go_wp2
              go_ret
              exact ⟨by (rw [L.out]) <;> rfl, rfl⟩
          · have g97 : decide ((97 : Int) ≤ (s[k].toNat : Int)) = true := by exact decide_eq_true (by omega)
            have g65 : decide ((65 : Int) ≤ (s[k].toNat : Int)) = true := by exact decide_eq_true (by omega)
            have l122 : decide ((s[k].toNat : Int) ≤ 122) = true := by exact decide_eq_true (by omega)
            have l90 : decide ((s[k].toNat : Int) ≤ 90) = false := by exact decide_eq_false (by omega)
            have l48 : decide ((s[k].toNat : Int) < 48) = false := by exact decide_eq_false (by omega)
            have g57 : decide ((57 : Int) < (s[k].toNat : Int)) = true := by exact decide_eq_true (by omega)
            have e95 : ((s[k].toNat : Int) == 95) = false := by rw [beq_eq_false_iff_ne]; omega
            have OK := Lib.hid (show okN k (gOf s 0 k) = true by rw [← HC.out, okN, show letB s[k].toNat = true from decide_eq_true (by omega)]; rfl)
            clear cc hcb kz0
            go_wp2
            go_roundg (s.size - (k + 1))
            case measure => have := hh.out.2; omega
            case rel => exact ⟨k + 1, by go_num, by omega, ⟨fun i hi => by
              by_cases he : i = k
              · subst he; exact OK.out
              · exact hh.out.1 i (by omega), rfl⟩, rfl⟩
          · have g97 : decide ((97 : Int) ≤ (s[k].toNat : Int)) = true := by exact decide_eq_true (by omega)
            have g65 : decide ((65 : Int) ≤ (s[k].toNat : Int)) = true := by exact decide_eq_true (by omega)
            have l122 : decide ((s[k].toNat : Int) ≤ 122) = false := by exact decide_eq_false (by omega)
            have l90 : decide ((s[k].toNat : Int) ≤ 90) = false := by exact decide_eq_false (by omega)
            have l48 : decide ((s[k].toNat : Int) < 48) = false := by exact decide_eq_false (by omega)
            have g57 : decide ((57 : Int) < (s[k].toNat : Int)) = true := by exact decide_eq_true (by omega)
            have e95 : ((s[k].toNat : Int) == 95) = false := by rw [beq_eq_false_iff_ne]; omega
            have L := Lib.hid (show nameB s = false from name_no hp (by rw [← HC.out, okN, show letB s[k].toNat = false from decide_eq_false (by omega), show dgB s[k].toNat = false from decide_eq_false (by omega)]; simp))
            rcases kz0 with kz | kz
            · subst kz
              clear cc hcb
              go_wp2
              go_ret
              exact ⟨by (rw [L.out]) <;> rfl, rfl⟩
            · have e1 : ((k : Int) == 0) = false := by rw [beq_eq_false_iff_ne]; omega
              clear cc hcb kz
              go_wp2
              go_ret
              exact ⟨by (rw [L.out]) <;> rfl, rfl⟩
        · have L := Lib.hid (show nameB s = true from name_yes SZ.out.1 SZ.out.2 fun i hi => hh.out.1 i (by omega))
          go_wp2
          go_ret
          exact ⟨by (rw [L.out]) <;> rfl, rfl⟩
end
end Go.Proofs.YtofcjdbodhoacaaGreatDoor
