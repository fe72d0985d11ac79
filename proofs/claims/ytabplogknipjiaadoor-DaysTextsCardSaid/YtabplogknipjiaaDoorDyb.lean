import Derived.Test.YtabplogknipjiaaDoorDya
namespace Go.Proofs.YtabplogknipjiaaDoor
set_option linter.unusedSimpArgs false
set_option linter.unusedVariables false
open Go.RowKit

theorem lenM_bd (y m : Int) : 28 ≤ lenM y m ∧ lenM y m ≤ 31 := by
  unfold lenM
  repeat' split
  all_goals omega
theorem length_any (y m : Int) (w : World) : Calls Tryd.prog 27 #[.int .i64 y, .int .i64 m] w fun e w' => e = .returned (.int .i64 (lenM y m)) ∧ Bel w w' := by
  by_cases h2 : m = 2
  · subst h2
    have hl : Hid (lenM y 2 = if leapB y = true then 29 else 28) := by simp [Hid, lenM]
    cases hb : leapB y with
    | true =>
      go_enter Tryd.func27, Tryd.ntmps27
      go_wp2_with (go_at_call 17; refine (leap_any y _).mono ?_; rintro e w1 ⟨rfl, hb1⟩)
      go_ret
      exact ⟨by rw [hl.out, hb]; rfl, hb1⟩
    | false =>
      go_enter Tryd.func27, Tryd.ntmps27
      go_wp2_with (go_at_call 17; refine (leap_any y _).mono ?_; rintro e w1 ⟨rfl, hb1⟩)
      go_ret
      exact ⟨by rw [hl.out, hb]; rfl, hb1⟩
  · by_cases h3 : m = 4 ∨ m = 6 ∨ m = 9 ∨ m = 11
    · have hl : Hid (lenM y m = 30) := by simp [Hid, lenM, h2, h3]
      rcases h3 with rfl | rfl | rfl | rfl
      all_goals
        go_enter Tryd.func27, Tryd.ntmps27
        go_wp2
        go_ret
        exact ⟨by rw [hl.out]; rfl, Bel.refl _⟩
    · have hl : Hid (lenM y m = 31) := by simp [Hid, lenM, h2, h3]
      have g4 : m ≠ 4 := fun e => h3 (.inl e)
      have g6 : m ≠ 6 := fun e => h3 (.inr (.inl e))
      have g9 : m ≠ 9 := fun e => h3 (.inr (.inr (.inl e)))
      have g11 : m ≠ 11 := fun e => h3 (.inr (.inr (.inr e)))
      clear h3
      go_enter Tryd.func27, Tryd.ntmps27
      go_wp2
      go_ret
      exact ⟨by rw [hl.out]; rfl, Bel.refl _⟩

theorem bef_bd (y : Int) (h1 : 1 ≤ y) (h2 : y ≤ 10000) : 0 ≤ bef y ∧ bef y ≤ 3652059 := by unfold bef; omega
theorem before_any (y : Int) (h1 : 1 ≤ y) (h2 : y ≤ 10000) (w : World) : Calls Tryd.prog 28 #[.int .i64 y] w fun e w' => e = .returned (.int .i64 (bef y)) ∧ Bel w w' := by
  have hl : Hid (bef y = 365 * (y - 1) + (y - 1) / 4 - (y - 1) / 100 + (y - 1) / 400) := rfl
  go_enter Tryd.func28, Tryd.ntmps28
  go_wp2
  go_ret
  exact ⟨by rw [hl.out]; rfl, Bel.refl _⟩

/-- A block of the call's own that holds three numbers. -/
abbrev Arr3 (w : World) (b : Nat) (x y z : Int) : Prop :=
  b < w.heap.size ∧ w.cell? ⟨b, 0, none⟩ = some (.int .i64 x) ∧ w.cell? ⟨b, 1, none⟩ = some (.int .i64 y) ∧ w.cell? ⟨b, 2, none⟩ = some (.int .i64 z)
theorem Arr3.keep {w w' : World} {b : Nat} {x y z : Int} (h : Arr3 w b x y z) (hb : Bel w w') : Arr3 w' b x y z := by
  obtain ⟨h0, h1, h2, h3⟩ := h
  exact ⟨Nat.lt_of_lt_of_le h0 hb.size, (hb.cells _ _ h0).trans h1, (hb.cells _ _ h0).trans h2, (hb.cells _ _ h0).trans h3⟩
theorem arr3_new (w : World) (x y z : Int) : Arr3 (w.alloc (.cells #[.int .i64 x, .int .i64 y, .int .i64 z] 38)) w.heap.size x y z := by
  simp [Arr3, go_sem]

def SoundD (a b c : Int) : Prop := 1 ≤ a ∧ a ≤ 9999 ∧ 1 ≤ b ∧ b ≤ 12 ∧ 1 ≤ c ∧ c ≤ lenM a b
instance (a b c : Int) : Decidable (SoundD a b c) := inferInstanceAs (Decidable (_ ∧ _))
def soundB (a b c : Int) : Bool := decide (SoundD a b c)
theorem sound_any (a b c : Int) (w : World) : Calls Tryd.prog 19 #[.agg #[.int .i64 a, .int .i64 b, .int .i64 c]] w fun e w' => e = .returned (.bool (soundB a b c)) ∧ Bel w w' := by
  by_cases h : 1 ≤ a ∧ a ≤ 9999 ∧ 1 ≤ b ∧ b ≤ 12
  · obtain ⟨h1, h2, h3, h4⟩ := h
    have hl : Hid (soundB a b c = decide (1 ≤ c ∧ c ≤ lenM a b)) := by simp [Hid, soundB, SoundD, h1, h2, h3, h4]
    go_enter Tryd.func19, Tryd.ntmps19
    go_wp2_with fail
    refine under_name ((Bel.refl w).alloc _) fun W hc hf hz hb => ?_
    have hw : Arr3 W w.heap.size a b c := by simp [Arr3, hz, hc, go_sem]
    clear hc hf hz
    by_cases h5 : 1 ≤ c
    · have h5' : decide (1 ≤ c) = true := by simpa using h5
      refine wp_region_uni (S := (fun w' => Bel W w' ∧ (∀ b o, b < W.heap.size → w'.cell? ⟨b, o, none⟩ = W.cell? ⟨b, o, none⟩))) (by kernel_rfl) (by kernel_rfl) keep0 ?_
      repeat (first | (refine wpUni_skip (by rfl) ?_; (try simp only [Act.put, List.setIfInBounds_toArray, List.set_cons_zero, List.set_cons_succ]))
                                                            | (refine wpUni_value (by rfl) (fun w hS => by (try dsimp only at hS); go_simp; first | done | with_reducible rfl) ?_; (try simp only [Act.put, List.setIfInBounds_toArray, List.set_cons_zero, List.set_cons_succ]))
                                                            | (refine wpUni_call (f := 27) (by rfl) (fun w => by go_simp; first | done | with_reducible rfl) (fun w hS => (length_any a b w).mono fun e w' ⟨he, hb⟩ => ⟨he, keep1 hS hb⟩) ?_; (try simp only [Act.put, List.setIfInBounds_toArray, List.set_cons_zero, List.set_cons_succ])))
      refine wpUni_nil fun W1 hS => ?_
      have hb1 := hb.trans hS.1
      clear hS
      go_wp2
      go_ret
      exact ⟨by rw [hl.out]; simp [h5], hb1⟩
    · have h5' : decide (1 ≤ c) = false := by simpa using h5
      refine wp_region_uni (S := (fun w' => Bel W w' ∧ (∀ b o, b < W.heap.size → w'.cell? ⟨b, o, none⟩ = W.cell? ⟨b, o, none⟩))) (by kernel_rfl) (by kernel_rfl) keep0 ?_
      repeat (first | (refine wpUni_skip (by rfl) ?_; (try simp only [Act.put, List.setIfInBounds_toArray, List.set_cons_zero, List.set_cons_succ]))
                                                            | (refine wpUni_value (by rfl) (fun w hS => by (try dsimp only at hS); go_simp; first | done | with_reducible rfl) ?_; (try simp only [Act.put, List.setIfInBounds_toArray, List.set_cons_zero, List.set_cons_succ]))
                                                            | (refine wpUni_call (f := 27) (by rfl) (fun w => by go_simp; first | done | with_reducible rfl) (fun w hS => (length_any a b w).mono fun e w' ⟨he, hb⟩ => ⟨he, keep1 hS hb⟩) ?_; (try simp only [Act.put, List.setIfInBounds_toArray, List.set_cons_zero, List.set_cons_succ])))
      refine wpUni_nil fun W1 hS => ?_
      have hb1 := hb.trans hS.1
      clear hS
      go_wp2
      go_ret
      exact ⟨by rw [hl.out, decide_eq_false (p := 1 ≤ c ∧ c ≤ lenM a b) (fun hh => absurd hh.1 (by omega))]; rfl, hb1⟩
  · have hl : Hid (soundB a b c = false) := by
      unfold Hid soundB SoundD
      exact decide_eq_false fun h' => h ⟨h'.1, h'.2.1, h'.2.2.1, h'.2.2.2.1⟩
    by_cases h1 : 1 ≤ a
    · by_cases h2 : a ≤ 9999
      · by_cases h3 : 1 ≤ b
        · have h4 : ¬ b ≤ 12 := fun h4 => h ⟨h1, h2, h3, h4⟩
          clear h
          have k1 : decide (a < 1) = false := by simp; omega
          have k2 : decide (9999 < a) = false := by simp; omega
          have k3 : decide (b < 1) = false := by simp; omega
          have k4 : decide (12 < b) = true := by simp; omega
          go_enter Tryd.func19, Tryd.ntmps19
          go_wp2
          go_ret
          exact ⟨by rw [hl.out]; rfl, (Bel.refl w).alloc _⟩
        · clear h
          have k1 : decide (a < 1) = false := by simp; omega
          have k2 : decide (9999 < a) = false := by simp; omega
          have k3 : decide (b < 1) = true := by simp; omega
          go_enter Tryd.func19, Tryd.ntmps19
          go_wp2
          go_ret
          exact ⟨by rw [hl.out]; rfl, (Bel.refl w).alloc _⟩
      · clear h
        have k1 : decide (a < 1) = false := by simp; omega
        have k2 : decide (9999 < a) = true := by simp; omega
        go_enter Tryd.func19, Tryd.ntmps19
        go_wp2
        go_ret
        exact ⟨by rw [hl.out]; rfl, (Bel.refl w).alloc _⟩
    · clear h
      have k1 : decide (a < 1) = true := by simp; omega
      go_enter Tryd.func19, Tryd.ntmps19
      go_wp2
      go_ret
      exact ⟨by rw [hl.out]; rfl, (Bel.refl w).alloc _⟩
end Go.Proofs.YtabplogknipjiaaDoor
