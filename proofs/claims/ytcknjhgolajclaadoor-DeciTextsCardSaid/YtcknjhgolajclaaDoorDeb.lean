import Derived.Test.YtcknjhgolajclaaDoorOpn
import Derived.Test.YtcknjhgolajclaaDoorUni
import Derived.Test.YtcknjhgolajclaaDoorOwn
import Derived.Test.YtcknjhgolajclaaDoorDea
import Derived.Deep.LoopGhost
namespace Go.Proofs.YtcknjhgolajclaaDoor
set_option linter.unusedSimpArgs false
set_option linter.unusedVariables false
open Go.RowKit

/-! Deci: the small functions. -/
theorem power_any (k : Nat) (hk : k ≤ 18) (w : World) : Calls Tryd.prog 37 #[.int .i64 k] w fun e w' => e = .returned (.int .i64 (P10 k)) ∧ Bel w w' := by
  go_enter Tryd.func37, Tryd.ntmps37
  go_wp2
  go_loop [3, 5] (fun p i => ∃ j : Nat, j ≤ k ∧ i = .int .i64 j ∧ p = .int .i64 (P10 j)) (fun _ i => k - (intOf i).toNat)
  case atStart => exact ⟨0, Nat.zero_le _, rfl, by rw [P10_0]; rfl⟩
  case round =>
    obtain ⟨j, hj, rfl, rfl⟩ := hrel
    have h1 := P10_18 (show j ≤ 18 by omega)
    by_cases hlt : j < k
    · have h2 := P10_18 (show j + 1 ≤ 18 by omega)
      have hs := Lib.hid (P10_s j)
      have h3 : P10 j * 10 ≤ 1000000000000000000 := by rw [← hs.out]; exact h2
      clear h2
      go_wp2
      go_round
      case rel => exact ⟨j + 1, by omega, by go_num, by rw [hs.out]; go_num⟩
      case measure => simp [intOf]; omega
    · obtain rfl : j = k := by omega
      go_wp2
      go_ret
      exact ⟨rfl, Bel.refl _⟩
theorem power_z (z : Int) (h0 : 0 ≤ z) (h1 : z ≤ 18) (w : World) : Calls Tryd.prog 37 #[.int .i64 z] w fun e w' => e = .returned (.int .i64 (P10 z.toNat)) ∧ Bel w w' := by
  obtain ⟨n, rfl⟩ : ∃ n : Nat, z = n := ⟨z.toNat, by omega⟩
  exact power_any n (by omega) w

def smallB (n : Int) : Bool := decide (small n)
theorem small_any (n : Int) (w : World) : Calls Tryd.prog 28 #[.int .i64 n] w fun e w' => e = .returned (.bool (smallB n)) ∧ Bel w w' := by
  have hl : Hid (smallB n = decide (-999999999999 ≤ n ∧ n ≤ 999999999999)) := rfl
  by_cases h1 : -999999999999 ≤ n
  · go_enter Tryd.func28, Tryd.ntmps28
    go_wp2
    go_ret
    exact ⟨by rw [hl.out]; simp [h1], Bel.refl _⟩
  · have hf := Lib.hid (show decide (-999999999999 ≤ n ∧ n ≤ 999999999999) = false from decide_eq_false fun h => h1 h.1)
    go_enter Tryd.func28, Tryd.ntmps28
    go_wp2
    go_ret
    exact ⟨by rw [hl.out, hf.out]; rfl, Bel.refl _⟩

/-- A block of the call's own that holds a number. -/
abbrev Arr2 (w : World) (b : Nat) (x y : Int) : Prop :=
  b < w.heap.size ∧ w.cell? ⟨b, 0, none⟩ = some (.int .i64 x) ∧ w.cell? ⟨b, 1, none⟩ = some (.int .i64 y)
theorem Arr2.keep {w w' : World} {b : Nat} {x y : Int} (h : Arr2 w b x y) (hb : Bel w w') : Arr2 w' b x y := by
  obtain ⟨h0, h1, h2⟩ := h
  exact ⟨Nat.lt_of_lt_of_le h0 hb.size, (hb.cells _ _ h0).trans h1, (hb.cells _ _ h0).trans h2⟩

def sndB (n s : Int) : Bool := decide (SndD n s)
theorem tmod10 (n : Int) : (n.tmod 10 != 0) = decide (n % 10 ≠ 0) := by
  have : n.tmod 10 = 0 ↔ n % 10 = 0 := by rw [← Int.dvd_iff_emod_eq_zero, Int.dvd_iff_tmod_eq_zero]
  rw [Bool.eq_iff_iff]; simp [this]
theorem sound_any (n s : Int) (w : World) : Calls Tryd.prog 13 #[.agg #[.int .i64 n, .int .i64 s]] w fun e w' => e = .returned (.bool (sndB n s)) ∧ Bel w w' := by
  by_cases h : 0 ≤ s ∧ s ≤ 6
  · obtain ⟨h0, h6⟩ := h
    have k1 : decide (s < 0) = false := by simp; omega
    have k2 : decide (6 < s) = false := by simp; omega
    have k2' : decide (s > 6) = false := k2
    cases hs : smallB n with
    | true =>
      have hs' : small n := by simpa [smallB] using hs
      by_cases hz : s = 0
      · have k3 : (s == 0) = true := by simp [hz]
        have hl : Hid (sndB n s = true) := by
          unfold Hid sndB; exact decide_eq_true ⟨h0, h6, hs', .inl hz⟩
        clear hz h0 h6 hs'
        go_enter Tryd.func13, Tryd.ntmps13
        go_wp2_with (go_at_call 28; refine (small_any n _).mono ?_; rintro e W1 ⟨rfl, hb1⟩; rw [hs]; have hc := hb1.cells; have := hb1.lt1)
        go_ret
        exact ⟨by rw [hl.out]; rfl, ((Bel.refl w).alloc _).trans hb1⟩
      · have k3 : (s == 0) = false := by simp [hz]
        have hl : Hid (sndB n s = (n.tmod 10 != 0)) := by
          unfold Hid sndB; rw [tmod10]; simp only [SndD, h0, h6, hs', hz, true_and, false_or]
        clear hz h0 h6 hs'
        go_enter Tryd.func13, Tryd.ntmps13
        go_wp2_with (go_at_call 28; refine (small_any n _).mono ?_; rintro e W1 ⟨rfl, hb1⟩; rw [hs]; have hc := hb1.cells; have := hb1.lt1)
        go_ret
        exact ⟨by (rw [hl.out]) <;> rfl, ((Bel.refl w).alloc _).trans hb1⟩
    | false =>
      have hl : Hid (sndB n s = false) := by
        unfold Hid sndB; exact decide_eq_false fun h => by simp [smallB, h.2.2.1] at hs
      clear h0 h6
      go_enter Tryd.func13, Tryd.ntmps13
      go_wp2_with (go_at_call 28; refine (small_any n _).mono ?_; rintro e W1 ⟨rfl, hb1⟩; rw [hs])
      go_ret
      exact ⟨by rw [hl.out]; rfl, ((Bel.refl w).alloc _).trans hb1⟩
  · have hl : Hid (sndB n s = false) := by
      unfold Hid sndB; exact decide_eq_false fun h' => h ⟨h'.1, h'.2.1⟩
    by_cases h0 : 0 ≤ s
    · have k1 : decide (s < 0) = false := by simp; omega
      have k2 : decide (6 < s) = true := by simp; omega
      clear h
      go_enter Tryd.func13, Tryd.ntmps13
      go_wp2
      go_ret
      exact ⟨by rw [hl.out]; rfl, (Bel.refl w).alloc _⟩
    · have k1 : decide (s < 0) = true := by simp; omega
      clear h
      go_enter Tryd.func13, Tryd.ntmps13
      go_wp2
      go_ret
      exact ⟨by rw [hl.out]; rfl, (Bel.refl w).alloc _⟩
end Go.Proofs.YtcknjhgolajclaaDoor
