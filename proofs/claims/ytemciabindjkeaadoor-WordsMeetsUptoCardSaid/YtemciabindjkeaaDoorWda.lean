import Derived.Test.YtemciabindjkeaaDoorKit
import Derived.Test.YtemciabindjkeaaDoorRow
import Derived.Test.YtemciabindjkeaaDoorOpn
import Derived.Test.YtemciabindjkeaaDoorOwn
import Derived.Test.YtemciabindjkeaaDoorUni
import Derived.Test.YtemciabindjkeaaDoorShelf
import Derived.Deep.LoopGhost
import Derived.Laws.RangeAny
import Derived.Lib.OthersKept
import Derived.Deep.QuietTactic
import Derived.BigQuiet
namespace Go.Proofs.YtemciabindjkeaaDoor
set_option linter.unusedSimpArgs false
set_option linter.unusedVariables false
/-! Merged out of the texts of the layers below: only what is used. -/
section
def small (n : Int) : Prop := -999999999999 ≤ n ∧ n ≤ 999999999999
instance (n : Int) : Decidable (small n) := inferInstanceAs (Decidable (_ ∧ _))
def SndD (n s : Int) : Prop := 0 ≤ s ∧ s ≤ 6 ∧ small n ∧ (s = 0 ∨ n % 10 ≠ 0)
instance (n s : Int) : Decidable (SndD n s) := inferInstanceAs (Decidable (_ ∧ _))
end
section
open Go.RowKit
def smallB (n : Int) : Bool := decide (small n)
theorem small_any (n : Int) (w : World) : Calls Tryd.prog 69 #[.int .i64 n] w fun e w' => e = .returned (.bool (smallB n)) ∧ Bel w w' := by
  have hl : Hid (smallB n = decide (-999999999999 ≤ n ∧ n ≤ 999999999999)) := rfl
  by_cases h1 : -999999999999 ≤ n
  · go_enter Tryd.func69, Tryd.ntmps69
    go_wp2
    go_ret
    exact ⟨by rw [hl.out]; simp [h1], Bel.refl _⟩
  · have hf := Lib.hid (show decide (-999999999999 ≤ n ∧ n ≤ 999999999999) = false from decide_eq_false fun h => h1 h.1)
    go_enter Tryd.func69, Tryd.ntmps69
    go_wp2
    go_ret
    exact ⟨by rw [hl.out, hf.out]; rfl, Bel.refl _⟩
def sndB (n s : Int) : Bool := decide (SndD n s)
theorem tmod10 (n : Int) : (n.tmod 10 != 0) = decide (n % 10 ≠ 0) := by
  have : n.tmod 10 = 0 ↔ n % 10 = 0 := by rw [← Int.dvd_iff_emod_eq_zero, Int.dvd_iff_tmod_eq_zero]
  rw [Bool.eq_iff_iff]; simp [this]
theorem sound_any (n s : Int) (w : World) : Calls Tryd.prog 49 #[.agg #[.int .i64 n, .int .i64 s]] w fun e w' => e = .returned (.bool (sndB n s)) ∧ Bel w w' := by
  by_cases h : 0 ≤ s ∧ s ≤ 6
  · obtain ⟨h0, h6⟩ := h
    have k1 : decide (s < 0) = false := by simp; omega
    have k2 : decide (6 < s) = false := by simp; omega
    have k2' : decide (s > 6) = false := k2
    cases hs : smallB n with
    | true =>
      have hs' : small n := by simpa [smallB] using hs
      by_cases hz : s = 0
      · have k3 : (s == 0) = true := by simp [hz]
        have hl : Hid (sndB n s = true) := by
          unfold Hid sndB; exact decide_eq_true ⟨h0, h6, hs', .inl hz⟩
        clear hz h0 h6 hs'
        go_enter Tryd.func49, Tryd.ntmps49
        go_wp2_with (go_at_call 69; refine (small_any n _).mono ?_; rintro e W1 ⟨rfl, hb1⟩; rw [hs]; have hc := hb1.cells; have := hb1.lt1)
        go_ret
        exact ⟨by rw [hl.out]; rfl, ((Bel.refl w).alloc _).trans hb1⟩
      · have k3 : (s == 0) = false := by simp [hz]
        have hl : Hid (sndB n s = (n.tmod 10 != 0)) := by
          unfold Hid sndB; rw [tmod10]; simp only [SndD, h0, h6, hs', hz, true_and, false_or]
        clear hz h0 h6 hs'
        go_enter Tryd.func49, Tryd.ntmps49
        go_wp2_with (go_at_call 69; refine (small_any n _).mono ?_; rintro e W1 ⟨rfl, hb1⟩; rw [hs]; have hc := hb1.cells; have := hb1.lt1)
        go_ret
        exact ⟨by (rw [hl.out]) <;> rfl, ((Bel.refl w).alloc _).trans hb1⟩
    | false =>
      have hl : Hid (sndB n s = false) := by
        unfold Hid sndB; exact decide_eq_false fun h => by simp [smallB, h.2.2.1] at hs
      clear h0 h6
      go_enter Tryd.func49, Tryd.ntmps49
      go_wp2_with (go_at_call 69; refine (small_any n _).mono ?_; rintro e W1 ⟨rfl, hb1⟩; rw [hs])
      go_ret
      exact ⟨by rw [hl.out]; rfl, ((Bel.refl w).alloc _).trans hb1⟩
  · have hl : Hid (sndB n s = false) := by
      unfold Hid sndB; exact decide_eq_false fun h' => h ⟨h'.1, h'.2.1⟩
    by_cases h0 : 0 ≤ s
    · have k1 : decide (s < 0) = false := by simp; omega
      have k2 : decide (6 < s) = true := by simp; omega
      clear h
      go_enter Tryd.func49, Tryd.ntmps49
      go_wp2
      go_ret
      exact ⟨by rw [hl.out]; rfl, (Bel.refl w).alloc _⟩
    · have k1 : decide (s < 0) = true := by simp; omega
      clear h
      go_enter Tryd.func49, Tryd.ntmps49
      go_wp2
      go_ret
      exact ⟨by rw [hl.out]; rfl, (Bel.refl w).alloc _⟩
def sgn_C (r : Nat) : Bool := r == 9 || r == 10 || r == 13 || (decide (32 ≤ r) && decide (r ≤ 0xD7FF)) || (decide (0xE000 ≤ r) && decide (r ≤ 0xFFFD)) || (decide (0x10000 ≤ r) && decide (r ≤ 0x10FFFF))
/-- As Go ranges over a string: g the bytes from here on, m how many are left. -/
def dec (g : Nat → Nat) (m : Nat) : Nat × Nat :=
  if g 0 < 0x80 then (g 0, 1)
  else if g 0 / 32 = 6 ∧ (1 < m ∧ g 1 / 64 = 2) then
    (if 0x80 ≤ g 0 % 32 * 64 + g 1 % 64 then (g 0 % 32 * 64 + g 1 % 64, 2) else (0xFFFD, 1))
  else if g 0 / 16 = 14 ∧ (1 < m ∧ g 1 / 64 = 2) ∧ (2 < m ∧ g 2 / 64 = 2) then
    (if 0x800 ≤ g 0 % 16 * 4096 + g 1 % 64 * 64 + g 2 % 64 ∧ (g 0 % 16 * 4096 + g 1 % 64 * 64 + g 2 % 64 < 0xD800 ∨ 0xE000 ≤ g 0 % 16 * 4096 + g 1 % 64 * 64 + g 2 % 64) then
      (g 0 % 16 * 4096 + g 1 % 64 * 64 + g 2 % 64, 3) else (0xFFFD, 1))
  else if g 0 / 8 = 30 ∧ (1 < m ∧ g 1 / 64 = 2) ∧ (2 < m ∧ g 2 / 64 = 2) ∧ (3 < m ∧ g 3 / 64 = 2) then
    (if 0x10000 ≤ g 0 % 8 * 262144 + g 1 % 64 * 4096 + g 2 % 64 * 64 + g 3 % 64 ∧ g 0 % 8 * 262144 + g 1 % 64 * 4096 + g 2 % 64 * 64 + g 3 % 64 ≤ 0x10FFFF then
      (g 0 % 8 * 262144 + g 1 % 64 * 4096 + g 2 % 64 * 64 + g 3 % 64, 4) else (0xFFFD, 1))
  else (0xFFFD, 1)
/-- As the document looks: 0 for none. -/
def first (g : Nat → Nat) (m : Nat) : Nat × Nat :=
  if g 0 < 0x80 then (if sgn_C (g 0) = true then (g 0, 1) else (0, 0))
  else if 0xC0 ≤ g 0 ∧ g 0 < 0xE0 then
    (if 1 < m ∧ 0x80 ≤ g 1 ∧ g 1 < 0xC0 ∧ 0x80 ≤ (g 0 - 0xC0) * 64 + (g 1 - 0x80) ∧ sgn_C ((g 0 - 0xC0) * 64 + (g 1 - 0x80)) = true then ((g 0 - 0xC0) * 64 + (g 1 - 0x80), 2) else (0, 0))
  else if 0xE0 ≤ g 0 ∧ g 0 < 0xF0 then
    (if 2 < m ∧ 0x80 ≤ g 1 ∧ g 1 < 0xC0 ∧ 0x80 ≤ g 2 ∧ g 2 < 0xC0 ∧ 0x800 ≤ ((g 0 - 0xE0) * 64 + (g 1 - 0x80)) * 64 + (g 2 - 0x80) ∧ sgn_C (((g 0 - 0xE0) * 64 + (g 1 - 0x80)) * 64 + (g 2 - 0x80)) = true then
      (((g 0 - 0xE0) * 64 + (g 1 - 0x80)) * 64 + (g 2 - 0x80), 3) else (0, 0))
  else if 0xF0 ≤ g 0 ∧ g 0 < 0xF8 then
    (if 3 < m ∧ 0x80 ≤ g 1 ∧ g 1 < 0xC0 ∧ 0x80 ≤ g 2 ∧ g 2 < 0xC0 ∧ 0x80 ≤ g 3 ∧ g 3 < 0xC0 ∧ 0x10000 ≤ (((g 0 - 0xF0) * 64 + (g 1 - 0x80)) * 64 + (g 2 - 0x80)) * 64 + (g 3 - 0x80) ∧
        sgn_C ((((g 0 - 0xF0) * 64 + (g 1 - 0x80)) * 64 + (g 2 - 0x80)) * 64 + (g 3 - 0x80)) = true then
      ((((g 0 - 0xF0) * 64 + (g 1 - 0x80)) * 64 + (g 2 - 0x80)) * 64 + (g 3 - 0x80), 4) else (0, 0))
  else (0, 0)
/-- Whether the bytes are U+FFFD's own. -/
def own (g : Nat → Nat) (m : Nat) : Bool := decide (2 < m) && decide (g 0 = 0xEF) && decide (g 1 = 0xBF) && decide (g 2 = 0xBD)
/-- What the program holds for a sign that may stand. -/
def may (g : Nat → Nat) (m : Nat) : Bool := sgn_C (dec g m).1 && !(decide ((dec g m).1 = 0xFFFD) && !own g m)
theorem sgn_iff (r : Nat) : sgn_C r = true ↔ (r = 9 ∨ r = 10 ∨ r = 13 ∨ (32 ≤ r ∧ r ≤ 0xD7FF) ∨ (0xE000 ≤ r ∧ r ≤ 0xFFFD) ∨ (0x10000 ≤ r ∧ r ≤ 0x10FFFF)) := by
  unfold sgn_C
  simp only [Bool.or_eq_true, Bool.and_eq_true, beq_iff_eq, decide_eq_true_eq]
  omega
theorem own_iff (g : Nat → Nat) (m : Nat) : own g m = true ↔ (2 < m ∧ g 0 = 0xEF ∧ g 1 = 0xBF ∧ g 2 = 0xBD) := by
  unfold own
  simp only [Bool.and_eq_true, decide_eq_true_eq]
  omega
theorem may_iff (g : Nat → Nat) (m : Nat) : may g m = true ↔ (sgn_C (dec g m).1 = true ∧ ((dec g m).1 = 0xFFFD → own g m = true)) := by
  unfold may
  cases sgn_C (dec g m).1 <;> cases own g m <;> by_cases h : (dec g m).1 = 0xFFFD <;> simp [h]
theorem pair (g : Nat → Nat) (m : Nat) (h0 : ∀ i, g i < 256) (P : Prop) [Decidable P] (r n : Nat) (hd : dec g m = if P then (r, n) else (0xFFFD, 1)) (hP : P → (r = 0xFFFD → own g m = true)) (hN : ¬ P → own g m = false) :
    (if may g m = true then dec g m else (0, 0)) = if P ∧ sgn_C r = true then (r, n) else (0, 0) := by
  by_cases hp : P
  · rw [if_pos hp] at hd
    by_cases hs : sgn_C r = true
    · rw [if_pos ((may_iff g m).2 (by rw [hd]; exact ⟨hs, hP hp⟩)), if_pos ⟨hp, hs⟩, hd]
    · rw [if_neg (fun h => hs (by have := ((may_iff g m).1 h).1; rwa [hd] at this)), if_neg (fun h => hs h.2)]
  · rw [if_neg hp] at hd
    rw [if_neg (fun h => by
      have := ((may_iff g m).1 h).2 (by rw [hd])
      rw [hN hp] at this
      cases this), if_neg (fun h => hp h.1)]
theorem own_no {g : Nat → Nat} {m : Nat} (h : ¬ (2 < m ∧ g 0 = 0xEF ∧ g 1 = 0xBF ∧ g 2 = 0xBD)) : own g m = false := by
  cases ho : own g m with
  | false => rfl
  | true => exact absurd ((own_iff g m).1 ho) h
theorem first_is (g : Nat → Nat) (m : Nat) (h0 : ∀ i, g i < 256) (hm : 0 < m) : (if may g m = true then dec g m else (0, 0)) = first g m := by
  have a0 := h0 0
  have a1 := h0 1
  have a2 := h0 2
  have a3 := h0 3
  by_cases c1 : g 0 < 0x80
  · have hd : dec g m = if True then (g 0, 1) else (0xFFFD, 1) := by rw [dec, if_pos c1, if_pos trivial]
    rw [pair g m h0 True _ _ hd (fun _ h => by omega) (fun h => absurd trivial h), first, if_pos c1]
    simp
  · by_cases c2 : g 0 / 32 = 6
    · have e : g 0 % 32 * 64 + g 1 % 64 = g 0 % 32 * 64 + g 1 % 64 := rfl
      have hd : dec g m = if ((1 < m ∧ g 1 / 64 = 2) ∧ 0x80 ≤ g 0 % 32 * 64 + g 1 % 64) then (g 0 % 32 * 64 + g 1 % 64, 2) else (0xFFFD, 1) := by
        rw [dec, if_neg c1]
        by_cases c3 : 1 < m ∧ g 1 / 64 = 2
        · rw [if_pos ⟨c2, c3⟩]
          by_cases c4 : 0x80 ≤ g 0 % 32 * 64 + g 1 % 64
          · rw [if_pos c4, if_pos ⟨c3, c4⟩]
          · rw [if_neg c4, if_neg (fun h => c4 h.2)]
        · rw [if_neg (fun h => c3 h.2), if_neg (by omega), if_neg (by omega), if_neg (fun h => c3 h.1)]
      rw [pair g m h0 _ _ _ hd (fun _ h => by omega) (fun _ => own_no (by omega)), first, if_neg c1, if_pos (show 0xC0 ≤ g 0 ∧ g 0 < 0xE0 by omega)]
      by_cases c3 : 1 < m ∧ g 1 / 64 = 2
      · have e1 : (g 0 - 0xC0) * 64 + (g 1 - 0x80) = g 0 % 32 * 64 + g 1 % 64 := by omega
        rw [e1]
        have : (((1 < m ∧ g 1 / 64 = 2) ∧ 0x80 ≤ g 0 % 32 * 64 + g 1 % 64) ∧ sgn_C (g 0 % 32 * 64 + g 1 % 64) = true) ↔ (1 < m ∧ 0x80 ≤ g 1 ∧ g 1 < 0xC0 ∧ 0x80 ≤ g 0 % 32 * 64 + g 1 % 64 ∧ sgn_C (g 0 % 32 * 64 + g 1 % 64) = true) := by
          constructor
          · rintro ⟨⟨⟨x, y⟩, z⟩, u⟩; exact ⟨x, by omega, by omega, z, u⟩
          · rintro ⟨x, y, y', z, u⟩; exact ⟨⟨⟨x, by omega⟩, z⟩, u⟩
        by_cases hq : (1 < m ∧ 0x80 ≤ g 1 ∧ g 1 < 0xC0 ∧ 0x80 ≤ g 0 % 32 * 64 + g 1 % 64 ∧ sgn_C (g 0 % 32 * 64 + g 1 % 64) = true)
        · rw [if_pos hq, if_pos (this.2 hq)]
        · rw [if_neg hq, if_neg (fun h => hq (this.1 h))]
      · rw [if_neg (fun h => c3 h.1.1), if_neg (fun h => c3 ⟨h.1, by omega⟩)]
    · by_cases c5 : g 0 / 16 = 14
      · have hd : dec g m = if (((1 < m ∧ g 1 / 64 = 2) ∧ (2 < m ∧ g 2 / 64 = 2)) ∧ 0x800 ≤ g 0 % 16 * 4096 + g 1 % 64 * 64 + g 2 % 64 ∧ (g 0 % 16 * 4096 + g 1 % 64 * 64 + g 2 % 64 < 0xD800 ∨ 0xE000 ≤ g 0 % 16 * 4096 + g 1 % 64 * 64 + g 2 % 64)) then (g 0 % 16 * 4096 + g 1 % 64 * 64 + g 2 % 64, 3) else (0xFFFD, 1) := by
          rw [dec, if_neg c1, if_neg (fun h => c2 h.1)]
          by_cases c3 : (1 < m ∧ g 1 / 64 = 2) ∧ (2 < m ∧ g 2 / 64 = 2)
          · rw [if_pos ⟨c5, c3⟩]
            by_cases c4 : 0x800 ≤ g 0 % 16 * 4096 + g 1 % 64 * 64 + g 2 % 64 ∧ (g 0 % 16 * 4096 + g 1 % 64 * 64 + g 2 % 64 < 0xD800 ∨ 0xE000 ≤ g 0 % 16 * 4096 + g 1 % 64 * 64 + g 2 % 64)
            · rw [if_pos c4, if_pos ⟨c3, c4⟩]
            · rw [if_neg c4, if_neg (fun h => c4 h.2)]
          · rw [if_neg (fun h => c3 h.2), if_neg (by omega), if_neg (fun h => c3 h.1)]
        rw [pair g m h0 _ _ _ hd (fun h h' => (own_iff g m).2 (by omega)) (fun h => own_no (by omega)), first, if_neg c1, if_neg (show ¬ (0xC0 ≤ g 0 ∧ g 0 < 0xE0) by omega), if_pos (show 0xE0 ≤ g 0 ∧ g 0 < 0xF0 by omega)]
        by_cases c3 : (1 < m ∧ g 1 / 64 = 2) ∧ (2 < m ∧ g 2 / 64 = 2)
        · have e1 : ((g 0 - 0xE0) * 64 + (g 1 - 0x80)) * 64 + (g 2 - 0x80) = g 0 % 16 * 4096 + g 1 % 64 * 64 + g 2 % 64 := by omega
          rw [e1]
          generalize g 0 % 16 * 4096 + g 1 % 64 * 64 + g 2 % 64 = r
          have := sgn_iff r
          by_cases hs : sgn_C r = true
          · have hr := this.1 hs
            by_cases h8 : 0x800 ≤ r
            · rw [if_pos ⟨⟨c3, h8, by omega⟩, hs⟩, if_pos ⟨by omega, by omega, by omega, by omega, by omega, h8, hs⟩]
            · rw [if_neg (fun h => h8 h.1.2.1), if_neg (fun h => h8 h.2.2.2.2.2.1)]
          · rw [if_neg (fun h => hs h.2), if_neg (fun h => hs h.2.2.2.2.2.2)]
        · rw [if_neg (fun h => c3 h.1.1), if_neg (fun h => c3 (by omega))]
      · by_cases c6 : g 0 / 8 = 30
        · have hd : dec g m = if (((1 < m ∧ g 1 / 64 = 2) ∧ (2 < m ∧ g 2 / 64 = 2) ∧ (3 < m ∧ g 3 / 64 = 2)) ∧ 0x10000 ≤ g 0 % 8 * 262144 + g 1 % 64 * 4096 + g 2 % 64 * 64 + g 3 % 64 ∧ g 0 % 8 * 262144 + g 1 % 64 * 4096 + g 2 % 64 * 64 + g 3 % 64 ≤ 0x10FFFF) then (g 0 % 8 * 262144 + g 1 % 64 * 4096 + g 2 % 64 * 64 + g 3 % 64, 4) else (0xFFFD, 1) := by
            rw [dec, if_neg c1, if_neg (fun h => c2 h.1), if_neg (fun h => c5 h.1)]
            by_cases c3 : (1 < m ∧ g 1 / 64 = 2) ∧ (2 < m ∧ g 2 / 64 = 2) ∧ (3 < m ∧ g 3 / 64 = 2)
            · rw [if_pos ⟨c6, c3⟩]
              by_cases c4 : 0x10000 ≤ g 0 % 8 * 262144 + g 1 % 64 * 4096 + g 2 % 64 * 64 + g 3 % 64 ∧ g 0 % 8 * 262144 + g 1 % 64 * 4096 + g 2 % 64 * 64 + g 3 % 64 ≤ 0x10FFFF
              · rw [if_pos c4, if_pos ⟨c3, c4⟩]
              · rw [if_neg c4, if_neg (fun h => c4 h.2)]
            · rw [if_neg (fun h => c3 h.2), if_neg (fun h => c3 h.1)]
          rw [pair g m h0 _ _ _ hd (fun h h' => by omega) (fun h => own_no (by omega)), first, if_neg c1, if_neg (show ¬ (0xC0 ≤ g 0 ∧ g 0 < 0xE0) by omega), if_neg (show ¬ (0xE0 ≤ g 0 ∧ g 0 < 0xF0) by omega), if_pos (show 0xF0 ≤ g 0 ∧ g 0 < 0xF8 by omega)]
          by_cases c3 : (1 < m ∧ g 1 / 64 = 2) ∧ (2 < m ∧ g 2 / 64 = 2) ∧ (3 < m ∧ g 3 / 64 = 2)
          · have e1 : (((g 0 - 0xF0) * 64 + (g 1 - 0x80)) * 64 + (g 2 - 0x80)) * 64 + (g 3 - 0x80) = g 0 % 8 * 262144 + g 1 % 64 * 4096 + g 2 % 64 * 64 + g 3 % 64 := by omega
            rw [e1]
            generalize g 0 % 8 * 262144 + g 1 % 64 * 4096 + g 2 % 64 * 64 + g 3 % 64 = r
            have := sgn_iff r
            by_cases hs : sgn_C r = true
            · have hr := this.1 hs
              by_cases h8 : 0x10000 ≤ r
              · rw [if_pos ⟨⟨c3, h8, by omega⟩, hs⟩, if_pos ⟨by omega, by omega, by omega, by omega, by omega, by omega, by omega, h8, hs⟩]
              · rw [if_neg (fun h => h8 h.1.2.1), if_neg (fun h => h8 h.2.2.2.2.2.2.2.1)]
            · rw [if_neg (fun h => hs h.2), if_neg (fun h => hs h.2.2.2.2.2.2.2.2)]
          · rw [if_neg (fun h => c3 h.1.1), if_neg (fun h => c3 (by omega))]
        · have hd : dec g m = if False then (0, 0) else (0xFFFD, 1) := by
            rw [dec, if_neg c1, if_neg (fun h => c2 h.1), if_neg (fun h => c5 h.1), if_neg (fun h => c6 h.1), if_neg (fun h => h)]
          rw [pair g m h0 False _ _ hd (fun h => h.elim) (fun _ => own_no (by omega)), first, if_neg c1, if_neg (show ¬ (0xC0 ≤ g 0 ∧ g 0 < 0xE0) by omega), if_neg (show ¬ (0xE0 ≤ g 0 ∧ g 0 < 0xF0) by omega), if_neg (show ¬ (0xF0 ≤ g 0 ∧ g 0 < 0xF8) by omega)]
          simp
/-- The bytes from a place on. -/
def gOf (s : ByteArray) (pos i : Nat) : Nat := (s.get! (pos + i)).toNat
theorem gOf_lt (s : ByteArray) (pos i : Nat) : gOf s pos i < 256 := (s.get! (pos + i)).toNat_lt
theorem ite_ext {P Q : Prop} [Decidable P] [Decidable Q] {α : Type} {a b c d : α} (h : P ↔ Q) (h1 : Q → a = c) (h2 : ¬ Q → b = d) : (if P then a else b) = if Q then c else d := by
  by_cases hq : Q
  · rw [if_pos (h.2 hq), if_pos hq, h1 hq]
  · rw [if_neg (fun hp => hq (h.1 hp)), if_neg hq, h2 hq]
theorem decode_is (s : ByteArray) (pos : Nat) (h : pos < s.size) : Utf8.decode s pos = dec (gOf s pos) (s.size - pos) := by
  have a0 := gOf_lt s pos 0
  have a1 := gOf_lt s pos 1
  have a2 := gOf_lt s pos 2
  have a3 := gOf_lt s pos 3
  have c : ∀ k, (decide (pos + k < s.size) && gOf s pos k / 64 == 2) = decide (k < s.size - pos ∧ gOf s pos k / 64 = 2) := by
    intro k
    rw [Bool.eq_iff_iff]
    simp only [Bool.and_eq_true, decide_eq_true_eq, beq_iff_eq]
    omega
  have e : Utf8.decode s pos = (
    if gOf s pos 0 < 0x80 then (gOf s pos 0, 1)
    else if (gOf s pos 0 / 32 == 6 && (decide (pos + 1 < s.size) && gOf s pos 1 / 64 == 2)) = true then
      (if gOf s pos 0 % 32 * 64 + gOf s pos 1 % 64 ≥ 0x80 then (gOf s pos 0 % 32 * 64 + gOf s pos 1 % 64, 2) else (Utf8.runeError, 1))
    else if (gOf s pos 0 / 16 == 14 && (decide (pos + 1 < s.size) && gOf s pos 1 / 64 == 2) && (decide (pos + 2 < s.size) && gOf s pos 2 / 64 == 2)) = true then
      (if (decide (gOf s pos 0 % 16 * 4096 + gOf s pos 1 % 64 * 64 + gOf s pos 2 % 64 ≥ 0x800) && Utf8.valid (gOf s pos 0 % 16 * 4096 + gOf s pos 1 % 64 * 64 + gOf s pos 2 % 64 : Nat)) = true then (gOf s pos 0 % 16 * 4096 + gOf s pos 1 % 64 * 64 + gOf s pos 2 % 64, 3) else (Utf8.runeError, 1))
    else if (gOf s pos 0 / 8 == 30 && (decide (pos + 1 < s.size) && gOf s pos 1 / 64 == 2) && (decide (pos + 2 < s.size) && gOf s pos 2 / 64 == 2) && (decide (pos + 3 < s.size) && gOf s pos 3 / 64 == 2)) = true then
      (if (decide (gOf s pos 0 % 8 * 262144 + gOf s pos 1 % 64 * 4096 + gOf s pos 2 % 64 * 64 + gOf s pos 3 % 64 ≥ 0x10000) && Utf8.valid (gOf s pos 0 % 8 * 262144 + gOf s pos 1 % 64 * 4096 + gOf s pos 2 % 64 * 64 + gOf s pos 3 % 64 : Nat)) = true then (gOf s pos 0 % 8 * 262144 + gOf s pos 1 % 64 * 4096 + gOf s pos 2 % 64 * 64 + gOf s pos 3 % 64, 4) else (Utf8.runeError, 1))
    else (Utf8.runeError, 1)) := rfl
  rw [e, c 1, c 2, c 3]
  have v : ∀ r : Nat, Utf8.valid (r : Int) = true ↔ (r < 0xD800 ∨ (0xE000 ≤ r ∧ r ≤ 0x10FFFF)) := by
    intro r
    unfold Utf8.valid
    simp only [Bool.or_eq_true, Bool.and_eq_true, decide_eq_true_eq]
    omega
  simp only [Bool.and_eq_true, decide_eq_true_eq, beq_iff_eq, v]
  unfold dec Utf8.runeError
  generalize gOf s pos 0 = x0 at *
  generalize gOf s pos 1 = x1 at *
  generalize gOf s pos 2 = x2 at *
  generalize gOf s pos 3 = x3 at *
  refine ite_ext Iff.rfl (fun _ => rfl) fun h1 => ite_ext Iff.rfl (fun _ => ite_ext Iff.rfl (fun _ => rfl) fun _ => rfl) fun h2 => ite_ext (by rw [and_assoc]) (fun h3 => ?_) fun h3 => ite_ext (by rw [and_assoc, and_assoc]) (fun h5 => ?_) fun _ => rfl
  · have hb : x0 % 16 * 4096 + x1 % 64 * 64 + x2 % 64 ≤ 0xFFFF := by omega
    revert hb
    generalize x0 % 16 * 4096 + x1 % 64 * 64 + x2 % 64 = r
    intro hb
    exact ite_ext (by omega) (fun _ => rfl) fun _ => rfl
  · generalize x0 % 8 * 262144 + x1 % 64 * 4096 + x2 % 64 * 64 + x3 % 64 = r
    exact ite_ext (by omega) (fun _ => rfl) fun _ => rfl
/-- Whether a sign that may stand begins at a place, and how many bytes it has. -/
def okAt (s : ByteArray) (pos : Nat) : Bool := may (gOf s pos) (s.size - pos)
def wdAt (s : ByteArray) (pos : Nat) : Nat := (dec (gOf s pos) (s.size - pos)).2
def badFrom (s : ByteArray) : Nat → Nat → Int
  | 0, _ => -1
  | f + 1, pos => if pos < s.size then (if okAt s pos = true then badFrom s f (pos + wdAt s pos) else pos) else -1
def badV_C (s : ByteArray) : Int := badFrom s s.size 0
set_option maxRecDepth 100000 in
set_option maxHeartbeats 4000000 in
theorem rsign_any (r : Nat) (hr : r ≤ 2147483647) (w : World) : Calls Tryd.prog 71 #[.int .i64 r] w fun e w' => e = .returned (.bool (sgn_C r)) ∧ w' = w := by
  have hi : (r : Int) ≤ 2147483647 := by omega
  have hc : (r < 9) ∨ (r = 9) ∨ (r = 10) ∨ (10 < r ∧ r < 13) ∨ (r = 13) ∨ (13 < r ∧ r < 32) ∨ (32 ≤ r ∧ r ≤ 55295) ∨ (55295 < r ∧ r < 57344) ∨ (57344 ≤ r ∧ r ≤ 65533) ∨ (65533 < r ∧ r < 65536) ∨ (65536 ≤ r ∧ r ≤ 1114111) ∨ (1114111 < r) := by omega
  have hs := sgn_iff r
  rcases hc with h | h | h | h | h | h | h | h | h | h | h | h
  · have L := Lib.hid (show sgn_C r = false from by rw [Bool.eq_false_iff]; exact fun h' => by have := hs.1 h'; omega)
    have e9 : ((r : Int) == 9) = false := by rw [beq_eq_false_iff_ne]; omega
    have e10 : ((r : Int) == 10) = false := by rw [beq_eq_false_iff_ne]; omega
    have e13 : ((r : Int) == 13) = false := by rw [beq_eq_false_iff_ne]; omega
    have g32 : decide ((32 : Int) ≤ r) = false := by exact decide_eq_false (by omega)
    have g57344 : decide ((57344 : Int) ≤ r) = false := by exact decide_eq_false (by omega)
    have g65536 : decide ((65536 : Int) ≤ r) = false := by exact decide_eq_false (by omega)
    have l55295 : decide ((r : Int) ≤ 55295) = true := by exact decide_eq_true (by omega)
    have l65533 : decide ((r : Int) ≤ 65533) = true := by exact decide_eq_true (by omega)
    have l1114111 : decide ((r : Int) ≤ 1114111) = true := by exact decide_eq_true (by omega)
    clear hs h hr hi
    go_enter Tryd.func71, Tryd.ntmps71
    go_wp2
    go_ret
    exact ⟨by (rw [L.out]) <;> rfl, rfl⟩
  · have L := Lib.hid (show sgn_C r = true from hs.2 (by omega))
    subst h
    clear hs hr hi
    go_enter Tryd.func71, Tryd.ntmps71
    go_wp2
    go_ret
    exact ⟨by (rw [L.out]) <;> rfl, rfl⟩
  · have L := Lib.hid (show sgn_C r = true from hs.2 (by omega))
    subst h
    clear hs hr hi
    go_enter Tryd.func71, Tryd.ntmps71
    go_wp2
    go_ret
    exact ⟨by (rw [L.out]) <;> rfl, rfl⟩
  · have L := Lib.hid (show sgn_C r = false from by rw [Bool.eq_false_iff]; exact fun h' => by have := hs.1 h'; omega)
    have e9 : ((r : Int) == 9) = false := by rw [beq_eq_false_iff_ne]; omega
    have e10 : ((r : Int) == 10) = false := by rw [beq_eq_false_iff_ne]; omega
    have e13 : ((r : Int) == 13) = false := by rw [beq_eq_false_iff_ne]; omega
    have g32 : decide ((32 : Int) ≤ r) = false := by exact decide_eq_false (by omega)
    have g57344 : decide ((57344 : Int) ≤ r) = false := by exact decide_eq_false (by omega)
    have g65536 : decide ((65536 : Int) ≤ r) = false := by exact decide_eq_false (by omega)
    have l55295 : decide ((r : Int) ≤ 55295) = true := by exact decide_eq_true (by omega)
    have l65533 : decide ((r : Int) ≤ 65533) = true := by exact decide_eq_true (by omega)
    have l1114111 : decide ((r : Int) ≤ 1114111) = true := by exact decide_eq_true (by omega)
    clear hs h hr hi
    go_enter Tryd.func71, Tryd.ntmps71
    go_wp2
    go_ret
    exact ⟨by (rw [L.out]) <;> rfl, rfl⟩
  · have L := Lib.hid (show sgn_C r = true from hs.2 (by omega))
    subst h
    clear hs hr hi
    go_enter Tryd.func71, Tryd.ntmps71
    go_wp2
    go_ret
    exact ⟨by (rw [L.out]) <;> rfl, rfl⟩
  · have L := Lib.hid (show sgn_C r = false from by rw [Bool.eq_false_iff]; exact fun h' => by have := hs.1 h'; omega)
    have e9 : ((r : Int) == 9) = false := by rw [beq_eq_false_iff_ne]; omega
    have e10 : ((r : Int) == 10) = false := by rw [beq_eq_false_iff_ne]; omega
    have e13 : ((r : Int) == 13) = false := by rw [beq_eq_false_iff_ne]; omega
    have g32 : decide ((32 : Int) ≤ r) = false := by exact decide_eq_false (by omega)
    have g57344 : decide ((57344 : Int) ≤ r) = false := by exact decide_eq_false (by omega)
    have g65536 : decide ((65536 : Int) ≤ r) = false := by exact decide_eq_false (by omega)
    have l55295 : decide ((r : Int) ≤ 55295) = true := by exact decide_eq_true (by omega)
    have l65533 : decide ((r : Int) ≤ 65533) = true := by exact decide_eq_true (by omega)
    have l1114111 : decide ((r : Int) ≤ 1114111) = true := by exact decide_eq_true (by omega)
    clear hs h hr hi
    go_enter Tryd.func71, Tryd.ntmps71
    go_wp2
    go_ret
    exact ⟨by (rw [L.out]) <;> rfl, rfl⟩
  · have L := Lib.hid (show sgn_C r = true from hs.2 (by omega))
    have e9 : ((r : Int) == 9) = false := by rw [beq_eq_false_iff_ne]; omega
    have e10 : ((r : Int) == 10) = false := by rw [beq_eq_false_iff_ne]; omega
    have e13 : ((r : Int) == 13) = false := by rw [beq_eq_false_iff_ne]; omega
    have g32 : decide ((32 : Int) ≤ r) = true := by exact decide_eq_true (by omega)
    have g57344 : decide ((57344 : Int) ≤ r) = false := by exact decide_eq_false (by omega)
    have g65536 : decide ((65536 : Int) ≤ r) = false := by exact decide_eq_false (by omega)
    have l55295 : decide ((r : Int) ≤ 55295) = true := by exact decide_eq_true (by omega)
    have l65533 : decide ((r : Int) ≤ 65533) = true := by exact decide_eq_true (by omega)
    have l1114111 : decide ((r : Int) ≤ 1114111) = true := by exact decide_eq_true (by omega)
    clear hs h hr hi
    go_enter Tryd.func71, Tryd.ntmps71
    go_wp2
    go_ret
    exact ⟨by (rw [L.out]) <;> rfl, rfl⟩
  · have L := Lib.hid (show sgn_C r = false from by rw [Bool.eq_false_iff]; exact fun h' => by have := hs.1 h'; omega)
    have e9 : ((r : Int) == 9) = false := by rw [beq_eq_false_iff_ne]; omega
    have e10 : ((r : Int) == 10) = false := by rw [beq_eq_false_iff_ne]; omega
    have e13 : ((r : Int) == 13) = false := by rw [beq_eq_false_iff_ne]; omega
    have g32 : decide ((32 : Int) ≤ r) = true := by exact decide_eq_true (by omega)
    have g57344 : decide ((57344 : Int) ≤ r) = false := by exact decide_eq_false (by omega)
    have g65536 : decide ((65536 : Int) ≤ r) = false := by exact decide_eq_false (by omega)
    have l55295 : decide ((r : Int) ≤ 55295) = false := by exact decide_eq_false (by omega)
    have l65533 : decide ((r : Int) ≤ 65533) = true := by exact decide_eq_true (by omega)
    have l1114111 : decide ((r : Int) ≤ 1114111) = true := by exact decide_eq_true (by omega)
    clear hs h hr hi
    go_enter Tryd.func71, Tryd.ntmps71
    go_wp2
    go_ret
    exact ⟨by (rw [L.out]) <;> rfl, rfl⟩
  · have L := Lib.hid (show sgn_C r = true from hs.2 (by omega))
    have e9 : ((r : Int) == 9) = false := by rw [beq_eq_false_iff_ne]; omega
    have e10 : ((r : Int) == 10) = false := by rw [beq_eq_false_iff_ne]; omega
    have e13 : ((r : Int) == 13) = false := by rw [beq_eq_false_iff_ne]; omega
    have g32 : decide ((32 : Int) ≤ r) = true := by exact decide_eq_true (by omega)
    have g57344 : decide ((57344 : Int) ≤ r) = true := by exact decide_eq_true (by omega)
    have g65536 : decide ((65536 : Int) ≤ r) = false := by exact decide_eq_false (by omega)
    have l55295 : decide ((r : Int) ≤ 55295) = false := by exact decide_eq_false (by omega)
    have l65533 : decide ((r : Int) ≤ 65533) = true := by exact decide_eq_true (by omega)
    have l1114111 : decide ((r : Int) ≤ 1114111) = true := by exact decide_eq_true (by omega)
    clear hs h hr hi
    go_enter Tryd.func71, Tryd.ntmps71
    go_wp2
    go_ret
    exact ⟨by (rw [L.out]) <;> rfl, rfl⟩
  · have L := Lib.hid (show sgn_C r = false from by rw [Bool.eq_false_iff]; exact fun h' => by have := hs.1 h'; omega)
    have e9 : ((r : Int) == 9) = false := by rw [beq_eq_false_iff_ne]; omega
    have e10 : ((r : Int) == 10) = false := by rw [beq_eq_false_iff_ne]; omega
    have e13 : ((r : Int) == 13) = false := by rw [beq_eq_false_iff_ne]; omega
    have g32 : decide ((32 : Int) ≤ r) = true := by exact decide_eq_true (by omega)
    have g57344 : decide ((57344 : Int) ≤ r) = true := by exact decide_eq_true (by omega)
    have g65536 : decide ((65536 : Int) ≤ r) = false := by exact decide_eq_false (by omega)
    have l55295 : decide ((r : Int) ≤ 55295) = false := by exact decide_eq_false (by omega)
    have l65533 : decide ((r : Int) ≤ 65533) = false := by exact decide_eq_false (by omega)
    have l1114111 : decide ((r : Int) ≤ 1114111) = true := by exact decide_eq_true (by omega)
    clear hs h hr hi
    go_enter Tryd.func71, Tryd.ntmps71
    go_wp2
    go_ret
    exact ⟨by (rw [L.out]) <;> rfl, rfl⟩
  · have L := Lib.hid (show sgn_C r = true from hs.2 (by omega))
    have e9 : ((r : Int) == 9) = false := by rw [beq_eq_false_iff_ne]; omega
    have e10 : ((r : Int) == 10) = false := by rw [beq_eq_false_iff_ne]; omega
    have e13 : ((r : Int) == 13) = false := by rw [beq_eq_false_iff_ne]; omega
    have g32 : decide ((32 : Int) ≤ r) = true := by exact decide_eq_true (by omega)
    have g57344 : decide ((57344 : Int) ≤ r) = true := by exact decide_eq_true (by omega)
    have g65536 : decide ((65536 : Int) ≤ r) = true := by exact decide_eq_true (by omega)
    have l55295 : decide ((r : Int) ≤ 55295) = false := by exact decide_eq_false (by omega)
    have l65533 : decide ((r : Int) ≤ 65533) = false := by exact decide_eq_false (by omega)
    have l1114111 : decide ((r : Int) ≤ 1114111) = true := by exact decide_eq_true (by omega)
    clear hs h hr hi
    go_enter Tryd.func71, Tryd.ntmps71
    go_wp2
    go_ret
    exact ⟨by (rw [L.out]) <;> rfl, rfl⟩
  · have L := Lib.hid (show sgn_C r = false from by rw [Bool.eq_false_iff]; exact fun h' => by have := hs.1 h'; omega)
    have e9 : ((r : Int) == 9) = false := by rw [beq_eq_false_iff_ne]; omega
    have e10 : ((r : Int) == 10) = false := by rw [beq_eq_false_iff_ne]; omega
    have e13 : ((r : Int) == 13) = false := by rw [beq_eq_false_iff_ne]; omega
    have g32 : decide ((32 : Int) ≤ r) = true := by exact decide_eq_true (by omega)
    have g57344 : decide ((57344 : Int) ≤ r) = true := by exact decide_eq_true (by omega)
    have g65536 : decide ((65536 : Int) ≤ r) = true := by exact decide_eq_true (by omega)
    have l55295 : decide ((r : Int) ≤ 55295) = false := by exact decide_eq_false (by omega)
    have l65533 : decide ((r : Int) ≤ 65533) = false := by exact decide_eq_false (by omega)
    have l1114111 : decide ((r : Int) ≤ 1114111) = false := by exact decide_eq_false (by omega)
    clear hs h hr hi
    go_enter Tryd.func71, Tryd.ntmps71
    go_wp2
    go_ret
    exact ⟨by (rw [L.out]) <;> rfl, rfl⟩
set_option maxRecDepth 100000 in
set_option maxHeartbeats 4000000 in
theorem valid_any (r : Nat) (hr : r ≤ 2147483647) (w : World) : Calls Tryd.prog 83 #[.int .i32 r] w fun e w' => e = .returned (.bool (sgn_C r)) ∧ w' = w := by
  have hi : (r : Int) ≤ 2147483647 := by omega
  have hc : (r < 9) ∨ (r = 9) ∨ (r = 10) ∨ (10 < r ∧ r < 13) ∨ (r = 13) ∨ (13 < r ∧ r < 32) ∨ (32 ≤ r ∧ r ≤ 55295) ∨ (55295 < r ∧ r < 57344) ∨ (57344 ≤ r ∧ r ≤ 65533) ∨ (65533 < r ∧ r < 65536) ∨ (65536 ≤ r ∧ r ≤ 1114111) ∨ (1114111 < r) := by omega
  have hs := sgn_iff r
  rcases hc with h | h | h | h | h | h | h | h | h | h | h | h
  · have L := Lib.hid (show sgn_C r = false from by rw [Bool.eq_false_iff]; exact fun h' => by have := hs.1 h'; omega)
    have e9 : ((r : Int) == 9) = false := by rw [beq_eq_false_iff_ne]; omega
    have e10 : ((r : Int) == 10) = false := by rw [beq_eq_false_iff_ne]; omega
    have e13 : ((r : Int) == 13) = false := by rw [beq_eq_false_iff_ne]; omega
    have g32 : decide ((32 : Int) ≤ r) = false := by exact decide_eq_false (by omega)
    have g57344 : decide ((57344 : Int) ≤ r) = false := by exact decide_eq_false (by omega)
    have g65536 : decide ((65536 : Int) ≤ r) = false := by exact decide_eq_false (by omega)
    have l55295 : decide ((r : Int) ≤ 55295) = true := by exact decide_eq_true (by omega)
    have l65533 : decide ((r : Int) ≤ 65533) = true := by exact decide_eq_true (by omega)
    have l1114111 : decide ((r : Int) ≤ 1114111) = true := by exact decide_eq_true (by omega)
    clear hs h hr hi
    go_enter Tryd.func83, Tryd.ntmps83
    go_wp2
    go_ret
    exact ⟨by (rw [L.out]) <;> rfl, rfl⟩
  · have L := Lib.hid (show sgn_C r = true from hs.2 (by omega))
    subst h
    clear hs hr hi
    go_enter Tryd.func83, Tryd.ntmps83
    go_wp2
    go_ret
    exact ⟨by (rw [L.out]) <;> rfl, rfl⟩
  · have L := Lib.hid (show sgn_C r = true from hs.2 (by omega))
    subst h
    clear hs hr hi
    go_enter Tryd.func83, Tryd.ntmps83
    go_wp2
    go_ret
    exact ⟨by (rw [L.out]) <;> rfl, rfl⟩
  · have L := Lib.hid (show sgn_C r = false from by rw [Bool.eq_false_iff]; exact fun h' => by have := hs.1 h'; omega)
    have e9 : ((r : Int) == 9) = false := by rw [beq_eq_false_iff_ne]; omega
    have e10 : ((r : Int) == 10) = false := by rw [beq_eq_false_iff_ne]; omega
    have e13 : ((r : Int) == 13) = false := by rw [beq_eq_false_iff_ne]; omega
    have g32 : decide ((32 : Int) ≤ r) = false := by exact decide_eq_false (by omega)
    have g57344 : decide ((57344 : Int) ≤ r) = false := by exact decide_eq_false (by omega)
    have g65536 : decide ((65536 : Int) ≤ r) = false := by exact decide_eq_false (by omega)
    have l55295 : decide ((r : Int) ≤ 55295) = true := by exact decide_eq_true (by omega)
    have l65533 : decide ((r : Int) ≤ 65533) = true := by exact decide_eq_true (by omega)
    have l1114111 : decide ((r : Int) ≤ 1114111) = true := by exact decide_eq_true (by omega)
    clear hs h hr hi
    go_enter Tryd.func83, Tryd.ntmps83
    go_wp2
    go_ret
    exact ⟨by (rw [L.out]) <;> rfl, rfl⟩
  · have L := Lib.hid (show sgn_C r = true from hs.2 (by omega))
    subst h
    clear hs hr hi
    go_enter Tryd.func83, Tryd.ntmps83
    go_wp2
    go_ret
    exact ⟨by (rw [L.out]) <;> rfl, rfl⟩
  · have L := Lib.hid (show sgn_C r = false from by rw [Bool.eq_false_iff]; exact fun h' => by have := hs.1 h'; omega)
    have e9 : ((r : Int) == 9) = false := by rw [beq_eq_false_iff_ne]; omega
    have e10 : ((r : Int) == 10) = false := by rw [beq_eq_false_iff_ne]; omega
    have e13 : ((r : Int) == 13) = false := by rw [beq_eq_false_iff_ne]; omega
    have g32 : decide ((32 : Int) ≤ r) = false := by exact decide_eq_false (by omega)
    have g57344 : decide ((57344 : Int) ≤ r) = false := by exact decide_eq_false (by omega)
    have g65536 : decide ((65536 : Int) ≤ r) = false := by exact decide_eq_false (by omega)
    have l55295 : decide ((r : Int) ≤ 55295) = true := by exact decide_eq_true (by omega)
    have l65533 : decide ((r : Int) ≤ 65533) = true := by exact decide_eq_true (by omega)
    have l1114111 : decide ((r : Int) ≤ 1114111) = true := by exact decide_eq_true (by omega)
    clear hs h hr hi
    go_enter Tryd.func83, Tryd.ntmps83
    go_wp2
    go_ret
    exact ⟨by (rw [L.out]) <;> rfl, rfl⟩
  · have L := Lib.hid (show sgn_C r = true from hs.2 (by omega))
    have e9 : ((r : Int) == 9) = false := by rw [beq_eq_false_iff_ne]; omega
    have e10 : ((r : Int) == 10) = false := by rw [beq_eq_false_iff_ne]; omega
    have e13 : ((r : Int) == 13) = false := by rw [beq_eq_false_iff_ne]; omega
    have g32 : decide ((32 : Int) ≤ r) = true := by exact decide_eq_true (by omega)
    have g57344 : decide ((57344 : Int) ≤ r) = false := by exact decide_eq_false (by omega)
    have g65536 : decide ((65536 : Int) ≤ r) = false := by exact decide_eq_false (by omega)
    have l55295 : decide ((r : Int) ≤ 55295) = true := by exact decide_eq_true (by omega)
    have l65533 : decide ((r : Int) ≤ 65533) = true := by exact decide_eq_true (by omega)
    have l1114111 : decide ((r : Int) ≤ 1114111) = true := by exact decide_eq_true (by omega)
    clear hs h hr hi
    go_enter Tryd.func83, Tryd.ntmps83
    go_wp2
    go_ret
    exact ⟨by (rw [L.out]) <;> rfl, rfl⟩
  · have L := Lib.hid (show sgn_C r = false from by rw [Bool.eq_false_iff]; exact fun h' => by have := hs.1 h'; omega)
    have e9 : ((r : Int) == 9) = false := by rw [beq_eq_false_iff_ne]; omega
    have e10 : ((r : Int) == 10) = false := by rw [beq_eq_false_iff_ne]; omega
    have e13 : ((r : Int) == 13) = false := by rw [beq_eq_false_iff_ne]; omega
    have g32 : decide ((32 : Int) ≤ r) = true := by exact decide_eq_true (by omega)
    have g57344 : decide ((57344 : Int) ≤ r) = false := by exact decide_eq_false (by omega)
    have g65536 : decide ((65536 : Int) ≤ r) = false := by exact decide_eq_false (by omega)
    have l55295 : decide ((r : Int) ≤ 55295) = false := by exact decide_eq_false (by omega)
    have l65533 : decide ((r : Int) ≤ 65533) = true := by exact decide_eq_true (by omega)
    have l1114111 : decide ((r : Int) ≤ 1114111) = true := by exact decide_eq_true (by omega)
    clear hs h hr hi
    go_enter Tryd.func83, Tryd.ntmps83
    go_wp2
    go_ret
    exact ⟨by (rw [L.out]) <;> rfl, rfl⟩
  · have L := Lib.hid (show sgn_C r = true from hs.2 (by omega))
    have e9 : ((r : Int) == 9) = false := by rw [beq_eq_false_iff_ne]; omega
    have e10 : ((r : Int) == 10) = false := by rw [beq_eq_false_iff_ne]; omega
    have e13 : ((r : Int) == 13) = false := by rw [beq_eq_false_iff_ne]; omega
    have g32 : decide ((32 : Int) ≤ r) = true := by exact decide_eq_true (by omega)
    have g57344 : decide ((57344 : Int) ≤ r) = true := by exact decide_eq_true (by omega)
    have g65536 : decide ((65536 : Int) ≤ r) = false := by exact decide_eq_false (by omega)
    have l55295 : decide ((r : Int) ≤ 55295) = false := by exact decide_eq_false (by omega)
    have l65533 : decide ((r : Int) ≤ 65533) = true := by exact decide_eq_true (by omega)
    have l1114111 : decide ((r : Int) ≤ 1114111) = true := by exact decide_eq_true (by omega)
    clear hs h hr hi
    go_enter Tryd.func83, Tryd.ntmps83
    go_wp2
    go_ret
    exact ⟨by (rw [L.out]) <;> rfl, rfl⟩
  · have L := Lib.hid (show sgn_C r = false from by rw [Bool.eq_false_iff]; exact fun h' => by have := hs.1 h'; omega)
    have e9 : ((r : Int) == 9) = false := by rw [beq_eq_false_iff_ne]; omega
    have e10 : ((r : Int) == 10) = false := by rw [beq_eq_false_iff_ne]; omega
    have e13 : ((r : Int) == 13) = false := by rw [beq_eq_false_iff_ne]; omega
    have g32 : decide ((32 : Int) ≤ r) = true := by exact decide_eq_true (by omega)
    have g57344 : decide ((57344 : Int) ≤ r) = true := by exact decide_eq_true (by omega)
    have g65536 : decide ((65536 : Int) ≤ r) = false := by exact decide_eq_false (by omega)
    have l55295 : decide ((r : Int) ≤ 55295) = false := by exact decide_eq_false (by omega)
    have l65533 : decide ((r : Int) ≤ 65533) = false := by exact decide_eq_false (by omega)
    have l1114111 : decide ((r : Int) ≤ 1114111) = true := by exact decide_eq_true (by omega)
    clear hs h hr hi
    go_enter Tryd.func83, Tryd.ntmps83
    go_wp2
    go_ret
    exact ⟨by (rw [L.out]) <;> rfl, rfl⟩
  · have L := Lib.hid (show sgn_C r = true from hs.2 (by omega))
    have e9 : ((r : Int) == 9) = false := by rw [beq_eq_false_iff_ne]; omega
    have e10 : ((r : Int) == 10) = false := by rw [beq_eq_false_iff_ne]; omega
    have e13 : ((r : Int) == 13) = false := by rw [beq_eq_false_iff_ne]; omega
    have g32 : decide ((32 : Int) ≤ r) = true := by exact decide_eq_true (by omega)
    have g57344 : decide ((57344 : Int) ≤ r) = true := by exact decide_eq_true (by omega)
    have g65536 : decide ((65536 : Int) ≤ r) = true := by exact decide_eq_true (by omega)
    have l55295 : decide ((r : Int) ≤ 55295) = false := by exact decide_eq_false (by omega)
    have l65533 : decide ((r : Int) ≤ 65533) = false := by exact decide_eq_false (by omega)
    have l1114111 : decide ((r : Int) ≤ 1114111) = true := by exact decide_eq_true (by omega)
    clear hs h hr hi
    go_enter Tryd.func83, Tryd.ntmps83
    go_wp2
    go_ret
    exact ⟨by (rw [L.out]) <;> rfl, rfl⟩
  · have L := Lib.hid (show sgn_C r = false from by rw [Bool.eq_false_iff]; exact fun h' => by have := hs.1 h'; omega)
    have e9 : ((r : Int) == 9) = false := by rw [beq_eq_false_iff_ne]; omega
    have e10 : ((r : Int) == 10) = false := by rw [beq_eq_false_iff_ne]; omega
    have e13 : ((r : Int) == 13) = false := by rw [beq_eq_false_iff_ne]; omega
    have g32 : decide ((32 : Int) ≤ r) = true := by exact decide_eq_true (by omega)
    have g57344 : decide ((57344 : Int) ≤ r) = true := by exact decide_eq_true (by omega)
    have g65536 : decide ((65536 : Int) ≤ r) = true := by exact decide_eq_true (by omega)
    have l55295 : decide ((r : Int) ≤ 55295) = false := by exact decide_eq_false (by omega)
    have l65533 : decide ((r : Int) ≤ 65533) = false := by exact decide_eq_false (by omega)
    have l1114111 : decide ((r : Int) ≤ 1114111) = false := by exact decide_eq_false (by omega)
    clear hs h hr hi
    go_enter Tryd.func83, Tryd.ntmps83
    go_wp2
    go_ret
    exact ⟨by (rw [L.out]) <;> rfl, rfl⟩
/-- Whether a text begins with the three bytes of U+FFFD. -/
def ownB (s : ByteArray) : Bool := Lib.hasPrefix s.data.toList [239, 191, 189]
theorem hasPrefix_any (s : ByteArray) (w : World) : Calls Tryd.prog 41 #[.string s, .string ⟨#[239, 191, 189]⟩] w fun e w' => e = .returned (.bool (ownB s)) ∧ w' = w :=
  Tryd.strings_HasPrefix s ⟨#[239, 191, 189]⟩ w
def brokenB (s : ByteArray) (r : Nat) : Bool := decide (r = 65533) && !ownB s
set_option maxRecDepth 100000 in
theorem broken_any (s : ByteArray) (r : Nat) (hr : r ≤ 2147483647) (w : World) : Calls Tryd.prog 84 #[.string s, .int .i32 r] w fun e w' => e = .returned (.bool (brokenB s r)) ∧ w' = w := by
  by_cases h : r = 65533
  · have L := Lib.hid (show brokenB s r = !ownB s by rw [brokenB, h]; simp)
    subst h
    clear hr
    go_enter Tryd.func84, Tryd.ntmps84
    go_wp2_with (go_at_call 41; refine (hasPrefix_any _ _).mono ?_; rintro e W1 ⟨rfl, rfl⟩)
    go_ret
    exact ⟨by (rw [L.out]) <;> rfl, rfl⟩
  · have L := Lib.hid (show brokenB s r = false by rw [brokenB, decide_eq_false h]; rfl)
    have e1 : ((r : Int) == 65533) = false := by rw [beq_eq_false_iff_ne]; omega
    clear h hr
    go_enter Tryd.func84, Tryd.ntmps84
    go_wp2_with fail
    go_ret
    exact ⟨by (rw [L.out]) <;> rfl, rfl⟩
theorem get_list (s : ByteArray) (k : Nat) : s.get! k = s.data.toList.getD k 0 := by
  obtain ⟨⟨l⟩⟩ := s
  show (Array.mk l)[k]! = _
  rw [List.getD_eq_getElem?_getD]
  by_cases h : k < l.length
  · simp [h]
  · simp [h]; rfl
theorem gOf_list (s : ByteArray) (pos i : Nat) : gOf s pos i = ((s.data.toList.drop pos).getD i 0).toNat := by
  rw [gOf, get_list, List.getD_eq_getElem?_getD, List.getD_eq_getElem?_getD, List.getElem?_drop]
theorem ext_end_C (s : ByteArray) (a : Nat) : (s.extract a s.size).data.toList = s.data.toList.drop a := by
  rw [Lib.extract_data, List.take_of_length_le]
  rw [List.length_drop, Array.length_toList]
  exact Nat.le_refl _
theorem size_list_C (s : ByteArray) : s.data.toList.length = s.size := by rw [Array.length_toList]; rfl
theorem u8_nat (a : UInt8) (n : Nat) (hn : n < 256) : (a.toNat = n) ↔ a = UInt8.ofNat n := by
  constructor
  · intro h; exact UInt8.toNat_inj.mp (by rw [UInt8.toNat_ofNat']; omega)
  · rintro rfl; rw [UInt8.toNat_ofNat']; omega
theorem own_ext (s : ByteArray) (pos : Nat) : ownB (s.extract pos s.size) = own (gOf s pos) (s.size - pos) := by
  have hl : (s.data.toList.drop pos).length = s.size - pos := by rw [List.length_drop, size_list_C]
  rw [Bool.eq_iff_iff, own_iff, ownB, ext_end_C, gOf_list, gOf_list, gOf_list, ← hl]
  generalize s.data.toList.drop pos = l
  unfold Lib.hasPrefix
  match l with
  | [] => simp [List.isPrefixOf]
  | [a] => simp [List.isPrefixOf]
  | [a, b] => simp [List.isPrefixOf]
  | a :: b :: c :: r =>
    simp only [List.isPrefixOf, Bool.and_true, Bool.and_eq_true, beq_iff_eq, List.getD_cons_zero, List.getD_cons_succ, List.length_cons]
    rw [u8_nat a 0xEF (by omega), u8_nat b 0xBF (by omega), u8_nat c 0xBD (by omega)]
    constructor
    · rintro ⟨h1, h2, h3⟩; exact ⟨by omega, h1.symm, h2.symm, h3.symm⟩
    · rintro ⟨-, h1, h2, h3⟩; exact ⟨h1.symm, h2.symm, h3.symm⟩
theorem okAt_is (s : ByteArray) (pos : Nat) : okAt s pos = (sgn_C (dec (gOf s pos) (s.size - pos)).1 && !brokenB (s.extract pos s.size) (dec (gOf s pos) (s.size - pos)).1) := by
  unfold okAt may brokenB
  rw [own_ext]
theorem wd_pos (s : ByteArray) (pos : Nat) : 1 ≤ wdAt s pos := by
  unfold wdAt dec
  repeat' split
  all_goals simp
set_option maxRecDepth 100000 in
set_option maxHeartbeats 4000000 in
theorem bad_any (s : ByteArray) (hs : s.size ≤ 9223372036854775807) (w : World) : Calls Tryd.prog 70 #[.string s] w fun e w' => e = .returned (.int .i64 (badV_C s)) ∧ Bel w w' := by
  go_enter Tryd.func70, Tryd.ntmps70
  go_wp2
  have hit0 : (w.iter s 0).heap[w.heap.size]? = some (.stringIter s 0) := World.iter_heap w s 0
  have hb0 : Bel w (w.iter s 0) := (Bel.refl w).alloc _
  have HB := Lib.hid (And.intro hit0 hb0)
  clear hit0 hb0
  go_loopg [] s.size (fun g wr => ∃ pos fuel : Nat, Hid (wr.heap[w.heap.size]? = some (.stringIter s pos)) ∧ Bel w wr ∧ Hid (badV_C s = badFrom s fuel pos ∧ s.size ≤ fuel + pos ∧ g = s.size - pos))
  case atStart => exact ⟨0, s.size, HB.out.1, HB.out.2, ⟨rfl, by omega, rfl⟩⟩
  case round =>
    obtain ⟨pos, fuel, hit, hb, hh⟩ := hrel
    by_cases hp : pos < s.size
    · have hd := decode_is s pos hp
      have hr := decode_le s pos
      have hok := okAt_is s pos
      obtain ⟨r, hr0⟩ : ∃ r, r = (dec (gOf s pos) (s.size - pos)).1 := ⟨_, rfl⟩
      rw [hd, ← hr0] at hr
      rw [← hr0] at hok
      have hr' := hr
      have hnx0 : ∀ ty, (Instr.next (.pointer (some ⟨w.heap.size, 0, none⟩)) true ty).run Tryd.prog wr = .ok (.tuple #[.bool true, .int .i64 pos, .int .i32 (r : Nat)]) (wr.iterAt w.heap.size s (pos + wdAt s pos)) := fun ty => by
        have h := Lib.run_next_any_at (P := Tryd.prog) wr w.heap.size s pos ty hit.out hp
        rw [hd, ← hr0] at h
        exact h
      have hit2 := Lib.hid (Lib.iterAt_heap wr w.heap.size s pos (pos + wdAt s pos) hit.out)
      have hb2 : Bel w (wr.iterAt w.heap.size s (pos + wdAt s pos)) := Lib.below_iterAt hb (k := w.heap.size) (Nat.le_refl _) s _
      obtain ⟨W2, hW2⟩ : ∃ W2, W2 = wr.iterAt w.heap.size s (pos + wdAt s pos) := ⟨_, rfl⟩
      rw [← hW2] at hit2 hb2
      have hnx : ∀ ty, (Instr.next (.pointer (some ⟨w.heap.size, 0, none⟩)) true ty).run Tryd.prog wr = .ok (.tuple #[.bool true, .int .i64 pos, .int .i32 (r : Nat)]) W2 := fun ty => by rw [hW2]; exact hnx0 ty
      obtain ⟨f, rfl⟩ : ∃ f, fuel = f + 1 := ⟨fuel - 1, by have := hh.out.2.1; omega⟩
      have hstep := hh.out.1
      rw [badFrom, if_pos hp] at hstep
      have hwd := wd_pos s pos
      have HOK := Lib.hid hok
      have HST := Lib.hid hstep
      have HWD := Lib.hid hwd
      have i1 : (pos : Int) < s.size := by omega
      have i2 : (s.size : Int) ≤ 9223372036854775807 := by omega
      clear hd hr hok hr0 hnx0 hW2 hstep hwd hb
      cases hv : sgn_C r with
      | false =>
        have HV := Lib.hid hv
        have L := Lib.hid (show badV_C s = pos by rw [HST.out, HOK.out, hv]; rfl)
        have HK := HV
        clear hv
        go_wp2_with (first
          | (go_at_call 83; refine (valid_any r hr' _).mono ?_; rintro e V1 ⟨rfl, rfl⟩; rw [HV.out])
          | (go_at_call 84; refine (broken_any _ r hr' _).mono ?_; rintro e V2 ⟨rfl, rfl⟩; rw [HK.out]))
        go_ret
        exact ⟨by (rw [L.out]) <;> rfl, hb2⟩
      | true =>
        have HV := Lib.hid hv
        cases hk : brokenB (s.extract pos s.size) r with
        | true =>
          have HK := Lib.hid hk
          have L := Lib.hid (show badV_C s = pos by rw [HST.out, HOK.out, hv, hk]; rfl)
          clear hv hk
          go_wp2_with (first
            | (go_at_call 83; refine (valid_any r hr' _).mono ?_; rintro e V1 ⟨rfl, rfl⟩; rw [HV.out])
            | (go_at_call 84; refine (broken_any _ r hr' _).mono ?_; rintro e V2 ⟨rfl, rfl⟩; rw [HK.out]))
          go_ret
          exact ⟨by (rw [L.out]) <;> rfl, hb2⟩
        | false =>
          have HK := Lib.hid hk
          have L := Lib.hid (show badV_C s = badFrom s f (pos + wdAt s pos) by rw [HST.out, HOK.out, hv, hk]; rfl)
          clear hv hk
          go_wp2_with (first
            | (go_at_call 83; refine (valid_any r hr' _).mono ?_; rintro e V1 ⟨rfl, rfl⟩; rw [HV.out])
            | (go_at_call 84; refine (broken_any _ r hr' _).mono ?_; rintro e V2 ⟨rfl, rfl⟩; rw [HK.out]))
          go_roundg (s.size - (pos + wdAt s pos))
          case measure => have := hh.out.2.2; have := HWD.out; omega
          case rel => exact ⟨pos + wdAt s pos, f, hit2, hb2, ⟨L.out, by have := hh.out.2.1; have := HWD.out; omega, rfl⟩⟩
    · have hnx : ∀ ty, (Instr.next (.pointer (some ⟨w.heap.size, 0, none⟩)) true ty).run Tryd.prog wr = .ok (.tuple #[.bool false]) wr := fun ty => Lib.run_next_end_at wr w.heap.size s pos ty hit.out hp
      have L := Lib.hid (show badV_C s = -1 by
        rw [hh.out.1]
        cases fuel with
        | zero => rfl
        | succ f => rw [badFrom, if_neg hp])
      go_wp2
      go_ret
      exact ⟨by (rw [L.out]) <;> rfl, hb⟩
def accF (r0 : Nat) (g : Nat → Nat) : Nat → Nat
  | 0 => r0
  | k + 1 => accF r0 g k * 64 + (g (k + 1) - 0x80)
def conts (g : Nat → Nat) (k : Nat) : Prop := ∀ i, 1 ≤ i → i ≤ k → 0x80 ≤ g i ∧ g i < 0xC0
instance (g : Nat → Nat) (k : Nat) : Decidable (conts g k) := by
  have : conts g k ↔ ∀ i, i < k → 0x80 ≤ g (i + 1) ∧ g (i + 1) < 0xC0 := by
    constructor
    · intro h i hi; exact h (i + 1) (by omega) (by omega)
    · intro h i h1 h2
      have := h (i - 1) (by omega)
      rwa [show i - 1 + 1 = i by omega] at this
  exact decidable_of_iff _ this.symm
/-- What comes out of so many bytes. -/
def firstT (r0 n least : Nat) (g : Nat → Nat) (m : Nat) : Nat × Nat :=
  if n ≤ m ∧ conts g (n - 1) ∧ least ≤ accF r0 g (n - 1) ∧ sgn_C (accF r0 g (n - 1)) = true then (accF r0 g (n - 1), n) else (0, 0)
theorem conts1 (g : Nat → Nat) : conts g 0 := fun i h1 h2 => by omega
theorem conts_s (g : Nat → Nat) (k : Nat) : conts g (k + 1) ↔ conts g k ∧ 0x80 ≤ g (k + 1) ∧ g (k + 1) < 0xC0 := by
  constructor
  · intro h; exact ⟨fun i h1 h2 => h i h1 (by omega), h (k + 1) (by omega) (by omega)⟩
  · rintro ⟨h, h'⟩ i h1 h2
    by_cases hi : i = k + 1
    · subst hi; exact h'
    · exact h i h1 (by omega)
theorem first_T (g : Nat → Nat) (m : Nat) (hm : 0 < m) : first g m = if g 0 < 0x80 then firstT (g 0) 1 0 g m else if 0xC0 ≤ g 0 ∧ g 0 < 0xE0 then firstT (g 0 - 0xC0) 2 0x80 g m
    else if 0xE0 ≤ g 0 ∧ g 0 < 0xF0 then firstT (g 0 - 0xE0) 3 0x800 g m else if 0xF0 ≤ g 0 ∧ g 0 < 0xF8 then firstT (g 0 - 0xF0) 4 0x10000 g m else (0, 0) := by
  unfold first firstT
  refine ite_ext Iff.rfl (fun _ => ite_ext ?_ (fun _ => rfl) fun _ => rfl) fun _ => ite_ext Iff.rfl (fun _ => ite_ext ?_ (fun _ => rfl) fun _ => rfl) fun _ => ite_ext Iff.rfl (fun _ => ite_ext ?_ (fun _ => rfl) fun _ => rfl) fun _ => ite_ext Iff.rfl (fun _ => ite_ext ?_ (fun _ => rfl) fun _ => rfl) fun _ => rfl
  · exact ⟨fun h => ⟨hm, conts1 g, Nat.zero_le _, h⟩, fun h => h.2.2.2⟩
  · rw [show (2 : Nat) - 1 = 0 + 1 from rfl, conts_s]
    exact ⟨fun ⟨a, b, c, d, e⟩ => ⟨a, ⟨conts1 g, b, c⟩, d, e⟩, fun ⟨a, ⟨_, b, c⟩, d, e⟩ => ⟨a, b, c, d, e⟩⟩
  · rw [show (3 : Nat) - 1 = 0 + 1 + 1 from rfl, conts_s, conts_s]
    exact ⟨fun ⟨a, b, c, b', c', d, e⟩ => ⟨a, ⟨⟨conts1 g, b, c⟩, b', c'⟩, d, e⟩, fun ⟨a, ⟨⟨_, b, c⟩, b', c'⟩, d, e⟩ => ⟨a, b, c, b', c', d, e⟩⟩
  · rw [show (4 : Nat) - 1 = 0 + 1 + 1 + 1 from rfl, conts_s, conts_s, conts_s]
    exact ⟨fun ⟨a, b, c, b', c', b'', c'', d, e⟩ => ⟨a, ⟨⟨⟨conts1 g, b, c⟩, b', c'⟩, b'', c''⟩, d, e⟩, fun ⟨a, ⟨⟨⟨_, b, c⟩, b', c'⟩, b'', c''⟩, d, e⟩ => ⟨a, b, c, b', c', b'', c'', d, e⟩⟩
theorem gOf_at (s : ByteArray) (i : Nat) (h : i < s.size) : (s[i]'h).toNat = gOf s 0 i := by
  rw [gOf, Nat.zero_add, get_list, List.getD_eq_getElem?_getD, List.getElem?_eq_getElem (by rw [size_list_C]; exact h)]; rfl
theorem acc_bd (r0 : Nat) (g : Nat → Nat) (h : r0 ≤ 127) (hg : ∀ i, g i < 256) (k : Nat) (hk : k ≤ 3) : accF r0 g k ≤ 40000000 := by
  have st : ∀ j, accF r0 g (j + 1) ≤ accF r0 g j * 64 + 127 := fun j => by
    have := hg (j + 1)
    show accF r0 g j * 64 + (g (j + 1) - 0x80) ≤ _
    omega
  have s0 : accF r0 g 0 ≤ 127 := h
  have s1 : accF r0 g 1 ≤ accF r0 g 0 * 64 + 127 := st 0
  have s2 : accF r0 g 2 ≤ accF r0 g 1 * 64 + 127 := st 1
  have s3 : accF r0 g 3 ≤ accF r0 g 2 * 64 + 127 := st 2
  have hc : k = 0 ∨ k = 1 ∨ k = 2 ∨ k = 3 := by omega
  rcases hc with rfl | rfl | rfl | rfl <;> omega
set_option maxRecDepth 100000 in
set_option maxHeartbeats 8000000 in
theorem rfirst_any (s : ByteArray) (h0 : 0 < s.size) (hs : s.size ≤ 9223372036854775807) (w : World) : Calls Tryd.prog 52 #[.string s] w fun e w' => e = .returned (.tuple #[.int .i64 ((first (gOf s 0) s.size).1 : Nat), .int .i64 ((first (gOf s 0) s.size).2 : Nat)]) ∧ w' = w := by
  have hF := first_T (gOf s 0) s.size h0
  have hg := gOf_lt s 0
  have e0 := gOf_at s 0 h0
  have i0 : (0 : Int) < s.size := by omega
  have i1 : (s.size : Int) ≤ 9223372036854775807 := by omega
  have b0 := hg 0
  have HG := Lib.hid hg
  have HA := Lib.hid (gOf_at s)
  by_cases c5 : gOf s 0 0 < 0x80 ∨ (0xC0 ≤ gOf s 0 0 ∧ gOf s 0 0 < 0xF8)
  · have hc4 : (gOf s 0 0 < 0x80) ∨ (0xC0 ≤ gOf s 0 0 ∧ gOf s 0 0 < 0xE0) ∨ (0xE0 ≤ gOf s 0 0 ∧ gOf s 0 0 < 0xF0) ∨ (0xF0 ≤ gOf s 0 0 ∧ gOf s 0 0 < 0xF8) := by omega
    clear c5
    rcases hc4 with cc | cc | cc | cc
    · have hT : first (gOf s 0) s.size = firstT (gOf s 0 0) 1 0 (gOf s 0) s.size := by rw [hF, if_pos cc]
      obtain ⟨R, hR⟩ : ∃ R, R = gOf s 0 0 := ⟨_, rfl⟩
      rw [← hR] at hT
      have hRi : (s[0].toNat : Int) = (R : Int) := by omega
      have hR127 : R ≤ 127 := by omega
      have b1 : (0 : Int) ≤ s[0].toNat := by omega
      have b2 : (s[0].toNat : Int) < 128 := by omega
      have BD := Lib.hid (fun k hk => acc_bd R (gOf s 0) hR127 HG.out k hk)
      have HT := Lib.hid hT
      have HRI := Lib.hid hRi
      have RB := Lib.hid hR127
      clear hF hT hRi hR127 hR cc hg b0 e0
      by_cases hm : (s.size : Int) < 1
      · have L := Lib.hid (show first (gOf s 0) s.size = (0, 0) by rw [HT.out, firstT, if_neg (fun h => by have := h.1; omega)])
        go_enter Tryd.func52, Tryd.ntmps52
        go_wp2
        go_ret2
        exact ⟨by (rw [L.out]) <;> rfl, rfl⟩
      · go_enter Tryd.func52, Tryd.ntmps52
        go_wp2_with fail
        go_loopg [6, 8] 1 (fun g v6 v8 wr => ∃ k : Nat, v6 = .int .i64 ((accF R (gOf s 0) k : Nat) : Int) ∧ v8 = .int .i64 ((k : Int) + 1) ∧ Hid (k ≤ 1 - 1 ∧ conts (gOf s 0) k ∧ g = 1 - k) ∧ wr = w)
        case atStart => exact ⟨0, by first | rw [HRI.out]; rfl | (rw [← HRI.out]; rfl), rfl, ⟨by omega, conts1 _, rfl⟩, rfl⟩
        case round =>
          obtain ⟨k, rfl, rfl, hh, rfl⟩ := hrel
          obtain ⟨hk, hct, -⟩ := hh.out
          have hbd := BD.out k (by omega)
          have hbi : ((accF R (gOf s 0) k : Nat) : Int) ≤ 40000000 := by omega
          by_cases hlt : k + 1 < 1
          · have hks : k + 1 < s.size := by omega
            have hga := HA.out (k + 1) hks
            have hg1 := HG.out (k + 1)
            have CS := Lib.hid (conts_s (gOf s 0) k)
            have HAC := Lib.hid (show accF R (gOf s 0) (k + 1) = accF R (gOf s 0) k * 64 + (gOf s 0 (k + 1) - 0x80) from rfl)
            have k1 : (k : Int) + 1 < 1 := by omega
            have k2 : (k : Int) + 1 < s.size := by omega
            rw [← hga] at CS HAC hg1
            obtain ⟨a, ha⟩ : ∃ a, a = accF R (gOf s 0) k := ⟨_, rfl⟩
            rw [← ha] at hbi HAC ⊢
            have k3 : (s[k + 1].toNat : Int) ≤ 255 := by omega
            by_cases hc : 0x80 ≤ s[k + 1].toNat ∧ s[k + 1].toNat < 0xC0
            · obtain ⟨hc1, hc2⟩ := hc
              have k4 : (128 : Int) ≤ s[k + 1].toNat := by omega
              have k5 : (s[k + 1].toNat : Int) < 192 := by omega
              have NC := Lib.hid (CS.out.2 ⟨hct, hc1, hc2⟩)
              have E := Lib.hid (show (a : Int) * 64 + (s[k + 1].toNat : Int) - 128 = ((accF R (gOf s 0) (k + 1) : Nat) : Int) by rw [HAC.out]; omega)
              clear hbd ha hga hg1 hc1 hc2 hk hct
              exfalso; omega
            · have L := Lib.hid (show first (gOf s 0) s.size = (0, 0) by
                rw [HT.out, firstT, if_neg (fun h => hc (by rw [hga]; exact h.2.1 (k + 1) (by omega) (by omega)))])
              have k4 : (s[k + 1].toNat : Int) < 128 ∨ (192 : Int) ≤ s[k + 1].toNat := by omega
              clear hbd ha hga hg1 hc hk hct
              rcases k4 with k4 | k4
              all_goals
                exfalso; omega
          · obtain rfl : k = 1 - 1 := by omega
            have hsg := fun w => rsign_any (accF R (gOf s 0) (1 - 1)) (by omega) w
            have HF2 := Lib.hid (show firstT R 1 0 (gOf s 0) s.size = if 1 ≤ s.size ∧ conts (gOf s 0) (1 - 1) ∧ 0 ≤ accF R (gOf s 0) (1 - 1) ∧ sgn_C (accF R (gOf s 0) (1 - 1)) = true then (accF R (gOf s 0) (1 - 1), 1) else (0, 0) from rfl)
            obtain ⟨a, ha⟩ : ∃ a, a = accF R (gOf s 0) (1 - 1) := ⟨_, rfl⟩
            rw [← ha] at hbi hsg HF2 ⊢
            have HSG := Lib.hid hsg
            have HCT := Lib.hid hct
            clear hbd ha hsg hk hct
            have hns : 1 ≤ s.size := by omega
            cases hsv : sgn_C a with
            | false =>
              have HSV := Lib.hid hsv
              have L := Lib.hid (show first (gOf s 0) s.size = (0, 0) by rw [HT.out, HF2.out, if_neg (fun h => by have := h.2.2.2; rw [hsv] at this; cases this)])
              clear hsv hns
              by_cases hl : (a : Int) < 0
              · exfalso; omega
              · go_wp2_with (go_at_call 71; refine (HSG.out _).mono ?_; rintro e W1 ⟨rfl, rfl⟩; rw [HSV.out])
                go_ret2
                exact ⟨by (rw [L.out]) <;> rfl, rfl⟩
            | true =>
              have HSV := Lib.hid hsv
              by_cases hl : (a : Int) < 0
              · exfalso; omega
              · have L := Lib.hid (show first (gOf s 0) s.size = (a, 1) by rw [HT.out, HF2.out, if_pos ⟨hns, HCT.out, by omega, hsv⟩])
                clear hsv hns
                go_wp2_with (go_at_call 71; refine (HSG.out _).mono ?_; rintro e W1 ⟨rfl, rfl⟩; rw [HSV.out])
                go_ret2
                exact ⟨by (rw [L.out]) <;> rfl, rfl⟩
    · have hT : first (gOf s 0) s.size = firstT (gOf s 0 0 - 0xC0) 2 128 (gOf s 0) s.size := by rw [hF, if_neg (by omega), if_pos cc]
      obtain ⟨R, hR⟩ : ∃ R, R = gOf s 0 0 - 0xC0 := ⟨_, rfl⟩
      rw [← hR] at hT
      have hRi : (s[0].toNat : Int) - 192 = (R : Int) := by omega
      have hR127 : R ≤ 127 := by omega
      have b1 : (192 : Int) ≤ s[0].toNat := by omega
      have b2 : (s[0].toNat : Int) < 224 := by omega
      have BD := Lib.hid (fun k hk => acc_bd R (gOf s 0) hR127 HG.out k hk)
      have HT := Lib.hid hT
      have HRI := Lib.hid hRi
      have RB := Lib.hid hR127
      clear hF hT hRi hR127 hR cc hg b0 e0
      by_cases hm : (s.size : Int) < 2
      · have L := Lib.hid (show first (gOf s 0) s.size = (0, 0) by rw [HT.out, firstT, if_neg (fun h => by have := h.1; omega)])
        go_enter Tryd.func52, Tryd.ntmps52
        go_wp2
        go_ret2
        exact ⟨by (rw [L.out]) <;> rfl, rfl⟩
      · go_enter Tryd.func52, Tryd.ntmps52
        go_wp2_with fail
        go_loopg [6, 8] 2 (fun g v6 v8 wr => ∃ k : Nat, v6 = .int .i64 ((accF R (gOf s 0) k : Nat) : Int) ∧ v8 = .int .i64 ((k : Int) + 1) ∧ Hid (k ≤ 2 - 1 ∧ conts (gOf s 0) k ∧ g = 2 - k) ∧ wr = w)
        case atStart => exact ⟨0, by first | rw [HRI.out]; rfl | (rw [← HRI.out]; rfl), rfl, ⟨by omega, conts1 _, rfl⟩, rfl⟩
        case round =>
          obtain ⟨k, rfl, rfl, hh, rfl⟩ := hrel
          obtain ⟨hk, hct, -⟩ := hh.out
          have hbd := BD.out k (by omega)
          have hbi : ((accF R (gOf s 0) k : Nat) : Int) ≤ 40000000 := by omega
          by_cases hlt : k + 1 < 2
          · have hks : k + 1 < s.size := by omega
            have hga := HA.out (k + 1) hks
            have hg1 := HG.out (k + 1)
            have CS := Lib.hid (conts_s (gOf s 0) k)
            have HAC := Lib.hid (show accF R (gOf s 0) (k + 1) = accF R (gOf s 0) k * 64 + (gOf s 0 (k + 1) - 0x80) from rfl)
            have k1 : (k : Int) + 1 < 2 := by omega
            have k2 : (k : Int) + 1 < s.size := by omega
            rw [← hga] at CS HAC hg1
            obtain ⟨a, ha⟩ : ∃ a, a = accF R (gOf s 0) k := ⟨_, rfl⟩
            rw [← ha] at hbi HAC ⊢
            have k3 : (s[k + 1].toNat : Int) ≤ 255 := by omega
            by_cases hc : 0x80 ≤ s[k + 1].toNat ∧ s[k + 1].toNat < 0xC0
            · obtain ⟨hc1, hc2⟩ := hc
              have k4 : (128 : Int) ≤ s[k + 1].toNat := by omega
              have k5 : (s[k + 1].toNat : Int) < 192 := by omega
              have NC := Lib.hid (CS.out.2 ⟨hct, hc1, hc2⟩)
              have E := Lib.hid (show (a : Int) * 64 + (s[k + 1].toNat : Int) - 128 = ((accF R (gOf s 0) (k + 1) : Nat) : Int) by rw [HAC.out]; omega)
              clear hbd ha hga hg1 hc1 hc2 hk hct
              · go_wp2
                go_roundg (gk - 1)
                case measure => have := hh.out.2.2; omega
                case rel => exact ⟨k + 1, by rw [E.out], by go_num, ⟨by omega, NC.out, by have := hh.out.2.2; omega⟩, rfl⟩
            · have L := Lib.hid (show first (gOf s 0) s.size = (0, 0) by
                rw [HT.out, firstT, if_neg (fun h => hc (by rw [hga]; exact h.2.1 (k + 1) (by omega) (by omega)))])
              have k4 : (s[k + 1].toNat : Int) < 128 ∨ (192 : Int) ≤ s[k + 1].toNat := by omega
              clear hbd ha hga hg1 hc hk hct
              rcases k4 with k4 | k4
              all_goals
                · go_wp2
                  go_ret2
                  exact ⟨by (rw [L.out]) <;> rfl, rfl⟩
          · obtain rfl : k = 2 - 1 := by omega
            have hsg := fun w => rsign_any (accF R (gOf s 0) (2 - 1)) (by omega) w
            have HF2 := Lib.hid (show firstT R 2 128 (gOf s 0) s.size = if 2 ≤ s.size ∧ conts (gOf s 0) (2 - 1) ∧ 128 ≤ accF R (gOf s 0) (2 - 1) ∧ sgn_C (accF R (gOf s 0) (2 - 1)) = true then (accF R (gOf s 0) (2 - 1), 2) else (0, 0) from rfl)
            obtain ⟨a, ha⟩ : ∃ a, a = accF R (gOf s 0) (2 - 1) := ⟨_, rfl⟩
            rw [← ha] at hbi hsg HF2 ⊢
            have HSG := Lib.hid hsg
            have HCT := Lib.hid hct
            clear hbd ha hsg hk hct
            have hns : 2 ≤ s.size := by omega
            cases hsv : sgn_C a with
            | false =>
              have HSV := Lib.hid hsv
              have L := Lib.hid (show first (gOf s 0) s.size = (0, 0) by rw [HT.out, HF2.out, if_neg (fun h => by have := h.2.2.2; rw [hsv] at this; cases this)])
              clear hsv hns
              by_cases hl : (a : Int) < 128
              · · go_wp2_with fail
                  go_ret2
                  exact ⟨by (rw [L.out]) <;> rfl, rfl⟩
              · go_wp2_with (go_at_call 71; refine (HSG.out _).mono ?_; rintro e W1 ⟨rfl, rfl⟩; rw [HSV.out])
                go_ret2
                exact ⟨by (rw [L.out]) <;> rfl, rfl⟩
            | true =>
              have HSV := Lib.hid hsv
              by_cases hl : (a : Int) < 128
              · · have L := Lib.hid (show first (gOf s 0) s.size = (0, 0) by rw [HT.out, HF2.out, if_neg (fun h => by have := h.2.2.1; omega)])
                  clear hsv hns
                  go_wp2_with fail
                  go_ret2
                  exact ⟨by (rw [L.out]) <;> rfl, rfl⟩
              · have L := Lib.hid (show first (gOf s 0) s.size = (a, 2) by rw [HT.out, HF2.out, if_pos ⟨hns, HCT.out, by omega, hsv⟩])
                clear hsv hns
                go_wp2_with (go_at_call 71; refine (HSG.out _).mono ?_; rintro e W1 ⟨rfl, rfl⟩; rw [HSV.out])
                go_ret2
                exact ⟨by (rw [L.out]) <;> rfl, rfl⟩
    · have hT : first (gOf s 0) s.size = firstT (gOf s 0 0 - 0xE0) 3 2048 (gOf s 0) s.size := by rw [hF, if_neg (by omega), if_neg (by omega), if_pos cc]
      obtain ⟨R, hR⟩ : ∃ R, R = gOf s 0 0 - 0xE0 := ⟨_, rfl⟩
      rw [← hR] at hT
      have hRi : (s[0].toNat : Int) - 224 = (R : Int) := by omega
      have hR127 : R ≤ 127 := by omega
      have b1 : (224 : Int) ≤ s[0].toNat := by omega
      have b2 : (s[0].toNat : Int) < 240 := by omega
      have BD := Lib.hid (fun k hk => acc_bd R (gOf s 0) hR127 HG.out k hk)
      have HT := Lib.hid hT
      have HRI := Lib.hid hRi
      have RB := Lib.hid hR127
      clear hF hT hRi hR127 hR cc hg b0 e0
      by_cases hm : (s.size : Int) < 3
      · have L := Lib.hid (show first (gOf s 0) s.size = (0, 0) by rw [HT.out, firstT, if_neg (fun h => by have := h.1; omega)])
        go_enter Tryd.func52, Tryd.ntmps52
        go_wp2
        go_ret2
        exact ⟨by (rw [L.out]) <;> rfl, rfl⟩
      · go_enter Tryd.func52, Tryd.ntmps52
        go_wp2_with fail
        go_loopg [6, 8] 3 (fun g v6 v8 wr => ∃ k : Nat, v6 = .int .i64 ((accF R (gOf s 0) k : Nat) : Int) ∧ v8 = .int .i64 ((k : Int) + 1) ∧ Hid (k ≤ 3 - 1 ∧ conts (gOf s 0) k ∧ g = 3 - k) ∧ wr = w)
        case atStart => exact ⟨0, by first | rw [HRI.out]; rfl | (rw [← HRI.out]; rfl), rfl, ⟨by omega, conts1 _, rfl⟩, rfl⟩
        case round =>
          obtain ⟨k, rfl, rfl, hh, rfl⟩ := hrel
          obtain ⟨hk, hct, -⟩ := hh.out
          have hbd := BD.out k (by omega)
          have hbi : ((accF R (gOf s 0) k : Nat) : Int) ≤ 40000000 := by omega
          by_cases hlt : k + 1 < 3
          · have hks : k + 1 < s.size := by omega
            have hga := HA.out (k + 1) hks
            have hg1 := HG.out (k + 1)
            have CS := Lib.hid (conts_s (gOf s 0) k)
            have HAC := Lib.hid (show accF R (gOf s 0) (k + 1) = accF R (gOf s 0) k * 64 + (gOf s 0 (k + 1) - 0x80) from rfl)
            have k1 : (k : Int) + 1 < 3 := by omega
            have k2 : (k : Int) + 1 < s.size := by omega
            rw [← hga] at CS HAC hg1
            obtain ⟨a, ha⟩ : ∃ a, a = accF R (gOf s 0) k := ⟨_, rfl⟩
            rw [← ha] at hbi HAC ⊢
            have k3 : (s[k + 1].toNat : Int) ≤ 255 := by omega
            by_cases hc : 0x80 ≤ s[k + 1].toNat ∧ s[k + 1].toNat < 0xC0
            · obtain ⟨hc1, hc2⟩ := hc
              have k4 : (128 : Int) ≤ s[k + 1].toNat := by omega
              have k5 : (s[k + 1].toNat : Int) < 192 := by omega
              have NC := Lib.hid (CS.out.2 ⟨hct, hc1, hc2⟩)
              have E := Lib.hid (show (a : Int) * 64 + (s[k + 1].toNat : Int) - 128 = ((accF R (gOf s 0) (k + 1) : Nat) : Int) by rw [HAC.out]; omega)
              clear hbd ha hga hg1 hc1 hc2 hk hct
              · go_wp2
                go_roundg (gk - 1)
                case measure => have := hh.out.2.2; omega
                case rel => exact ⟨k + 1, by rw [E.out], by go_num, ⟨by omega, NC.out, by have := hh.out.2.2; omega⟩, rfl⟩
            · have L := Lib.hid (show first (gOf s 0) s.size = (0, 0) by
                rw [HT.out, firstT, if_neg (fun h => hc (by rw [hga]; exact h.2.1 (k + 1) (by omega) (by omega)))])
              have k4 : (s[k + 1].toNat : Int) < 128 ∨ (192 : Int) ≤ s[k + 1].toNat := by omega
              clear hbd ha hga hg1 hc hk hct
              rcases k4 with k4 | k4
              all_goals
                · go_wp2
                  go_ret2
                  exact ⟨by (rw [L.out]) <;> rfl, rfl⟩
          · obtain rfl : k = 3 - 1 := by omega
            have hsg := fun w => rsign_any (accF R (gOf s 0) (3 - 1)) (by omega) w
            have HF2 := Lib.hid (show firstT R 3 2048 (gOf s 0) s.size = if 3 ≤ s.size ∧ conts (gOf s 0) (3 - 1) ∧ 2048 ≤ accF R (gOf s 0) (3 - 1) ∧ sgn_C (accF R (gOf s 0) (3 - 1)) = true then (accF R (gOf s 0) (3 - 1), 3) else (0, 0) from rfl)
            obtain ⟨a, ha⟩ : ∃ a, a = accF R (gOf s 0) (3 - 1) := ⟨_, rfl⟩
            rw [← ha] at hbi hsg HF2 ⊢
            have HSG := Lib.hid hsg
            have HCT := Lib.hid hct
            clear hbd ha hsg hk hct
            have hns : 3 ≤ s.size := by omega
            cases hsv : sgn_C a with
            | false =>
              have HSV := Lib.hid hsv
              have L := Lib.hid (show first (gOf s 0) s.size = (0, 0) by rw [HT.out, HF2.out, if_neg (fun h => by have := h.2.2.2; rw [hsv] at this; cases this)])
              clear hsv hns
              by_cases hl : (a : Int) < 2048
              · · go_wp2_with fail
                  go_ret2
                  exact ⟨by (rw [L.out]) <;> rfl, rfl⟩
              · go_wp2_with (go_at_call 71; refine (HSG.out _).mono ?_; rintro e W1 ⟨rfl, rfl⟩; rw [HSV.out])
                go_ret2
                exact ⟨by (rw [L.out]) <;> rfl, rfl⟩
            | true =>
              have HSV := Lib.hid hsv
              by_cases hl : (a : Int) < 2048
              · · have L := Lib.hid (show first (gOf s 0) s.size = (0, 0) by rw [HT.out, HF2.out, if_neg (fun h => by have := h.2.2.1; omega)])
                  clear hsv hns
                  go_wp2_with fail
                  go_ret2
                  exact ⟨by (rw [L.out]) <;> rfl, rfl⟩
              · have L := Lib.hid (show first (gOf s 0) s.size = (a, 3) by rw [HT.out, HF2.out, if_pos ⟨hns, HCT.out, by omega, hsv⟩])
                clear hsv hns
                go_wp2_with (go_at_call 71; refine (HSG.out _).mono ?_; rintro e W1 ⟨rfl, rfl⟩; rw [HSV.out])
                go_ret2
                exact ⟨by (rw [L.out]) <;> rfl, rfl⟩
    · have hT : first (gOf s 0) s.size = firstT (gOf s 0 0 - 0xF0) 4 65536 (gOf s 0) s.size := by rw [hF, if_neg (by omega), if_neg (by omega), if_neg (by omega), if_pos cc]
      obtain ⟨R, hR⟩ : ∃ R, R = gOf s 0 0 - 0xF0 := ⟨_, rfl⟩
      rw [← hR] at hT
      have hRi : (s[0].toNat : Int) - 240 = (R : Int) := by omega
      have hR127 : R ≤ 127 := by omega
      have b1 : (240 : Int) ≤ s[0].toNat := by omega
      have b2 : (s[0].toNat : Int) < 248 := by omega
      have BD := Lib.hid (fun k hk => acc_bd R (gOf s 0) hR127 HG.out k hk)
      have HT := Lib.hid hT
      have HRI := Lib.hid hRi
      have RB := Lib.hid hR127
      clear hF hT hRi hR127 hR cc hg b0 e0
      by_cases hm : (s.size : Int) < 4
      · have L := Lib.hid (show first (gOf s 0) s.size = (0, 0) by rw [HT.out, firstT, if_neg (fun h => by have := h.1; omega)])
        go_enter Tryd.func52, Tryd.ntmps52
        go_wp2
        go_ret2
        exact ⟨by (rw [L.out]) <;> rfl, rfl⟩
      · go_enter Tryd.func52, Tryd.ntmps52
        go_wp2_with fail
        go_loopg [6, 8] 4 (fun g v6 v8 wr => ∃ k : Nat, v6 = .int .i64 ((accF R (gOf s 0) k : Nat) : Int) ∧ v8 = .int .i64 ((k : Int) + 1) ∧ Hid (k ≤ 4 - 1 ∧ conts (gOf s 0) k ∧ g = 4 - k) ∧ wr = w)
        case atStart => exact ⟨0, by first | rw [HRI.out]; rfl | (rw [← HRI.out]; rfl), rfl, ⟨by omega, conts1 _, rfl⟩, rfl⟩
        case round =>
          obtain ⟨k, rfl, rfl, hh, rfl⟩ := hrel
          obtain ⟨hk, hct, -⟩ := hh.out
          have hbd := BD.out k (by omega)
          have hbi : ((accF R (gOf s 0) k : Nat) : Int) ≤ 40000000 := by omega
          by_cases hlt : k + 1 < 4
          · have hks : k + 1 < s.size := by omega
            have hga := HA.out (k + 1) hks
            have hg1 := HG.out (k + 1)
            have CS := Lib.hid (conts_s (gOf s 0) k)
            have HAC := Lib.hid (show accF R (gOf s 0) (k + 1) = accF R (gOf s 0) k * 64 + (gOf s 0 (k + 1) - 0x80) from rfl)
            have k1 : (k : Int) + 1 < 4 := by omega
            have k2 : (k : Int) + 1 < s.size := by omega
            rw [← hga] at CS HAC hg1
            obtain ⟨a, ha⟩ : ∃ a, a = accF R (gOf s 0) k := ⟨_, rfl⟩
            rw [← ha] at hbi HAC ⊢
            have k3 : (s[k + 1].toNat : Int) ≤ 255 := by omega
            by_cases hc : 0x80 ≤ s[k + 1].toNat ∧ s[k + 1].toNat < 0xC0
            · obtain ⟨hc1, hc2⟩ := hc
              have k4 : (128 : Int) ≤ s[k + 1].toNat := by omega
              have k5 : (s[k + 1].toNat : Int) < 192 := by omega
              have NC := Lib.hid (CS.out.2 ⟨hct, hc1, hc2⟩)
              have E := Lib.hid (show (a : Int) * 64 + (s[k + 1].toNat : Int) - 128 = ((accF R (gOf s 0) (k + 1) : Nat) : Int) by rw [HAC.out]; omega)
              clear hbd ha hga hg1 hc1 hc2 hk hct
              · go_wp2
                go_roundg (gk - 1)
                case measure => have := hh.out.2.2; omega
                case rel => exact ⟨k + 1, by rw [E.out], by go_num, ⟨by omega, NC.out, by have := hh.out.2.2; omega⟩, rfl⟩
            · have L := Lib.hid (show first (gOf s 0) s.size = (0, 0) by
                rw [HT.out, firstT, if_neg (fun h => hc (by rw [hga]; exact h.2.1 (k + 1) (by omega) (by omega)))])
              have k4 : (s[k + 1].toNat : Int) < 128 ∨ (192 : Int) ≤ s[k + 1].toNat := by omega
              clear hbd ha hga hg1 hc hk hct
              rcases k4 with k4 | k4
              all_goals
                · go_wp2
                  go_ret2
                  exact ⟨by (rw [L.out]) <;> rfl, rfl⟩
          · obtain rfl : k = 4 - 1 := by omega
            have hsg := fun w => rsign_any (accF R (gOf s 0) (4 - 1)) (by omega) w
            have HF2 := Lib.hid (show firstT R 4 65536 (gOf s 0) s.size = if 4 ≤ s.size ∧ conts (gOf s 0) (4 - 1) ∧ 65536 ≤ accF R (gOf s 0) (4 - 1) ∧ sgn_C (accF R (gOf s 0) (4 - 1)) = true then (accF R (gOf s 0) (4 - 1), 4) else (0, 0) from rfl)
            obtain ⟨a, ha⟩ : ∃ a, a = accF R (gOf s 0) (4 - 1) := ⟨_, rfl⟩
            rw [← ha] at hbi hsg HF2 ⊢
            have HSG := Lib.hid hsg
            have HCT := Lib.hid hct
            clear hbd ha hsg hk hct
            have hns : 4 ≤ s.size := by omega
            cases hsv : sgn_C a with
            | false =>
              have HSV := Lib.hid hsv
              have L := Lib.hid (show first (gOf s 0) s.size = (0, 0) by rw [HT.out, HF2.out, if_neg (fun h => by have := h.2.2.2; rw [hsv] at this; cases this)])
              clear hsv hns
              by_cases hl : (a : Int) < 65536
              · · go_wp2_with fail
                  go_ret2
                  exact ⟨by (rw [L.out]) <;> rfl, rfl⟩
              · go_wp2_with (go_at_call 71; refine (HSG.out _).mono ?_; rintro e W1 ⟨rfl, rfl⟩; rw [HSV.out])
                go_ret2
                exact ⟨by (rw [L.out]) <;> rfl, rfl⟩
            | true =>
              have HSV := Lib.hid hsv
              by_cases hl : (a : Int) < 65536
              · · have L := Lib.hid (show first (gOf s 0) s.size = (0, 0) by rw [HT.out, HF2.out, if_neg (fun h => by have := h.2.2.1; omega)])
                  clear hsv hns
                  go_wp2_with fail
                  go_ret2
                  exact ⟨by (rw [L.out]) <;> rfl, rfl⟩
              · have L := Lib.hid (show first (gOf s 0) s.size = (a, 4) by rw [HT.out, HF2.out, if_pos ⟨hns, HCT.out, by omega, hsv⟩])
                clear hsv hns
                go_wp2_with (go_at_call 71; refine (HSG.out _).mono ?_; rintro e W1 ⟨rfl, rfl⟩; rw [HSV.out])
                go_ret2
                exact ⟨by (rw [L.out]) <;> rfl, rfl⟩
  · have L := Lib.hid (show first (gOf s 0) s.size = (0, 0) by
      rw [hF, if_neg (fun h => c5 (.inl h)), if_neg (fun h => c5 (.inr (by omega))), if_neg (fun h => c5 (.inr (by omega))), if_neg (fun h => c5 (.inr (by omega)))])
    have b1 : (128 : Int) ≤ s[0].toNat := by omega
    have b2 : (s[0].toNat : Int) < 192 ∨ (248 : Int) ≤ s[0].toNat := by omega
    have b3 : (s[0].toNat : Int) ≤ 255 := by omega
    clear hF c5 hg e0 b0
    rcases b2 with b2 | b2
    all_goals
      go_enter Tryd.func52, Tryd.ntmps52
      go_wp2
      go_ret2
      exact ⟨by (rw [L.out]) <;> rfl, rfl⟩
theorem firstT_le (r0 n least : Nat) (g : Nat → Nat) (m : Nat) : (firstT r0 n least g m).2 ≤ m := by
  unfold firstT
  split
  · rename_i h; exact h.1
  · exact Nat.zero_le _
theorem first_le (g : Nat → Nat) (m : Nat) (hm : 0 < m) : (first g m).2 ≤ m := by
  rw [first_T g m hm]
  split
  · exact firstT_le ..
  · split
    · exact firstT_le ..
    · split
      · exact firstT_le ..
      · split
        · exact firstT_le ..
        · exact Nat.zero_le _
theorem gOf_ext (s : ByteArray) (pos : Nat) : gOf (s.extract pos s.size) 0 = gOf s pos := by
  funext i
  rw [gOf_list, gOf_list, List.drop_zero, ext_end_C]
theorem first_ok (s : ByteArray) (pos : Nat) (h : pos < s.size) : (first (gOf s pos) (s.size - pos)).2 = if okAt s pos = true then wdAt s pos else 0 := by
  rw [← first_is (gOf s pos) (s.size - pos) (gOf_lt s pos) (by omega)]
  unfold okAt wdAt
  split <;> rfl
theorem ext_size (s : ByteArray) (pos : Nat) : (s.extract pos s.size).size = s.size - pos := by simp [ByteArray.size_extract]
set_option maxRecDepth 100000 in
set_option maxHeartbeats 4000000 in
theorem rbad_any (s : ByteArray) (hs : s.size ≤ 9223372036854775807) (w : World) : Calls Tryd.prog 39 #[.string s] w fun e w' => e = .returned (.int .i64 (badV_C s)) ∧ w' = w := by
  have hsi : (s.size : Int) ≤ 9223372036854775807 := by omega
  go_enter Tryd.func39, Tryd.ntmps39
  go_wp2_with fail
  go_loopg [3] s.size (fun g v wr => ∃ pos fuel : Nat, v = .int .i64 pos ∧ pos ≤ s.size ∧ Hid (badV_C s = badFrom s fuel pos ∧ s.size ≤ fuel + pos ∧ g = s.size - pos) ∧ wr = w)
  case atStart => exact ⟨0, s.size, rfl, Nat.zero_le _, ⟨rfl, by omega, rfl⟩, rfl⟩
  case round =>
    obtain ⟨pos, fuel, rfl, hpl, hh, rfl⟩ := hrel
    by_cases hp : pos < s.size
    · have hz : 0 < (s.extract pos s.size).size := by rw [ext_size]; omega
      have hc := fun w => rfirst_any (s.extract pos s.size) hz (by rw [ext_size]; omega) w
      rw [gOf_ext, ext_size] at hc
      have hle := first_le (gOf s pos) (s.size - pos) (by omega)
      have hok := first_ok s pos hp
      obtain ⟨f, rfl⟩ : ∃ f, fuel = f + 1 := ⟨fuel - 1, by have := hh.out.2.1; omega⟩
      have hstep := hh.out.1
      rw [badFrom, if_pos hp] at hstep
      have hwd := wd_pos s pos
      obtain ⟨a, ha⟩ : ∃ a, a = (first (gOf s pos) (s.size - pos)).1 := ⟨_, rfl⟩
      obtain ⟨n, hn⟩ : ∃ n, n = (first (gOf s pos) (s.size - pos)).2 := ⟨_, rfl⟩
      rw [← ha, ← hn] at hc
      rw [← hn] at hle hok
      have HC := Lib.hid hc
      have i1 : (pos : Int) < s.size := by omega
      have i2 : (n : Int) + pos ≤ s.size := by omega
      cases hv : okAt s pos with
      | false =>
        rw [hv, if_neg (by decide)] at hok
        rw [hv, if_neg (by decide)] at hstep
        have L := Lib.hid hstep
        subst hok
        clear hstep hwd hle hc ha hn hv hz
        go_wp2_with (go_at_call 52; refine (HC.out _).mono ?_; rintro e W1 ⟨rfl, rfl⟩)
        go_ret
        exact ⟨by (rw [L.out]) <;> rfl, rfl⟩
      | true =>
        rw [hv, if_pos rfl] at hok
        rw [hv, if_pos rfl] at hstep
        have L := Lib.hid (show badV_C s = badFrom s f (pos + n) by rw [hstep, hok])
        have n1 : (1 : Int) ≤ n := by omega
        have e1 : ((n : Int) == 0) = false := by rw [beq_eq_false_iff_ne]; omega
        clear hstep hwd hle hc ha hn hv hok hz
        go_wp2_with (go_at_call 52; refine (HC.out _).mono ?_; rintro e W1 ⟨rfl, rfl⟩)
        go_roundg (s.size - (pos + n))
        case measure => have := hh.out.2.2; omega
        case rel => exact ⟨pos + n, f, by go_num, by omega, ⟨L.out, by have := hh.out.2.1; omega, rfl⟩, rfl⟩
    · have L := Lib.hid (show badV_C s = -1 by
        rw [hh.out.1]
        cases fuel with
        | zero => rfl
        | succ f => rw [badFrom, if_neg hp])
      go_wp2_with fail
      go_ret
      exact ⟨by (rw [L.out]) <;> rfl, rfl⟩
def goodB (s : ByteArray) : Bool := decide (badV_C s = -1)
theorem badFrom_sg (s : ByteArray) (f : Nat) : ∀ pos, badFrom s f pos = -1 ∨ 0 ≤ badFrom s f pos := by
  induction f with
  | zero => intro pos; exact .inl rfl
  | succ f ih =>
    intro pos
    unfold badFrom
    split
    · split
      · exact ih _
      · exact .inr (by omega)
    · exact .inl rfl
theorem good_any (s : ByteArray) (hs : s.size ≤ 9223372036854775807) (w : World) : Calls Tryd.prog 50 #[.string s] w fun e w' => e = .returned (.bool (goodB s)) ∧ Bel w w' := by
  have hc := fun w => bad_any s hs w
  have h1 := badFrom_sg s s.size 0
  have L := Lib.hid (show goodB s = (badV_C s == -1) from rfl)
  obtain ⟨z, hz⟩ : ∃ z, z = badV_C s := ⟨_, rfl⟩
  rw [← hz] at hc L
  have HC := Lib.hid hc
  clear hc h1 hz
  go_enter Tryd.func50, Tryd.ntmps50
  go_wp2_with (go_at_call 70; refine (HC.out _).mono ?_; rintro e W1 ⟨rfl, hb⟩)
  go_ret
  exact ⟨by (rw [L.out]) <;> rfl, hb⟩
theorem rgood_any (s : ByteArray) (hs : s.size ≤ 9223372036854775807) (w : World) : Calls Tryd.prog 27 #[.string s] w fun e w' => e = .returned (.bool (goodB s)) ∧ w' = w := by
  have hc := fun w => rbad_any s hs w
  have h1 : badV_C s = -1 ∨ 0 ≤ badV_C s := badFrom_sg s s.size 0
  obtain ⟨z, hz⟩ : ∃ z, z = badV_C s := ⟨_, rfl⟩
  have L := Lib.hid (show goodB s = decide (z < 0) by rw [hz, goodB, decide_eq_decide]; omega)
  rw [← hz] at hc
  have HC := Lib.hid hc
  clear hc h1 hz
  go_enter Tryd.func27, Tryd.ntmps27
  go_wp2_with (go_at_call 39; refine (HC.out _).mono ?_; rintro e W1 ⟨rfl, rfl⟩)
  go_ret
  exact ⟨by (rw [L.out]) <;> rfl, rfl⟩
end
end Go.Proofs.YtemciabindjkeaaDoor
