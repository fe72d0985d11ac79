
import Derived.Test.YtpmmbcobjibpeaaGreatDoorSxa
import Derived.Test.YtpmmbcobjibpeaaGreatDoorVal
import Derived.Lib.SlicesCompact
import Derived.Deep.CutBlock
namespace Go.Proofs.YtpmmbcobjibpeaaGreatDoor
set_option linter.unusedSimpArgs false
set_option linter.unusedVariables false
open Go.RowKit


/-! Sets: a bound in units. -/
theorem le_unit (n u D : Int) (hD : 0 < D) : n * D ≤ u ↔ n ≤ u / D := (Int.le_ediv_iff_mul_le hD).symm
theorem more_unit (n u D : Int) (hD : 0 < D) : u < n * D ↔ u / D + 1 ≤ n := by
  have := le_unit n u D hD
  omega
theorem eq_unit (n u D : Int) (hD : 0 < D) : n * D = u ↔ u % D = 0 ∧ n = u / D := by
  constructor
  · intro h
    subst h
    exact ⟨Int.mul_emod_left n D, (Int.mul_ediv_cancel n (by omega)).symm⟩
  · rintro ⟨h1, rfl⟩
    have h2 := Int.mul_ediv_add_emod u D
    rw [h1] at h2
    rw [Int.mul_comm]
    omega
theorem less_unit (n u D : Int) (hD : 0 < D) : n * D < u ↔ n ≤ (if u % D = 0 then u / D - 1 else u / D) := by
  have h1 := le_unit n u D hD
  have h2 := eq_unit n u D hD
  by_cases h : u % D = 0
  · rw [if_pos h]
    simp only [h, true_and] at h2
    omega
  · rw [if_neg h]
    simp only [h, false_and, iff_false] at h2
    omega
theorem least_unit (n u D : Int) (hD : 0 < D) : u ≤ n * D ↔ (if u % D = 0 then u / D else u / D + 1) ≤ n := by
  have h1 := less_unit n u D hD
  by_cases h : u % D = 0
  · rw [if_pos h] at h1 ⊢
    omega
  · rw [if_neg h] at h1 ⊢
    omega
theorem same_unit (n u D : Int) (hD : 0 < D) : n * D = u ↔ (if u % D = 0 then u / D else u / D + 1) ≤ n ∧ n ≤ u / D := by
  have h1 := least_unit n u D hD
  have h2 := le_unit n u D hD
  omega
theorem P10_add_u (a b : Nat) : P10 (a + b) = P10 a * P10 b := Nat.pow_add ..
/-- What a number is in units of a scale. -/
theorem at_up (n : Int) (a b : Nat) : n * (P10 (a + b) : Int) / (P10 b : Int) = n * (P10 a : Int) ∧ n * (P10 (a + b) : Int) % (P10 b : Int) = 0 := by
  have hb : (0 : Int) < P10 b := by have := P10_pos b; omega
  have e : n * (P10 (a + b) : Int) = n * (P10 a : Int) * (P10 b : Int) := by rw [P10_add_u]; push_cast; rw [Int.mul_assoc]
  rw [e]
  exact ⟨Int.mul_ediv_cancel _ (by omega), Int.mul_emod_left _ _⟩
theorem at_down (n : Int) (a b : Nat) : n * (P10 b : Int) / (P10 (a + b) : Int) = n / (P10 a : Int) ∧ (n * (P10 b : Int) % (P10 (a + b) : Int) = 0 ↔ n % (P10 a : Int) = 0) := by
  have hb : (0 : Int) < P10 b := by have := P10_pos b; omega
  have ha : (0 : Int) < P10 a := by have := P10_pos a; omega
  have e : (P10 (a + b) : Int) = (P10 a : Int) * (P10 b : Int) := by rw [P10_add_u]; push_cast; rfl
  rw [e]
  refine ⟨Int.mul_ediv_mul_of_pos_left n (P10 a : Int) hb, ?_⟩
  rw [← Int.dvd_iff_emod_eq_zero, ← Int.dvd_iff_emod_eq_zero]
  constructor
  · rintro ⟨c, hc⟩
    exact ⟨c, Int.eq_of_mul_eq_mul_right (by omega : (P10 b : Int) ≠ 0) (by rw [hc, Int.mul_assoc, Int.mul_assoc, Int.mul_comm c])⟩
  · rintro ⟨c, rfl⟩
    exact ⟨c, by rw [Int.mul_assoc, Int.mul_assoc, Int.mul_comm c]⟩

/-! Kinds, bits, bounds, units. -/
def knd (k : Int) : Bool := decide (1 ≤ k) && decide (k ≤ 4)
theorem known_any (k : Int) (w : World) : Calls Tryz.prog 29 #[.int .i64 k] w fun e w' => e = .returned (.bool (knd k)) ∧ Bel w w' := by
  have hK := Lib.hid (show knd k = (decide (1 ≤ k) && decide (k ≤ 4)) from rfl)
  generalize knd k = R at hK ⊢
  by_cases h1 : 1 ≤ k
  · by_cases h4 : k ≤ 4
    · obtain rfl : R = true := by have := hK.out; simp [h1, h4] at this; exact this
      go_enter Tryz.func29, Tryz.ntmps29
      go_wp2_with fail
      go_ret
      exact ⟨rfl, Bel.refl _⟩
    · obtain rfl : R = false := by have := hK.out; simp [h4] at this; exact this
      go_enter Tryz.func29, Tryz.ntmps29
      go_wp2_with fail
      go_ret
      exact ⟨rfl, Bel.refl _⟩
  · obtain rfl : R = false := by have := hK.out; simp [h1] at this; exact this
    go_enter Tryz.func29, Tryz.ntmps29
    go_wp2_with fail
    go_ret
    exact ⟨rfl, Bel.refl _⟩
/-- The first unit from a bound on, the last one up to it. -/
def fstU (n : Int) (ex op : Bool) : Int := if ex && !op then n else wrap64 (n + 1)
def lstU (n : Int) (ex op : Bool) : Int := if ex && op then wrap64 (n - 1) else n
theorem first_any (n : Int) (ex op : Bool) (w : World) : Calls Tryz.prog 103 #[.int .i64 n, .bool ex, .bool op] w fun e w' => e = .returned (.int .i64 (fstU n ex op)) ∧ Bel w w' := by
  have hK := Lib.hid (show fstU n ex op = if ex && !op then n else wrap64 (n + 1) from rfl)
  generalize fstU n ex op = R at hK ⊢
  cases ex <;> cases op
  all_goals
    have hR := hK.out
    simp only [Bool.and_true, Bool.and_false, Bool.not_true, Bool.not_false, Bool.false_eq_true, if_true, if_false] at hR
    subst hR
    clear hK
    go_enter Tryz.func103, Tryz.ntmps103
    go_wp2_with fail
    go_ret
    exact ⟨rfl, Bel.refl _⟩
theorem last_any (n : Int) (ex op : Bool) (w : World) : Calls Tryz.prog 102 #[.int .i64 n, .bool ex, .bool op] w fun e w' => e = .returned (.int .i64 (lstU n ex op)) ∧ Bel w w' := by
  have hK := Lib.hid (show lstU n ex op = if ex && op then wrap64 (n - 1) else n from rfl)
  generalize lstU n ex op = R at hK ⊢
  cases ex <;> cases op
  all_goals
    have hR := hK.out
    simp only [Bool.and_true, Bool.and_false, Bool.not_true, Bool.not_false, Bool.false_eq_true, if_true, if_false] at hR
    subst hR
    clear hK
    go_enter Tryz.func102, Tryz.ntmps102
    go_wp2_with fail
    go_ret
    exact ⟨rfl, Bel.refl _⟩
/-- A truth's bit. -/
def bitV (v : Val) : Int := if v.num = 0 then 1 else 2
theorem bit_any (v : Val) (hn : v.num = 0 ∨ v.num = 1) (w : World) : Calls Tryz.prog 53 #[v.val] w fun e w' => e = .returned (.int .i64 (bitV v)) ∧ Bel w w' := by
  obtain ⟨v0, v1, v2, v3, v4⟩ := v
  simp only at hn
  rcases hn with rfl | rfl
  all_goals
    go_enter Tryz.func53, Tryz.ntmps53
    go_wp2_with fail
    go_ret
    refine ⟨rfl, ?_⟩
    (repeat (first | with_reducible exact Bel.refl _ | with_reducible refine Bel.setCell ?_ (by first | exact Nat.le_refl _ | (dsimp only; omega)) _ | with_reducible refine Bel.alloc ?_ _ | with_reducible refine Bel.drew ?_ | with_reducible assumption | with_reducible refine Bel.trans ?_ (by assumption)))
/-- What a number is in units of a scale: the greatest whole one, and whether it is that. -/
def atP (n s t : Int) : Int × Bool :=
  if 0 ≤ t ∧ t ≤ 6 then
    (if SndD n s then (if s ≤ t then (n * P10 (t - s).toNat, true) else (n / (P10 (s - t).toNat : Int), n % (P10 (s - t).toNat : Int) == 0)) else (0, false))
  else (0, false)
def atE (n s t : Int) : Int := if 0 ≤ t ∧ t ≤ 6 then (if SndD n s then 0 else 2) else 1
theorem atV_P (n s t : Int) : atV n s t = .tuple #[.int .i64 (atP n s t).1, .bool (atP n s t).2, .int .i64 (atE n s t)] := by
  unfold atV atP atE
  repeat' split
  all_goals rfl
def unP (sc : Int) (v : Val) : Int × Bool := if v.kind = 1 then atP v.n v.scale sc else (v.num, true)
abbrev tyv (k sc : Int) (any not : Bool) (x : Value) : Value := .agg #[.int .i64 k, .int .i64 sc, .bool any, .bool not, x]
set_option maxRecDepth 100000 in
set_option maxHeartbeats 2000000 in
theorem unit_any (k sc : Int) (any not : Bool) (A : Option Addr) (n c : Nat) (v : Val) (w : World) : Calls Tryz.prog 50 #[tyv k sc any not (.slice A n c), v.val] w fun e w' => e = .returned (.tuple #[.int .i64 (unP sc v).1, .bool (unP sc v).2]) ∧ Bel w w' := by
  have hU := Lib.hid (show unP sc v = if v.kind = 1 then atP v.n v.scale sc else (v.num, true) from rfl)
  have C := Lib.hid fun W => at_any v.n v.scale sc W
  simp only [atV_P] at C
  generalize unP sc v = U at hU ⊢
  generalize atP v.n v.scale sc = p at hU C
  generalize atE v.n v.scale sc = q at C
  obtain ⟨v0, v1, v2, v3, v4⟩ := v
  simp only at hU C
  by_cases h1 : v0 = 1
  · obtain rfl : U = p := hU.out.trans (if_pos h1)
    subst h1
    clear hU
    go_enter Tryz.func50, Tryz.ntmps50
    go_wp2_with (go_at_call 83; refine (C.out _).mono ?_; rintro e W1 ⟨rfl, hb1⟩; have hc1 := hb1.cells; have hz1 := hb1.lt2)
    go_ret2
    refine ⟨rfl, ?_⟩
    (repeat (first | with_reducible exact Bel.refl _ | with_reducible refine Bel.setCell ?_ (by first | exact Nat.le_refl _ | (dsimp only; omega)) _ | with_reducible refine Bel.alloc ?_ _ | with_reducible refine Bel.drew ?_ | with_reducible assumption | with_reducible refine Bel.trans ?_ (by assumption)))
  · obtain rfl : U = (v4, true) := hU.out.trans (if_neg h1)
    have e1 : (v0 == 1) = false := by simp [h1]
    clear hU C
    go_enter Tryz.func50, Tryz.ntmps50
    go_wp2_with fail
    go_ret2
    refine ⟨rfl, ?_⟩
    (repeat (first | with_reducible exact Bel.refl _ | with_reducible refine Bel.setCell ?_ (by first | exact Nat.le_refl _ | (dsimp only; omega)) _ | with_reducible refine Bel.alloc ?_ _ | with_reducible refine Bel.drew ?_ | with_reducible assumption | with_reducible refine Bel.trans ?_ (by assumption)))
set_option maxRecDepth 100000 in
set_option maxHeartbeats 2000000 in
/-- The document's units. -/
theorem runits_any (k sc : Int) (any not : Bool) (A : Option Addr) (n c : Nat) (v : Val) (w : World) : Calls Tryz.prog 43 #[tyv k sc any not (.slice A n c), v.val] w fun e w' => e = .returned (.int .i64 (unP sc v).1) ∧ Bel w w' := by
  have hU := Lib.hid (show unP sc v = if v.kind = 1 then atP v.n v.scale sc else (v.num, true) from rfl)
  have C := Lib.hid fun W => rat_any v.n v.scale sc W
  simp only [atV_P] at C
  generalize unP sc v = U at hU ⊢
  generalize atP v.n v.scale sc = p at hU C
  generalize atE v.n v.scale sc = q at C
  obtain ⟨v0, v1, v2, v3, v4⟩ := v
  simp only at hU C
  by_cases h1 : v0 = 1
  · obtain rfl : U = p := hU.out.trans (if_pos h1)
    subst h1
    clear hU
    go_enter Tryz.func43, Tryz.ntmps43
    go_wp2_with (go_at_call 34; refine (C.out _).mono ?_; rintro e W1 ⟨rfl, hb1⟩; have hc1 := hb1.cells; have hz1 := hb1.lt2)
    go_ret
    refine ⟨rfl, ?_⟩
    (repeat (first | with_reducible exact Bel.refl _ | with_reducible refine Bel.setCell ?_ (by first | exact Nat.le_refl _ | (dsimp only; omega)) _ | with_reducible refine Bel.alloc ?_ _ | with_reducible refine Bel.drew ?_ | with_reducible assumption | with_reducible refine Bel.trans ?_ (by assumption)))
  · obtain rfl : U = (v4, true) := hU.out.trans (if_neg h1)
    have e1 : (v0 == 1) = false := by simp [h1]
    clear hU C
    go_enter Tryz.func43, Tryz.ntmps43
    go_wp2_with fail
    go_ret
    refine ⟨rfl, ?_⟩
    (repeat (first | with_reducible exact Bel.refl _ | with_reducible refine Bel.setCell ?_ (by first | exact Nat.le_refl _ | (dsimp only; omega)) _ | with_reducible refine Bel.alloc ?_ _ | with_reducible refine Bel.drew ?_ | with_reducible assumption | with_reducible refine Bel.trans ?_ (by assumption)))
end Go.Proofs.YtpmmbcobjibpeaaGreatDoor
