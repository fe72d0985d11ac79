
import Derived.Test.YtdggbafpdjenmaaGreatDoorLxc
import Derived.Test.YtdggbafpdjenmaaGreatDoorTsu
namespace Go.Proofs.YtdggbafpdjenmaaGreatDoor
set_option linter.unusedSimpArgs false
set_option linter.unusedVariables false
open Go.RowKit
attribute [local go_sem ↓] eql_val neq_val eql_tst neq_tst

/-! Tests: is one sound? -/
def zv : Val := ⟨0, 0, 0, ⟨#[]⟩, 0⟩
def ordk (k : Int) : Bool := decide (k = 1) || decide (k = 4)
def tsnd (t : Tst) : Bool :=
  if t.kind = 1 then teq t ⟨t.kind, t.low, zv, false, false⟩ && vsnd t.low
  else if t.kind = 2 ∨ t.kind = 3 ∨ t.kind = 4 ∨ t.kind = 5 then teq t ⟨t.kind, t.low, zv, false, false⟩ && vsnd t.low && ordk t.low.kind
  else if t.kind = 6 then vsnd t.low && vsnd t.high && ordk t.low.kind && decide (t.high.kind = t.low.kind)
  else false
/-- Its texts may be the length of. -/
def TOk (t : Tst) : Prop := t.low.text.size ≤ 9223372036854775807 ∧ t.high.text.size ≤ 9223372036854775807
theorem ordered_any (k : Int) (w : World) : Calls Tryz.prog 47 #[.int .i64 k] w fun e w' => e = .returned (.bool (ordk k)) ∧ Bel w w' := by
  by_cases h1 : k = 1
  · subst h1
    go_enter Tryz.func47, Tryz.ntmps47
    go_wp2_with fail
    go_ret
    exact ⟨rfl, Bel.refl _⟩
  · have e1 : (k == 1) = false := by simp [h1]
    by_cases h4 : k = 4
    · subst h4
      go_enter Tryz.func47, Tryz.ntmps47
      go_wp2_with fail
      go_ret
      exact ⟨rfl, Bel.refl _⟩
    · have e4 : (k == 4) = false := by simp [h4]
      have e5 : ordk k = false := by simp [ordk, h1, h4]
      rw [e5]
      go_enter Tryz.func47, Tryz.ntmps47
      go_wp2_with fail
      go_ret
      exact ⟨rfl, Bel.refl _⟩
set_option maxRecDepth 100000 in
set_option maxHeartbeats 4000000 in
theorem soundTest_any (t : Tst) (ht : TOk t) (w : World) : Calls Tryz.prog 21 #[t.val] w fun e w' => e = .returned (.bool (tsnd t)) ∧ Bel w w' := by
  have c1 := fun w => vsound_any t.low ht.1 w
  have c2 := fun w => vsound_any t.high ht.2 w
  have c3 := fun w => ordered_any t.low.kind w
  have TS := Lib.hid (show tsnd t = if t.kind = 1 then teq t ⟨t.kind, t.low, zv, false, false⟩ && vsnd t.low
    else if t.kind = 2 ∨ t.kind = 3 ∨ t.kind = 4 ∨ t.kind = 5 then teq t ⟨t.kind, t.low, zv, false, false⟩ && vsnd t.low && ordk t.low.kind
    else if t.kind = 6 then vsnd t.low && vsnd t.high && ordk t.low.kind && decide (t.high.kind = t.low.kind)
    else false from rfl)
  obtain ⟨k, ⟨a0, a1, a2, a3, a4⟩, ⟨b0, b1, b2, b3, b4⟩, x, y⟩ := t
  simp only [zv] at c1 c2 c3 TS
  generalize tsnd _ = R at TS ⊢
  generalize vsnd ⟨a0, a1, a2, a3, a4⟩ = q1 at c1 TS
  generalize vsnd ⟨b0, b1, b2, b3, b4⟩ = q2 at c2 TS
  generalize ordk a0 = q3 at c3 TS
  have C1 := Lib.hid c1
  have C2 := Lib.hid c2
  have C3 := Lib.hid c3
  clear c1 c2 c3 ht
  by_cases h1 : k = 1
  · subst h1
    generalize hq : teq ⟨1, ⟨a0, a1, a2, a3, a4⟩, ⟨b0, b1, b2, b3, b4⟩, x, y⟩ ⟨1, ⟨a0, a1, a2, a3, a4⟩, ⟨0, 0, 0, ⟨#[]⟩, 0⟩, false, false⟩ = q0 at TS
    have hR : R = (q0 && q1) := TS.out.trans (if_pos rfl)
    subst hR
    clear TS
    cases q0 <;> cases q1
    all_goals
      go_enter Tryz.func21, Tryz.ntmps21
      go_wp2_with (first
        | (go_at_call 47; refine (C3.out _).mono ?_; rintro e W3 ⟨rfl, hb3⟩; have hc3 := hb3.cells)
        | (go_at_call 46; with_reducible refine Calls.mono (C1.out _) ?_; rintro e W1 ⟨rfl, hb1⟩; have hc1 := hb1.cells; have hz1 := hb1.lt1)
        | (go_at_call 46; with_reducible refine Calls.mono (C2.out _) ?_; rintro e W2 ⟨rfl, hb2⟩; have hc2 := hb2.cells; have hz2 := Nat.lt_of_lt_of_le hz1 hb2.size))
      go_ret
      refine ⟨rfl, ?_⟩
      (repeat (first | with_reducible exact Bel.refl _ | with_reducible refine Bel.setCell ?_ (by first | exact Nat.le_refl _ | (dsimp only; omega)) _ | with_reducible refine Bel.alloc ?_ _ | with_reducible refine Bel.drew ?_ | with_reducible assumption | with_reducible refine Bel.trans ?_ (by assumption)))
  by_cases h2 : k = 2
  · subst h2
    generalize hq : teq ⟨2, ⟨a0, a1, a2, a3, a4⟩, ⟨b0, b1, b2, b3, b4⟩, x, y⟩ ⟨2, ⟨a0, a1, a2, a3, a4⟩, ⟨0, 0, 0, ⟨#[]⟩, 0⟩, false, false⟩ = q0 at TS
    have hR : R = (q0 && q1 && q3) := TS.out.trans ((if_neg h1).trans (if_pos (by simp)))
    subst hR
    clear TS h1
    cases q0 <;> cases q1 <;> cases q3
    all_goals
      go_enter Tryz.func21, Tryz.ntmps21
      go_wp2_with (first
        | (go_at_call 47; refine (C3.out _).mono ?_; rintro e W3 ⟨rfl, hb3⟩; have hc3 := hb3.cells)
        | (go_at_call 46; with_reducible refine Calls.mono (C1.out _) ?_; rintro e W1 ⟨rfl, hb1⟩; have hc1 := hb1.cells; have hz1 := hb1.lt1)
        | (go_at_call 46; with_reducible refine Calls.mono (C2.out _) ?_; rintro e W2 ⟨rfl, hb2⟩; have hc2 := hb2.cells; have hz2 := Nat.lt_of_lt_of_le hz1 hb2.size))
      go_ret
      refine ⟨rfl, ?_⟩
      (repeat (first | with_reducible exact Bel.refl _ | with_reducible refine Bel.setCell ?_ (by first | exact Nat.le_refl _ | (dsimp only; omega)) _ | with_reducible refine Bel.alloc ?_ _ | with_reducible refine Bel.drew ?_ | with_reducible assumption | with_reducible refine Bel.trans ?_ (by assumption)))
  by_cases h3 : k = 3
  · subst h3
    generalize hq : teq ⟨3, ⟨a0, a1, a2, a3, a4⟩, ⟨b0, b1, b2, b3, b4⟩, x, y⟩ ⟨3, ⟨a0, a1, a2, a3, a4⟩, ⟨0, 0, 0, ⟨#[]⟩, 0⟩, false, false⟩ = q0 at TS
    have hR : R = (q0 && q1 && q3) := TS.out.trans ((if_neg h1).trans (if_pos (by simp)))
    subst hR
    clear TS h1
    cases q0 <;> cases q1 <;> cases q3
    all_goals
      go_enter Tryz.func21, Tryz.ntmps21
      go_wp2_with (first
        | (go_at_call 47; refine (C3.out _).mono ?_; rintro e W3 ⟨rfl, hb3⟩; have hc3 := hb3.cells)
        | (go_at_call 46; with_reducible refine Calls.mono (C1.out _) ?_; rintro e W1 ⟨rfl, hb1⟩; have hc1 := hb1.cells; have hz1 := hb1.lt1)
        | (go_at_call 46; with_reducible refine Calls.mono (C2.out _) ?_; rintro e W2 ⟨rfl, hb2⟩; have hc2 := hb2.cells; have hz2 := Nat.lt_of_lt_of_le hz1 hb2.size))
      go_ret
      refine ⟨rfl, ?_⟩
      (repeat (first | with_reducible exact Bel.refl _ | with_reducible refine Bel.setCell ?_ (by first | exact Nat.le_refl _ | (dsimp only; omega)) _ | with_reducible refine Bel.alloc ?_ _ | with_reducible refine Bel.drew ?_ | with_reducible assumption | with_reducible refine Bel.trans ?_ (by assumption)))
  by_cases h4 : k = 4
  · subst h4
    generalize hq : teq ⟨4, ⟨a0, a1, a2, a3, a4⟩, ⟨b0, b1, b2, b3, b4⟩, x, y⟩ ⟨4, ⟨a0, a1, a2, a3, a4⟩, ⟨0, 0, 0, ⟨#[]⟩, 0⟩, false, false⟩ = q0 at TS
    have hR : R = (q0 && q1 && q3) := TS.out.trans ((if_neg h1).trans (if_pos (by simp)))
    subst hR
    clear TS h1
    cases q0 <;> cases q1 <;> cases q3
    all_goals
      go_enter Tryz.func21, Tryz.ntmps21
      go_wp2_with (first
        | (go_at_call 47; refine (C3.out _).mono ?_; rintro e W3 ⟨rfl, hb3⟩; have hc3 := hb3.cells)
        | (go_at_call 46; with_reducible refine Calls.mono (C1.out _) ?_; rintro e W1 ⟨rfl, hb1⟩; have hc1 := hb1.cells; have hz1 := hb1.lt1)
        | (go_at_call 46; with_reducible refine Calls.mono (C2.out _) ?_; rintro e W2 ⟨rfl, hb2⟩; have hc2 := hb2.cells; have hz2 := Nat.lt_of_lt_of_le hz1 hb2.size))
      go_ret
      refine ⟨rfl, ?_⟩
      (repeat (first | with_reducible exact Bel.refl _ | with_reducible refine Bel.setCell ?_ (by first | exact Nat.le_refl _ | (dsimp only; omega)) _ | with_reducible refine Bel.alloc ?_ _ | with_reducible refine Bel.drew ?_ | with_reducible assumption | with_reducible refine Bel.trans ?_ (by assumption)))
  by_cases h5 : k = 5
  · subst h5
    generalize hq : teq ⟨5, ⟨a0, a1, a2, a3, a4⟩, ⟨b0, b1, b2, b3, b4⟩, x, y⟩ ⟨5, ⟨a0, a1, a2, a3, a4⟩, ⟨0, 0, 0, ⟨#[]⟩, 0⟩, false, false⟩ = q0 at TS
    have hR : R = (q0 && q1 && q3) := TS.out.trans ((if_neg h1).trans (if_pos (by simp)))
    subst hR
    clear TS h1
    cases q0 <;> cases q1 <;> cases q3
    all_goals
      go_enter Tryz.func21, Tryz.ntmps21
      go_wp2_with (first
        | (go_at_call 47; refine (C3.out _).mono ?_; rintro e W3 ⟨rfl, hb3⟩; have hc3 := hb3.cells)
        | (go_at_call 46; with_reducible refine Calls.mono (C1.out _) ?_; rintro e W1 ⟨rfl, hb1⟩; have hc1 := hb1.cells; have hz1 := hb1.lt1)
        | (go_at_call 46; with_reducible refine Calls.mono (C2.out _) ?_; rintro e W2 ⟨rfl, hb2⟩; have hc2 := hb2.cells; have hz2 := Nat.lt_of_lt_of_le hz1 hb2.size))
      go_ret
      refine ⟨rfl, ?_⟩
      (repeat (first | with_reducible exact Bel.refl _ | with_reducible refine Bel.setCell ?_ (by first | exact Nat.le_refl _ | (dsimp only; omega)) _ | with_reducible refine Bel.alloc ?_ _ | with_reducible refine Bel.drew ?_ | with_reducible assumption | with_reducible refine Bel.trans ?_ (by assumption)))
  by_cases h6 : k = 6
  · subst h6
    obtain ⟨q4, hq4⟩ : ∃ q4, q4 = decide (b0 = a0) := ⟨_, rfl⟩
    have hR : R = (q1 && q2 && q3 && q4) := TS.out.trans ((if_neg h1).trans ((if_neg (by omega)).trans ((if_pos rfl).trans (by rw [hq4]))))
    subst hR
    clear TS h1 h2 h3 h4 h5
    have hq5 : (b0 == a0) = q4 := by rw [hq4]; rfl
    clear hq4
    cases q1 <;> cases q2 <;> cases q3 <;> cases q4
    all_goals
      go_enter Tryz.func21, Tryz.ntmps21
      go_wp2_with (first
        | (go_at_call 47; refine (C3.out _).mono ?_; rintro e W3 ⟨rfl, hb3⟩; have hc3 := hb3.cells)
        | (go_at_call 46; with_reducible refine Calls.mono (C1.out _) ?_; rintro e W1 ⟨rfl, hb1⟩; have hc1 := hb1.cells; have hz1 := hb1.lt1)
        | (go_at_call 46; with_reducible refine Calls.mono (C2.out _) ?_; rintro e W2 ⟨rfl, hb2⟩; have hc2 := hb2.cells; have hz2 := Nat.lt_of_lt_of_le hz1 hb2.size))
      go_ret
      refine ⟨rfl, ?_⟩
      (repeat (first | with_reducible exact Bel.refl _ | with_reducible refine Bel.setCell ?_ (by first | exact Nat.le_refl _ | (dsimp only; omega)) _ | with_reducible refine Bel.alloc ?_ _ | with_reducible refine Bel.drew ?_ | with_reducible assumption | with_reducible refine Bel.trans ?_ (by assumption)))
  have hR : R = false := TS.out.trans ((if_neg h1).trans ((if_neg (by omega)).trans (if_neg h6)))
  subst hR
  clear TS
  have e1 : (k == 1) = false := by simp [h1]
  have e2 : (k == 2) = false := by simp [h2]
  have e3 : (k == 3) = false := by simp [h3]
  have e4 : (k == 4) = false := by simp [h4]
  have e5 : (k == 5) = false := by simp [h5]
  have e6 : (k == 6) = false := by simp [h6]
  go_enter Tryz.func21, Tryz.ntmps21
  go_wp2_with (first
    | (go_at_call 47; refine (C3.out _).mono ?_; rintro e W3 ⟨rfl, hb3⟩; have hc3 := hb3.cells)
    | (go_at_call 46; with_reducible refine Calls.mono (C1.out _) ?_; rintro e W1 ⟨rfl, hb1⟩; have hc1 := hb1.cells; have hz1 := hb1.lt1)
    | (go_at_call 46; with_reducible refine Calls.mono (C2.out _) ?_; rintro e W2 ⟨rfl, hb2⟩; have hc2 := hb2.cells; have hz2 := Nat.lt_of_lt_of_le hz1 hb2.size))
  go_ret
  refine ⟨rfl, ?_⟩
  (repeat (first | with_reducible exact Bel.refl _ | with_reducible refine Bel.setCell ?_ (by first | exact Nat.le_refl _ | (dsimp only; omega)) _ | with_reducible refine Bel.alloc ?_ _ | with_reducible refine Bel.drew ?_ | with_reducible assumption | with_reducible refine Bel.trans ?_ (by assumption)))
end Go.Proofs.YtdggbafpdjenmaaGreatDoor
