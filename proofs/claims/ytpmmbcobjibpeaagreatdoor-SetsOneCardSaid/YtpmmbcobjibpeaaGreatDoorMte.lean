
import Derived.Test.YtpmmbcobjibpeaaGreatDoorMtc
namespace Go.Proofs.YtpmmbcobjibpeaaGreatDoor
set_option linter.unusedSimpArgs false
set_option linter.unusedVariables false
open Go.RowKit
attribute [local go_sem ↓] eql_val neq_val eql_tst neq_tst

/-! Tests: does one hold? -/
def mbet (t : Tst) (c d : Int) : Bool := (decide (0 < c) || (decide (c = 0) && !t.ol)) && (decide (d < 0) || (decide (d = 0) && !t.oh))
def mone (t : Tst) (v : Val) : Bool :=
  if v.kind ≠ t.low.kind then false
  else if t.kind = 2 then decide (vcmp v t.low < 0)
  else if t.kind = 3 then decide (vcmp v t.low ≤ 0)
  else if t.kind = 4 then decide (0 < vcmp v t.low)
  else if t.kind = 5 then decide (0 ≤ vcmp v t.low)
  else if t.kind = 6 then mbet t (vcmp v t.low) (vcmp v t.high)
  else decide (vcmp v t.low = 0)
theorem tsnd_low {t : Tst} (h : tsnd t = true) : vsnd t.low = true := by
  unfold tsnd at h
  split at h
  · simp at h; exact h.2
  · split at h
    · simp at h; exact h.1.2
    · split at h
      · simp at h; exact h.1.1.1
      · cases h
theorem zv_snd : vsnd zv = true := by decide +kernel
theorem tsnd_high {t : Tst} (h : tsnd t = true) : vsnd t.high = true := by
  unfold tsnd at h
  split at h
  · simp at h
    have := (teq_iff _ _).1 h.1
    rw [this]
    exact zv_snd
  · split at h
    · simp at h
      have := (teq_iff _ _).1 h.1.1
      rw [this]
      exact zv_snd
    · split at h
      · simp at h; exact h.1.1.2
      · cases h
theorem tsnd_kind {t : Tst} (h : tsnd t = true) : 1 ≤ t.kind ∧ t.kind ≤ 6 := by
  unfold tsnd at h
  split at h
  · omega
  · split at h
    · omega
    · split at h
      · omega
      · cases h
set_option maxRecDepth 100000 in
set_option maxHeartbeats 8000000 in
theorem one_any (t : Tst) (v : Val) (ht : TOk t) (hv : v.text.size ≤ 9223372036854775807) (hs : tsnd t = true) (hvs : vsnd v = true) (w : World) : Calls Tryz.prog 121 #[t.val, v.val] w fun e w' => e = .returned (.bool (mone t v)) ∧ Bel w w' := by
  have c1 := fun w => vcompare_any v t.low hv ht.1 w
  have c2 := fun w => vcompare_any v t.high hv ht.2 w
  have e1 : vcmpV v t.low = .tuple #[.int .i64 (vcmp v t.low), .int .i64 0] := if_pos ⟨hvs, tsnd_low hs⟩
  have e2 : vcmpV v t.high = .tuple #[.int .i64 (vcmp v t.high), .int .i64 0] := if_pos ⟨hvs, tsnd_high hs⟩
  have bc := vcmp_bd v t.low
  have bd := vcmp_bd v t.high
  have hk := tsnd_kind hs
  have Z := Lib.hid (vcmp_zero hvs (tsnd_low hs))
  have MO := Lib.hid (show mone t v = if v.kind ≠ t.low.kind then false
    else if t.kind = 2 then decide (vcmp v t.low < 0)
    else if t.kind = 3 then decide (vcmp v t.low ≤ 0)
    else if t.kind = 4 then decide (0 < vcmp v t.low)
    else if t.kind = 5 then decide (0 ≤ vcmp v t.low)
    else if t.kind = 6 then mbet t (vcmp v t.low) (vcmp v t.high)
    else decide (vcmp v t.low = 0) from rfl)
  simp only [e1] at c1
  simp only [e2] at c2
  generalize mone t v = R at MO ⊢
  generalize vcmp v t.low = c at c1 bc MO Z
  generalize vcmp v t.high = d at c2 bd MO
  have C1 := Lib.hid c1
  have C2 := Lib.hid c2
  have MB := Lib.hid (show mbet t c d = ((decide (0 < c) || (decide (c = 0) && !t.ol)) && (decide (d < 0) || (decide (d = 0) && !t.oh))) from rfl)
  generalize mbet t c d = mb at MO MB
  clear c1 c2 e1 e2 ht hv hs hvs
  obtain ⟨k, ⟨a0, a1, a2, a3, a4⟩, ⟨b0, b1, b2, b3, b4⟩, x, y⟩ := t
  obtain ⟨v0, v1, v2, v3, v4⟩ := v
  simp only at hk MO MB Z
  have bc3 : c = -1 ∨ c = 0 ∨ c = 1 := by omega
  have bd3 : d = -1 ∨ d = 0 ∨ d = 1 := by omega
  by_cases h0 : v0 = a0
  · subst h0
    have MO := Lib.hid (MO.out.trans (if_neg (by simp)))
    have k6 : k = 1 ∨ k = 2 ∨ k = 3 ∨ k = 4 ∨ k = 5 ∨ k = 6 := by omega
    clear hk
    rcases k6 with rfl | rfl | rfl | rfl | rfl | rfl
    · have hR : R = decide (c = 0) := MO.out.trans (by simp)
      subst hR
      clear MO
      rcases bc3 with rfl | rfl | rfl
      all_goals
        go_enter Tryz.func121, Tryz.ntmps121
        go_wp2_with (first
          | (go_at_call 149; with_reducible refine Calls.mono (C1.out _) ?_; rintro e W1 ⟨rfl, hb1⟩; have hc1 := hb1.cells; have hz1 := hb1.lt2)
          | (go_at_call 149; with_reducible refine Calls.mono (C2.out _) ?_; rintro e W2 ⟨rfl, hb2⟩; have hc2 := hb2.cells; have hz2 := hb2.size))
        go_ret
        refine ⟨rfl, ?_⟩
        (repeat (first | with_reducible exact Bel.refl _ | with_reducible refine Bel.setCell ?_ (by first | exact Nat.le_refl _ | (dsimp only; omega)) _ | with_reducible refine Bel.alloc ?_ _ | with_reducible refine Bel.drew ?_ | with_reducible assumption | with_reducible refine Bel.trans ?_ (by assumption)))
    · have hR : R = decide (c < 0) := MO.out.trans (by simp)
      subst hR
      clear MO
      rcases bc3 with rfl | rfl | rfl
      all_goals
        go_enter Tryz.func121, Tryz.ntmps121
        go_wp2_with (first
          | (go_at_call 149; with_reducible refine Calls.mono (C1.out _) ?_; rintro e W1 ⟨rfl, hb1⟩; have hc1 := hb1.cells; have hz1 := hb1.lt2)
          | (go_at_call 149; with_reducible refine Calls.mono (C2.out _) ?_; rintro e W2 ⟨rfl, hb2⟩; have hc2 := hb2.cells; have hz2 := hb2.size))
        go_ret
        refine ⟨rfl, ?_⟩
        (repeat (first | with_reducible exact Bel.refl _ | with_reducible refine Bel.setCell ?_ (by first | exact Nat.le_refl _ | (dsimp only; omega)) _ | with_reducible refine Bel.alloc ?_ _ | with_reducible refine Bel.drew ?_ | with_reducible assumption | with_reducible refine Bel.trans ?_ (by assumption)))
    · have hR : R = decide (c ≤ 0) := MO.out.trans (by simp)
      subst hR
      clear MO
      rcases bc3 with rfl | rfl | rfl
      all_goals
        go_enter Tryz.func121, Tryz.ntmps121
        go_wp2_with (first
          | (go_at_call 149; with_reducible refine Calls.mono (C1.out _) ?_; rintro e W1 ⟨rfl, hb1⟩; have hc1 := hb1.cells; have hz1 := hb1.lt2)
          | (go_at_call 149; with_reducible refine Calls.mono (C2.out _) ?_; rintro e W2 ⟨rfl, hb2⟩; have hc2 := hb2.cells; have hz2 := hb2.size))
        go_ret
        refine ⟨rfl, ?_⟩
        (repeat (first | with_reducible exact Bel.refl _ | with_reducible refine Bel.setCell ?_ (by first | exact Nat.le_refl _ | (dsimp only; omega)) _ | with_reducible refine Bel.alloc ?_ _ | with_reducible refine Bel.drew ?_ | with_reducible assumption | with_reducible refine Bel.trans ?_ (by assumption)))
    · have hR : R = decide (0 < c) := MO.out.trans (by simp)
      subst hR
      clear MO
      rcases bc3 with rfl | rfl | rfl
      all_goals
        go_enter Tryz.func121, Tryz.ntmps121
        go_wp2_with (first
          | (go_at_call 149; with_reducible refine Calls.mono (C1.out _) ?_; rintro e W1 ⟨rfl, hb1⟩; have hc1 := hb1.cells; have hz1 := hb1.lt2)
          | (go_at_call 149; with_reducible refine Calls.mono (C2.out _) ?_; rintro e W2 ⟨rfl, hb2⟩; have hc2 := hb2.cells; have hz2 := hb2.size))
        go_ret
        refine ⟨rfl, ?_⟩
        (repeat (first | with_reducible exact Bel.refl _ | with_reducible refine Bel.setCell ?_ (by first | exact Nat.le_refl _ | (dsimp only; omega)) _ | with_reducible refine Bel.alloc ?_ _ | with_reducible refine Bel.drew ?_ | with_reducible assumption | with_reducible refine Bel.trans ?_ (by assumption)))
    · have hR : R = decide (0 ≤ c) := MO.out.trans (by simp)
      subst hR
      clear MO
      rcases bc3 with rfl | rfl | rfl
      all_goals
        go_enter Tryz.func121, Tryz.ntmps121
        go_wp2_with (first
          | (go_at_call 149; with_reducible refine Calls.mono (C1.out _) ?_; rintro e W1 ⟨rfl, hb1⟩; have hc1 := hb1.cells; have hz1 := hb1.lt2)
          | (go_at_call 149; with_reducible refine Calls.mono (C2.out _) ?_; rintro e W2 ⟨rfl, hb2⟩; have hc2 := hb2.cells; have hz2 := hb2.size))
        go_ret
        refine ⟨rfl, ?_⟩
        (repeat (first | with_reducible exact Bel.refl _ | with_reducible refine Bel.setCell ?_ (by first | exact Nat.le_refl _ | (dsimp only; omega)) _ | with_reducible refine Bel.alloc ?_ _ | with_reducible refine Bel.drew ?_ | with_reducible assumption | with_reducible refine Bel.trans ?_ (by assumption)))
    · have hR : R = mb := MO.out.trans (by simp)
      subst hR
      clear MO
      rcases bc3 with rfl | rfl | rfl <;> rcases bd3 with rfl | rfl | rfl <;> cases x <;> cases y
      all_goals
        obtain rfl := MB.out
        go_enter Tryz.func121, Tryz.ntmps121
        go_wp2_with (first
          | (go_at_call 149; with_reducible refine Calls.mono (C1.out _) ?_; rintro e W1 ⟨rfl, hb1⟩; have hc1 := hb1.cells; have hz1 := hb1.lt2)
          | (go_at_call 149; with_reducible refine Calls.mono (C2.out _) ?_; rintro e W2 ⟨rfl, hb2⟩; have hc2 := hb2.cells; have hz2 := hb2.size))
        go_ret
        refine ⟨rfl, ?_⟩
        (repeat (first | with_reducible exact Bel.refl _ | with_reducible refine Bel.setCell ?_ (by first | exact Nat.le_refl _ | (dsimp only; omega)) _ | with_reducible refine Bel.alloc ?_ _ | with_reducible refine Bel.drew ?_ | with_reducible assumption | with_reducible refine Bel.trans ?_ (by assumption)))
  · have hR : R = false := MO.out.trans (if_pos h0)
    subst hR
    have e0 : (v0 == a0) = false := by simp [h0]
    clear MO
    go_enter Tryz.func121, Tryz.ntmps121
    go_wp2_with (first
      | (go_at_call 149; with_reducible refine Calls.mono (C1.out _) ?_; rintro e W1 ⟨rfl, hb1⟩; have hc1 := hb1.cells; have hz1 := hb1.lt2)
      | (go_at_call 149; with_reducible refine Calls.mono (C2.out _) ?_; rintro e W2 ⟨rfl, hb2⟩; have hc2 := hb2.cells; have hz2 := hb2.size))
    go_ret
    refine ⟨rfl, ?_⟩
    (repeat (first | with_reducible exact Bel.refl _ | with_reducible refine Bel.setCell ?_ (by first | exact Nat.le_refl _ | (dsimp only; omega)) _ | with_reducible refine Bel.alloc ?_ _ | with_reducible refine Bel.drew ?_ | with_reducible assumption | with_reducible refine Bel.trans ?_ (by assumption)))
end Go.Proofs.YtpmmbcobjibpeaaGreatDoor
