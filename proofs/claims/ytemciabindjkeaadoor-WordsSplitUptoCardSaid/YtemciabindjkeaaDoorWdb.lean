import Derived.Test.YtemciabindjkeaaDoorWda
import Derived.Test.YtemciabindjkeaaDoorWvl
namespace Go.Proofs.YtemciabindjkeaaDoor
set_option linter.unusedSimpArgs false
set_option linter.unusedVariables false
open Go.RowKit
attribute [local go_sem ↓] eql_val neq_val

/-! Values: whether one is sound. -/
def vzero : Val := ⟨0, 0, 0, ⟨#[]⟩, 0⟩
def vsnd (v : Val) : Bool :=
  if v.kind = 0 then veq v ⟨0, 0, 0, ⟨#[]⟩, 0⟩
  else if v.kind = 1 then veq v ⟨1, v.n, v.scale, ⟨#[]⟩, 0⟩ && sndB v.n v.scale
  else if v.kind = 2 then veq v ⟨2, 0, 0, v.text, 0⟩ && (decide (v.text.size ≤ 256) && goodB v.text)
  else if v.kind = 3 then veq v ⟨3, 0, 0, ⟨#[]⟩, v.num⟩ && (decide (v.num = 0) || decide (v.num = 1))
  else if v.kind = 4 then veq v ⟨4, 0, 0, ⟨#[]⟩, v.num⟩ && (decide (0 ≤ v.num) && decide (v.num ≤ 3652058))
  else false
theorem vsnd0 (n s m : Int) (t : ByteArray) : vsnd ⟨0, n, s, t, m⟩ = veq ⟨0, n, s, t, m⟩ ⟨0, 0, 0, ⟨#[]⟩, 0⟩ := rfl
theorem vsnd1 (n s m : Int) (t : ByteArray) : vsnd ⟨1, n, s, t, m⟩ = (veq ⟨1, n, s, t, m⟩ ⟨1, n, s, ⟨#[]⟩, 0⟩ && sndB n s) := rfl
theorem vsnd2 (n s m : Int) (t : ByteArray) : vsnd ⟨2, n, s, t, m⟩ = (veq ⟨2, n, s, t, m⟩ ⟨2, 0, 0, t, 0⟩ && (decide (t.size ≤ 256) && goodB t)) := rfl
theorem vsnd3 (n s m : Int) (t : ByteArray) : vsnd ⟨3, n, s, t, m⟩ = (veq ⟨3, n, s, t, m⟩ ⟨3, 0, 0, ⟨#[]⟩, m⟩ && (decide (m = 0) || decide (m = 1))) := rfl
theorem vsnd4 (n s m : Int) (t : ByteArray) : vsnd ⟨4, n, s, t, m⟩ = (veq ⟨4, n, s, t, m⟩ ⟨4, 0, 0, ⟨#[]⟩, m⟩ && (decide (0 ≤ m) && decide (m ≤ 3652058))) := rfl
theorem vsnd5 (k n s m : Int) (t : ByteArray) (h : k ≠ 0 ∧ k ≠ 1 ∧ k ≠ 2 ∧ k ≠ 3 ∧ k ≠ 4) : vsnd ⟨k, n, s, t, m⟩ = false := by
  unfold vsnd
  rw [if_neg h.1, if_neg h.2.1, if_neg h.2.2.1, if_neg h.2.2.2.1, if_neg h.2.2.2.2]
theorem kinds (k : Int) : k = 0 ∨ k = 1 ∨ k = 2 ∨ k = 3 ∨ k = 4 ∨ (k ≠ 0 ∧ k ≠ 1 ∧ k ≠ 2 ∧ k ≠ 3 ∧ k ≠ 4) := by omega
set_option maxRecDepth 100000 in
set_option maxHeartbeats 4000000 in
theorem vsound_any (v : Val) (hv : v.text.size ≤ 9223372036854775807) (w : World) : Calls Tryd.prog 33 #[v.val] w fun e w' => e = .returned (.bool (vsnd v)) ∧ Bel w w' := by
  obtain ⟨k, n, s, t, m⟩ := v
  have hv : t.size ≤ 9223372036854775807 := hv
  rcases kinds k with rfl | rfl | rfl | rfl | rfl | hk
  · have L := Lib.hid (vsnd0 n s m t)
    go_enter Tryd.func33, Tryd.ntmps33
    go_wp2_with fail
    go_ret
    exact ⟨by (rw [L.out]) <;> rfl, (Bel.refl _).alloc _⟩
  · have L0 := vsnd1 n s m t
    cases hq : veq ⟨1, n, s, t, m⟩ ⟨1, n, s, ⟨#[]⟩, 0⟩ with
    | false =>
      have L := Lib.hid (show vsnd ⟨1, n, s, t, m⟩ = false by rw [L0, hq]; rfl)
      clear L0
      go_enter Tryd.func33, Tryd.ntmps33
      go_wp2_with fail
      go_ret
      exact ⟨by (rw [L.out]) <;> rfl, (Bel.refl _).alloc _⟩
    | true =>
      have L := Lib.hid (show vsnd ⟨1, n, s, t, m⟩ = sndB n s by rw [L0, hq]; rfl)
      clear L0
      go_enter Tryd.func33, Tryd.ntmps33
      go_wp2_with (go_at_call 49; refine (sound_any n s _).mono ?_; rintro e W1 ⟨rfl, hb1⟩)
      go_ret
      exact ⟨by (rw [L.out]) <;> rfl, ((Bel.refl _).alloc _).trans hb1⟩
  · have L0 := vsnd2 n s m t
    cases hq : veq ⟨2, n, s, t, m⟩ ⟨2, 0, 0, t, 0⟩ with
    | false =>
      have L := Lib.hid (show vsnd ⟨2, n, s, t, m⟩ = false by rw [L0, hq]; rfl)
      clear L0
      go_enter Tryd.func33, Tryd.ntmps33
      go_wp2_with fail
      go_ret
      exact ⟨by (rw [L.out]) <;> rfl, (Bel.refl _).alloc _⟩
    | true =>
      by_cases hz : t.size ≤ 256
      · have L := Lib.hid (show vsnd ⟨2, n, s, t, m⟩ = goodB t by rw [L0, hq, decide_eq_true hz]; rfl)
        have gz : decide ((t.size : Int) ≤ 256) = true := by exact decide_eq_true (by omega)
        clear L0
        go_enter Tryd.func33, Tryd.ntmps33
        go_wp2_with (go_at_call 50; refine (good_any t hv _).mono ?_; rintro e W1 ⟨rfl, hb1⟩)
        go_ret
        exact ⟨by (rw [L.out]) <;> rfl, ((Bel.refl _).alloc _).trans hb1⟩
      · have L := Lib.hid (show vsnd ⟨2, n, s, t, m⟩ = false by rw [L0, hq, decide_eq_false hz]; rfl)
        have gz : decide ((t.size : Int) ≤ 256) = false := by exact decide_eq_false (by omega)
        clear L0
        go_enter Tryd.func33, Tryd.ntmps33
        go_wp2_with fail
        go_ret
        exact ⟨by (rw [L.out]) <;> rfl, (Bel.refl _).alloc _⟩
  · have L0 := vsnd3 n s m t
    cases hq : veq ⟨3, n, s, t, m⟩ ⟨3, 0, 0, ⟨#[]⟩, m⟩ with
    | false =>
      have L := Lib.hid (show vsnd ⟨3, n, s, t, m⟩ = false by rw [L0, hq]; rfl)
      clear L0
      go_enter Tryd.func33, Tryd.ntmps33
      go_wp2_with fail
      go_ret
      exact ⟨by (rw [L.out]) <;> rfl, (Bel.refl _).alloc _⟩
    | true =>
      by_cases h0 : m = 0
      · have L := Lib.hid (show vsnd ⟨3, n, s, t, m⟩ = true by rw [L0, hq, decide_eq_true h0]; rfl)
        have g0 : (m == 0) = true := by rw [beq_iff_eq]; exact h0
        clear L0 h0
        go_enter Tryd.func33, Tryd.ntmps33
        go_wp2_with fail
        go_ret
        exact ⟨by (rw [L.out]) <;> rfl, (Bel.refl _).alloc _⟩
      · have g0 : (m == 0) = false := by rw [beq_eq_false_iff_ne]; exact h0
        by_cases h1 : m = 1
        · have L := Lib.hid (show vsnd ⟨3, n, s, t, m⟩ = true by rw [L0, hq, decide_eq_true h1]; simp)
          have g1 : (m == 1) = true := by rw [beq_iff_eq]; exact h1
          clear L0 h0 h1
          go_enter Tryd.func33, Tryd.ntmps33
          go_wp2_with fail
          go_ret
          exact ⟨by (rw [L.out]) <;> rfl, (Bel.refl _).alloc _⟩
        · have L := Lib.hid (show vsnd ⟨3, n, s, t, m⟩ = false by rw [L0, hq, decide_eq_false h0, decide_eq_false h1]; rfl)
          have g1 : (m == 1) = false := by rw [beq_eq_false_iff_ne]; exact h1
          clear L0 h0 h1
          go_enter Tryd.func33, Tryd.ntmps33
          go_wp2_with fail
          go_ret
          exact ⟨by (rw [L.out]) <;> rfl, (Bel.refl _).alloc _⟩
  · have L0 := vsnd4 n s m t
    cases hq : veq ⟨4, n, s, t, m⟩ ⟨4, 0, 0, ⟨#[]⟩, m⟩ with
    | false =>
      have L := Lib.hid (show vsnd ⟨4, n, s, t, m⟩ = false by rw [L0, hq]; rfl)
      clear L0
      go_enter Tryd.func33, Tryd.ntmps33
      go_wp2_with fail
      go_ret
      exact ⟨by (rw [L.out]) <;> rfl, (Bel.refl _).alloc _⟩
    | true =>
      by_cases h0 : 0 ≤ m
      · have g0 : decide (0 ≤ m) = true := by exact decide_eq_true h0
        by_cases h1 : m ≤ 3652058
        · have g1 : decide (m ≤ 3652058) = true := by exact decide_eq_true h1
          have L := Lib.hid (show vsnd ⟨4, n, s, t, m⟩ = true by rw [L0, hq, g0, g1]; rfl)
          clear L0
          go_enter Tryd.func33, Tryd.ntmps33
          go_wp2_with fail
          go_ret
          exact ⟨by (rw [L.out]) <;> rfl, (Bel.refl _).alloc _⟩
        · have g1 : decide (m ≤ 3652058) = false := by exact decide_eq_false h1
          have L := Lib.hid (show vsnd ⟨4, n, s, t, m⟩ = false by rw [L0, hq, g0, g1]; rfl)
          clear L0
          go_enter Tryd.func33, Tryd.ntmps33
          go_wp2_with fail
          go_ret
          exact ⟨by (rw [L.out]) <;> rfl, (Bel.refl _).alloc _⟩
      · have g0 : decide (0 ≤ m) = false := by exact decide_eq_false h0
        have L := Lib.hid (show vsnd ⟨4, n, s, t, m⟩ = false by rw [L0, hq, g0]; rfl)
        clear L0
        go_enter Tryd.func33, Tryd.ntmps33
        go_wp2_with fail
        go_ret
        exact ⟨by (rw [L.out]) <;> rfl, (Bel.refl _).alloc _⟩
  · have L := Lib.hid (vsnd5 k n s m t hk)
    have k0 : (k == 0) = false := by rw [beq_eq_false_iff_ne]; exact hk.1
    have k1 : (k == 1) = false := by rw [beq_eq_false_iff_ne]; exact hk.2.1
    have k2 : (k == 2) = false := by rw [beq_eq_false_iff_ne]; exact hk.2.2.1
    have k3 : (k == 3) = false := by rw [beq_eq_false_iff_ne]; exact hk.2.2.2.1
    have k4 : (k == 4) = false := by rw [beq_eq_false_iff_ne]; exact hk.2.2.2.2
    clear hk
    go_enter Tryd.func33, Tryd.ntmps33
    go_wp2_with fail
    go_ret
    exact ⟨by (rw [L.out]) <;> rfl, (Bel.refl _).alloc _⟩
end Go.Proofs.YtemciabindjkeaaDoor
