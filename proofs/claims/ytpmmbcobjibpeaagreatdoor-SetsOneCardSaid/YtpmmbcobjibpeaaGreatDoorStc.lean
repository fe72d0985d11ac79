
import Derived.Test.YtpmmbcobjibpeaaGreatDoorStb
import Derived.Test.YtpmmbcobjibpeaaGreatDoorMth
namespace Go.Proofs.YtpmmbcobjibpeaaGreatDoor
set_option linter.unusedSimpArgs false
set_option linter.unusedVariables false
open Go.RowKit Go.Lib
attribute [local go_sem ↓] eql_val neq_val eql_tst neq_tst

/-! Types: is one sound, is a value of it? -/
def vfit (v : Val) (k sc : Int) : Bool := vsnd v && (decide (v.kind = 0) || (decide (v.kind = k) && (!decide (v.kind = 1) || decide (v.scale ≤ sc))))
def tysnd (k sc : Int) (any not : Bool) (l : List Tst) : Bool := knd k && usnd any not l && (decide (sc = 0) || (decide (k = 1) && decide (0 < sc) && decide (sc ≤ 6)))
/-- Is a sound value of a sound type? -/
def inS (k sc : Int) (any not : Bool) (l : List Tst) (v : Val) : Bool :=
  decide (v.kind = 0) || (decide (v.kind = k) && mall any not l v && (!decide (k = 1) || ((unP sc v).2 && decide (-999999999999 ≤ (unP sc v).1) && decide ((unP sc v).1 ≤ 999999999999))))
def inT (k sc : Int) (any not : Bool) (l : List Tst) (v : Val) : Bool := tysnd k sc any not l && vsnd v && inS k sc any not l v
theorem not_whole {n s t : Int} (h : SndD n s) (h0 : 0 ≤ t) (ht : t < s) : (n % (P10 (s - t).toNat : Int) == 0) = false := by
  rw [beq_eq_false_iff_ne]
  intro h1
  obtain ⟨_, _, _, h2⟩ := h
  have h3 : n % 10 ≠ 0 := h2.resolve_left (by omega)
  obtain ⟨j, hj⟩ : ∃ j, (s - t).toNat = j + 1 := ⟨(s - t).toNat - 1, by omega⟩
  rw [hj] at h1
  have h4 : ((P10 (j + 1) : Nat) : Int) = 10 * (P10 j : Int) := by
    have : P10 (j + 1) = 10 * P10 j := by show 10 ^ (j + 1) = 10 * 10 ^ j; rw [Nat.pow_succ]; omega
    rw [this]; push_cast; rfl
  rw [h4] at h1
  have h5 : (10 * (P10 j : Int)) ∣ n := Int.dvd_of_emod_eq_zero h1
  have h6 : (10 : Int) ∣ n := Int.dvd_trans (Int.dvd_mul_right 10 _) h5
  exact h3 (Int.emod_eq_zero_of_dvd h6)
theorem vsnd_dec {v : Val} (h : vsnd v = true) (h1 : v.kind = 1) : SndD v.n v.scale := by
  unfold vsnd at h
  rw [if_neg (by omega), if_pos h1, Bool.and_eq_true] at h
  exact of_decide_eq_true h.2
/-- A number is a whole number of units just if its scale is not above. -/
theorem unP_exact {v : Val} {sc : Int} (h : vsnd v = true) (h1 : v.kind = 1) (h0 : 0 ≤ sc) (h6 : sc ≤ 6) : (unP sc v).2 = decide (v.scale ≤ sc) := by
  have hd := vsnd_dec h h1
  unfold unP atP
  rw [if_pos h1, if_pos ⟨h0, h6⟩, if_pos hd]
  by_cases hs : v.scale ≤ sc
  · rw [if_pos hs, decide_eq_true hs]
  · rw [if_neg hs, decide_eq_false hs]
    exact not_whole hd h0 (by omega)
set_option maxRecDepth 100000 in
set_option maxHeartbeats 4000000 in
theorem vfits_any (v : Val) (k sc : Int) (hv : v.text.size ≤ 9223372036854775807) (w : World) : Calls Tryz.prog 59 #[v.val, .int .i64 k, .int .i64 sc] w fun e w' => e = .returned (.bool (vfit v k sc)) ∧ Bel w w' := by
  have C := Lib.hid fun W => vsound_any v hv W
  have hF := Lib.hid (show vfit v k sc = (vsnd v && (decide (v.kind = 0) || (decide (v.kind = k) && (!decide (v.kind = 1) || decide (v.scale ≤ sc))))) from rfl)
  generalize vfit v k sc = R at hF ⊢
  generalize vsnd v = q at C hF
  obtain ⟨v0, v1, v2, v3, v4⟩ := v
  simp only at hF
  clear hv
  cases q with
  | false =>
    obtain rfl : R = false := by have := hF.out; simpa using this
    clear hF
    go_enter Tryz.func59, Tryz.ntmps59
    go_wp2_with (go_at_call 31; refine (C.out _).mono ?_; rintro e W1 ⟨rfl, hb1⟩; have hc1 := hb1.cells; have hz1 := hb1.lt1)
    go_ret
    refine ⟨rfl, ?_⟩
    (repeat (first | with_reducible exact Bel.refl _ | with_reducible refine Bel.setCell ?_ (by first | exact Nat.le_refl _ | (dsimp only; omega)) _ | with_reducible refine Bel.alloc ?_ _ | with_reducible refine Bel.drew ?_ | with_reducible assumption | with_reducible refine Bel.trans ?_ (by assumption)))
  | true =>
    have hF := Lib.hid (hF.out.trans (Bool.true_and _))
    by_cases h0 : v0 = 0
    · subst h0
      obtain rfl : R = true := by have := hF.out; simpa using this
      clear hF
      go_enter Tryz.func59, Tryz.ntmps59
      go_wp2_with (go_at_call 31; refine (C.out _).mono ?_; rintro e W1 ⟨rfl, hb1⟩; have hc1 := hb1.cells; have hz1 := hb1.lt1)
      go_ret
      refine ⟨rfl, ?_⟩
      (repeat (first | with_reducible exact Bel.refl _ | with_reducible refine Bel.setCell ?_ (by first | exact Nat.le_refl _ | (dsimp only; omega)) _ | with_reducible refine Bel.alloc ?_ _ | with_reducible refine Bel.drew ?_ | with_reducible assumption | with_reducible refine Bel.trans ?_ (by assumption)))
    · have e0 : (v0 == 0) = false := by simp [h0]
      by_cases hk : v0 = k
      · subst hk
        by_cases h1 : v0 = 1
        · subst h1
          obtain rfl : R = decide (v2 ≤ sc) := by have := hF.out; simpa using this
          clear hF
          go_enter Tryz.func59, Tryz.ntmps59
          go_wp2_with (go_at_call 31; refine (C.out _).mono ?_; rintro e W1 ⟨rfl, hb1⟩; have hc1 := hb1.cells; have hz1 := hb1.lt1)
          go_ret
          refine ⟨rfl, ?_⟩
          (repeat (first | with_reducible exact Bel.refl _ | with_reducible refine Bel.setCell ?_ (by first | exact Nat.le_refl _ | (dsimp only; omega)) _ | with_reducible refine Bel.alloc ?_ _ | with_reducible refine Bel.drew ?_ | with_reducible assumption | with_reducible refine Bel.trans ?_ (by assumption)))
        · have e1 : (v0 == 1) = false := by simp [h1]
          obtain rfl : R = true := by have := hF.out; simpa [h0, h1] using this
          clear hF
          go_enter Tryz.func59, Tryz.ntmps59
          go_wp2_with (go_at_call 31; refine (C.out _).mono ?_; rintro e W1 ⟨rfl, hb1⟩; have hc1 := hb1.cells; have hz1 := hb1.lt1)
          go_ret
          refine ⟨rfl, ?_⟩
          (repeat (first | with_reducible exact Bel.refl _ | with_reducible refine Bel.setCell ?_ (by first | exact Nat.le_refl _ | (dsimp only; omega)) _ | with_reducible refine Bel.alloc ?_ _ | with_reducible refine Bel.drew ?_ | with_reducible assumption | with_reducible refine Bel.trans ?_ (by assumption)))
      · have ek : (v0 == k) = false := by simp [hk]
        obtain rfl : R = false := by have := hF.out; simpa [h0, hk] using this
        clear hF
        go_enter Tryz.func59, Tryz.ntmps59
        go_wp2_with (go_at_call 31; refine (C.out _).mono ?_; rintro e W1 ⟨rfl, hb1⟩; have hc1 := hb1.cells; have hz1 := hb1.lt1)
        go_ret
        refine ⟨rfl, ?_⟩
        (repeat (first | with_reducible exact Bel.refl _ | with_reducible refine Bel.setCell ?_ (by first | exact Nat.le_refl _ | (dsimp only; omega)) _ | with_reducible refine Bel.alloc ?_ _ | with_reducible refine Bel.drew ?_ | with_reducible assumption | with_reducible refine Bel.trans ?_ (by assumption)))
end Go.Proofs.YtpmmbcobjibpeaaGreatDoor
