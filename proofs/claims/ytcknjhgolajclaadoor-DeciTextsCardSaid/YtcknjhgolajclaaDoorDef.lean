import Derived.Test.YtcknjhgolajclaaDoorDee
namespace Go.Proofs.YtcknjhgolajclaaDoor
set_option linter.unusedSimpArgs false
set_option linter.unusedVariables false
open Go.RowKit

/-! Deci: the wide numbers are divided, trimmed, rounded. -/
set_option maxHeartbeats 1000000 in
theorem div64_lo (lo y : Nat) (h1 : 1 ≤ y) (h2 : y < 18446744073709551616) (h3 : lo < 18446744073709551616) (w : World) :
    Calls Tryd.prog 69 #[.int .u64 0, .int .u64 lo, .int .u64 y] w fun e w' => e = .returned (.tuple #[.int .u64 (lo / y : Nat), .int .u64 (lo % y : Nat)]) ∧ Bel w w' := by
  have k1 : ((y : Int) == 0) = false := by simp; omega
  have k0 : (y == 0) = false := by simp; omega
  have k00 : decide (y = 0) = false := by simp; omega
  have k2 : decide ((y : Int) ≤ 0) = false := by simp; omega
  have k22 : decide (y ≤ 0) = false := by simp; omega
  have k4 : ((0 : Int) == 0) = true := rfl
  have e1 : (lo : Int) / (y : Int) = ((lo / y : Nat) : Int) := (Int.natCast_ediv ..).symm
  have e2 : (lo : Int) % (y : Int) = ((lo % y : Nat) : Int) := (Int.natCast_emod ..).symm
  have i1 : (1 : Int) ≤ y := by omega
  have i2 : (lo : Int) ≤ 18446744073709551615 := by omega
  have i3 : ¬ (y : Int) = 0 := by omega
  have p1 : lo / y ≤ lo := Nat.div_le_self _ _
  have p2 : lo % y ≤ lo := Nat.mod_le _ _
  generalize lo / y = p at *
  generalize lo % y = q at *
  have e3 : IntKind.u64.wrap (p : Int) = p := by rw [wrapM, Nat.mod_eq_of_lt (by omega)]
  have e4 : IntKind.u64.wrap (q : Int) = q := by rw [wrapM, Nat.mod_eq_of_lt (by omega)]
  clear h1 h2 h3 p1 p2
  go_enter Tryd.func69, Tryd.ntmps69
  go_wp2
  have E2 := Lib.hid e2
  clear e2
  go_region
  go_wp2
  go_ret2
  exact ⟨by rw [← E2.out]; rfl, (Bel.refl _).drew⟩
theorem div64_any (hi lo y : Nat) (h1 : hi < y) (h2 : y < 18446744073709551616) (h3 : lo < 18446744073709551616) (w : World) :
    Calls Tryd.prog 69 #[.int .u64 hi, .int .u64 lo, .int .u64 y] w fun e w' => e = .returned (.tuple #[.int .u64 ((hi * 18446744073709551616 + lo) / y : Nat), .int .u64 ((hi * 18446744073709551616 + lo) % y : Nat)]) ∧ Bel w w' := by
  rcases Nat.eq_zero_or_pos hi with rfl | h
  · rw [Nat.zero_mul, Nat.zero_add]; exact div64_lo lo y (by omega) h2 h3 w
  · exact div64_hi hi lo y h h1 h2 h3 w

/-- The bits of a wide number, as one number. -/
def wval (hi lo : Nat) : Nat := hi * 18446744073709551616 + lo
def whi (m : Nat) : Nat := m / 18446744073709551616
def wlo (m : Nat) : Nat := m % 18446744073709551616
theorem div_wide (m d : Nat) (hd : 0 < d) : whi m / d = whi (m / d) ∧ ((whi m % d) * 18446744073709551616 + wlo m) / d = wlo (m / d) ∧ ((whi m % d) * 18446744073709551616 + wlo m) % d = m % d := by
  have h1 := Nat.div_add_mod m 18446744073709551616
  have h2 := Nat.div_add_mod (whi m) d
  have h3 : wlo m < 18446744073709551616 := Nat.mod_lt _ (by omega)
  have hr : whi m % d < d := Nat.mod_lt _ hd
  have hM : m = d * (whi m / d * 18446744073709551616) + (whi m % d * 18446744073709551616 + wlo m) := by
    rw [← Nat.mul_assoc]
    unfold whi wlo at *
    generalize m / 18446744073709551616 % d = a at *
    generalize d * (m / 18446744073709551616 / d) = b at *
    omega
  have hX : (whi m % d * 18446744073709551616 + wlo m) / d < 18446744073709551616 := by
    rw [Nat.div_lt_iff_lt_mul hd, Nat.mul_comm 18446744073709551616 d]
    have := Nat.mul_le_mul_right 18446744073709551616 (show whi m % d + 1 ≤ d from hr)
    rw [Nat.add_mul] at this
    omega
  have hD : m / d = whi m / d * 18446744073709551616 + (whi m % d * 18446744073709551616 + wlo m) / d := by
    conv => lhs; rw [hM]
    rw [Nat.mul_add_div hd]
  refine ⟨?_, ?_, ?_⟩
  · show _ = m / d / 18446744073709551616
    rw [hD, Nat.mul_comm (whi m / d), Nat.mul_add_div (by omega), Nat.div_eq_of_lt hX, Nat.add_zero]
  · show _ = m / d % 18446744073709551616
    rw [hD, Nat.mul_comm (whi m / d), Nat.mul_add_mod, Nat.mod_eq_of_lt hX]
  · conv => rhs; rw [hM]
    rw [Nat.mul_add_mod]
theorem whi_small {m : Nat} (h : m < 18446744073709551616) : whi m = 0 := Nat.div_eq_of_lt h
theorem wlo_small {m : Nat} (h : m < 18446744073709551616) : wlo m = m := Nat.mod_eq_of_lt h
theorem whi_le {m : Nat} (h : m < 340282366920938463463374607431768211456) : whi m ≤ 18446744073709551615 := by unfold whi; omega
theorem wlo_le (m : Nat) : wlo m ≤ 18446744073709551615 := by unfold wlo; omega

/-- A wide number m, and what a division left. -/
abbrev wideM (neg : Bool) (m rest of : Nat) (s : Int) : Value := wideV neg (whi m) (wlo m) rest of s
set_option maxHeartbeats 2000000 in
theorem divided_raw (x : Bool) (hi lo r o d p a q rr : Nat) (s : Int) (h1 : 1 ≤ d) (hhi : hi ≤ 18446744073709551615) (hp : hi / d = p) (ha : hi % d = a)
    (hc : ∀ w, Calls Tryd.prog 69 #[.int .u64 a, .int .u64 lo, .int .u64 d] w fun e w' => e = .returned (.tuple #[.int .u64 q, .int .u64 rr]) ∧ Bel w w') (w : World) :
    Calls Tryd.prog 51 #[wideV x hi lo r o s, .int .u64 d] w fun e w' => e = .returned (wideV x p q rr d s) ∧ Bel w w' := by
  have e1 : (hi : Int) / (d : Int) = p := by rw [← hp]; exact (Int.natCast_ediv ..).symm
  have e2 : (hi : Int) % (d : Int) = a := by rw [← ha]; exact (Int.natCast_emod ..).symm
  have l1 : p ≤ hi := hp ▸ Nat.div_le_self _ _
  have l2 : a ≤ hi := ha ▸ Nat.mod_le _ _
  have i1 : (1 : Int) ≤ d := by omega
  have i3 : ¬ (d : Int) = 0 := by omega
  have i2 : (hi : Int) ≤ 18446744073709551615 := by omega
  have e3 : IntKind.u64.wrap (p : Int) = p := by rw [wrapM, Nat.mod_eq_of_lt (by omega)]
  have e4 : IntKind.u64.wrap (a : Int) = a := by rw [wrapM, Nat.mod_eq_of_lt (by omega)]
  have HC := Lib.hid hc
  have E2 := Lib.hid e2
  clear hc hp ha h1 hhi l1 l2 e2
  go_enter Tryd.func51, Tryd.ntmps51
  go_wp2_with fail
  refine under_name (((Bel.refl w).alloc _).alloc _) fun W hc hf hz hb => ?_
  have hA : Sl6 W w.heap.size x hi lo r o s := by simp [Sl6, Ar6, Fr6, hz, hc, hf, go_sem]
  have hB : Sl6 W (w.heap.size + 1) false 0 0 0 0 0 := by simp [Sl6, Ar6, Fr6, hz, hc, hf, go_sem]
  clear hc hf hz
  go_region
  rw [E2.out]
  replace hA := hA.keep (Bel.refl W).drew; replace hB := hB.keep (Bel.refl W).drew; replace hb := hb.drew
  generalize W.drew = W at *
  go_wp2_with (go_at_call 69; refine (HC.out _).mono ?_; rintro e W1 ⟨rfl, hb1⟩
               replace hA := Sl6.keep (show Sl6 (W.setCell ⟨w.heap.size, 1, none⟩ (.int .u64 p)) w.heap.size x p lo r o s by simp [Sl6, Ar6, Fr6, go_sem, hA]) hb1
               replace hB := Sl6.keep (show Sl6 (W.setCell ⟨w.heap.size, 1, none⟩ (.int .u64 p)) (w.heap.size + 1) false 0 0 0 0 0 by simp [Sl6, Ar6, Fr6, go_sem, hB]) hb1
               replace hb := (hb.setCell (p := ⟨w.heap.size, 1, none⟩) (by simp) (.int .u64 p)).trans hb1; clear hb1)
  refine bodyPost_ret (by simp [results, Tryd.results51, go_sem, hA, hB]; try rfl) rfl ⟨rfl, ?_⟩
  (repeat (first | with_reducible exact Bel.refl _ | with_reducible refine Bel.setCell ?_ (by first | exact Nat.le_refl _ | (dsimp only; omega)) _ | with_reducible refine Bel.alloc ?_ _ | with_reducible refine Bel.drew ?_ | with_reducible assumption | with_reducible refine Bel.trans ?_ (by assumption)))
theorem divided_any (x : Bool) (m r o d : Nat) (s : Int) (hm : m < 340282366920938463463374607431768211456) (h1 : 1 ≤ d) (h2 : d < 18446744073709551616) (w : World) :
    Calls Tryd.prog 51 #[wideM x m r o s, .int .u64 d] w fun e w' => e = .returned (wideM x (m / d) (m % d) d s) ∧ Bel w w' := by
  obtain ⟨q1, q2, q3⟩ := div_wide m d (by omega)
  refine divided_raw x (whi m) (wlo m) r o d (whi (m / d)) (whi m % d) (wlo (m / d)) (m % d) s h1 (whi_le hm) q1 rfl (fun w => ?_) w
  have hc := div64_any (whi m % d) (wlo m) d (Nat.mod_lt _ (by omega)) h2 (Nat.lt_succ_of_le (wlo_le m)) w
  rw [q2, q3] at hc
  exact hc
end Go.Proofs.YtcknjhgolajclaaDoor
