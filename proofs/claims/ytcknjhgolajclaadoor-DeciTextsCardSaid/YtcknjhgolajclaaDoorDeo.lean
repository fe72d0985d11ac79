import Derived.Test.YtcknjhgolajclaaDoorDem
namespace Go.Proofs.YtcknjhgolajclaaDoor
set_option linter.unusedSimpArgs false
set_option linter.unusedVariables false
open Go.RowKit

def divV (n s m t : Int) : Value :=
  if SndD n s ∧ SndD m t then (if m = 0 then errV 4
    else decV (decide (n < 0) != decide (m < 0)) (heven (n.natAbs * P10 (t + 6).toNat) (m.natAbs * P10 s.toNat)) 6) else errV 2
theorem xor_false (x : Bool) : (x != false) = x := by cases x <;> rfl
theorem pos_neg (m p : Int) (hp : 1 ≤ p) : decide (m * p < 0) = decide (m < 0) := by
  have : m * p < 0 ↔ m < 0 := by
    constructor
    · intro h
      rcases Int.lt_or_le m 0 with h1 | h1
      · exact h1
      · have := Int.mul_nonneg h1 (show 0 ≤ p by omega); omega
    · intro h
      exact Int.mul_neg_of_neg_of_pos h (by omega)
  simp only [this]
theorem new6 {w w' : World} {T : TypeId} (hb : Bel (w.alloc (.cells #[.bool false, .int .u64 0, .int .u64 0, .int .u64 0, .int .u64 0, .int .i64 0] T)) w') : Sl6 w' w.heap.size false 0 0 0 0 0 :=
  Sl6.keep (w := w.alloc (.cells #[.bool false, .int .u64 0, .int .u64 0, .int .u64 0, .int .u64 0, .int .i64 0] T)) (by simp [Sl6, Ar6, Fr6, go_sem]) hb
theorem new6d {w w' : World} {T : TypeId} (hb : Bel (w.alloc (.cells #[.bool false, .int .u64 0, .int .u64 0, .int .u64 0, .int .u64 0, .int .i64 0] T)).drew w') : Sl6 w' w.heap.size false 0 0 0 0 0 :=
  Sl6.keep (w := (w.alloc (.cells #[.bool false, .int .u64 0, .int .u64 0, .int .u64 0, .int .u64 0, .int .i64 0] T)).drew) (by simp [Sl6, Ar6, Fr6, go_sem]) hb
theorem lt_ne3 {a b : Nat} (h : a + 1 + 1 < b) : (¬ b = a ∧ ¬ b = a + 1 ∧ ¬ b = a + 1 + 1) ∧ (¬ a = b ∧ ¬ a + 1 = b ∧ ¬ a + 1 + 1 = b) := by omega
set_option maxRecDepth 100000 in
set_option maxHeartbeats 8000000 in
theorem div_raw (n s m t : Int) (h : SndD n s ∧ SndD m t) (hm0 : m ≠ 0) (w : World) :
    Calls Tryd.prog 17 #[decA n s, decA m t] w fun e w' => e = .returned (decV (decide (n < 0) != decide (m < 0)) (heven (n.natAbs * P10 (t + 6).toNat) (m.natAbs * P10 s.toNat)) 6) ∧ Bel w w' := by
  have hs := Lib.hid (show (sndB n s && sndB m t) = true by rw [sndB_t h.1, sndB_t h.2]; rfl)
  obtain ⟨⟨h1, h2, h3, -⟩, ⟨h4, h5, h6, -⟩⟩ := h
  have p1 := P10_12 (show (t + 6).toNat ≤ 12 by omega)
  have p10 := P10_pos (t + 6).toNat
  have p2 := P10_6 (show s.toNat ≤ 6 by omega)
  have p20 := P10_pos s.toNat
  have cp1 := fun w => power_z (t + 6) (by omega) (by omega) w
  have cp2 := fun w => power_z s (by omega) (by omega) w
  obtain ⟨P, hP⟩ : ∃ P, P = P10 (t + 6).toNat := ⟨_, rfl⟩
  obtain ⟨p, hp⟩ : ∃ p, p = P10 s.toNat := ⟨_, rfl⟩
  rw [← hP] at cp1 p1 p10 ⊢
  rw [← hp] at cp2 p2 p20 ⊢
  clear hP hp
  have c1 := fun w => wideOf_any n 6 (in64_small h3) w
  have c2 := fun w => times_any (decide (n < 0)) n.natAbs 6 (P : Int) 0 (by have := h3.1; have := h3.2; omega) ⟨by omega, by omega⟩ ⟨by omega, by omega⟩ ⟨by omega, by omega⟩ w
  rw [wide0 (by have := h3.1; have := h3.2; omega), show decide ((P : Int) < 0) = false by simp, xor_false, show ((P : Int)).natAbs = P by omega, show (6 : Int) + 0 = 6 by omega] at c2
  have hmp1 : -1000000000000000000 ≤ m * (p : Int) ∧ m * (p : Int) ≤ 1000000000000000000 := by
    have a1 := Int.mul_le_mul_of_nonneg_right h6.1 (show (0 : Int) ≤ p by omega)
    have a2 := Int.mul_le_mul_of_nonneg_right h6.2 (show (0 : Int) ≤ p by omega)
    constructor <;> omega
  have hmpn : (m * (p : Int)).natAbs = m.natAbs * p := by rw [Int.natAbs_mul]; rfl
  have hmp0 : m * (p : Int) ≠ 0 := by
    intro h
    rcases Int.mul_eq_zero.1 h with h | h
    · exact hm0 h
    · omega
  have hM : n.natAbs * P ≤ 999999999999 * 1000000000000 := Nat.mul_le_mul (by have := h3.1; have := h3.2; omega) p1
  have hdec := pos_neg m p (by omega)
  obtain ⟨y, hy⟩ : ∃ y, (decide (n < 0) != decide (m < 0)) = y := ⟨_, rfl⟩
  obtain ⟨q, hq⟩ : ∃ q, q = m * (p : Int) := ⟨_, rfl⟩
  obtain ⟨M, hMM⟩ : ∃ M, M = n.natAbs * P := ⟨_, rfl⟩
  obtain ⟨D, hD⟩ : ∃ D, D = m.natAbs * p := ⟨_, rfl⟩
  rw [← hq] at hmp1 hmpn hmp0 hdec
  rw [← hMM] at c2 hM ⊢
  rw [← hD] at hmpn ⊢
  have c3 := fun w => over_any (decide (n < 0)) M 6 q (by unfold big128; omega) ⟨by omega, by omega⟩ hmp0 w
  rw [hdec, hy, hmpn] at c3
  rw [hy]
  have hDpos : 0 < D := by omega
  have hr := Nat.mod_lt M hDpos
  have hle := Nat.div_le_self M D
  have c4 := fun w => nearest_any y (M / D) (M % D) D 6 (by unfold big128; omega) (by omega) (by omega) w
  rw [hup_heven] at c4
  have hhe := heven_le M D
  have c5 := fun w => dec_any y (heven M D) 6 (by unfold big128; omega) (by omega) w
  obtain ⟨a, b, e, hsh⟩ := decV_sh y (heven M D) 6
  rw [hsh] at c5 ⊢
  have w1 : IntKind.i64.wrap (t + 6) = t + 6 := by rw [IntKind.wrap_i64]; omega
  have w2 : IntKind.i64.wrap (m * (p : Int)) = q := by rw [IntKind.wrap_i64, ← hq]; omega
  have k0 : (m == 0) = false := by simp [hm0]
  have C1 := Lib.hid c1
  have C2 := Lib.hid c2
  have C3 := Lib.hid c3
  have C4 := Lib.hid c4
  have C5 := Lib.hid c5
  have CP1 := Lib.hid cp1
  have CP2 := Lib.hid cp2
  clear c1 c2 c3 c4 c5 cp1 cp2 h1 h2 h3 h4 h5 h6 hM hMM hD hq hy hr hle hhe hsh p1 p10 p2 p20 hmp1 hmpn hmp0 hdec hDpos hm0
  generalize M / D = Q at *
  generalize M % D = R at *
  generalize heven M D = E at *
  go_enter Tryd.func17, Tryd.ntmps17
  go_wp2_with fail
  refine under_call (((((Bel.refl w).alloc _).alloc _).alloc _).alloc _) fun W hc hf hz hb => ?_
  have hA : Sl2 W w.heap.size n s := by simp [Sl2, Arr2, Fr2, hz, hc, hf, go_sem]
  have hB : Sl2 W (w.heap.size + 1) m t := by simp [Sl2, Arr2, Fr2, hz, hc, hf, go_sem]
  have hR : Sl2 W (w.heap.size + 1 + 1) 0 0 := by simp [Sl2, Arr2, Fr2, hz, hc, hf, go_sem]
  have hD : DecsAt W (w.heap.size + 1 + 1 + 1) [(n, s), (m, t)] := decs2 (by simp [hz]) (by simp [hc, go_sem]) (by simp [hc, go_sem]) (by simp [hc, go_sem]) (by simp [hc, go_sem])
  clear hc hf hz
  go_wp2_with (go_at_call 31; refine (allSound_2 n s m t _ _ hD).mono ?_; rintro e W1 ⟨rfl, hb1⟩; rw [hs.out]
               replace hA := hA.keep hb1; replace hB := hB.keep hb1; replace hR := hR.keep hb1; replace hb := hb.trans hb1; clear hb1 hD)
  go_upto_region 5 with (fail)
  go_cut [6] (fun u wx => ∃ g : Nat, u = .pointer (some ⟨g, 0, none⟩) ∧ Sl6 wx g (decide (n < 0)) (whi M) (wlo M) 0 1 6 ∧ Sl2 wx w.heap.size n s ∧ Sl2 wx (w.heap.size + 1) m t ∧ Sl2 wx (w.heap.size + 1 + 1) 0 0 ∧ Bel w wx ∧ w.heap.size + 1 + 1 < g)
  case first =>
    have hb0 := hb; have hA0 := hA; have hB0 := hB; have hR0 := hR
    replace hA := hA.keep (Bel.refl W1).drew; replace hB := hB.keep (Bel.refl W1).drew; replace hR := hR.keep (Bel.refl W1).drew; replace hb := hb.drew
    have hne0 := lt_ne3 hR0.1.1
    go_region_held3 (fun w' => Arr2 w' w.heap.size n s ∧ Arr2 w' (w.heap.size + 1) m t) (first | with_reducible exact ⟨hA.1, hB.1⟩ | (simp (maxDischargeDepth := 20) [Arr2, go_sem, hA, hB, hne]; done) | (have hne := lt_ne3 hR.1.1; simp (maxDischargeDepth := 20) [Arr2, go_sem, hA, hB, hne]; first | done | omega) | (simp [Arr2, go_sem, hA, hB]; first | done | omega) | (simp (maxDischargeDepth := 20) [Arr2, go_sem, hA0, hB0, hne0]; first | done | omega))
      (first
        | (go_at_call 29; refine (C1.out _).mono ?_; rintro e W2 ⟨rfl, hb1⟩; (first | (with_reducible replace hA := hA.keep hb1; replace hB := hB.keep hb1; replace hR := hR.keep hb1; replace hb := hb.trans hb1; (try (replace hU := hU.keep hb1)); clear hb1) | (with_reducible have hU := new6 hb1; have hlt := hR.1.1; have hne := lt_ne3 hR.1.1; replace hb1 := ((Bel.refl _).alloc _).trans hb1; replace hA := hA.keep hb1; replace hB := hB.keep hb1; replace hR := hR.keep hb1; replace hb := hb.trans hb1; clear hb1) | (have hU := new6d hb1; have hlt := hR0.1.1; have hne := lt_ne3 hR0.1.1; replace hb1 := ((Bel.refl _).alloc _).drew.trans hb1; replace hA := hA0.keep hb1; replace hB := hB0.keep hb1; replace hR := hR0.keep hb1; replace hb := hb0.trans hb1; clear hb1)))
        | (go_at_call 37; refine (CP1.out _).mono ?_; rintro e W3 ⟨rfl, hb1⟩; (first | (with_reducible replace hA := hA.keep hb1; replace hB := hB.keep hb1; replace hR := hR.keep hb1; replace hb := hb.trans hb1; (try (replace hU := hU.keep hb1)); clear hb1) | (with_reducible have hU := new6 hb1; have hlt := hR.1.1; have hne := lt_ne3 hR.1.1; replace hb1 := ((Bel.refl _).alloc _).trans hb1; replace hA := hA.keep hb1; replace hB := hB.keep hb1; replace hR := hR.keep hb1; replace hb := hb.trans hb1; clear hb1) | (have hU := new6d hb1; have hlt := hR0.1.1; have hne := lt_ne3 hR0.1.1; replace hb1 := ((Bel.refl _).alloc _).drew.trans hb1; replace hA := hA0.keep hb1; replace hB := hB0.keep hb1; replace hR := hR0.keep hb1; replace hb := hb0.trans hb1; clear hb1)))
        | (go_at_call 32; refine (C2.out _).mono ?_; rintro e W4 ⟨rfl, hb1⟩; (first | (with_reducible replace hA := hA.keep hb1; replace hB := hB.keep hb1; replace hR := hR.keep hb1; replace hb := hb.trans hb1; (try (replace hU := hU.keep hb1)); clear hb1) | (with_reducible have hU := new6 hb1; have hlt := hR.1.1; have hne := lt_ne3 hR.1.1; replace hb1 := ((Bel.refl _).alloc _).trans hb1; replace hA := hA.keep hb1; replace hB := hB.keep hb1; replace hR := hR.keep hb1; replace hb := hb.trans hb1; clear hb1) | (have hU := new6d hb1; have hlt := hR0.1.1; have hne := lt_ne3 hR0.1.1; replace hb1 := ((Bel.refl _).alloc _).drew.trans hb1; replace hA := hA0.keep hb1; replace hB := hB0.keep hb1; replace hR := hR0.keep hb1; replace hb := hb0.trans hb1; clear hb1))))
    all_goals
      go_wp2_with fail
      go_meet
    case rel | rel | rel | rel =>
      first
        | (refine ⟨_, rfl, ?_, ?_, ?_, ?_, ?_, hlt⟩
           · simp (maxDischargeDepth := 20) [Sl6, Ar6, Fr6, go_sem, hU]
           · simp (maxDischargeDepth := 20) [Sl2, Arr2, Fr2, go_sem, hA, hne]
           · simp (maxDischargeDepth := 20) [Sl2, Arr2, Fr2, go_sem, hB, hne]
           · simp (maxDischargeDepth := 20) [Sl2, Arr2, Fr2, go_sem, hR, hne]
           · (repeat (first | with_reducible exact Bel.refl _ | with_reducible refine Bel.setCell ?_ (by first | exact Nat.le_refl _ | (dsimp only; omega)) _ | with_reducible refine Bel.alloc ?_ _ | with_reducible refine Bel.drew ?_ | with_reducible assumption | with_reducible refine Bel.trans ?_ (by assumption))))
        | (have hlt := hR.1.1
           have hlt1 : w.heap.size < W4.heap.size := hA.1.1
           have hlt2 : w.heap.size + 1 < W4.heap.size := hB.1.1
           have hne := lt_ne3 hlt
           refine ⟨_, rfl, ?_, ?_, ?_, ?_, ?_, hlt⟩
           · simp (maxDischargeDepth := 20) [Sl6, Ar6, Fr6, go_sem]
           · (simp (maxDischargeDepth := 20) [Sl2, Arr2, Fr2, go_sem, hA, hne] <;> omega)
           · (simp (maxDischargeDepth := 20) [Sl2, Arr2, Fr2, go_sem, hB, hne] <;> omega)
           · (simp (maxDischargeDepth := 20) [Sl2, Arr2, Fr2, go_sem, hR, hne] <;> omega)
           · (repeat (first | with_reducible exact Bel.refl _ | with_reducible refine Bel.setCell ?_ (by first | exact Nat.le_refl _ | (dsimp only; omega)) _ | with_reducible refine Bel.alloc ?_ _ | with_reducible refine Bel.drew ?_ | with_reducible assumption | with_reducible refine Bel.trans ?_ (by assumption))))
  case rest =>
    obtain ⟨g, rfl, hU, hA, hB, hR, hb, hlt⟩ := hcut
    have hne := lt_ne3 hlt
    go_wp2_with fail
    replace hA := hA.keep (Bel.refl wc).drew; replace hB := hB.keep (Bel.refl wc).drew; replace hR := hR.keep (Bel.refl wc).drew; replace hU := hU.keep (Bel.refl wc).drew; replace hb := hb.drew
    go_region_held3 (fun w' => Arr2 w' w.heap.size n s ∧ Arr2 w' (w.heap.size + 1) m t ∧ Ar6 w' g (decide (n < 0)) (whi M) (wlo M) 0 1 6)
      (first | with_reducible exact ⟨hA.1, hB.1, hU.1⟩ | (simp (maxDischargeDepth := 20) [Arr2, Ar6, go_sem, hA, hB, hU, hne]; first | done | omega))
      (first
        | (go_at_call 37; refine (CP2.out _).mono ?_; rintro e W3 ⟨rfl, hb1⟩; replace hA := hA.keep hb1; replace hB := hB.keep hb1; replace hR := hR.keep hb1; replace hU := hU.keep hb1; replace hb := hb.trans hb1; clear hb1)
        | (go_at_call 38; refine (C3.out _).mono ?_; rintro e W3 ⟨rfl, hb1⟩; replace hA := hA.keep hb1; replace hB := hB.keep hb1; replace hR := hR.keep hb1; replace hU := hU.keep hb1; replace hb := hb.trans hb1; clear hb1)
        | (go_at_call 39; refine (C4.out _).mono ?_; rintro e W4 ⟨rfl, hb1⟩; replace hA := hA.keep hb1; replace hB := hB.keep hb1; replace hR := hR.keep hb1; replace hU := hU.keep hb1; replace hb := hb.trans hb1; clear hb1)
        | (go_at_call 30; refine (C5.out _).mono ?_; rintro e W5 ⟨rfl, hb1⟩; replace hA := hA.keep hb1; replace hB := hB.keep hb1; replace hR := hR.keep hb1; replace hU := hU.keep hb1; replace hb := hb.trans hb1; clear hb1))
    all_goals
      go_wp2
      refine bodyPost_ret (by simp [results, Tryd.results17, go_sem, hR]; try rfl) rfl ⟨rfl, ?_⟩
      (repeat (first | with_reducible exact Bel.refl _ | with_reducible refine Bel.setCell ?_ (by first | exact Nat.le_refl _ | (dsimp only; omega)) _ | with_reducible refine Bel.alloc ?_ _ | with_reducible refine Bel.drew ?_ | with_reducible assumption | with_reducible refine Bel.trans ?_ (by assumption)))
theorem div_any (n s m t : Int) (w : World) : Calls Tryd.prog 17 #[decA n s, decA m t] w fun e w' => e = .returned (divV n s m t) ∧ Bel w w' := by
  by_cases h : SndD n s ∧ SndD m t
  · rw [show divV n s m t = _ from if_pos h]
    by_cases h0 : m = 0
    · rw [if_pos h0]
      have hs := Lib.hid (show (sndB n s && sndB m t) = true by rw [sndB_t h.1, sndB_t h.2]; rfl)
      subst h0
      clear h
      go_enter Tryd.func17, Tryd.ntmps17
      go_wp2_with fail
      refine under_call (((((Bel.refl w).alloc _).alloc _).alloc _).alloc _) fun W hc hf hz hb => ?_
      have hB : Sl2 W (w.heap.size + 1) 0 t := by simp [Sl2, Arr2, Fr2, hz, hc, hf, go_sem]
      have hR : Sl2 W (w.heap.size + 1 + 1) 0 0 := by simp [Sl2, Arr2, Fr2, hz, hc, hf, go_sem]
      have hD : DecsAt W (w.heap.size + 1 + 1 + 1) [(n, s), (0, t)] := decs2 (by simp [hz]) (by simp [hc, go_sem]) (by simp [hc, go_sem]) (by simp [hc, go_sem]) (by simp [hc, go_sem])
      clear hc hf hz
      go_wp2_with (go_at_call 31; refine (allSound_2 n s 0 t _ _ hD).mono ?_; rintro e W1 ⟨rfl, hb1⟩; rw [hs.out]
                   replace hB := hB.keep hb1; replace hR := hR.keep hb1; replace hb := hb.trans hb1; clear hb1 hD)
      refine bodyPost_ret (by simp [results, Tryd.results17, go_sem, hR]; try rfl) rfl ⟨rfl, ?_⟩
      (repeat (first | with_reducible exact Bel.refl _ | with_reducible refine Bel.setCell ?_ (by first | exact Nat.le_refl _ | (dsimp only; omega)) _ | with_reducible refine Bel.alloc ?_ _ | with_reducible refine Bel.drew ?_ | with_reducible assumption | with_reducible refine Bel.trans ?_ (by assumption)))
    · rw [if_neg h0]
      exact div_raw n s m t h h0 w
  · have hv : Hid (divV n s m t = errV 2) := if_neg h
    have hs := Lib.hid (snd_and h)
    clear h
    go_enter Tryd.func17, Tryd.ntmps17
    go_wp2_with fail
    refine under_call (((((Bel.refl w).alloc _).alloc _).alloc _).alloc _) fun W hc hf hz hb => ?_
    have hR : Sl2 W (w.heap.size + 1 + 1) 0 0 := by simp [Sl2, Arr2, Fr2, hz, hc, hf, go_sem]
    have hD : DecsAt W (w.heap.size + 1 + 1 + 1) [(n, s), (m, t)] := decs2 (by simp [hz]) (by simp [hc, go_sem]) (by simp [hc, go_sem]) (by simp [hc, go_sem]) (by simp [hc, go_sem])
    clear hc hf hz
    go_wp2_with (go_at_call 31; refine (allSound_2 n s m t _ _ hD).mono ?_; rintro e W1 ⟨rfl, hb1⟩; rw [hs.out]
                 replace hR := hR.keep hb1; replace hb := hb.trans hb1; clear hb1 hD)
    refine bodyPost_ret (by simp [results, Tryd.results17, go_sem, hR]; try rfl) rfl ⟨by (rw [hv.out]) <;> rfl, ?_⟩
    (repeat (first | with_reducible exact Bel.refl _ | with_reducible refine Bel.setCell ?_ (by first | exact Nat.le_refl _ | (dsimp only; omega)) _ | with_reducible refine Bel.alloc ?_ _ | with_reducible refine Bel.drew ?_ | with_reducible assumption | with_reducible refine Bel.trans ?_ (by assumption)))
end Go.Proofs.YtcknjhgolajclaaDoor
