import Derived.Test.YtcknjhgolajclaaGreatDoorDhb
import Derived.Test.YtcknjhgolajclaaGreatDoorDem
namespace Go.Proofs.YtcknjhgolajclaaGreatDoor
set_option linter.unusedSimpArgs false
set_option linter.unusedVariables false
open Go.RowKit

/-! Deci: the document's sum. -/
theorem trim_z (s : Nat) : trim 0 s = (0, 0) := by
  induction s with
  | zero => rfl
  | succ k ih => rw [trim_step _ _ rfl]; exact ih
theorem decV_zero (x y : Bool) (s : Nat) : decV x 0 s = decV y 0 s := by
  unfold decV
  rw [trim_z]
  cases x <;> cases y <;> rfl
theorem addV_as {n s m t : Int} (h : SndD n s ∧ SndD m t) (bl : Bool) (Z : Nat) (hz : (unt n s + unt m t).natAbs = Z) (hb : Z ≠ 0 → bl = decide (unt n s + unt m t < 0)) : decV bl Z 6 = addV n s m t := by
  rw [show addV n s m t = _ from if_pos h, hz]
  by_cases h0 : Z = 0
  · subst h0; exact decV_zero _ _ _
  · rw [hb h0]
theorem rdec12 (Z : Nat) (bl : Bool) (g : Nat) (hZ : Z ≤ 10 ^ 20) (w : World) (hrow : DRow w g 0 60 (dg (Z * 10 ^ 6))) :
    Calls Tryz.prog 22 #[.slice (some ⟨g, 0, none⟩) 60 60, .int .i64 12, .bool bl] w fun e w' => e = .returned (decV bl Z 6) ∧ Bel w w' := by
  have h := rdec_any (Z * 10 ^ 6) 12 bl g (by omega) (by omega) w hrow
  have e : rnd (Z * 10 ^ 6) 12 = Z := by
    unfold rnd
    rw [if_pos (by omega)]
    have := heven_mul Z 1 (10 ^ 6) (by omega)
    rw [Nat.one_mul, heven_one] at this
    exact this
  rw [e] at h
  exact h
theorem decV_sh2 (x : Bool) (m s : Nat) : ∃ a b e, decV x m s = .tuple #[.agg #[.int .i64 a, .int .i64 b], .int .i64 e] := decV_sh x m s
/-- Rows of the same sign. -/
theorem rplus_unt (U V g1 g2 : Nat) (w : World) (h1 : DRow w g1 0 60 (dg (U * 10 ^ 6))) (h2 : DRow w g2 0 60 (dg (V * 10 ^ 6))) :
    Calls Tryz.prog 23 #[.slice (some ⟨g1, 0, none⟩) 60 60, .slice (some ⟨g2, 0, none⟩) 60 60] w (LongOut ((U + V) * 10 ^ 6) w) :=
  (rplus_any 60 (by omega) (by omega) g1 0 60 g2 _ _ w h1 h2).mono fun e w' ⟨he, h3, h4⟩ => ⟨_, he, Nat.le_refl _, by rw [Nat.add_mul]; exact h3, h4⟩
theorem rminus_unt (U V g1 g2 : Nat) (hle : V ≤ U) (w : World) (h1 : DRow w g1 0 60 (dg (U * 10 ^ 6))) (h2 : DRow w g2 0 60 (dg (V * 10 ^ 6))) :
    Calls Tryz.prog 24 #[.slice (some ⟨g1, 0, none⟩) 60 60, .slice (some ⟨g2, 0, none⟩) 60 60] w (LongOut ((U - V) * 10 ^ 6) w) := by
  have := rminus_any g1 g2 (U * 10 ^ 6) (V * 10 ^ 6) (Nat.mul_le_mul_right _ hle) w h1 h2
  rwa [← Nat.sub_mul] at this
set_option maxRecDepth 100000 in
set_option maxHeartbeats 4000000 in
theorem radd_bad (n s m t : Int) (h : ¬ (SndD n s ∧ SndD m t)) (w : World) : Calls Tryz.prog 11 #[decA n s, decA m t] w fun e w' => e = .returned (addV n s m t) ∧ Bel w w' := by
  have hv : Hid (addV n s m t = errV 2) := if_neg h
  have hs := snd_and h
  have c1 := Lib.hid fun w => rsound_any n s w
  have c2 := Lib.hid fun w => rsound_any m t w
  clear h
  cases h1 : sndB n s with
  | false =>
    have h1 := Lib.hid h1
    clear hs
    go_enter Tryz.func11, Tryz.ntmps11
    go_wp2_with fail
    refine under_call ((((Bel.refl w).alloc _).alloc _).alloc _) fun W hc hf hz hb => ?_
    have hA : Arr2 W w.heap.size n s := by simp [Arr2, hz, hc, hf, go_sem]
    have hR : Sl2 W (w.heap.size + 1 + 1) 0 0 := by simp [Sl2, Arr2, Fr2, hz, hc, hf, go_sem]
    clear hc hf hz
    go_wp2_with (go_at_call 8; refine (c1.out _).mono ?_; rintro e W1 ⟨rfl, hb1⟩; rw [h1.out]; replace hR := hR.keep hb1; replace hb := hb.trans hb1; clear hb1)
    refine bodyPost_ret (by simp [results, Tryz.results11, go_sem, hR]; try rfl) rfl ⟨by (rw [hv.out]) <;> rfl, ?_⟩
    (repeat (first | with_reducible exact Bel.refl _ | with_reducible refine Bel.setCell ?_ (by first | exact Nat.le_refl _ | (dsimp only; omega)) _ | with_reducible refine Bel.alloc ?_ _ | with_reducible refine Bel.drew ?_ | with_reducible assumption | with_reducible refine Bel.trans ?_ (by assumption)))
  | true =>
    have h2 := Lib.hid (show sndB m t = false by rw [h1] at hs; simpa using hs)
    have h1 := Lib.hid h1
    clear hs
    go_enter Tryz.func11, Tryz.ntmps11
    go_wp2_with fail
    refine under_call ((((Bel.refl w).alloc _).alloc _).alloc _) fun W hc hf hz hb => ?_
    have hA : Arr2 W w.heap.size n s := by simp [Arr2, hz, hc, hf, go_sem]
    have hB : Arr2 W (w.heap.size + 1) m t := by simp [Arr2, hz, hc, hf, go_sem]
    have hR : Sl2 W (w.heap.size + 1 + 1) 0 0 := by simp [Sl2, Arr2, Fr2, hz, hc, hf, go_sem]
    clear hc hf hz
    go_wp2_with (first
      | (go_at_call 8; with_reducible refine (c1.out _).mono ?_; rintro e W1 ⟨rfl, hb1⟩; rw [h1.out]; replace hB := hB.keep hb1; replace hR := hR.keep hb1; replace hb := hb.trans hb1; clear hb1 hA)
      | (go_at_call 8; with_reducible refine (c2.out _).mono ?_; rintro e W2 ⟨rfl, hb1⟩; rw [h2.out]; replace hR := hR.keep hb1; replace hb := hb.trans hb1; clear hb1))
    refine bodyPost_ret (by simp [results, Tryz.results11, go_sem, hR]; try rfl) rfl ⟨by (rw [hv.out]) <;> rfl, ?_⟩
    (repeat (first | with_reducible exact Bel.refl _ | with_reducible refine Bel.setCell ?_ (by first | exact Nat.le_refl _ | (dsimp only; omega)) _ | with_reducible refine Bel.alloc ?_ _ | with_reducible refine Bel.drew ?_ | with_reducible assumption | with_reducible refine Bel.trans ?_ (by assumption)))
set_option maxRecDepth 100000 in
set_option maxHeartbeats 16000000 in
theorem radd_good (n s m t : Int) (h : SndD n s ∧ SndD m t) (w : World) : Calls Tryz.prog 11 #[decA n s, decA m t] w fun e w' => e = .returned (addV n s m t) ∧ Bel w w' := by
  have c1 := Lib.hid fun w => rsound_any n s w
  have c2 := Lib.hid fun w => rsound_any m t w
  have h1 := Lib.hid (sndB_t h.1)
  have h2 := Lib.hid (sndB_t h.2)
  have hs1 := Lib.hid h.1
  have hs2 := Lib.hid h.2
  have bu := unt_lt h.1
  have bv := unt_lt h.2
  have HU := Lib.hid (show (unt n s).natAbs * 10 ^ 6 < 10 ^ 60 by omega)
  have HV := Lib.hid (show (unt m t).natAbs * 10 ^ 6 < 10 ^ 60 by omega)
  have zu := (unt_sign n s).1
  have zv := (unt_sign m t).1
  by_cases hn : n < 0
  · by_cases hm : m < 0
    · have hv0 := addV_as h true ((unt n s).natAbs + (unt m t).natAbs) (by omega) (fun h0 => by symm; first | exact decide_eq_true (by omega) | exact decide_eq_false (by omega))
      obtain ⟨x1, x2, x3, hd⟩ := decV_sh2 true ((unt n s).natAbs + (unt m t).natAbs) 6
      have hZ := Lib.hid (show (unt n s).natAbs + (unt m t).natAbs ≤ 10 ^ 20 by omega)
      have HD := Lib.hid hd
      have hv := Lib.hid (hd.symm.trans hv0)
      clear hv0 hd h bu bv zu zv
      go_enter Tryz.func11, Tryz.ntmps11
      go_wp2_with fail
      refine under_call ((((Bel.refl w).alloc _).alloc _).alloc _) fun W hc hf hz hb => ?_
      have hA : Arr2 W w.heap.size n s := by simp [Arr2, hz, hc, hf, go_sem]
      have hB : Arr2 W (w.heap.size + 1) m t := by simp [Arr2, hz, hc, hf, go_sem]
      have hR : Sl2 W (w.heap.size + 1 + 1) 0 0 := by simp [Sl2, Arr2, Fr2, hz, hc, hf, go_sem]
      clear hc hf hz
      go_wp2_with (first
        | (go_at_call 8; with_reducible refine (c1.out _).mono ?_; rintro e W1 ⟨rfl, hb1⟩; rw [h1.out]; replace hA := hA.keep hb1; replace hB := hB.keep hb1; replace hR := hR.keep hb1; replace hb := hb.trans hb1; clear hb1)
        | (go_at_call 8; with_reducible refine (c2.out _).mono ?_; rintro e W2 ⟨rfl, hb1⟩; rw [h2.out]; replace hA := hA.keep hb1; replace hB := hB.keep hb1; replace hR := hR.keep hb1; replace hb := hb.trans hb1; clear hb1))
      replace hA := hA.keep (Bel.refl _).drew; replace hB := hB.keep (Bel.refl _).drew; replace hR := hR.keep (Bel.refl _).drew; replace hb := hb.drew
      go_region_held3 (fun w' => Arr2 w' w.heap.size n s ∧ Arr2 w' (w.heap.size + 1) m t) (first | with_reducible exact ⟨hA, hB⟩ | (simp (maxDischargeDepth := 20) [Arr2, go_sem, hA, hB]; first | done | omega))
        (first
          | (go_at_call 15; have _u := hDa; refine (rlong_unt _ _ (by first | exact hs1.out | exact hs2.out) _).mono ?_; rintro e V2 ⟨gb, rfl, hgb, hDb, hb1⟩; replace hA := hA.keep hb1; replace hB := hB.keep hb1; replace hR := hR.keep hb1; replace hDa := hDa.keep hb1; replace hb := hb.trans hb1; clear hb1 hgb _u)
          | (go_at_call 15; refine (rlong_unt _ _ (by first | exact hs1.out | exact hs2.out) _).mono ?_; rintro e V1 ⟨ga, rfl, hga, hDa, hb1⟩; replace hA := hA.keep hb1; replace hB := hB.keep hb1; replace hR := hR.keep hb1; replace hb := hb.trans hb1; clear hb1 hga))
      go_wp2
      replace hA := hA.keep (Bel.refl _).drew; replace hB := hB.keep (Bel.refl _).drew; replace hR := hR.keep (Bel.refl _).drew; replace hDa := hDa.keep (Bel.refl _).drew; replace hDb := hDb.keep (Bel.refl _).drew; replace hb := hb.drew
      go_region_held3 (fun w' => Arr2 w' w.heap.size n s ∧ Arr2 w' (w.heap.size + 1) m t) (first | with_reducible exact ⟨hA, hB⟩ | (simp (maxDischargeDepth := 20) [Arr2, go_sem, hA, hB]; first | done | omega))
        (first
          | (go_at_call 23; refine (rplus_unt _ _ ga gb _ hDa hDb).mono ?_; rintro e V4 ⟨gc, rfl, hgc, hDc, hb1⟩; replace hA := hA.keep hb1; replace hB := hB.keep hb1; replace hR := hR.keep hb1; replace hb := hb.trans hb1; clear hb1 hgc hDa hDb)
          | (go_at_call 22; refine (rdec12 _ _ gc hZ.out _ hDc).mono ?_; rintro e V5 ⟨rfl, hb1⟩; rw [HD.out]; replace hA := hA.keep hb1; replace hB := hB.keep hb1; replace hR := hR.keep hb1; replace hb := hb.trans hb1; clear hb1 hDc))
      all_goals
        go_wp2
        refine bodyPost_ret (by simp [results, Tryz.results11, go_sem, hR]; try rfl) rfl ⟨by (rw [← hv.out]) <;> rfl, ?_⟩
        (repeat (first | with_reducible exact Bel.refl _ | with_reducible refine Bel.setCell ?_ (by first | exact Nat.le_refl _ | (dsimp only; omega)) _ | with_reducible refine Bel.alloc ?_ _ | with_reducible refine Bel.drew ?_ | with_reducible assumption | with_reducible refine Bel.trans ?_ (by assumption)))
    · have hm' : 0 ≤ m := by omega
      have hmd : decide (m < 0) = false := by simp; omega
      by_cases q1 : (unt n s).natAbs < (unt m t).natAbs
      · have hv0 := addV_as h false ((unt m t).natAbs - (unt n s).natAbs) (by omega) (fun h0 => by symm; first | exact decide_eq_true (by omega) | exact decide_eq_false (by omega))
        obtain ⟨x1, x2, x3, hd⟩ := decV_sh2 false ((unt m t).natAbs - (unt n s).natAbs) 6
        have hZ := Lib.hid (show (unt m t).natAbs - (unt n s).natAbs ≤ 10 ^ 20 by omega)
        have HD := Lib.hid hd
        have hv := Lib.hid (hd.symm.trans hv0)
        have r1 := Lib.hid (show decide ((unt n s).natAbs * 10 ^ 6 < (unt m t).natAbs * 10 ^ 6) = true by simp; omega)
        have hle := Lib.hid (show (unt n s).natAbs ≤ (unt m t).natAbs by omega)
        clear q1
        clear hv0 hd h bu bv zu zv
        go_enter Tryz.func11, Tryz.ntmps11
        go_wp2_with fail
        refine under_call ((((Bel.refl w).alloc _).alloc _).alloc _) fun W hc hf hz hb => ?_
        have hA : Arr2 W w.heap.size n s := by simp [Arr2, hz, hc, hf, go_sem]
        have hB : Arr2 W (w.heap.size + 1) m t := by simp [Arr2, hz, hc, hf, go_sem]
        have hR : Sl2 W (w.heap.size + 1 + 1) 0 0 := by simp [Sl2, Arr2, Fr2, hz, hc, hf, go_sem]
        clear hc hf hz
        go_wp2_with (first
          | (go_at_call 8; with_reducible refine (c1.out _).mono ?_; rintro e W1 ⟨rfl, hb1⟩; rw [h1.out]; replace hA := hA.keep hb1; replace hB := hB.keep hb1; replace hR := hR.keep hb1; replace hb := hb.trans hb1; clear hb1)
          | (go_at_call 8; with_reducible refine (c2.out _).mono ?_; rintro e W2 ⟨rfl, hb1⟩; rw [h2.out]; replace hA := hA.keep hb1; replace hB := hB.keep hb1; replace hR := hR.keep hb1; replace hb := hb.trans hb1; clear hb1))
        replace hA := hA.keep (Bel.refl _).drew; replace hB := hB.keep (Bel.refl _).drew; replace hR := hR.keep (Bel.refl _).drew; replace hb := hb.drew
        go_region_held3 (fun w' => Arr2 w' w.heap.size n s ∧ Arr2 w' (w.heap.size + 1) m t) (first | with_reducible exact ⟨hA, hB⟩ | (simp (maxDischargeDepth := 20) [Arr2, go_sem, hA, hB]; first | done | omega))
          (first
            | (go_at_call 15; have _u := hDa; refine (rlong_unt _ _ (by first | exact hs1.out | exact hs2.out) _).mono ?_; rintro e V2 ⟨gb, rfl, hgb, hDb, hb1⟩; replace hA := hA.keep hb1; replace hB := hB.keep hb1; replace hR := hR.keep hb1; replace hDa := hDa.keep hb1; replace hb := hb.trans hb1; clear hb1 hgb _u)
            | (go_at_call 15; refine (rlong_unt _ _ (by first | exact hs1.out | exact hs2.out) _).mono ?_; rintro e V1 ⟨ga, rfl, hga, hDa, hb1⟩; replace hA := hA.keep hb1; replace hB := hB.keep hb1; replace hR := hR.keep hb1; replace hb := hb.trans hb1; clear hb1 hga))
        go_wp2_with (go_at_call 14; refine (rless_any ga gb _ _ HU.out HV.out _ hDa hDb).mono ?_; rintro e V3 ⟨rfl, hb1⟩; rw [r1.out]; replace hA := hA.keep hb1; replace hB := hB.keep hb1; replace hR := hR.keep hb1; replace hDa := hDa.keep hb1; replace hDb := hDb.keep hb1; replace hb := hb.trans hb1; clear hb1)
        all_goals
          replace hA := hA.keep (Bel.refl _).drew; replace hB := hB.keep (Bel.refl _).drew; replace hR := hR.keep (Bel.refl _).drew; replace hDa := hDa.keep (Bel.refl _).drew; replace hDb := hDb.keep (Bel.refl _).drew; replace hb := hb.drew
          go_region_held3 (fun w' => Arr2 w' w.heap.size n s ∧ Arr2 w' (w.heap.size + 1) m t) (first | with_reducible exact ⟨hA, hB⟩ | (simp (maxDischargeDepth := 20) [Arr2, go_sem, hA, hB]; first | done | omega))
            (first
              | (go_at_call 24; refine (rminus_unt _ _ gb ga hle.out _ hDb hDa).mono ?_; rintro e V4 ⟨gc, rfl, hgc, hDc, hb1⟩; replace hA := hA.keep hb1; replace hB := hB.keep hb1; replace hR := hR.keep hb1; replace hb := hb.trans hb1; clear hb1 hgc hDa hDb)
              | (go_at_call 22; refine (rdec12 _ _ gc hZ.out _ hDc).mono ?_; rintro e V5 ⟨rfl, hb1⟩; rw [HD.out]; replace hA := hA.keep hb1; replace hB := hB.keep hb1; replace hR := hR.keep hb1; replace hb := hb.trans hb1; clear hb1 hDc))
          all_goals
            go_wp2
            refine bodyPost_ret (by simp [results, Tryz.results11, go_sem, hR]; try rfl) rfl ⟨by (rw [← hv.out]) <;> rfl, ?_⟩
            (repeat (first | with_reducible exact Bel.refl _ | with_reducible refine Bel.setCell ?_ (by first | exact Nat.le_refl _ | (dsimp only; omega)) _ | with_reducible refine Bel.alloc ?_ _ | with_reducible refine Bel.drew ?_ | with_reducible assumption | with_reducible refine Bel.trans ?_ (by assumption)))
      · have hv0 := addV_as h true ((unt n s).natAbs - (unt m t).natAbs) (by omega) (fun h0 => by symm; first | exact decide_eq_true (by omega) | exact decide_eq_false (by omega))
        obtain ⟨x1, x2, x3, hd⟩ := decV_sh2 true ((unt n s).natAbs - (unt m t).natAbs) 6
        have hZ := Lib.hid (show (unt n s).natAbs - (unt m t).natAbs ≤ 10 ^ 20 by omega)
        have HD := Lib.hid hd
        have hv := Lib.hid (hd.symm.trans hv0)
        have r1 := Lib.hid (show decide ((unt n s).natAbs * 10 ^ 6 < (unt m t).natAbs * 10 ^ 6) = false by simp; omega)
        have hle := Lib.hid (show (unt m t).natAbs ≤ (unt n s).natAbs by omega)
        clear q1
        clear hv0 hd h bu bv zu zv
        go_enter Tryz.func11, Tryz.ntmps11
        go_wp2_with fail
        refine under_call ((((Bel.refl w).alloc _).alloc _).alloc _) fun W hc hf hz hb => ?_
        have hA : Arr2 W w.heap.size n s := by simp [Arr2, hz, hc, hf, go_sem]
        have hB : Arr2 W (w.heap.size + 1) m t := by simp [Arr2, hz, hc, hf, go_sem]
        have hR : Sl2 W (w.heap.size + 1 + 1) 0 0 := by simp [Sl2, Arr2, Fr2, hz, hc, hf, go_sem]
        clear hc hf hz
        go_wp2_with (first
          | (go_at_call 8; with_reducible refine (c1.out _).mono ?_; rintro e W1 ⟨rfl, hb1⟩; rw [h1.out]; replace hA := hA.keep hb1; replace hB := hB.keep hb1; replace hR := hR.keep hb1; replace hb := hb.trans hb1; clear hb1)
          | (go_at_call 8; with_reducible refine (c2.out _).mono ?_; rintro e W2 ⟨rfl, hb1⟩; rw [h2.out]; replace hA := hA.keep hb1; replace hB := hB.keep hb1; replace hR := hR.keep hb1; replace hb := hb.trans hb1; clear hb1))
        replace hA := hA.keep (Bel.refl _).drew; replace hB := hB.keep (Bel.refl _).drew; replace hR := hR.keep (Bel.refl _).drew; replace hb := hb.drew
        go_region_held3 (fun w' => Arr2 w' w.heap.size n s ∧ Arr2 w' (w.heap.size + 1) m t) (first | with_reducible exact ⟨hA, hB⟩ | (simp (maxDischargeDepth := 20) [Arr2, go_sem, hA, hB]; first | done | omega))
          (first
            | (go_at_call 15; have _u := hDa; refine (rlong_unt _ _ (by first | exact hs1.out | exact hs2.out) _).mono ?_; rintro e V2 ⟨gb, rfl, hgb, hDb, hb1⟩; replace hA := hA.keep hb1; replace hB := hB.keep hb1; replace hR := hR.keep hb1; replace hDa := hDa.keep hb1; replace hb := hb.trans hb1; clear hb1 hgb _u)
            | (go_at_call 15; refine (rlong_unt _ _ (by first | exact hs1.out | exact hs2.out) _).mono ?_; rintro e V1 ⟨ga, rfl, hga, hDa, hb1⟩; replace hA := hA.keep hb1; replace hB := hB.keep hb1; replace hR := hR.keep hb1; replace hb := hb.trans hb1; clear hb1 hga))
        go_wp2_with (go_at_call 14; refine (rless_any ga gb _ _ HU.out HV.out _ hDa hDb).mono ?_; rintro e V3 ⟨rfl, hb1⟩; rw [r1.out]; replace hA := hA.keep hb1; replace hB := hB.keep hb1; replace hR := hR.keep hb1; replace hDa := hDa.keep hb1; replace hDb := hDb.keep hb1; replace hb := hb.trans hb1; clear hb1)
        all_goals
          replace hA := hA.keep (Bel.refl _).drew; replace hB := hB.keep (Bel.refl _).drew; replace hR := hR.keep (Bel.refl _).drew; replace hDa := hDa.keep (Bel.refl _).drew; replace hDb := hDb.keep (Bel.refl _).drew; replace hb := hb.drew
          go_region_held3 (fun w' => Arr2 w' w.heap.size n s ∧ Arr2 w' (w.heap.size + 1) m t) (first | with_reducible exact ⟨hA, hB⟩ | (simp (maxDischargeDepth := 20) [Arr2, go_sem, hA, hB]; first | done | omega))
            (first
              | (go_at_call 24; refine (rminus_unt _ _ ga gb hle.out _ hDa hDb).mono ?_; rintro e V4 ⟨gc, rfl, hgc, hDc, hb1⟩; replace hA := hA.keep hb1; replace hB := hB.keep hb1; replace hR := hR.keep hb1; replace hb := hb.trans hb1; clear hb1 hgc hDa hDb)
              | (go_at_call 22; refine (rdec12 _ _ gc hZ.out _ hDc).mono ?_; rintro e V5 ⟨rfl, hb1⟩; rw [HD.out]; replace hA := hA.keep hb1; replace hB := hB.keep hb1; replace hR := hR.keep hb1; replace hb := hb.trans hb1; clear hb1 hDc))
          all_goals
            go_wp2
            refine bodyPost_ret (by simp [results, Tryz.results11, go_sem, hR]; try rfl) rfl ⟨by (rw [← hv.out]) <;> rfl, ?_⟩
            (repeat (first | with_reducible exact Bel.refl _ | with_reducible refine Bel.setCell ?_ (by first | exact Nat.le_refl _ | (dsimp only; omega)) _ | with_reducible refine Bel.alloc ?_ _ | with_reducible refine Bel.drew ?_ | with_reducible assumption | with_reducible refine Bel.trans ?_ (by assumption)))
  · by_cases hm : m < 0
    · have hn' : 0 ≤ n := by omega
      have hnd : decide (n < 0) = false := by simp; omega
      by_cases q1 : (unt n s).natAbs < (unt m t).natAbs
      · have hv0 := addV_as h true ((unt m t).natAbs - (unt n s).natAbs) (by omega) (fun h0 => by symm; first | exact decide_eq_true (by omega) | exact decide_eq_false (by omega))
        obtain ⟨x1, x2, x3, hd⟩ := decV_sh2 true ((unt m t).natAbs - (unt n s).natAbs) 6
        have hZ := Lib.hid (show (unt m t).natAbs - (unt n s).natAbs ≤ 10 ^ 20 by omega)
        have HD := Lib.hid hd
        have hv := Lib.hid (hd.symm.trans hv0)
        have r1 := Lib.hid (show decide ((unt n s).natAbs * 10 ^ 6 < (unt m t).natAbs * 10 ^ 6) = true by simp; omega)
        have hle := Lib.hid (show (unt n s).natAbs ≤ (unt m t).natAbs by omega)
        clear q1
        clear hv0 hd h bu bv zu zv
        go_enter Tryz.func11, Tryz.ntmps11
        go_wp2_with fail
        refine under_call ((((Bel.refl w).alloc _).alloc _).alloc _) fun W hc hf hz hb => ?_
        have hA : Arr2 W w.heap.size n s := by simp [Arr2, hz, hc, hf, go_sem]
        have hB : Arr2 W (w.heap.size + 1) m t := by simp [Arr2, hz, hc, hf, go_sem]
        have hR : Sl2 W (w.heap.size + 1 + 1) 0 0 := by simp [Sl2, Arr2, Fr2, hz, hc, hf, go_sem]
        clear hc hf hz
        go_wp2_with (first
          | (go_at_call 8; with_reducible refine (c1.out _).mono ?_; rintro e W1 ⟨rfl, hb1⟩; rw [h1.out]; replace hA := hA.keep hb1; replace hB := hB.keep hb1; replace hR := hR.keep hb1; replace hb := hb.trans hb1; clear hb1)
          | (go_at_call 8; with_reducible refine (c2.out _).mono ?_; rintro e W2 ⟨rfl, hb1⟩; rw [h2.out]; replace hA := hA.keep hb1; replace hB := hB.keep hb1; replace hR := hR.keep hb1; replace hb := hb.trans hb1; clear hb1))
        replace hA := hA.keep (Bel.refl _).drew; replace hB := hB.keep (Bel.refl _).drew; replace hR := hR.keep (Bel.refl _).drew; replace hb := hb.drew
        go_region_held3 (fun w' => Arr2 w' w.heap.size n s ∧ Arr2 w' (w.heap.size + 1) m t) (first | with_reducible exact ⟨hA, hB⟩ | (simp (maxDischargeDepth := 20) [Arr2, go_sem, hA, hB]; first | done | omega))
          (first
            | (go_at_call 15; have _u := hDa; refine (rlong_unt _ _ (by first | exact hs1.out | exact hs2.out) _).mono ?_; rintro e V2 ⟨gb, rfl, hgb, hDb, hb1⟩; replace hA := hA.keep hb1; replace hB := hB.keep hb1; replace hR := hR.keep hb1; replace hDa := hDa.keep hb1; replace hb := hb.trans hb1; clear hb1 hgb _u)
            | (go_at_call 15; refine (rlong_unt _ _ (by first | exact hs1.out | exact hs2.out) _).mono ?_; rintro e V1 ⟨ga, rfl, hga, hDa, hb1⟩; replace hA := hA.keep hb1; replace hB := hB.keep hb1; replace hR := hR.keep hb1; replace hb := hb.trans hb1; clear hb1 hga))
        go_wp2_with (go_at_call 14; refine (rless_any ga gb _ _ HU.out HV.out _ hDa hDb).mono ?_; rintro e V3 ⟨rfl, hb1⟩; rw [r1.out]; replace hA := hA.keep hb1; replace hB := hB.keep hb1; replace hR := hR.keep hb1; replace hDa := hDa.keep hb1; replace hDb := hDb.keep hb1; replace hb := hb.trans hb1; clear hb1)
        all_goals
          replace hA := hA.keep (Bel.refl _).drew; replace hB := hB.keep (Bel.refl _).drew; replace hR := hR.keep (Bel.refl _).drew; replace hDa := hDa.keep (Bel.refl _).drew; replace hDb := hDb.keep (Bel.refl _).drew; replace hb := hb.drew
          go_region_held3 (fun w' => Arr2 w' w.heap.size n s ∧ Arr2 w' (w.heap.size + 1) m t) (first | with_reducible exact ⟨hA, hB⟩ | (simp (maxDischargeDepth := 20) [Arr2, go_sem, hA, hB]; first | done | omega))
            (first
              | (go_at_call 24; refine (rminus_unt _ _ gb ga hle.out _ hDb hDa).mono ?_; rintro e V4 ⟨gc, rfl, hgc, hDc, hb1⟩; replace hA := hA.keep hb1; replace hB := hB.keep hb1; replace hR := hR.keep hb1; replace hb := hb.trans hb1; clear hb1 hgc hDa hDb)
              | (go_at_call 22; refine (rdec12 _ _ gc hZ.out _ hDc).mono ?_; rintro e V5 ⟨rfl, hb1⟩; rw [HD.out]; replace hA := hA.keep hb1; replace hB := hB.keep hb1; replace hR := hR.keep hb1; replace hb := hb.trans hb1; clear hb1 hDc))
          all_goals
            go_wp2
            refine bodyPost_ret (by simp [results, Tryz.results11, go_sem, hR]; try rfl) rfl ⟨by (rw [← hv.out]) <;> rfl, ?_⟩
            (repeat (first | with_reducible exact Bel.refl _ | with_reducible refine Bel.setCell ?_ (by first | exact Nat.le_refl _ | (dsimp only; omega)) _ | with_reducible refine Bel.alloc ?_ _ | with_reducible refine Bel.drew ?_ | with_reducible assumption | with_reducible refine Bel.trans ?_ (by assumption)))
      · have hv0 := addV_as h false ((unt n s).natAbs - (unt m t).natAbs) (by omega) (fun h0 => by symm; first | exact decide_eq_true (by omega) | exact decide_eq_false (by omega))
        obtain ⟨x1, x2, x3, hd⟩ := decV_sh2 false ((unt n s).natAbs - (unt m t).natAbs) 6
        have hZ := Lib.hid (show (unt n s).natAbs - (unt m t).natAbs ≤ 10 ^ 20 by omega)
        have HD := Lib.hid hd
        have hv := Lib.hid (hd.symm.trans hv0)
        have r1 := Lib.hid (show decide ((unt n s).natAbs * 10 ^ 6 < (unt m t).natAbs * 10 ^ 6) = false by simp; omega)
        have hle := Lib.hid (show (unt m t).natAbs ≤ (unt n s).natAbs by omega)
        clear q1
        clear hv0 hd h bu bv zu zv
        go_enter Tryz.func11, Tryz.ntmps11
        go_wp2_with fail
        refine under_call ((((Bel.refl w).alloc _).alloc _).alloc _) fun W hc hf hz hb => ?_
        have hA : Arr2 W w.heap.size n s := by simp [Arr2, hz, hc, hf, go_sem]
        have hB : Arr2 W (w.heap.size + 1) m t := by simp [Arr2, hz, hc, hf, go_sem]
        have hR : Sl2 W (w.heap.size + 1 + 1) 0 0 := by simp [Sl2, Arr2, Fr2, hz, hc, hf, go_sem]
        clear hc hf hz
        go_wp2_with (first
          | (go_at_call 8; with_reducible refine (c1.out _).mono ?_; rintro e W1 ⟨rfl, hb1⟩; rw [h1.out]; replace hA := hA.keep hb1; replace hB := hB.keep hb1; replace hR := hR.keep hb1; replace hb := hb.trans hb1; clear hb1)
          | (go_at_call 8; with_reducible refine (c2.out _).mono ?_; rintro e W2 ⟨rfl, hb1⟩; rw [h2.out]; replace hA := hA.keep hb1; replace hB := hB.keep hb1; replace hR := hR.keep hb1; replace hb := hb.trans hb1; clear hb1))
        replace hA := hA.keep (Bel.refl _).drew; replace hB := hB.keep (Bel.refl _).drew; replace hR := hR.keep (Bel.refl _).drew; replace hb := hb.drew
        go_region_held3 (fun w' => Arr2 w' w.heap.size n s ∧ Arr2 w' (w.heap.size + 1) m t) (first | with_reducible exact ⟨hA, hB⟩ | (simp (maxDischargeDepth := 20) [Arr2, go_sem, hA, hB]; first | done | omega))
          (first
            | (go_at_call 15; have _u := hDa; refine (rlong_unt _ _ (by first | exact hs1.out | exact hs2.out) _).mono ?_; rintro e V2 ⟨gb, rfl, hgb, hDb, hb1⟩; replace hA := hA.keep hb1; replace hB := hB.keep hb1; replace hR := hR.keep hb1; replace hDa := hDa.keep hb1; replace hb := hb.trans hb1; clear hb1 hgb _u)
            | (go_at_call 15; refine (rlong_unt _ _ (by first | exact hs1.out | exact hs2.out) _).mono ?_; rintro e V1 ⟨ga, rfl, hga, hDa, hb1⟩; replace hA := hA.keep hb1; replace hB := hB.keep hb1; replace hR := hR.keep hb1; replace hb := hb.trans hb1; clear hb1 hga))
        go_wp2_with (go_at_call 14; refine (rless_any ga gb _ _ HU.out HV.out _ hDa hDb).mono ?_; rintro e V3 ⟨rfl, hb1⟩; rw [r1.out]; replace hA := hA.keep hb1; replace hB := hB.keep hb1; replace hR := hR.keep hb1; replace hDa := hDa.keep hb1; replace hDb := hDb.keep hb1; replace hb := hb.trans hb1; clear hb1)
        all_goals
          replace hA := hA.keep (Bel.refl _).drew; replace hB := hB.keep (Bel.refl _).drew; replace hR := hR.keep (Bel.refl _).drew; replace hDa := hDa.keep (Bel.refl _).drew; replace hDb := hDb.keep (Bel.refl _).drew; replace hb := hb.drew
          go_region_held3 (fun w' => Arr2 w' w.heap.size n s ∧ Arr2 w' (w.heap.size + 1) m t) (first | with_reducible exact ⟨hA, hB⟩ | (simp (maxDischargeDepth := 20) [Arr2, go_sem, hA, hB]; first | done | omega))
            (first
              | (go_at_call 24; refine (rminus_unt _ _ ga gb hle.out _ hDa hDb).mono ?_; rintro e V4 ⟨gc, rfl, hgc, hDc, hb1⟩; replace hA := hA.keep hb1; replace hB := hB.keep hb1; replace hR := hR.keep hb1; replace hb := hb.trans hb1; clear hb1 hgc hDa hDb)
              | (go_at_call 22; refine (rdec12 _ _ gc hZ.out _ hDc).mono ?_; rintro e V5 ⟨rfl, hb1⟩; rw [HD.out]; replace hA := hA.keep hb1; replace hB := hB.keep hb1; replace hR := hR.keep hb1; replace hb := hb.trans hb1; clear hb1 hDc))
          all_goals
            go_wp2
            refine bodyPost_ret (by simp [results, Tryz.results11, go_sem, hR]; try rfl) rfl ⟨by (rw [← hv.out]) <;> rfl, ?_⟩
            (repeat (first | with_reducible exact Bel.refl _ | with_reducible refine Bel.setCell ?_ (by first | exact Nat.le_refl _ | (dsimp only; omega)) _ | with_reducible refine Bel.alloc ?_ _ | with_reducible refine Bel.drew ?_ | with_reducible assumption | with_reducible refine Bel.trans ?_ (by assumption)))
    · have hm' : 0 ≤ m := by omega
      have hmd : decide (m < 0) = false := by simp; omega
      have hn' : 0 ≤ n := by omega
      have hnd : decide (n < 0) = false := by simp; omega
      have hv0 := addV_as h false ((unt n s).natAbs + (unt m t).natAbs) (by omega) (fun h0 => by symm; first | exact decide_eq_true (by omega) | exact decide_eq_false (by omega))
      obtain ⟨x1, x2, x3, hd⟩ := decV_sh2 false ((unt n s).natAbs + (unt m t).natAbs) 6
      have hZ := Lib.hid (show (unt n s).natAbs + (unt m t).natAbs ≤ 10 ^ 20 by omega)
      have HD := Lib.hid hd
      have hv := Lib.hid (hd.symm.trans hv0)
      clear hv0 hd h bu bv zu zv
      go_enter Tryz.func11, Tryz.ntmps11
      go_wp2_with fail
      refine under_call ((((Bel.refl w).alloc _).alloc _).alloc _) fun W hc hf hz hb => ?_
      have hA : Arr2 W w.heap.size n s := by simp [Arr2, hz, hc, hf, go_sem]
      have hB : Arr2 W (w.heap.size + 1) m t := by simp [Arr2, hz, hc, hf, go_sem]
      have hR : Sl2 W (w.heap.size + 1 + 1) 0 0 := by simp [Sl2, Arr2, Fr2, hz, hc, hf, go_sem]
      clear hc hf hz
      go_wp2_with (first
        | (go_at_call 8; with_reducible refine (c1.out _).mono ?_; rintro e W1 ⟨rfl, hb1⟩; rw [h1.out]; replace hA := hA.keep hb1; replace hB := hB.keep hb1; replace hR := hR.keep hb1; replace hb := hb.trans hb1; clear hb1)
        | (go_at_call 8; with_reducible refine (c2.out _).mono ?_; rintro e W2 ⟨rfl, hb1⟩; rw [h2.out]; replace hA := hA.keep hb1; replace hB := hB.keep hb1; replace hR := hR.keep hb1; replace hb := hb.trans hb1; clear hb1))
      replace hA := hA.keep (Bel.refl _).drew; replace hB := hB.keep (Bel.refl _).drew; replace hR := hR.keep (Bel.refl _).drew; replace hb := hb.drew
      go_region_held3 (fun w' => Arr2 w' w.heap.size n s ∧ Arr2 w' (w.heap.size + 1) m t) (first | with_reducible exact ⟨hA, hB⟩ | (simp (maxDischargeDepth := 20) [Arr2, go_sem, hA, hB]; first | done | omega))
        (first
          | (go_at_call 15; have _u := hDa; refine (rlong_unt _ _ (by first | exact hs1.out | exact hs2.out) _).mono ?_; rintro e V2 ⟨gb, rfl, hgb, hDb, hb1⟩; replace hA := hA.keep hb1; replace hB := hB.keep hb1; replace hR := hR.keep hb1; replace hDa := hDa.keep hb1; replace hb := hb.trans hb1; clear hb1 hgb _u)
          | (go_at_call 15; refine (rlong_unt _ _ (by first | exact hs1.out | exact hs2.out) _).mono ?_; rintro e V1 ⟨ga, rfl, hga, hDa, hb1⟩; replace hA := hA.keep hb1; replace hB := hB.keep hb1; replace hR := hR.keep hb1; replace hb := hb.trans hb1; clear hb1 hga))
      go_wp2
      replace hA := hA.keep (Bel.refl _).drew; replace hB := hB.keep (Bel.refl _).drew; replace hR := hR.keep (Bel.refl _).drew; replace hDa := hDa.keep (Bel.refl _).drew; replace hDb := hDb.keep (Bel.refl _).drew; replace hb := hb.drew
      go_region_held3 (fun w' => Arr2 w' w.heap.size n s ∧ Arr2 w' (w.heap.size + 1) m t) (first | with_reducible exact ⟨hA, hB⟩ | (simp (maxDischargeDepth := 20) [Arr2, go_sem, hA, hB]; first | done | omega))
        (first
          | (go_at_call 23; refine (rplus_unt _ _ ga gb _ hDa hDb).mono ?_; rintro e V4 ⟨gc, rfl, hgc, hDc, hb1⟩; replace hA := hA.keep hb1; replace hB := hB.keep hb1; replace hR := hR.keep hb1; replace hb := hb.trans hb1; clear hb1 hgc hDa hDb)
          | (go_at_call 22; refine (rdec12 _ _ gc hZ.out _ hDc).mono ?_; rintro e V5 ⟨rfl, hb1⟩; rw [HD.out]; replace hA := hA.keep hb1; replace hB := hB.keep hb1; replace hR := hR.keep hb1; replace hb := hb.trans hb1; clear hb1 hDc))
      all_goals
        go_wp2
        refine bodyPost_ret (by simp [results, Tryz.results11, go_sem, hR]; try rfl) rfl ⟨by (rw [← hv.out]) <;> rfl, ?_⟩
        (repeat (first | with_reducible exact Bel.refl _ | with_reducible refine Bel.setCell ?_ (by first | exact Nat.le_refl _ | (dsimp only; omega)) _ | with_reducible refine Bel.alloc ?_ _ | with_reducible refine Bel.drew ?_ | with_reducible assumption | with_reducible refine Bel.trans ?_ (by assumption)))
theorem radd_any (n s m t : Int) (w : World) : Calls Tryz.prog 11 #[decA n s, decA m t] w fun e w' => e = .returned (addV n s m t) ∧ Bel w w' := by
  by_cases h : SndD n s ∧ SndD m t
  · exact radd_good n s m t h w
  · exact radd_bad n s m t h w
end Go.Proofs.YtcknjhgolajclaaGreatDoor
