import Derived.Test.YtcknjhgolajclaaGreatDoorDha
import Derived.Test.YtcknjhgolajclaaGreatDoorDfc
import Derived.Test.YtcknjhgolajclaaGreatDoorDet
import Derived.Deep.RegionHeld3
namespace Go.Proofs.YtcknjhgolajclaaGreatDoor
set_option linter.unusedSimpArgs false
set_option linter.unusedVariables false
open Go.RowKit

/-! Deci: the document's comparison. -/
theorem unt_abs (n s : Int) : (unt n s).natAbs = n.natAbs * P10 (6 - s).toNat := by
  unfold unt
  rw [Int.natAbs_mul]; rfl
theorem unt_sign (n s : Int) : (unt n s < 0 ↔ n < 0) ∧ (unt n s = 0 ↔ n = 0) := by
  have hp := P10_pos (6 - s).toNat
  unfold unt
  generalize P10 (6 - s).toNat = p at *
  constructor
  · constructor
    · intro h
      rcases Int.lt_or_le n 0 with h1 | h1
      · exact h1
      · have := Int.mul_nonneg h1 (show (0 : Int) ≤ p by omega); omega
    · intro h
      exact Int.mul_neg_of_neg_of_pos h (by omega)
  · rw [Int.mul_eq_zero]; omega
theorem lv_unt {n s : Int} (h : SndD n s) : lv n s.toNat = (unt n s).natAbs * 10 ^ 6 := by
  obtain ⟨h1, h2, -, -⟩ := h
  rw [unt_abs, lv, show 12 - s.toNat = (6 - s).toNat + 6 by omega, Nat.pow_add, ← Nat.mul_assoc]
  rfl
theorem unt_lt {n s : Int} (h : SndD n s) : (unt n s).natAbs ≤ 1000000000000000000 := by
  have := unt_bd n s h; omega
theorem rlong_unt (n s : Int) (h : SndD n s) (w : World) : Calls Tryz.prog 15 #[.agg #[.int .i64 n, .int .i64 s]] w (LongOut ((unt n s).natAbs * 10 ^ 6) w) := by
  rw [← lv_unt h]; exact rlong_any n s h w
theorem sgn_abs {u v : Int} : (u < 0 → 0 ≤ v → sgn u v = -1) ∧ (0 ≤ u → v < 0 → sgn u v = 1) ∧ (0 ≤ u → 0 ≤ v → u.natAbs < v.natAbs → sgn u v = -1) ∧ (0 ≤ u → 0 ≤ v → v.natAbs < u.natAbs → sgn u v = 1) ∧
    (u < 0 → v < 0 → u.natAbs < v.natAbs → sgn u v = 1) ∧ (u < 0 → v < 0 → v.natAbs < u.natAbs → sgn u v = -1) ∧ ((u < 0 ↔ v < 0) → u.natAbs = v.natAbs → sgn u v = 0) := by
  unfold sgn
  refine ⟨fun _ _ => ?_, fun _ _ => ?_, fun _ _ _ => ?_, fun _ _ _ => ?_, fun _ _ _ => ?_, fun _ _ _ => ?_, fun _ _ => ?_⟩
  · rw [if_pos (by omega)]
  · rw [if_neg (by omega), if_pos (by omega)]
  · rw [if_pos (by omega)]
  · rw [if_neg (by omega), if_pos (by omega)]
  · rw [if_neg (by omega), if_pos (by omega)]
  · rw [if_pos (by omega)]
  · rw [if_neg (by omega), if_neg (by omega)]
set_option maxRecDepth 100000 in
set_option maxHeartbeats 4000000 in
theorem rcmp_bad (n s m t : Int) (h : ¬ (SndD n s ∧ SndD m t)) (w : World) : Calls Tryz.prog 6 #[decA n s, decA m t] w fun e w' => e = .returned (cmpV n s m t) ∧ Bel w w' := by
  have hv : Hid (cmpV n s m t = .tuple #[.int .i64 0, .int .i64 2]) := if_neg h
  have hs := snd_and h
  have c1 := Lib.hid fun w => rsound_any n s w
  have c2 := Lib.hid fun w => rsound_any m t w
  clear h
  cases h1 : sndB n s with
  | false =>
    have h1 := Lib.hid h1
    clear hs
    go_enter Tryz.func6, Tryz.ntmps6
    go_wp2_with fail
    refine under_call (((Bel.refl w).alloc _).alloc _) fun W hc hf hz hb => ?_
    have hA : Arr2 W w.heap.size n s := by simp [Arr2, hz, hc, hf, go_sem]
    clear hc hf hz
    go_wp2_with (go_at_call 8; refine (c1.out _).mono ?_; rintro e W1 ⟨rfl, hb1⟩; rw [h1.out]; replace hb := hb.trans hb1; clear hb1)
    go_ret2
    exact ⟨by (rw [hv.out]) <;> rfl, hb⟩
  | true =>
    have h2 := Lib.hid (show sndB m t = false by rw [h1] at hs; simpa using hs)
    have h1 := Lib.hid h1
    clear hs
    go_enter Tryz.func6, Tryz.ntmps6
    go_wp2_with fail
    refine under_call (((Bel.refl w).alloc _).alloc _) fun W hc hf hz hb => ?_
    have hA : Arr2 W w.heap.size n s := by simp [Arr2, hz, hc, hf, go_sem]
    have hB : Arr2 W (w.heap.size + 1) m t := by simp [Arr2, hz, hc, hf, go_sem]
    clear hc hf hz
    go_wp2_with (first
      | (go_at_call_of 8 (Value.agg #[Value.int .i64 n, Value.int .i64 s]); refine (c1.out _).mono ?_; rintro e W1 ⟨rfl, hb1⟩; rw [h1.out]; replace hB := hB.keep hb1; replace hb := hb.trans hb1; clear hb1 hA)
      | (go_at_call_of 8 (Value.agg #[Value.int .i64 m, Value.int .i64 t]); refine (c2.out _).mono ?_; rintro e W2 ⟨rfl, hb1⟩; rw [h2.out]; replace hb := hb.trans hb1; clear hb1))
    go_ret2
    exact ⟨by (rw [hv.out]) <;> rfl, hb⟩
set_option maxRecDepth 100000 in
set_option maxHeartbeats 16000000 in
theorem rcmp_good (n s m t : Int) (h : SndD n s ∧ SndD m t) (w : World) : Calls Tryz.prog 6 #[decA n s, decA m t] w fun e w' => e = .returned (cmpV n s m t) ∧ Bel w w' := by
  have hv : Hid (cmpV n s m t = .tuple #[.int .i64 (sgn (unt n s) (unt m t)), .int .i64 0]) := if_pos h
  have c1 := Lib.hid fun w => rsound_any n s w
  have c2 := Lib.hid fun w => rsound_any m t w
  have h1 := Lib.hid (sndB_t h.1)
  have h2 := Lib.hid (sndB_t h.2)
  have la := Lib.hid fun w => rlong_unt n s h.1 w
  have lb := Lib.hid fun w => rlong_unt m t h.2 w
  have HU := Lib.hid (show (unt n s).natAbs * 10 ^ 6 < 10 ^ 60 by have := unt_lt h.1; omega)
  have HV := Lib.hid (show (unt m t).natAbs * 10 ^ 6 < 10 ^ 60 by have := unt_lt h.2; omega)
  have hs1 := Lib.hid h.1
  have hs2 := Lib.hid h.2
  have SG := sgn_abs (u := unt n s) (v := unt m t)
  have zu := (unt_sign n s).1
  have zv := (unt_sign m t).1
  obtain ⟨⟨-, -, ⟨b1, b2⟩, -⟩, -, -, ⟨b3, b4⟩, -⟩ := h
  by_cases hn : n < 0
  · by_cases hm : m < 0
    · have key : True := trivial
      by_cases q1 : (unt n s).natAbs < (unt m t).natAbs
      · have L := Lib.hid (SG.2.2.2.2.1 (zu.2 (by omega)) (zv.2 (by omega)) q1)
        have r1 := Lib.hid (show decide ((unt n s).natAbs * 10 ^ 6 < (unt m t).natAbs * 10 ^ 6) = true by simp; omega)
        clear q1 zu zv SG
        go_enter Tryz.func6, Tryz.ntmps6
        go_wp2_with fail
        refine under_call (((Bel.refl w).alloc _).alloc _) fun W hc hf hz hb => ?_
        have hA : Arr2 W w.heap.size n s := by simp [Arr2, hz, hc, hf, go_sem]
        have hB : Arr2 W (w.heap.size + 1) m t := by simp [Arr2, hz, hc, hf, go_sem]
        clear hc hf hz
        go_wp2_with (first
          | (go_at_call_of 8 (Value.agg #[Value.int .i64 n, Value.int .i64 s]); refine (c1.out _).mono ?_; rintro e W1 ⟨rfl, hb1⟩; rw [h1.out]; replace hA := hA.keep hb1; replace hB := hB.keep hb1; replace hb := hb.trans hb1; clear hb1)
          | (go_at_call_of 8 (Value.agg #[Value.int .i64 m, Value.int .i64 t]); refine (c2.out _).mono ?_; rintro e W2 ⟨rfl, hb1⟩; rw [h2.out]; replace hA := hA.keep hb1; replace hB := hB.keep hb1; replace hb := hb.trans hb1; clear hb1))
        replace hA := hA.keep (Bel.refl _).drew; replace hB := hB.keep (Bel.refl _).drew; replace hb := hb.drew
        go_region_held3 (fun w' => Arr2 w' w.heap.size n s ∧ Arr2 w' (w.heap.size + 1) m t) (first | with_reducible exact ⟨hA, hB⟩ | (simp (maxDischargeDepth := 20) [Arr2, go_sem, hA, hB]; first | done | omega))
          (first
            | (go_at_call 15; have _u := hDa; refine (rlong_unt _ _ (by first | exact hs1.out | exact hs2.out) _).mono ?_; rintro e V2 ⟨gb, rfl, hgb, hDb, hb1⟩; replace hA := hA.keep hb1; replace hB := hB.keep hb1; replace hDa := hDa.keep hb1; replace hb := hb.trans hb1; clear hb1 hgb _u)
            | (go_at_call 15; refine (rlong_unt _ _ (by first | exact hs1.out | exact hs2.out) _).mono ?_; rintro e V1 ⟨ga, rfl, hga, hDa, hb1⟩; replace hA := hA.keep hb1; replace hB := hB.keep hb1; replace hb := hb.trans hb1; clear hb1 hga)
            | (go_at_call 14; refine (rless_any ga gb _ _ HU.out HV.out _ hDa hDb).mono ?_; rintro e V3 ⟨rfl, hb1⟩; rw [r1.out]; replace hA := hA.keep hb1; replace hB := hB.keep hb1; replace hb := hb.trans hb1; clear hb1 hDa hDb))
        go_wp2
        go_ret2
        exact ⟨by (rw [hv.out, L.out]) <;> rfl, hb⟩
      · have r1 := Lib.hid (show decide ((unt n s).natAbs * 10 ^ 6 < (unt m t).natAbs * 10 ^ 6) = false by simp; omega)
        by_cases q2 : (unt m t).natAbs < (unt n s).natAbs
        · have L := Lib.hid (SG.2.2.2.2.2.1 (zu.2 (by omega)) (zv.2 (by omega)) q2)
          have r2 := Lib.hid (show decide ((unt m t).natAbs * 10 ^ 6 < (unt n s).natAbs * 10 ^ 6) = true by simp; omega)
          clear q1 q2 zu zv SG
          go_enter Tryz.func6, Tryz.ntmps6
          go_wp2_with fail
          refine under_call (((Bel.refl w).alloc _).alloc _) fun W hc hf hz hb => ?_
          have hA : Arr2 W w.heap.size n s := by simp [Arr2, hz, hc, hf, go_sem]
          have hB : Arr2 W (w.heap.size + 1) m t := by simp [Arr2, hz, hc, hf, go_sem]
          clear hc hf hz
          go_wp2_with (first
            | (go_at_call_of 8 (Value.agg #[Value.int .i64 n, Value.int .i64 s]); refine (c1.out _).mono ?_; rintro e W1 ⟨rfl, hb1⟩; rw [h1.out]; replace hA := hA.keep hb1; replace hB := hB.keep hb1; replace hb := hb.trans hb1; clear hb1)
            | (go_at_call_of 8 (Value.agg #[Value.int .i64 m, Value.int .i64 t]); refine (c2.out _).mono ?_; rintro e W2 ⟨rfl, hb1⟩; rw [h2.out]; replace hA := hA.keep hb1; replace hB := hB.keep hb1; replace hb := hb.trans hb1; clear hb1))
          replace hA := hA.keep (Bel.refl _).drew; replace hB := hB.keep (Bel.refl _).drew; replace hb := hb.drew
          go_region_held3 (fun w' => Arr2 w' w.heap.size n s ∧ Arr2 w' (w.heap.size + 1) m t) (first | with_reducible exact ⟨hA, hB⟩ | (simp (maxDischargeDepth := 20) [Arr2, go_sem, hA, hB]; first | done | omega))
            (first
              | (go_at_call 15; have _u := hDa; refine (rlong_unt _ _ (by first | exact hs1.out | exact hs2.out) _).mono ?_; rintro e V2 ⟨gb, rfl, hgb, hDb, hb1⟩; replace hA := hA.keep hb1; replace hB := hB.keep hb1; replace hDa := hDa.keep hb1; replace hb := hb.trans hb1; clear hb1 hgb _u)
              | (go_at_call 15; refine (rlong_unt _ _ (by first | exact hs1.out | exact hs2.out) _).mono ?_; rintro e V1 ⟨ga, rfl, hga, hDa, hb1⟩; replace hA := hA.keep hb1; replace hB := hB.keep hb1; replace hb := hb.trans hb1; clear hb1 hga)
              | (go_at_call 14; refine (rless_any ga gb _ _ HU.out HV.out _ hDa hDb).mono ?_; rintro e V3 ⟨rfl, hb1⟩; rw [r1.out]; replace hA := hA.keep hb1; replace hB := hB.keep hb1; replace hb := hb.trans hb1; clear hb1 hDa hDb))
          go_wp2
          replace hA := hA.keep (Bel.refl _).drew; replace hB := hB.keep (Bel.refl _).drew; replace hb := hb.drew
          go_region_held3 (fun w' => Arr2 w' w.heap.size n s ∧ Arr2 w' (w.heap.size + 1) m t) (first | with_reducible exact ⟨hA, hB⟩ | (simp (maxDischargeDepth := 20) [Arr2, go_sem, hA, hB]; first | done | omega))
            (first
              | (go_at_call 15; have _u := hDa; refine (rlong_unt _ _ (by first | exact hs1.out | exact hs2.out) _).mono ?_; rintro e V2 ⟨gb, rfl, hgb, hDb, hb1⟩; replace hA := hA.keep hb1; replace hB := hB.keep hb1; replace hDa := hDa.keep hb1; replace hb := hb.trans hb1; clear hb1 hgb _u)
              | (go_at_call 15; refine (rlong_unt _ _ (by first | exact hs1.out | exact hs2.out) _).mono ?_; rintro e V1 ⟨ga, rfl, hga, hDa, hb1⟩; replace hA := hA.keep hb1; replace hB := hB.keep hb1; replace hb := hb.trans hb1; clear hb1 hga)
              | (go_at_call 14; refine (rless_any ga gb _ _ HV.out HU.out _ hDa hDb).mono ?_; rintro e V3 ⟨rfl, hb1⟩; rw [r2.out]; replace hA := hA.keep hb1; replace hB := hB.keep hb1; replace hb := hb.trans hb1; clear hb1 hDa hDb))
          go_wp2
          go_ret2
          exact ⟨by (rw [hv.out, L.out]) <;> rfl, hb⟩
        · have L := Lib.hid (SG.2.2.2.2.2.2 (by omega) (by omega))
          have r2 := Lib.hid (show decide ((unt m t).natAbs * 10 ^ 6 < (unt n s).natAbs * 10 ^ 6) = false by simp; omega)
          clear q1 q2 zu zv SG
          go_enter Tryz.func6, Tryz.ntmps6
          go_wp2_with fail
          refine under_call (((Bel.refl w).alloc _).alloc _) fun W hc hf hz hb => ?_
          have hA : Arr2 W w.heap.size n s := by simp [Arr2, hz, hc, hf, go_sem]
          have hB : Arr2 W (w.heap.size + 1) m t := by simp [Arr2, hz, hc, hf, go_sem]
          clear hc hf hz
          go_wp2_with (first
            | (go_at_call_of 8 (Value.agg #[Value.int .i64 n, Value.int .i64 s]); refine (c1.out _).mono ?_; rintro e W1 ⟨rfl, hb1⟩; rw [h1.out]; replace hA := hA.keep hb1; replace hB := hB.keep hb1; replace hb := hb.trans hb1; clear hb1)
            | (go_at_call_of 8 (Value.agg #[Value.int .i64 m, Value.int .i64 t]); refine (c2.out _).mono ?_; rintro e W2 ⟨rfl, hb1⟩; rw [h2.out]; replace hA := hA.keep hb1; replace hB := hB.keep hb1; replace hb := hb.trans hb1; clear hb1))
          replace hA := hA.keep (Bel.refl _).drew; replace hB := hB.keep (Bel.refl _).drew; replace hb := hb.drew
          go_region_held3 (fun w' => Arr2 w' w.heap.size n s ∧ Arr2 w' (w.heap.size + 1) m t) (first | with_reducible exact ⟨hA, hB⟩ | (simp (maxDischargeDepth := 20) [Arr2, go_sem, hA, hB]; first | done | omega))
            (first
              | (go_at_call 15; have _u := hDa; refine (rlong_unt _ _ (by first | exact hs1.out | exact hs2.out) _).mono ?_; rintro e V2 ⟨gb, rfl, hgb, hDb, hb1⟩; replace hA := hA.keep hb1; replace hB := hB.keep hb1; replace hDa := hDa.keep hb1; replace hb := hb.trans hb1; clear hb1 hgb _u)
              | (go_at_call 15; refine (rlong_unt _ _ (by first | exact hs1.out | exact hs2.out) _).mono ?_; rintro e V1 ⟨ga, rfl, hga, hDa, hb1⟩; replace hA := hA.keep hb1; replace hB := hB.keep hb1; replace hb := hb.trans hb1; clear hb1 hga)
              | (go_at_call 14; refine (rless_any ga gb _ _ HU.out HV.out _ hDa hDb).mono ?_; rintro e V3 ⟨rfl, hb1⟩; rw [r1.out]; replace hA := hA.keep hb1; replace hB := hB.keep hb1; replace hb := hb.trans hb1; clear hb1 hDa hDb))
          go_wp2
          replace hA := hA.keep (Bel.refl _).drew; replace hB := hB.keep (Bel.refl _).drew; replace hb := hb.drew
          go_region_held3 (fun w' => Arr2 w' w.heap.size n s ∧ Arr2 w' (w.heap.size + 1) m t) (first | with_reducible exact ⟨hA, hB⟩ | (simp (maxDischargeDepth := 20) [Arr2, go_sem, hA, hB]; first | done | omega))
            (first
              | (go_at_call 15; have _u := hDa; refine (rlong_unt _ _ (by first | exact hs1.out | exact hs2.out) _).mono ?_; rintro e V2 ⟨gb, rfl, hgb, hDb, hb1⟩; replace hA := hA.keep hb1; replace hB := hB.keep hb1; replace hDa := hDa.keep hb1; replace hb := hb.trans hb1; clear hb1 hgb _u)
              | (go_at_call 15; refine (rlong_unt _ _ (by first | exact hs1.out | exact hs2.out) _).mono ?_; rintro e V1 ⟨ga, rfl, hga, hDa, hb1⟩; replace hA := hA.keep hb1; replace hB := hB.keep hb1; replace hb := hb.trans hb1; clear hb1 hga)
              | (go_at_call 14; refine (rless_any ga gb _ _ HV.out HU.out _ hDa hDb).mono ?_; rintro e V3 ⟨rfl, hb1⟩; rw [r2.out]; replace hA := hA.keep hb1; replace hB := hB.keep hb1; replace hb := hb.trans hb1; clear hb1 hDa hDb))
          go_wp2
          go_ret2
          exact ⟨by (rw [hv.out, L.out]) <;> rfl, hb⟩

    · have L := Lib.hid (SG.1 (zu.2 hn) (by omega))
      have hm' : 0 ≤ m := by omega
      clear hm zu zv SG
      go_enter Tryz.func6, Tryz.ntmps6
      go_wp2_with fail
      refine under_call (((Bel.refl w).alloc _).alloc _) fun W hc hf hz hb => ?_
      have hA : Arr2 W w.heap.size n s := by simp [Arr2, hz, hc, hf, go_sem]
      have hB : Arr2 W (w.heap.size + 1) m t := by simp [Arr2, hz, hc, hf, go_sem]
      clear hc hf hz
      go_wp2_with (first
        | (go_at_call_of 8 (Value.agg #[Value.int .i64 n, Value.int .i64 s]); refine (c1.out _).mono ?_; rintro e W1 ⟨rfl, hb1⟩; rw [h1.out]; replace hA := hA.keep hb1; replace hB := hB.keep hb1; replace hb := hb.trans hb1; clear hb1)
        | (go_at_call_of 8 (Value.agg #[Value.int .i64 m, Value.int .i64 t]); refine (c2.out _).mono ?_; rintro e W2 ⟨rfl, hb1⟩; rw [h2.out]; replace hA := hA.keep hb1; replace hB := hB.keep hb1; replace hb := hb.trans hb1; clear hb1))
      go_wp2
      go_ret2
      exact ⟨by (rw [hv.out, L.out]) <;> rfl, hb⟩

  · by_cases hm : m < 0
    · have L := Lib.hid (SG.2.1 (by omega) (zv.2 hm))
      have hn' : 0 ≤ n := by omega
      clear hn zu zv SG
      go_enter Tryz.func6, Tryz.ntmps6
      go_wp2_with fail
      refine under_call (((Bel.refl w).alloc _).alloc _) fun W hc hf hz hb => ?_
      have hA : Arr2 W w.heap.size n s := by simp [Arr2, hz, hc, hf, go_sem]
      have hB : Arr2 W (w.heap.size + 1) m t := by simp [Arr2, hz, hc, hf, go_sem]
      clear hc hf hz
      go_wp2_with (first
        | (go_at_call_of 8 (Value.agg #[Value.int .i64 n, Value.int .i64 s]); refine (c1.out _).mono ?_; rintro e W1 ⟨rfl, hb1⟩; rw [h1.out]; replace hA := hA.keep hb1; replace hB := hB.keep hb1; replace hb := hb.trans hb1; clear hb1)
        | (go_at_call_of 8 (Value.agg #[Value.int .i64 m, Value.int .i64 t]); refine (c2.out _).mono ?_; rintro e W2 ⟨rfl, hb1⟩; rw [h2.out]; replace hA := hA.keep hb1; replace hB := hB.keep hb1; replace hb := hb.trans hb1; clear hb1))
      go_wp2
      go_ret2
      exact ⟨by (rw [hv.out, L.out]) <;> rfl, hb⟩

    · have hm' : 0 ≤ m := by omega
      have hn' : 0 ≤ n := by omega
      by_cases q1 : (unt n s).natAbs < (unt m t).natAbs
      · have L := Lib.hid (SG.2.2.1 (by omega) (by omega) q1)
        have r1 := Lib.hid (show decide ((unt n s).natAbs * 10 ^ 6 < (unt m t).natAbs * 10 ^ 6) = true by simp; omega)
        clear q1 zu zv SG
        go_enter Tryz.func6, Tryz.ntmps6
        go_wp2_with fail
        refine under_call (((Bel.refl w).alloc _).alloc _) fun W hc hf hz hb => ?_
        have hA : Arr2 W w.heap.size n s := by simp [Arr2, hz, hc, hf, go_sem]
        have hB : Arr2 W (w.heap.size + 1) m t := by simp [Arr2, hz, hc, hf, go_sem]
        clear hc hf hz
        go_wp2_with (first
          | (go_at_call_of 8 (Value.agg #[Value.int .i64 n, Value.int .i64 s]); refine (c1.out _).mono ?_; rintro e W1 ⟨rfl, hb1⟩; rw [h1.out]; replace hA := hA.keep hb1; replace hB := hB.keep hb1; replace hb := hb.trans hb1; clear hb1)
          | (go_at_call_of 8 (Value.agg #[Value.int .i64 m, Value.int .i64 t]); refine (c2.out _).mono ?_; rintro e W2 ⟨rfl, hb1⟩; rw [h2.out]; replace hA := hA.keep hb1; replace hB := hB.keep hb1; replace hb := hb.trans hb1; clear hb1))
        replace hA := hA.keep (Bel.refl _).drew; replace hB := hB.keep (Bel.refl _).drew; replace hb := hb.drew
        go_region_held3 (fun w' => Arr2 w' w.heap.size n s ∧ Arr2 w' (w.heap.size + 1) m t) (first | with_reducible exact ⟨hA, hB⟩ | (simp (maxDischargeDepth := 20) [Arr2, go_sem, hA, hB]; first | done | omega))
          (first
            | (go_at_call 15; have _u := hDa; refine (rlong_unt _ _ (by first | exact hs1.out | exact hs2.out) _).mono ?_; rintro e V2 ⟨gb, rfl, hgb, hDb, hb1⟩; replace hA := hA.keep hb1; replace hB := hB.keep hb1; replace hDa := hDa.keep hb1; replace hb := hb.trans hb1; clear hb1 hgb _u)
            | (go_at_call 15; refine (rlong_unt _ _ (by first | exact hs1.out | exact hs2.out) _).mono ?_; rintro e V1 ⟨ga, rfl, hga, hDa, hb1⟩; replace hA := hA.keep hb1; replace hB := hB.keep hb1; replace hb := hb.trans hb1; clear hb1 hga)
            | (go_at_call 14; refine (rless_any ga gb _ _ HU.out HV.out _ hDa hDb).mono ?_; rintro e V3 ⟨rfl, hb1⟩; rw [r1.out]; replace hA := hA.keep hb1; replace hB := hB.keep hb1; replace hb := hb.trans hb1; clear hb1 hDa hDb))
        go_wp2
        go_ret2
        exact ⟨by (rw [hv.out, L.out]) <;> rfl, hb⟩
      · have r1 := Lib.hid (show decide ((unt n s).natAbs * 10 ^ 6 < (unt m t).natAbs * 10 ^ 6) = false by simp; omega)
        by_cases q2 : (unt m t).natAbs < (unt n s).natAbs
        · have L := Lib.hid (SG.2.2.2.1 (by omega) (by omega) q2)
          have r2 := Lib.hid (show decide ((unt m t).natAbs * 10 ^ 6 < (unt n s).natAbs * 10 ^ 6) = true by simp; omega)
          clear q1 q2 zu zv SG
          go_enter Tryz.func6, Tryz.ntmps6
          go_wp2_with fail
          refine under_call (((Bel.refl w).alloc _).alloc _) fun W hc hf hz hb => ?_
          have hA : Arr2 W w.heap.size n s := by simp [Arr2, hz, hc, hf, go_sem]
          have hB : Arr2 W (w.heap.size + 1) m t := by simp [Arr2, hz, hc, hf, go_sem]
          clear hc hf hz
          go_wp2_with (first
            | (go_at_call_of 8 (Value.agg #[Value.int .i64 n, Value.int .i64 s]); refine (c1.out _).mono ?_; rintro e W1 ⟨rfl, hb1⟩; rw [h1.out]; replace hA := hA.keep hb1; replace hB := hB.keep hb1; replace hb := hb.trans hb1; clear hb1)
            | (go_at_call_of 8 (Value.agg #[Value.int .i64 m, Value.int .i64 t]); refine (c2.out _).mono ?_; rintro e W2 ⟨rfl, hb1⟩; rw [h2.out]; replace hA := hA.keep hb1; replace hB := hB.keep hb1; replace hb := hb.trans hb1; clear hb1))
          replace hA := hA.keep (Bel.refl _).drew; replace hB := hB.keep (Bel.refl _).drew; replace hb := hb.drew
          go_region_held3 (fun w' => Arr2 w' w.heap.size n s ∧ Arr2 w' (w.heap.size + 1) m t) (first | with_reducible exact ⟨hA, hB⟩ | (simp (maxDischargeDepth := 20) [Arr2, go_sem, hA, hB]; first | done | omega))
            (first
              | (go_at_call 15; have _u := hDa; refine (rlong_unt _ _ (by first | exact hs1.out | exact hs2.out) _).mono ?_; rintro e V2 ⟨gb, rfl, hgb, hDb, hb1⟩; replace hA := hA.keep hb1; replace hB := hB.keep hb1; replace hDa := hDa.keep hb1; replace hb := hb.trans hb1; clear hb1 hgb _u)
              | (go_at_call 15; refine (rlong_unt _ _ (by first | exact hs1.out | exact hs2.out) _).mono ?_; rintro e V1 ⟨ga, rfl, hga, hDa, hb1⟩; replace hA := hA.keep hb1; replace hB := hB.keep hb1; replace hb := hb.trans hb1; clear hb1 hga)
              | (go_at_call 14; refine (rless_any ga gb _ _ HU.out HV.out _ hDa hDb).mono ?_; rintro e V3 ⟨rfl, hb1⟩; rw [r1.out]; replace hA := hA.keep hb1; replace hB := hB.keep hb1; replace hb := hb.trans hb1; clear hb1 hDa hDb))
          go_wp2
          replace hA := hA.keep (Bel.refl _).drew; replace hB := hB.keep (Bel.refl _).drew; replace hb := hb.drew
          go_region_held3 (fun w' => Arr2 w' w.heap.size n s ∧ Arr2 w' (w.heap.size + 1) m t) (first | with_reducible exact ⟨hA, hB⟩ | (simp (maxDischargeDepth := 20) [Arr2, go_sem, hA, hB]; first | done | omega))
            (first
              | (go_at_call 15; have _u := hDa; refine (rlong_unt _ _ (by first | exact hs1.out | exact hs2.out) _).mono ?_; rintro e V2 ⟨gb, rfl, hgb, hDb, hb1⟩; replace hA := hA.keep hb1; replace hB := hB.keep hb1; replace hDa := hDa.keep hb1; replace hb := hb.trans hb1; clear hb1 hgb _u)
              | (go_at_call 15; refine (rlong_unt _ _ (by first | exact hs1.out | exact hs2.out) _).mono ?_; rintro e V1 ⟨ga, rfl, hga, hDa, hb1⟩; replace hA := hA.keep hb1; replace hB := hB.keep hb1; replace hb := hb.trans hb1; clear hb1 hga)
              | (go_at_call 14; refine (rless_any ga gb _ _ HV.out HU.out _ hDa hDb).mono ?_; rintro e V3 ⟨rfl, hb1⟩; rw [r2.out]; replace hA := hA.keep hb1; replace hB := hB.keep hb1; replace hb := hb.trans hb1; clear hb1 hDa hDb))
          go_wp2
          go_ret2
          exact ⟨by (rw [hv.out, L.out]) <;> rfl, hb⟩
        · have L := Lib.hid (SG.2.2.2.2.2.2 (by omega) (by omega))
          have r2 := Lib.hid (show decide ((unt m t).natAbs * 10 ^ 6 < (unt n s).natAbs * 10 ^ 6) = false by simp; omega)
          clear q1 q2 zu zv SG
          go_enter Tryz.func6, Tryz.ntmps6
          go_wp2_with fail
          refine under_call (((Bel.refl w).alloc _).alloc _) fun W hc hf hz hb => ?_
          have hA : Arr2 W w.heap.size n s := by simp [Arr2, hz, hc, hf, go_sem]
          have hB : Arr2 W (w.heap.size + 1) m t := by simp [Arr2, hz, hc, hf, go_sem]
          clear hc hf hz
          go_wp2_with (first
            | (go_at_call_of 8 (Value.agg #[Value.int .i64 n, Value.int .i64 s]); refine (c1.out _).mono ?_; rintro e W1 ⟨rfl, hb1⟩; rw [h1.out]; replace hA := hA.keep hb1; replace hB := hB.keep hb1; replace hb := hb.trans hb1; clear hb1)
            | (go_at_call_of 8 (Value.agg #[Value.int .i64 m, Value.int .i64 t]); refine (c2.out _).mono ?_; rintro e W2 ⟨rfl, hb1⟩; rw [h2.out]; replace hA := hA.keep hb1; replace hB := hB.keep hb1; replace hb := hb.trans hb1; clear hb1))
          replace hA := hA.keep (Bel.refl _).drew; replace hB := hB.keep (Bel.refl _).drew; replace hb := hb.drew
          go_region_held3 (fun w' => Arr2 w' w.heap.size n s ∧ Arr2 w' (w.heap.size + 1) m t) (first | with_reducible exact ⟨hA, hB⟩ | (simp (maxDischargeDepth := 20) [Arr2, go_sem, hA, hB]; first | done | omega))
            (first
              | (go_at_call 15; have _u := hDa; refine (rlong_unt _ _ (by first | exact hs1.out | exact hs2.out) _).mono ?_; rintro e V2 ⟨gb, rfl, hgb, hDb, hb1⟩; replace hA := hA.keep hb1; replace hB := hB.keep hb1; replace hDa := hDa.keep hb1; replace hb := hb.trans hb1; clear hb1 hgb _u)
              | (go_at_call 15; refine (rlong_unt _ _ (by first | exact hs1.out | exact hs2.out) _).mono ?_; rintro e V1 ⟨ga, rfl, hga, hDa, hb1⟩; replace hA := hA.keep hb1; replace hB := hB.keep hb1; replace hb := hb.trans hb1; clear hb1 hga)
              | (go_at_call 14; refine (rless_any ga gb _ _ HU.out HV.out _ hDa hDb).mono ?_; rintro e V3 ⟨rfl, hb1⟩; rw [r1.out]; replace hA := hA.keep hb1; replace hB := hB.keep hb1; replace hb := hb.trans hb1; clear hb1 hDa hDb))
          go_wp2
          replace hA := hA.keep (Bel.refl _).drew; replace hB := hB.keep (Bel.refl _).drew; replace hb := hb.drew
          go_region_held3 (fun w' => Arr2 w' w.heap.size n s ∧ Arr2 w' (w.heap.size + 1) m t) (first | with_reducible exact ⟨hA, hB⟩ | (simp (maxDischargeDepth := 20) [Arr2, go_sem, hA, hB]; first | done | omega))
            (first
              | (go_at_call 15; have _u := hDa; refine (rlong_unt _ _ (by first | exact hs1.out | exact hs2.out) _).mono ?_; rintro e V2 ⟨gb, rfl, hgb, hDb, hb1⟩; replace hA := hA.keep hb1; replace hB := hB.keep hb1; replace hDa := hDa.keep hb1; replace hb := hb.trans hb1; clear hb1 hgb _u)
              | (go_at_call 15; refine (rlong_unt _ _ (by first | exact hs1.out | exact hs2.out) _).mono ?_; rintro e V1 ⟨ga, rfl, hga, hDa, hb1⟩; replace hA := hA.keep hb1; replace hB := hB.keep hb1; replace hb := hb.trans hb1; clear hb1 hga)
              | (go_at_call 14; refine (rless_any ga gb _ _ HV.out HU.out _ hDa hDb).mono ?_; rintro e V3 ⟨rfl, hb1⟩; rw [r2.out]; replace hA := hA.keep hb1; replace hB := hB.keep hb1; replace hb := hb.trans hb1; clear hb1 hDa hDb))
          go_wp2
          go_ret2
          exact ⟨by (rw [hv.out, L.out]) <;> rfl, hb⟩

theorem rcmp_any (n s m t : Int) (w : World) : Calls Tryz.prog 6 #[decA n s, decA m t] w fun e w' => e = .returned (cmpV n s m t) ∧ Bel w w' := by
  by_cases h : SndD n s ∧ SndD m t
  · exact rcmp_good n s m t h w
  · exact rcmp_bad n s m t h w
end Go.Proofs.YtcknjhgolajclaaGreatDoor
