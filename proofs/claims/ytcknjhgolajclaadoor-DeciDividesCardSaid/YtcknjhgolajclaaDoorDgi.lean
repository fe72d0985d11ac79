import Derived.Test.YtcknjhgolajclaaDoorDgh
import Derived.Test.YtcknjhgolajclaaDoorDeo
namespace Go.Proofs.YtcknjhgolajclaaDoor
set_option linter.unusedSimpArgs false
set_option linter.unusedVariables false
open Go.RowKit

/-! Deci: the document's quotient. -/
theorem divV_shp (n s m t : Int) : ∃ a b e, divV n s m t = .tuple #[decA a b, .int .i64 e] := by
  unfold divV
  split
  · split
    · exact ⟨_, _, _, rfl⟩
    · exact decV_sh _ _ _
  · exact ⟨_, _, _, rfl⟩
theorem rdec_div (n s m t : Int) (h : SndD n s ∧ SndD m t) (hm : m ≠ 0) (y : Bool) (hy : (decide (n < 0) != decide (m < 0)) = y) (X Y : Nat) (hX : X = n.natAbs) (hY : Y = m.natAbs) (g : Nat) (w : World) (hrow : DRow w g 0 60 (dg (sticky (X * 10 ^ 20) Y))) :
    Calls Tryd.prog 36 #[.slice (some ⟨g, 0, none⟩) 60 60, .int .i64 (20 + s - t), .bool y] w fun e w' => e = .returned (divV n s m t) ∧ Bel w w' := by
  have hs := h.1.1
  have hs6 := h.1.2.1
  have ht := h.2.1
  have ht6 := h.2.2.1
  have hx : X ≤ 999999999999 := by have := h.1.2.2.1.1; have := h.1.2.2.1.2; omega
  have hb : sticky (X * 10 ^ 20) Y < 10 ^ 50 := sticky_lt (by omega)
  have hd := rdec_any (sticky (X * 10 ^ 20) Y) (20 + s.toNat - t.toNat) y g hb (by omega) w hrow
  rw [show ((20 + s.toNat - t.toNat : Nat) : Int) = 20 + s - t by omega, rnd_sticky X Y s.toNat t.toNat (by omega) (by omega) (by omega), show min (20 + s.toNat - t.toNat) 6 = 6 by omega] at hd
  rw [show divV n s m t = _ from if_pos h, if_neg hm, hy, ← hX, ← hY, show (t + 6).toNat = t.toNat + 6 by omega]
  exact hd
set_option maxRecDepth 100000 in
set_option maxHeartbeats 8000000 in
theorem rdiv_good (n s m t : Int) (h : SndD n s ∧ SndD m t) (hm0 : m ≠ 0) (w : World) : Calls Tryd.prog 18 #[decA n s, decA m t] w fun e w' => e = .returned (divV n s m t) ∧ Bel w w' := by
  have c1 := Lib.hid fun w => rsound_any n s w
  have c2 := Lib.hid fun w => rsound_any m t w
  have h1 := Lib.hid (sndB_t h.1)
  have h2 := Lib.hid (sndB_t h.2)
  have hmk : ∀ w, (Instr.makeSlice 52 (.int .i64 60) (.int .i64 60)).run Tryd.prog w = .ok (.slice (some ⟨w.heap.size, 0, none⟩) 60 60) (w.alloc (.cells (madeCells #[.int .i64 0] 60) 3)) := make_row 60 (by omega)
  have HS := Lib.hid h
  have hx : n.natAbs ≤ 999999999999 := by have := h.1.2.2.1.1; have := h.1.2.2.1.2; omega
  have hy : m.natAbs ≤ 999999999999 := by have := h.2.2.2.1.1; have := h.2.2.2.1.2; omega
  have sz1 := Lib.hid fun w => rsize_any n h.1.2.2.1 w
  have sz2 := Lib.hid fun w => rsize_any m h.2.2.2.1 w
  have ypos : 1 ≤ m.natAbs := by omega
  obtain ⟨X, hX⟩ : ∃ X, X = n.natAbs := ⟨_, rfl⟩
  obtain ⟨Y, hY⟩ : ∃ Y, Y = m.natAbs := ⟨_, rfl⟩
  rw [← hX] at hx sz1
  rw [← hY] at hy sz2 ypos
  have HX := Lib.hid (And.intro hX hx)
  have HY := Lib.hid (And.intro hY (And.intro hy ypos))
  have dX := Lib.hid fun w => rdigits_any X hx w
  have e1 : (m == 0) = false := by simpa using hm0
  have HM0 := Lib.hid hm0
  obtain ⟨N, hN⟩ : ∃ N, N = X * 10 ^ 20 := ⟨_, rfl⟩
  have HN := Lib.hid hN
  have hN32 := Lib.hid (show N < 10 ^ 32 by omega)
  have hmk' := Lib.hid hmk
  clear h hx hy hX hY ypos hN hmk
  go_enter Tryd.func18, Tryd.ntmps18
  go_wp2_with fail
  refine under_call ((((Bel.refl w).alloc _).alloc _).alloc _) fun W hc hf hz hb => ?_
  have hA : Arr2 W w.heap.size n s := by simp [Arr2, hz, hc, hf, go_sem]
  have hB : Arr2 W (w.heap.size + 1) m t := by simp [Arr2, hz, hc, hf, go_sem]
  have hR : Sl2 W (w.heap.size + 1 + 1) 0 0 := by simp [Sl2, Arr2, Fr2, hz, hc, hf, go_sem]
  clear hc hf hz
  go_upto_region 7 with (first
    | (go_at_call 14; with_reducible refine (c1.out _).mono ?_; rintro e W1 ⟨rfl, hb1⟩; rw [h1.out]; replace hA := hA.keep hb1; replace hB := hB.keep hb1; replace hR := hR.keep hb1; replace hb := hb.trans hb1; clear hb1)
    | (go_at_call 14; with_reducible refine (c2.out _).mono ?_; rintro e W2 ⟨rfl, hb1⟩; rw [h2.out]; replace hA := hA.keep hb1; replace hB := hB.keep hb1; replace hR := hR.keep hb1; replace hb := hb.trans hb1; clear hb1)
    | (go_at_call 35; with_reducible refine (sz1.out _).mono ?_; rintro e V1 ⟨rfl, rfl⟩)
    | (go_at_call 35; with_reducible refine (sz2.out _).mono ?_; rintro e V4 ⟨rfl, rfl⟩)
    | (go_at_call 34; with_reducible refine (dX.out _).mono ?_; rintro e V2 ⟨rfl, hDx, hb1⟩; replace hA := hA.keep hb1; replace hB := hB.keep hb1; replace hR := hR.keep hb1; replace hb := hb.trans hb1; clear hb1))
  have n1 := hR.1.1
  have n2 := hDx.1
  have hM : Mul3 w V4 V4.heap.size V1.heap.size V1.heap.size X X n s m t := ⟨hA, hB, hR, hDx, hDx, hb⟩
  have hmk := hmk'.out
  have hMD := made_row V4 60 3
  have HMD := Lib.hid hMD
  have HM := Lib.hid (hM.keep ((Bel.refl V4).alloc (.cells (madeCells #[.int .i64 0] 60) 3)))
  clear hDx hA hB hR hM hmk' hMD e1
  go_upto_region 8 with (fail)
  refine under_name (hb.alloc _) fun W4 hc hf hz hb4 => ?_
  have hO := HMD.out.same hc hf hz
  have hM := HM.out.same hc hf hz hb4
  have NE := Lib.hid (And.intro n1 (show V1.heap.size ≠ V4.heap.size by omega))
  generalize V4.heap.size = g at *
  generalize V1.heap.size = gx at *
  clear hc hf hz hb4 hb HM HMD hmk n1 n2
  have y1 : (1 : Int) ≤ Y := by have := HY.out.2.2; omega
  have y2 : ¬ (Y : Int) = 0 := by omega
  have y3 : (Y : Int) ≤ 999999999999 := by have := HY.out.2.1; omega
  have hy0 : ∃ y, (decide (n < 0) != decide (m < 0)) = y := ⟨_, rfl⟩
  obtain ⟨y, hy⟩ := hy0
  obtain ⟨r1, r2, r3, hmv⟩ := divV_shp n s m t
  have HDV := Lib.hid hmv
  have HDC := Lib.hid (fun w' (hr : DRow w' g 0 60 (dg (sticky (X * 10 ^ 20) Y))) => rdec_div n s m t HS.out HM0.out y hy X Y HX.out.1 HY.out.1 g w' hr)
  have HY2 := Lib.hid hy
  have s1 := HS.out.1.1
  have s2 := HS.out.1.2.1
  have s3 := HS.out.2.1
  have s4 := HS.out.2.2.1
  clear hmv hy hm0
  go_wp2_with fail
  go_loopg [9, 10] 32 (fun gk v9 v10 wr => ∃ (k : Nat) (z : Int), v9 = .int .i64 ((N / 10 ^ k % Y : Nat) : Int) ∧ v10 = .int .i64 z ∧ Hid (z = (k : Int) - 1 ∧ k ≤ 32 ∧ gk = k) ∧ DRow wr g 0 60 (above (dg (N / Y)) k) ∧ Mul3 w wr g gx gx X X n s m t)
  case atStart =>
    refine ⟨32, 31, by rw [Nat.div_eq_of_lt hN32.out, Nat.zero_mod]; rfl, rfl, ⟨rfl, by omega, rfl⟩, hO.ext fun i _ => ?_, hM⟩
    unfold above
    by_cases h : 32 ≤ i
    · rw [if_pos h, dg_big]
      have h3 : 10 ^ 32 ≤ 10 ^ i := Nat.pow_le_pow_right (by omega) h
      have := Nat.div_le_self N Y
      have := hN32.out
      omega
    · rw [if_neg h]
  case round =>
    clear hO hM
    obtain ⟨k, z, rfl, rfl, hh, hO, hM⟩ := hrel
    obtain ⟨hz, hk, -⟩ := hh.out
    by_cases h0 : k = 0
    · subst h0
      obtain rfl : z = -1 := by omega
      have hO0 := hO.ext (g := dg (N / Y)) fun i _ => by unfold above; rw [if_pos (Nat.zero_le _)]
      rw [Nat.pow_zero, Nat.div_one]
      have hST := Lib.hid (show sticky N Y = if 0 < N % Y ∧ N / Y % 10 = 0 then N / Y + 1 else N / Y from rfl)
      have HN' := HN.out
      obtain ⟨c1, c2⟩ := hO0.at0 (show 0 < 60 by omega)
      rw [dg_first] at c1
      have HO := Lib.hid hO0
      have rb : ((N % Y : Nat) : Int) ≤ 999999999999 := by have := Nat.mod_lt N (show 0 < Y by omega); omega
      obtain ⟨q1, q2⟩ := NE.out
      clear hz hk hO hO0
      by_cases hr : 0 < N % Y
      · have r0 : (0 : Int) < ((N % Y : Nat) : Int) := by omega
        by_cases hq : N / Y % 10 = 0
        · have hst := Lib.hid (hST.out.trans (if_pos ⟨hr, hq⟩))
          have hrow1 : ∀ wx, DRow wx g 0 60 (dg (N / Y)) → DRow (wx.setCell ⟨g, 0, none⟩ (.int .i64 1)) g 0 60 (dg (sticky (X * 10 ^ 20) Y)) := fun wx h => by
            rw [← HN', hst.out]
            exact (h.put 0 1 (by omega)).ext fun i _ => dg_one _ _ hq
          have HR1 := Lib.hid hrow1
          rw [hq] at c1
          have hM' := hM.set q1 q2 q2 0 (.int .i64 1)
          have hrow := HR1.out _ HO.out
          have HMM := Lib.hid hM'
          have HROW := Lib.hid hrow
          generalize N % Y = R at *
          clear hq hrow1 hr hM' hrow hM HN'
          go_upto_region 20 with (fail)
          refine under_name HMM.out.2.2.2.2.2 fun W9 hc hf hz hb9 => ?_
          have hrow := HROW.out.same hc hf hz
          obtain ⟨hA, hB, hR, -, -, hb⟩ := HMM.out.same hc hf hz hb9
          clear hc hf hz hb9 c1 c2
          have hy2 : (!(decide (n < 0) == decide (m < 0))) = y := HY2.out
          go_wp2_with fail
          first | rw [hy2] | skip
          with_reducible refine (HDC.out _ hrow).mono ?_
          rintro e W5 ⟨rfl, hb1⟩
          rw [HDV.out]
          replace hR := hR.keep hb1
          replace hb := hb.trans hb1
          clear hb1 hrow hA hB hy2
          go_wp2_with fail
          refine bodyPost_ret (by simp [results, Tryd.results18, go_sem, hR]; try rfl) rfl ⟨by (rw [HDV.out]) <;> rfl, ?_⟩
          (repeat (first | with_reducible exact Bel.refl _ | with_reducible refine Bel.setCell ?_ (by first | exact Nat.le_refl _ | (dsimp only; omega)) _ | with_reducible refine Bel.alloc ?_ _ | with_reducible refine Bel.drew ?_ | with_reducible assumption | with_reducible refine Bel.trans ?_ (by assumption)))
        · have hst := Lib.hid (hST.out.trans (if_neg (fun h => hq h.2)))
          have hrow : DRow wr g 0 60 (dg (sticky (X * 10 ^ 20) Y)) := by rw [← HN', hst.out]; exact HO.out
          have e1 : (((N / Y % 10 : Nat) : Int) == 0) = false := by rw [beq_eq_false_iff_ne]; omega
          have e2 : ¬ ((N / Y % 10 : Nat) : Int) = 0 := by omega
          obtain ⟨hA, hB, hR, -, -, hb⟩ := hM
          generalize N % Y = R at *
          generalize N / Y % 10 = Q at *
          clear hq hr HN'
          have hy2 : (!(decide (n < 0) == decide (m < 0))) = y := HY2.out
          go_wp2_with fail
          first | rw [hy2] | skip
          with_reducible refine (HDC.out _ hrow).mono ?_
          rintro e W5 ⟨rfl, hb1⟩
          rw [HDV.out]
          replace hR := hR.keep hb1
          replace hb := hb.trans hb1
          clear hb1 hrow hA hB hy2
          go_wp2_with fail
          refine bodyPost_ret (by simp [results, Tryd.results18, go_sem, hR]; try rfl) rfl ⟨by (rw [HDV.out]) <;> rfl, ?_⟩
          (repeat (first | with_reducible exact Bel.refl _ | with_reducible refine Bel.setCell ?_ (by first | exact Nat.le_refl _ | (dsimp only; omega)) _ | with_reducible refine Bel.alloc ?_ _ | with_reducible refine Bel.drew ?_ | with_reducible assumption | with_reducible refine Bel.trans ?_ (by assumption)))
      · have hst := Lib.hid (hST.out.trans (if_neg (fun h => hr h.1)))
        have hrow : DRow wr g 0 60 (dg (sticky (X * 10 ^ 20) Y)) := by rw [← HN', hst.out]; exact HO.out
        have r0 : ¬ (0 : Int) < ((N % Y : Nat) : Int) := by omega
        obtain ⟨hA, hB, hR, -, -, hb⟩ := hM
        generalize N % Y = R at *
        clear hr HN'
        have hy2 : (!(decide (n < 0) == decide (m < 0))) = y := HY2.out
        go_wp2_with fail
        first | rw [hy2] | skip
        with_reducible refine (HDC.out _ hrow).mono ?_
        rintro e W5 ⟨rfl, hb1⟩
        rw [HDV.out]
        replace hR := hR.keep hb1
        replace hb := hb.trans hb1
        clear hb1 hrow hA hB hy2
        go_wp2_with fail
        refine bodyPost_ret (by simp [results, Tryd.results18, go_sem, hR]; try rfl) rfl ⟨by (rw [HDV.out]) <;> rfl, ?_⟩
        (repeat (first | with_reducible exact Bel.refl _ | with_reducible refine Bel.setCell ?_ (by first | exact Nat.le_refl _ | (dsimp only; omega)) _ | with_reducible refine Bel.alloc ?_ _ | with_reducible refine Bel.drew ?_ | with_reducible assumption | with_reducible refine Bel.trans ?_ (by assumption)))
    · obtain ⟨j, rfl⟩ : ∃ j, k = j + 1 := ⟨k - 1, by omega⟩
      obtain rfl : z = (j : Int) := by omega
      obtain ⟨c1, c2⟩ := hO.at0 (show j < 60 by omega)
      have hL := long_step N Y j (by omega)
      obtain ⟨l1, l2, l3⟩ := hL
      have hrY := Nat.mod_lt (N / 10 ^ (j + 1)) (show 0 < Y by omega)
      have hdl := dg_lt N j
      have b1 : ((N / 10 ^ (j + 1) % Y : Nat) : Int) ≤ 999999999999 := by omega
      have E := Lib.hid (And.intro l2 l3)
      have HDG := Lib.hid (show dg N j = if 20 ≤ j then dg X (j - 20) else 0 by rw [HN.out]; exact dg_lift X j)
      obtain ⟨R, hR0⟩ : ∃ R, R = N / 10 ^ (j + 1) % Y := ⟨_, rfl⟩
      rw [← hR0] at b1 E ⊢
      clear l1 l2 l3 hrY hR0 hz h0
      by_cases h20 : (20 : Int) ≤ j
      · obtain ⟨c3, -⟩ := hM.2.2.2.1.at0 (show j - 20 < 12 by omega)
        have j1 : (j : Int) < 32 := by omega
        have ed : dg N j = dg X (j - 20) := by rw [HDG.out, if_pos (by omega)]
        rw [← ed] at c3
        have b2 : ((dg N j : Nat) : Int) ≤ 9 := by omega
        generalize hd : dg N j = d at *
        have E1 := Lib.hid (show ((R : Int) * 10 + (d : Int)) / (Y : Int) = ((dg (N / Y) j : Nat) : Int) by rw [← E.out.1]; simp)
        have E2 := Lib.hid (show ((R : Int) * 10 + (d : Int)) % (Y : Int) = ((N / 10 ^ j % Y : Nat) : Int) by rw [← E.out.2]; simp)
        have HO := Lib.hid hO
        have HM := Lib.hid hM
        clear hd hdl ed hO hM
        go_wp2
        go_roundg (gk - 1)
        case measure => have := hh.out.2.2; omega
        case rel =>
          obtain ⟨q1, q2⟩ := NE.out
          refine ⟨j, (j : Int) - 1, by rw [E2.out], rfl, ⟨rfl, by omega, by have := hh.out.2.2; omega⟩, ?_, HM.out.set q1 q2 q2 _ _⟩
          rw [E1.out]
          exact (HO.out.put j _ (by omega)).ext fun i _ => above_upd _ _ _
      · have j1 : (j : Int) < 20 := by omega
        have ed : dg N j = 0 := by rw [HDG.out, if_neg (by omega)]
        rw [ed, Nat.add_zero] at E
        have E1 := Lib.hid (show ((R : Int) * 10) / (Y : Int) = ((dg (N / Y) j : Nat) : Int) by rw [← E.out.1]; simp)
        have E2 := Lib.hid (show ((R : Int) * 10) % (Y : Int) = ((N / 10 ^ j % Y : Nat) : Int) by rw [← E.out.2]; simp)
        have HO := Lib.hid hO
        have HM := Lib.hid hM
        clear hdl ed hO hM
        go_wp2
        go_roundg (gk - 1)
        case measure => have := hh.out.2.2; omega
        case rel =>
          obtain ⟨q1, q2⟩ := NE.out
          refine ⟨j, (j : Int) - 1, by rw [E2.out], rfl, ⟨rfl, by omega, by have := hh.out.2.2; omega⟩, ?_, HM.out.set q1 q2 q2 _ _⟩
          rw [E1.out]
          exact (HO.out.put j _ (by omega)).ext fun i _ => above_upd _ _ _
set_option maxRecDepth 100000 in
set_option maxHeartbeats 4000000 in
theorem rdiv_bad (n s m t : Int) (h : ¬ (SndD n s ∧ SndD m t)) (w : World) : Calls Tryd.prog 18 #[decA n s, decA m t] w fun e w' => e = .returned (divV n s m t) ∧ Bel w w' := by
  have hv : Hid (divV n s m t = errV 2) := if_neg h
  have hs := snd_and h
  have c1 := Lib.hid fun w => rsound_any n s w
  have c2 := Lib.hid fun w => rsound_any m t w
  clear h
  cases h1 : sndB n s with
  | false =>
    have h1 := Lib.hid h1
    clear hs
    go_enter Tryd.func18, Tryd.ntmps18
    go_wp2_with fail
    refine under_call ((((Bel.refl w).alloc _).alloc _).alloc _) fun W hc hf hz hb => ?_
    have hA : Arr2 W w.heap.size n s := by simp [Arr2, hz, hc, hf, go_sem]
    have hR : Sl2 W (w.heap.size + 1 + 1) 0 0 := by simp [Sl2, Arr2, Fr2, hz, hc, hf, go_sem]
    clear hc hf hz
    go_wp2_with (go_at_call 14; refine (c1.out _).mono ?_; rintro e W1 ⟨rfl, hb1⟩; rw [h1.out]; replace hR := hR.keep hb1; replace hb := hb.trans hb1; clear hb1)
    refine bodyPost_ret (by simp [results, Tryd.results18, go_sem, hR]; try rfl) rfl ⟨by (rw [hv.out]) <;> rfl, ?_⟩
    (repeat (first | with_reducible exact Bel.refl _ | with_reducible refine Bel.setCell ?_ (by first | exact Nat.le_refl _ | (dsimp only; omega)) _ | with_reducible refine Bel.alloc ?_ _ | with_reducible refine Bel.drew ?_ | with_reducible assumption | with_reducible refine Bel.trans ?_ (by assumption)))
  | true =>
    have h2 := Lib.hid (show sndB m t = false by rw [h1] at hs; simpa using hs)
    have h1 := Lib.hid h1
    clear hs
    go_enter Tryd.func18, Tryd.ntmps18
    go_wp2_with fail
    refine under_call ((((Bel.refl w).alloc _).alloc _).alloc _) fun W hc hf hz hb => ?_
    have hA : Arr2 W w.heap.size n s := by simp [Arr2, hz, hc, hf, go_sem]
    have hB : Arr2 W (w.heap.size + 1) m t := by simp [Arr2, hz, hc, hf, go_sem]
    have hR : Sl2 W (w.heap.size + 1 + 1) 0 0 := by simp [Sl2, Arr2, Fr2, hz, hc, hf, go_sem]
    clear hc hf hz
    go_wp2_with (first
      | (go_at_call 14; with_reducible refine (c1.out _).mono ?_; rintro e W1 ⟨rfl, hb1⟩; rw [h1.out]; replace hB := hB.keep hb1; replace hR := hR.keep hb1; replace hb := hb.trans hb1; clear hb1 hA)
      | (go_at_call 14; with_reducible refine (c2.out _).mono ?_; rintro e W2 ⟨rfl, hb1⟩; rw [h2.out]; replace hR := hR.keep hb1; replace hb := hb.trans hb1; clear hb1))
    refine bodyPost_ret (by simp [results, Tryd.results18, go_sem, hR]; try rfl) rfl ⟨by (rw [hv.out]) <;> rfl, ?_⟩
    (repeat (first | with_reducible exact Bel.refl _ | with_reducible refine Bel.setCell ?_ (by first | exact Nat.le_refl _ | (dsimp only; omega)) _ | with_reducible refine Bel.alloc ?_ _ | with_reducible refine Bel.drew ?_ | with_reducible assumption | with_reducible refine Bel.trans ?_ (by assumption)))
set_option maxRecDepth 100000 in
set_option maxHeartbeats 4000000 in
theorem rdiv_zero (n s t : Int) (h : SndD n s ∧ SndD 0 t) (w : World) : Calls Tryd.prog 18 #[decA n s, decA 0 t] w fun e w' => e = .returned (divV n s 0 t) ∧ Bel w w' := by
  have hv : Hid (divV n s 0 t = errV 4) := by rw [Hid, show divV n s 0 t = _ from if_pos h, if_pos rfl]
  have c1 := Lib.hid fun w => rsound_any n s w
  have c2 := Lib.hid fun w => rsound_any 0 t w
  have h1 := Lib.hid (sndB_t h.1)
  have h2 := Lib.hid (sndB_t h.2)
  clear h
  go_enter Tryd.func18, Tryd.ntmps18
  go_wp2_with fail
  refine under_call ((((Bel.refl w).alloc _).alloc _).alloc _) fun W hc hf hz hb => ?_
  have hA : Arr2 W w.heap.size n s := by simp [Arr2, hz, hc, hf, go_sem]
  have hB : Arr2 W (w.heap.size + 1) 0 t := by simp [Arr2, hz, hc, hf, go_sem]
  have hR : Sl2 W (w.heap.size + 1 + 1) 0 0 := by simp [Sl2, Arr2, Fr2, hz, hc, hf, go_sem]
  clear hc hf hz
  go_wp2_with (first
    | (go_at_call 14; with_reducible refine (c1.out _).mono ?_; rintro e W1 ⟨rfl, hb1⟩; rw [h1.out]; replace hB := hB.keep hb1; replace hR := hR.keep hb1; replace hb := hb.trans hb1; clear hb1 hA)
    | (go_at_call 14; with_reducible refine (c2.out _).mono ?_; rintro e W2 ⟨rfl, hb1⟩; rw [h2.out]; replace hB := hB.keep hb1; replace hR := hR.keep hb1; replace hb := hb.trans hb1; clear hb1))
  refine bodyPost_ret (by simp [results, Tryd.results18, go_sem, hR]; try rfl) rfl ⟨by (rw [hv.out]) <;> rfl, ?_⟩
  (repeat (first | with_reducible exact Bel.refl _ | with_reducible refine Bel.setCell ?_ (by first | exact Nat.le_refl _ | (dsimp only; omega)) _ | with_reducible refine Bel.alloc ?_ _ | with_reducible refine Bel.drew ?_ | with_reducible assumption | with_reducible refine Bel.trans ?_ (by assumption)))
theorem rdiv_any (n s m t : Int) (w : World) : Calls Tryd.prog 18 #[decA n s, decA m t] w fun e w' => e = .returned (divV n s m t) ∧ Bel w w' := by
  by_cases h : SndD n s ∧ SndD m t
  · by_cases hm : m = 0
    · subst hm; exact rdiv_zero n s t h w
    · exact rdiv_good n s m t h hm w
  · exact rdiv_bad n s m t h w
end Go.Proofs.YtcknjhgolajclaaDoor
