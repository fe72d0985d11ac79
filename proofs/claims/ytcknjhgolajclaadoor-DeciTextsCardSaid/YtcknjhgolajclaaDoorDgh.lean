import Derived.Test.YtcknjhgolajclaaDoorDgg
import Derived.Test.YtcknjhgolajclaaDoorDen
import Derived.Test.YtcknjhgolajclaaDoorDet
import Derived.Deep.RegionHeld3
import Derived.Deep.OwnRows
namespace Go.Proofs.YtcknjhgolajclaaDoor
set_option linter.unusedSimpArgs false
set_option linter.unusedVariables false
open Go.RowKit

/-! Deci: the document's product. -/
theorem Arr2.other {w : World} {b : Nat} {x y : Int} (h : Arr2 w b x y) {a : Addr} (ha : b ≠ a.block) (v : Value) : Arr2 (w.setCell a v) b x y := by
  obtain ⟨h1, h2, h3⟩ := h
  refine ⟨by simpa using h1, ?_, ?_⟩
  · rw [← h2]; exact World.cell?_of_block (Deep.blk_setCell_other _ _ _ _ ha)
  · rw [← h3]; exact World.cell?_of_block (Deep.blk_setCell_other _ _ _ _ ha)
theorem Sl2.other {w : World} {b : Nat} {x y : Int} (h : Sl2 w b x y) {a : Addr} (ha : b ≠ a.block) (v : Value) : Sl2 (w.setCell a v) b x y := by
  obtain ⟨h1, h2, h3⟩ := h
  refine ⟨h1.other ha v, ?_, ?_⟩
  · rw [← h2]; exact World.frozen?_of_block (Deep.blk_setCell_other _ _ _ _ ha)
  · rw [← h3]; exact World.frozen?_of_block (Deep.blk_setCell_other _ _ _ _ ha)
/-- The product of two rows of twelve digits, carried. -/
def Mul3 (w wr : World) (g gx gy : Nat) (X Y : Nat) (n s m t : Int) : Prop :=
  Arr2 wr w.heap.size n s ∧ Arr2 wr (w.heap.size + 1) m t ∧ Sl2 wr (w.heap.size + 1 + 1) 0 0 ∧ DRow wr gx 0 12 (dg X) ∧ DRow wr gy 0 12 (dg Y) ∧ Bel w wr
theorem Mul3.set {w wr : World} {g gx gy X Y : Nat} {n s m t : Int} (h : Mul3 w wr g gx gy X Y n s m t) (h1 : w.heap.size + 1 + 1 < g) (h2 : gx ≠ g) (h3 : gy ≠ g) (i : Nat) (v : Value) : Mul3 w (wr.setCell ⟨g, i, none⟩ v) g gx gy X Y n s m t := by
  obtain ⟨a, b, c, d, e, f⟩ := h
  refine ⟨a.other ?_ v, b.other ?_ v, c.other ?_ v, d.other h2 v, e.other h3 v, f.setCell ?_ v⟩
  · show w.heap.size ≠ g; omega
  · show w.heap.size + 1 ≠ g; omega
  · show w.heap.size + 1 + 1 ≠ g; omega
  · show w.heap.size ≤ g; omega
theorem Mul3.drew {w wr : World} {g gx gy X Y : Nat} {n s m t : Int} (h : Mul3 w wr g gx gy X Y n s m t) : Mul3 w wr.drew g gx gy X Y n s m t := by
  obtain ⟨a, b, c, d, e, f⟩ := h
  have k := (Bel.refl wr).drew
  exact ⟨a.keep k, b.keep k, c.keep k, d.keep k, e.keep k, f.drew⟩
theorem mulV_shp (n s m t : Int) : ∃ a b e, mulV n s m t = .tuple #[decA a b, .int .i64 e] := by
  unfold mulV
  split
  · split
    · exact decV_sh _ _ _
    · exact decV_sh _ _ _
  · exact ⟨_, _, _, rfl⟩
theorem rdec_mul (n s m t : Int) (h : SndD n s ∧ SndD m t) (y : Bool) (hy : (decide (n < 0) != decide (m < 0)) = y) (X Y : Nat) (hX : X = n.natAbs) (hY : Y = m.natAbs) (g : Nat) (w : World) (hrow : DRow w g 0 60 (dg (X * Y))) :
    Calls Tryd.prog 36 #[.slice (some ⟨g, 0, none⟩) 60 60, .int .i64 (s + t), .bool y] w fun e w' => e = .returned (mulV n s m t) ∧ Bel w w' := by
  have hs := h.1.1
  have hs6 := h.1.2.1
  have ht := h.2.1
  have ht6 := h.2.2.1
  have hb : X * Y < 10 ^ 50 := mul_lt50 (by have := h.1.2.2.1.1; have := h.1.2.2.1.2; omega) (by have := h.2.2.2.1.1; have := h.2.2.2.1.2; omega)
  have hd := rdec_any (X * Y) (s.toNat + t.toNat) y g hb (by omega) w hrow
  rw [show ((s.toNat + t.toNat : Nat) : Int) = s + t by omega, rnd_mul] at hd
  rw [show mulV n s m t = _ from if_pos h, hy, ← hX, ← hY]
  by_cases h6 : s + t ≤ 6
  · rw [if_pos h6]
    rw [if_pos (by omega), show min (s.toNat + t.toNat) 6 = (s + t).toNat by omega] at hd
    exact hd
  · rw [if_neg h6]
    rw [if_neg (by omega), show min (s.toNat + t.toNat) 6 = 6 by omega, show s.toNat + t.toNat - 6 = (s + t - 6).toNat by omega] at hd
    exact hd
theorem Mul3.same {w wr W : World} {g gx gy X Y : Nat} {n s m t : Int} (h : Mul3 w wr g gx gy X Y n s m t) (hc : ∀ p, W.cell? p = wr.cell? p) (hf : ∀ p, W.frozen? p = wr.frozen? p) (hz : W.heap.size = wr.heap.size) (hb : Bel w W) : Mul3 w W g gx gy X Y n s m t := by
  obtain ⟨a, b, c, d, e, f⟩ := h
  refine ⟨⟨by rw [hz]; exact a.1, by rw [hc]; exact a.2.1, by rw [hc]; exact a.2.2⟩, ⟨by rw [hz]; exact b.1, by rw [hc]; exact b.2.1, by rw [hc]; exact b.2.2⟩, ⟨⟨by rw [hz]; exact c.1.1, by rw [hc]; exact c.1.2.1, by rw [hc]; exact c.1.2.2⟩, by rw [hf]; exact c.2.1, by rw [hf]; exact c.2.2⟩, d.same hc hf hz, e.same hc hf hz, hb⟩
theorem Mul3.keep {w wr W : World} {g gx gy X Y : Nat} {n s m t : Int} (h : Mul3 w wr g gx gy X Y n s m t) (k : Bel wr W) : Mul3 w W g gx gy X Y n s m t := by
  obtain ⟨a, b, c, d, e, f⟩ := h
  exact ⟨a.keep k, b.keep k, c.keep k, d.keep k, e.keep k, f.trans k⟩
set_option maxRecDepth 100000 in
set_option maxHeartbeats 8000000 in
theorem rmul_good (n s m t : Int) (h : SndD n s ∧ SndD m t) (w : World) : Calls Tryd.prog 16 #[decA n s, decA m t] w fun e w' => e = .returned (mulV n s m t) ∧ Bel w w' := by
  have c1 := Lib.hid fun w => rsound_any n s w
  have c2 := Lib.hid fun w => rsound_any m t w
  have h1 := Lib.hid (sndB_t h.1)
  have h2 := Lib.hid (sndB_t h.2)
  have hmk : ∀ w, (Instr.makeSlice 52 (.int .i64 60) (.int .i64 60)).run Tryd.prog w = .ok (.slice (some ⟨w.heap.size, 0, none⟩) 60 60) (w.alloc (.cells (madeCells #[.int .i64 0] 60) 3)) := make_row 60 (by omega)
  have HS := Lib.hid h
  have hx : n.natAbs ≤ 999999999999 := by have := h.1.2.2.1.1; have := h.1.2.2.1.2; omega
  have hy : m.natAbs ≤ 999999999999 := by have := h.2.2.2.1.1; have := h.2.2.2.1.2; omega
  have sz1 := Lib.hid fun w => rsize_any n h.1.2.2.1 w
  have sz2 := Lib.hid fun w => rsize_any m h.2.2.2.1 w
  obtain ⟨X, hX⟩ : ∃ X, X = n.natAbs := ⟨_, rfl⟩
  obtain ⟨Y, hY⟩ : ∃ Y, Y = m.natAbs := ⟨_, rfl⟩
  rw [← hX] at hx sz1
  rw [← hY] at hy sz2
  have HX := Lib.hid (And.intro hX hx)
  have HY := Lib.hid (And.intro hY hy)
  have dX := Lib.hid fun w => rdigits_any X hx w
  have dY := Lib.hid fun w => rdigits_any Y hy w
  have hmk' := Lib.hid hmk
  clear h hx hy hX hY hmk
  go_enter Tryd.func16, Tryd.ntmps16
  go_wp2_with fail
  refine under_call ((((Bel.refl w).alloc _).alloc _).alloc _) fun W hc hf hz hb => ?_
  have hA : Arr2 W w.heap.size n s := by simp [Arr2, hz, hc, hf, go_sem]
  have hB : Arr2 W (w.heap.size + 1) m t := by simp [Arr2, hz, hc, hf, go_sem]
  have hR : Sl2 W (w.heap.size + 1 + 1) 0 0 := by simp [Sl2, Arr2, Fr2, hz, hc, hf, go_sem]
  clear hc hf hz
  go_wp2_with (first
    | (go_at_call 14; with_reducible refine (c1.out _).mono ?_; rintro e W1 ⟨rfl, hb1⟩; rw [h1.out]; replace hA := hA.keep hb1; replace hB := hB.keep hb1; replace hR := hR.keep hb1; replace hb := hb.trans hb1; clear hb1)
    | (go_at_call 14; with_reducible refine (c2.out _).mono ?_; rintro e W2 ⟨rfl, hb1⟩; rw [h2.out]; replace hA := hA.keep hb1; replace hB := hB.keep hb1; replace hR := hR.keep hb1; replace hb := hb.trans hb1; clear hb1))
  replace hA := hA.keep (Bel.refl _).drew; replace hB := hB.keep (Bel.refl _).drew; replace hR := hR.keep (Bel.refl _).drew; replace hb := hb.drew
  go_region_held3 (fun w' => Arr2 w' w.heap.size n s ∧ Arr2 w' (w.heap.size + 1) m t) (first | with_reducible exact ⟨hA, hB⟩ | (simp (maxDischargeDepth := 20) [Arr2, go_sem, hA, hB]; first | done | omega))
    (first
      | (go_at_call 35; with_reducible refine (sz1.out _).mono ?_; rintro e V1 ⟨rfl, rfl⟩)
      | (go_at_call 35; with_reducible refine (sz2.out _).mono ?_; rintro e V1 ⟨rfl, rfl⟩)
      | (go_at_call 34; with_reducible refine (dX.out _).mono ?_; rintro e V2 ⟨rfl, hDx, hb1⟩; replace hA := hA.keep hb1; replace hB := hB.keep hb1; replace hR := hR.keep hb1; replace hb := hb.trans hb1; clear hb1)
      | (go_at_call 34; with_reducible refine (dY.out _).mono ?_; rintro e V3 ⟨rfl, hDy, hb1⟩; replace hDx := hDx.keep hb1; replace hA := hA.keep hb1; replace hB := hB.keep hb1; replace hR := hR.keep hb1; replace hb := hb.trans hb1; clear hb1))
  have hDx' : DRow V3 W2.heap.size 0 12 (dg X) := hDx
  have n1 := hR.1.1
  have n2 := hDx'.1
  have n3 := hDy.1
  have hM : Mul3 w V3 V3.heap.size W2.heap.size V1.heap.size X Y n s m t := ⟨hA, hB, hR, hDx', hDy, hb⟩
  have hmk := hmk'.out
  have hMD := made_row V3 60 3
  have HMD := Lib.hid hMD
  have HM := Lib.hid (hM.keep ((Bel.refl V3).alloc (.cells (madeCells #[.int .i64 0] 60) 3)))
  clear hDx hDx' hDy hA hB hR hM hmk' hMD
  go_upto_region 5 with (fail)
  refine under_name (hb.alloc _) fun W4 hc hf hz hb4 => ?_
  have hO := HMD.out.same hc hf hz
  have hM := HM.out.same hc hf hz hb4
  have NE := Lib.hid (And.intro n1 (And.intro (show W2.heap.size ≠ V3.heap.size by omega) (show V1.heap.size ≠ V3.heap.size by omega)))
  generalize V3.heap.size = g at *
  generalize W2.heap.size = gx at *
  generalize V1.heap.size = gy at *
  clear hc hf hz hb4 hb HM HMD hmk n1 n2 n3
  go_wp2_with fail
  go_loopg [9] 12 (fun gk v wr => ∃ (i : Nat) (f : Nat → Nat), v = .int .i64 i ∧ i ≤ 12 ∧ Hid (tv f 0 60 = X % 10 ^ i * Y ∧ (∀ j, f j ≤ 81 * i) ∧ gk = 12 - i) ∧ DRow wr g 0 60 f ∧ Mul3 w wr g gx gy X Y n s m t)
  case atStart => exact ⟨0, _, rfl, by omega, ⟨by rw [tv_zero, Nat.pow_zero, Nat.mod_one, Nat.zero_mul], fun j => by omega, rfl⟩, hO, hM⟩
  case round =>
    clear hO hM
    obtain ⟨i, f, rfl, hi, hh, hO, hM⟩ := hrel
    by_cases hlt : i < 12
    · have i1 : (i : Int) < 12 := by omega
      obtain ⟨wo, rfl⟩ : ∃ wo : World, wo = wr := ⟨_, rfl⟩
      go_wp2_with fail
      go_loopg [10] 12 (fun g2 v wr => ∃ (k : Nat) (f : Nat → Nat), v = .int .i64 k ∧ k ≤ 12 ∧ Hid (tv f 0 60 = X % 10 ^ i * Y + dg X i * 10 ^ i * (Y % 10 ^ k) ∧ MB f i k ∧ g2 = 12 - k) ∧ DRow wr g 0 60 f ∧ Mul3 w wr g gx gy X Y n s m t)
      case atStart => exact ⟨0, f, rfl, by omega, ⟨by rw [hh.out.1, Nat.pow_zero, Nat.mod_one, Nat.mul_zero, Nat.add_zero], MB.start hh.out.2.1, rfl⟩, hO, hM⟩
      case round =>
        clear hO hM
        obtain ⟨k, f2, rfl, hk, hh2, hO, hM⟩ := hrel
        by_cases hlk : k < 12
        · obtain ⟨c1, c2⟩ := hO.at0 (show i + k < 60 by omega)
          obtain ⟨c3, -⟩ := hM.2.2.2.1.at0 hlt
          obtain ⟨c5, -⟩ := hM.2.2.2.2.1.at0 hlk
          have k1 : (k : Int) < 12 := by omega
          have d1 := dg_lt X i
          have d2 := dg_lt Y k
          have b1 : f2 (i + k) ≤ 972 := by have := hh2.out.2.1.2 (i + k) (by omega); omega
          have hT : dg X i * dg Y k ≤ 81 := Nat.mul_le_mul (show dg X i ≤ 9 by omega) (show dg Y k ≤ 9 by omega)
          have NX := Lib.hid (mul_step (f := f2) hlt hlk hh2.out.1)
          have NB := Lib.hid (hh2.out.2.1.step (d := dg X i * dg Y k) hT)
          obtain ⟨T, hTT⟩ : ∃ T, T = dg X i * dg Y k := ⟨_, rfl⟩
          rw [← hTT] at hT NX NB
          have w1 : IntKind.i64.wrap (((dg X i : Nat) : Int) * ((dg Y k : Nat) : Int)) = (T : Int) := by rw [← Int.natCast_mul, ← hTT, IntKind.wrap_i64]; omega
          have b2 : ((f2 (i + k) : Nat) : Int) ≤ 972 := by omega
          have b3 : (T : Int) ≤ 81 := by omega
          obtain ⟨F, hF⟩ : ∃ F, F = f2 (i + k) := ⟨_, rfl⟩
          have HF := Lib.hid hF
          rw [← hF] at c1 b2
          have HO := Lib.hid hO
          have HM := Lib.hid hM
          generalize hp : dg X i = p at *
          generalize hq : dg Y k = q at *
          clear d1 d2 b1 hT hTT hF hp hq hO hM
          go_wp2
          go_region
          go_wp2
          go_roundg (gk - 1)
          case measure => have := hh2.out.2.2; omega
          case rel =>
            obtain ⟨q1, q2, q3⟩ := NE.out
            refine ⟨k + 1, upd f2 (i + k) (F + T), by go_num, by omega, ⟨by rw [HF.out]; exact NX.out, by rw [HF.out]; exact NB.out, by have := hh2.out.2.2; omega⟩, ?_, (HM.out.set q1 q2 q3 _ _).drew⟩
            rw [← Int.natCast_add]
            exact (HO.out.put (i + k) _ (by omega)).drew
        · obtain rfl : k = 12 := by omega
          go_wp2
          go_roundg (11 - i)
          case measure => have := hh.out.2.2; omega
          case rel => exact ⟨i + 1, f2, by go_num, by omega, ⟨mul_row (by have := HY.out.2; omega) hh2.out.1, fun j => by have := hh2.out.2.1.1 j; omega, by omega⟩, hO, hM⟩
    · obtain rfl : i = 12 := by omega
      have hP : tv f 0 60 = X * Y := by rw [hh.out.1, Nat.mod_eq_of_lt (by have := HX.out.2; omega)]
      have HC0 := Lib.hid (CB.start hP fun j => by have := hh.out.2.1 j; omega)
      have HP50 := Lib.hid (mul_lt50 HX.out.2 HY.out.2)
      have hy0 : ∃ y, (decide (n < 0) != decide (m < 0)) = y := ⟨_, rfl⟩
      obtain ⟨y, hy⟩ := hy0
      obtain ⟨r1, r2, r3, hmv⟩ := mulV_shp n s m t
      have HMV := Lib.hid hmv
      have HDC := Lib.hid (fun w' (hr : DRow w' g 0 60 (dg (X * Y))) => rdec_mul n s m t HS.out y hy X Y HX.out.1 HY.out.1 g w' hr)
      have HY2 := Lib.hid hy
      have s1 := HS.out.1.1
      have s2 := HS.out.1.2.1
      have s3 := HS.out.2.1
      have s4 := HS.out.2.2.1
      clear hP hmv hy
      obtain ⟨wo, rfl⟩ : ∃ wo : World, wo = wr := ⟨_, rfl⟩
      go_wp2_with fail
      go_loopg [11] 59 (fun g3 v wr => ∃ (i : Nat) (f : Nat → Nat), v = .int .i64 i ∧ i ≤ 59 ∧ Hid (CB f (X * Y) i ∧ g3 = 59 - i) ∧ DRow wr g 0 60 f ∧ Mul3 w wr g gx gy X Y n s m t)
      case atStart => exact ⟨0, f, rfl, by omega, ⟨HC0.out, rfl⟩, hO, hM⟩
      case round =>
        clear hO hM HC0
        obtain ⟨j, f3, rfl, hj, hh3, hO, hM⟩ := hrel
        by_cases hlj : j < 59
        · obtain ⟨c1, c2⟩ := hO.at0 (show j < 60 by omega)
          obtain ⟨c3, c4⟩ := hO.at0 (show j + 1 < 60 by omega)
          have j1 : (j : Int) < 59 := by omega
          have b1 : ((f3 j : Nat) : Int) ≤ 1080 := by have := hh3.out.1.2.2.1; omega
          have b2 : ((f3 (j + 1) : Nat) : Int) ≤ 972 := by have := hh3.out.1.2.2.2 (j + 1) (by omega); omega
          have NX := Lib.hid (hh3.out.1.step hlj)
          obtain ⟨F, hF⟩ : ∃ F, F = f3 j := ⟨_, rfl⟩
          obtain ⟨G, hG⟩ : ∃ G, G = f3 (j + 1) := ⟨_, rfl⟩
          rw [← hF] at c1 b1 NX
          rw [← hG] at c3 b2 NX
          have HO := Lib.hid hO
          have HM := Lib.hid hM
          clear hF hG hO hM
          go_wp2
          go_region
          go_wp2
          go_roundg (gk - 1)
          case measure => have := hh3.out.2; omega
          case rel =>
            obtain ⟨q1, q2, q3⟩ := NE.out
            refine ⟨j + 1, _, by go_num, by omega, ⟨NX.out, by have := hh3.out.2; omega⟩, ?_, ((HM.out.set q1 q2 q3 _ _).set q1 q2 q3 _ _).drew⟩
            have e1 : (G : Int) + (F : Int) / 10 = ((G + F / 10 : Nat) : Int) := by omega
            have e2 : (F : Int) % 10 = ((F % 10 : Nat) : Int) := by omega
            rw [e1, e2]
            exact ((HO.out.put (j + 1) _ (by omega)).put j _ (by omega)).drew
        · obtain rfl : j = 59 := by omega
          have hrow := hO.ext fun i hi => hh3.out.1.done HP50.out i hi
          obtain ⟨hA, hB, hR, -, -, hb⟩ := hM
          have hy := HY2.out
          clear hO
          have hy2 : (!(decide (n < 0) == decide (m < 0))) = y := hy
          clear hy
          go_wp2_with fail
          first | rw [hy2] | skip
          with_reducible refine (HDC.out _ hrow).mono ?_
          rintro e W5 ⟨rfl, hb1⟩
          rw [HMV.out]
          replace hR := hR.keep hb1
          replace hb := hb.trans hb1
          clear hb1 hrow hA hB hy2
          go_wp2_with fail
          refine bodyPost_ret (by simp [results, Tryd.results16, go_sem, hR]; try rfl) rfl ⟨by (rw [HMV.out]) <;> rfl, ?_⟩
          (repeat (first | with_reducible exact Bel.refl _ | with_reducible refine Bel.setCell ?_ (by first | exact Nat.le_refl _ | (dsimp only; omega)) _ | with_reducible refine Bel.alloc ?_ _ | with_reducible refine Bel.drew ?_ | with_reducible assumption | with_reducible refine Bel.trans ?_ (by assumption)))
theorem rmul_bad (n s m t : Int) (h : ¬ (SndD n s ∧ SndD m t)) (w : World) : Calls Tryd.prog 16 #[decA n s, decA m t] w fun e w' => e = .returned (mulV n s m t) ∧ Bel w w' := by
  have hv : Hid (mulV n s m t = errV 2) := if_neg h
  have hs := snd_and h
  have c1 := Lib.hid fun w => rsound_any n s w
  have c2 := Lib.hid fun w => rsound_any m t w
  clear h
  cases h1 : sndB n s with
  | false =>
    have h1 := Lib.hid h1
    clear hs
    go_enter Tryd.func16, Tryd.ntmps16
    go_wp2_with fail
    refine under_call ((((Bel.refl w).alloc _).alloc _).alloc _) fun W hc hf hz hb => ?_
    have hA : Arr2 W w.heap.size n s := by simp [Arr2, hz, hc, hf, go_sem]
    have hR : Sl2 W (w.heap.size + 1 + 1) 0 0 := by simp [Sl2, Arr2, Fr2, hz, hc, hf, go_sem]
    clear hc hf hz
    go_wp2_with (go_at_call 14; refine (c1.out _).mono ?_; rintro e W1 ⟨rfl, hb1⟩; rw [h1.out]; replace hR := hR.keep hb1; replace hb := hb.trans hb1; clear hb1)
    refine bodyPost_ret (by simp [results, Tryd.results16, go_sem, hR]; try rfl) rfl ⟨by (rw [hv.out]) <;> rfl, ?_⟩
    (repeat (first | with_reducible exact Bel.refl _ | with_reducible refine Bel.setCell ?_ (by first | exact Nat.le_refl _ | (dsimp only; omega)) _ | with_reducible refine Bel.alloc ?_ _ | with_reducible refine Bel.drew ?_ | with_reducible assumption | with_reducible refine Bel.trans ?_ (by assumption)))
  | true =>
    have h2 := Lib.hid (show sndB m t = false by rw [h1] at hs; simpa using hs)
    have h1 := Lib.hid h1
    clear hs
    go_enter Tryd.func16, Tryd.ntmps16
    go_wp2_with fail
    refine under_call ((((Bel.refl w).alloc _).alloc _).alloc _) fun W hc hf hz hb => ?_
    have hA : Arr2 W w.heap.size n s := by simp [Arr2, hz, hc, hf, go_sem]
    have hB : Arr2 W (w.heap.size + 1) m t := by simp [Arr2, hz, hc, hf, go_sem]
    have hR : Sl2 W (w.heap.size + 1 + 1) 0 0 := by simp [Sl2, Arr2, Fr2, hz, hc, hf, go_sem]
    clear hc hf hz
    go_wp2_with (first
      | (go_at_call 14; with_reducible refine (c1.out _).mono ?_; rintro e W1 ⟨rfl, hb1⟩; rw [h1.out]; replace hB := hB.keep hb1; replace hR := hR.keep hb1; replace hb := hb.trans hb1; clear hb1 hA)
      | (go_at_call 14; with_reducible refine (c2.out _).mono ?_; rintro e W2 ⟨rfl, hb1⟩; rw [h2.out]; replace hR := hR.keep hb1; replace hb := hb.trans hb1; clear hb1))
    refine bodyPost_ret (by simp [results, Tryd.results16, go_sem, hR]; try rfl) rfl ⟨by (rw [hv.out]) <;> rfl, ?_⟩
    (repeat (first | with_reducible exact Bel.refl _ | with_reducible refine Bel.setCell ?_ (by first | exact Nat.le_refl _ | (dsimp only; omega)) _ | with_reducible refine Bel.alloc ?_ _ | with_reducible refine Bel.drew ?_ | with_reducible assumption | with_reducible refine Bel.trans ?_ (by assumption)))
theorem rmul_any (n s m t : Int) (w : World) : Calls Tryd.prog 16 #[decA n s, decA m t] w fun e w' => e = .returned (mulV n s m t) ∧ Bel w w' := by
  by_cases h : SndD n s ∧ SndD m t
  · exact rmul_good n s m t h w
  · exact rmul_bad n s m t h w
end Go.Proofs.YtcknjhgolajclaaDoor
