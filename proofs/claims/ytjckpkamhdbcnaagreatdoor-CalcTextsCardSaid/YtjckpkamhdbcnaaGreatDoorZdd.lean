import Derived.Test.YtjckpkamhdbcnaaGreatDoorZdc
import Derived.Test.YtjckpkamhdbcnaaGreatDoorZce
namespace Go.Proofs.YtjckpkamhdbcnaaGreatDoor
set_option maxRecDepth 100000
set_option maxHeartbeats 64000000
set_option linter.unusedSimpArgs false
set_option linter.unusedVariables false
open Go.RowKit
attribute [local go_sem ↓] Qas Qau
theorem Qij (l : List Bnd) (hll : l.length <= 9223372036854775807) (hlf : ∀ b ∈ l, b.Fit) (x : Ex) (A : Option Addr) (c : Nat) (AL : Option Addr) (cL : Nat) (w : World) (hsm : smX x) (hln : lnX x) (hL : Lie (fun _ => True) w A x.ks) (hB : Bnds w AL l) :
  Calls Tryz.prog 13 #[exV x.op x.v (Qaa x.nm) A x.ks.length c, .slice AL l.length cL] w fun r w' => r = .returned (.tuple #[(evV l x).1.val, .int .i64 (evV l x).2]) /\ Bel w w' := by
 have CS := fun (W : World) (hW : Bel w W) => Qjq x A c W hsm hln (hL.keep hW)
 have L0 := Hd (show sndX x = false -> evV l x = (zero, 2) from fun hs => iN (fun h => by rw [hs] at h; cases h.1))
 have L1 := Hd (show (∃ b ∈ l, vsnd b.v = false) -> evV l x = (zero, 2) from fun ⟨b, hb, hv⟩ => iN (fun h => by have := List.all_eq_true.1 h.2 b hb; rw [hv] at this; cases this))
 have L2 := Hd (show sndX x = true -> (∀ b ∈ l, vsnd b.v = true) -> evV l x = if bdsX l x = true then (evX l x, 0) else (zero, 7) from fun h1 h2 => iP ⟨h1, List.all_eq_true.2 h2⟩)
 have CN := fun (ho : okX x = true) (W : World) (hW : Bel w W) => Ql7 l hll x W A c AL cL ho (hB.keep hW) (hL.keep hW)
 have CV := fun (ho : okX x = true) (hd : bdsX l x = true) (hls : ∀ b ∈ l, vsnd b.v = true) (W : World) (hW : Bel w W) => Qs3 l hll hls x W A c AL cL ho hd (hB.keep hW) (hL.keep hW)
 have HO := Hd (show sndX x = true -> okX x = true from fun h => Qst h)
 have HBB := Hd hB
 have HLF := Hd hlf
 have hli : (l.length : Int) <= 9223372036854775807 := by omega
 generalize evV l x = ev at L0 L1 L2 ⊢
 generalize okX x = ok at CN CV HO
 generalize bdsX l x = bd at L2 CN CV
 generalize evX l x = z at L2 CV
 clear hsm hln hL hB hlf
 cases hs : sndX x with
 | false =>
  have L := Hd (L0.out hs)
  rw [hs] at CS
  obtain ⟨o, ⟨vk, vn, vs, vt, vm⟩, nm, ks⟩ := x
  simp only [Ex.op, Ex.v, Ex.nm, Ex.ks] at CS ⊢
  generalize Qaa nm = bn at CS ⊢
  generalize ks.length = n at CS ⊢
  have CS := Hd CS
  clear CN CV L0 L1 L2 HO HBB HLF hs
  go_enter Tryz.func13, Tryz.ntmps13
  go_upto_region 1 with fail
  refine uN (w0 := w) (by exact Bel.y) fun W0 hcc hf hz hb0 => ?_
  have T0 : Qab W0 w.heap.size o ⟨vk, vn, vs, vt, vm⟩ bn A n c := by simp [Qab, Qap, hcc, hf, hz, go_sem]
  have S0 : Slot W0 (w.heap.size + 1) zero := by simp [Slot, Qal, Qah, zero, hcc, hf, hz, go_sem]
  clear hcc hf hz
  have HNw := Hd (Nat.le_refl w.heap.size)
  generalize hNN : w.heap.size = N at T0 S0
  have HNN := Hd (Nat.le_of_eq hNN)
  clear hNN HNw
  have HB0 := Hd hb0
  have K0 := Hd T0
  clear hb0 T0
  obtain ⟨tz, t0, t1, t2, t3, t4, t5, t6, t7⟩ := K0.out.u
  go_wp2_with (go_at_call 28; (with_reducible refine Calls.mono (CS.out _ HB0.out) ?_); rintro e V1 ⟨rfl, hb1⟩; have HB1 := Hd (HB0.out.trans hb1); have K1 := Hd (K0.out.keep hb1); have S1 := S0.keep hb1; clear hb1 S0 tz t0 t1 t2 t3 t4 t5 t6 t7; obtain ⟨tz, t0, t1, t2, t3, t4, t5, t6, t7⟩ := K1.out.u)
  refine pR (v := .tuple #[.agg #[.int .i64 0, .int .i64 0, .int .i64 0, .string ⟨#[]⟩, .int .i64 0], .int .i64 2]) (by first | (simp [results, Tryz.results13, go_sem, S1, zero]; done) | (simp [results, Tryz.results13, go_sem, S1, zero]; rfl)) rfl ⟨by rw [L.out] <;> rfl, ?_⟩
  have hNw := HNN.out
  have hbz := HB1.out
  exact Bel.y
 | true =>
  have LX := Hd fun hls => L2.out hs hls
  have CN := CN (HO.out hs)
  have CV := CV (HO.out hs)
  rw [hs] at CS
  obtain ⟨o, ⟨vk, vn, vs, vt, vm⟩, nm, ks⟩ := x
  simp only [Ex.op, Ex.v, Ex.nm, Ex.ks] at CS CN CV ⊢
  generalize Qaa nm = bn at CS CN CV ⊢
  generalize ks.length = n at CS CN CV ⊢
  obtain ⟨zk, zn, zs, zt, zm⟩ := z
  have CS := Hd CS
  have CN := Hd CN
  have CV := Hd CV
  clear L0 L2 HO hs
  go_enter Tryz.func13, Tryz.ntmps13
  go_upto_region 1 with fail
  refine uN (w0 := w) (by exact Bel.y) fun W0 hcc hf hz hb0 => ?_
  have T0 : Qab W0 w.heap.size o ⟨vk, vn, vs, vt, vm⟩ bn A n c := by simp [Qab, Qap, hcc, hf, hz, go_sem]
  have S0 : Slot W0 (w.heap.size + 1) zero := by simp [Slot, Qal, Qah, zero, hcc, hf, hz, go_sem]
  clear hcc hf hz
  have HNw := Hd (Nat.le_refl w.heap.size)
  generalize hNN : w.heap.size = N at T0 S0
  have HNN := Hd (Nat.le_of_eq hNN)
  clear hNN HNw
  have HB0 := Hd hb0
  have K0 := Hd T0
  clear hb0 T0
  obtain ⟨tz, t0, t1, t2, t3, t4, t5, t6, t7⟩ := K0.out.u
  go_upto_region 4 with (go_at_call 28; (with_reducible refine Calls.mono (CS.out _ HB0.out) ?_); rintro e V1 ⟨rfl, hb1⟩; have HB1 := Hd (HB0.out.trans hb1); have K1 := Hd (K0.out.keep hb1); have S1 := S0.keep hb1; clear hb1 S0 tz t0 t1 t2 t3 t4 t5 t6 t7; obtain ⟨tz, t0, t1, t2, t3, t4, t5, t6, t7⟩ := K1.out.u)
  have Q1 := Hd S1
  clear S1 tz t0 t1 t2 t3 t4 t5 t6 t7
  go_loopg [6] (l.length + 1) (fun g iv wr => ∃ q : Nat, iv = .int .i64 q /\ q <= l.length /\ Hid (l.length + 1 - q <= g) /\ Hid (∀ (j : Nat) (y : Bnd), j < q -> l[j]? = some y -> vsnd y.v = true) /\ Hid (Bel V1 wr))
  case atStart => exact ⟨0, rfl, Nat.zero_le _, Hd (by omega), Hd (fun j y h => absurd h (Nat.not_lt_zero _)), Hd (Bel.refl _)⟩
  case round =>
   obtain ⟨q, rfl, hq, hg, hA, hW⟩ := hrel
   have S2 := Q1.out.keep hW.out
   have HB2 := Hd (HB1.out.trans hW.out)
   have K2 := Hd (K1.out.keep hW.out)
   rcases Nat.lt_or_ge q l.length with hlt | hge
   ·have hlti : (q : Int) < l.length := by omega
    have l0 : (0 : Int) <= (q : Int) := by omega
    have wq : IntKind.i64.wrap ((q : Int) + 1) = ((q + 1 : Nat) : Int) := by rw [IntKind.wrap_i64]; omega
    obtain ⟨y, hy⟩ : ∃ y, l[q]? = some y := ⟨_, gE hlt⟩
    obtain ⟨b, off, rfl, hlb, hc⟩ := (HBB.out.keep HB2.out) (by omega)
    have hat := hc q y hy
    have CW := fun W => Qat y.v (HLF.out y (List.mem_of_getElem? hy)) W
    have HY := Hd hy
    have HM := Hd (List.mem_of_getElem? hy)
    clear hc hy
    cases hv : vsnd y.v with
    | false =>
     have L := Hd (L1.out ⟨y, HM.out, hv⟩)
     rw [hv] at CW
     obtain ⟨xn, xk, xm, xs, xt, xu⟩ := y
     obtain ⟨e0, e1, e2, e3, e4, e5⟩ := hat
     simp only at e0 e1 e2 e3 e4 e5 CW
     have CW := Hd CW
     clear HY HM hv LX L1
     go_wp2_with (go_at_call 20; (with_reducible refine Calls.mono (CW.out _) ?_); rintro e V3 ⟨rfl, hb3⟩; have HB3 := Hd (HB2.out.trans hb3); have S3 := S2.keep hb3; clear hb3 S2 e0 e1 e2 e3 e4 e5)
     refine pR (v := .tuple #[.agg #[.int .i64 0, .int .i64 0, .int .i64 0, .string ⟨#[]⟩, .int .i64 0], .int .i64 2]) (by first | (simp [results, Tryz.results13, go_sem, S3, zero]; done) | (simp [results, Tryz.results13, go_sem, S3, zero]; rfl)) rfl ⟨by rw [L.out] <;> rfl, ?_⟩
     have hNw := HNN.out
     have hbz := HB3.out
     exact Bel.y
    | true =>
     rw [hv] at CW
     have KA := Hd (show ∀ (j : Nat) (z : Bnd), j < q + 1 -> l[j]? = some z -> vsnd z.v = true from fun j z hj hz => by
      rcases Nat.lt_or_ge j q with h | h
      ·exact hA.out j z h hz
      obtain rfl : j = q := by omega
      rw [HY.out] at hz
      obtain rfl := Option.some.inj hz
      exact hv)
     obtain ⟨xn, xk, xm, xs, xt, xu⟩ := y
     obtain ⟨e0, e1, e2, e3, e4, e5⟩ := hat
     simp only at e0 e1 e2 e3 e4 e5 CW
     have CW := Hd CW
     clear HY HM hv
     go_wp2_with (go_at_call 20; (with_reducible refine Calls.mono (CW.out _) ?_); rintro e V3 ⟨rfl, hb3⟩; have hW3 := Hd (hW.out.trans hb3); clear hb3 S2 e0 e1 e2 e3 e4 e5)
     go_roundg (l.length + 1 - (q + 1))
     case measure => have := hg.out; omega
     case rel => exact ⟨q + 1, rfl, hlt, Hd (Nat.le_refl _), KA, hW3⟩
   obtain rfl : q = l.length := by omega
   have hls : ∀ b ∈ l, vsnd b.v = true := fun b hb => by
    obtain ⟨j, hj⟩ := List.getElem?_of_mem hb
    exact hA.out j b (List.getElem?_eq_some_iff.1 hj).1 hj
   have LZ := LX.out hls
   have CZ := fun hd => CV.out hd hls
   obtain ⟨tz, t0, t1, t2, t3, t4, t5, t6, t7⟩ := K2.out.u
   clear LX CV hls L1 HLF hA
   cases bd with
   | false =>
    have L := Hd (show ev = (zero, 7) from LZ)
    clear CZ LZ
    go_wp2_with (go_at_call 29; (with_reducible refine Calls.mono (CN.out _ HB2.out) ?_); rintro e V3 ⟨rfl, hb3⟩; have HB3 := Hd (HB2.out.trans hb3); have K3 := Hd (K2.out.keep hb3); have S3 := S2.keep hb3; clear hb3 S2 tz t0 t1 t2 t3 t4 t5 t6 t7; obtain ⟨tz, t0, t1, t2, t3, t4, t5, t6, t7⟩ := K3.out.u)
    refine pR (v := .tuple #[.agg #[.int .i64 0, .int .i64 0, .int .i64 0, .string ⟨#[]⟩, .int .i64 0], .int .i64 7]) (by first | (simp [results, Tryz.results13, go_sem, S3, zero]; done) | (simp [results, Tryz.results13, go_sem, S3, zero]; rfl)) rfl ⟨by rw [L.out] <;> rfl, ?_⟩
    have hNw := HNN.out
    have hbz := HB3.out
    exact Bel.y
   | true =>
    have L := Hd (show ev = (⟨zk, zn, zs, zt, zm⟩, 0) from LZ)
    replace CZ := Hd (CZ rfl)
    clear LZ
    go_wp2_with (first
     | (go_at_call 29; (with_reducible refine Calls.mono (CN.out _ HB2.out) ?_); rintro e V3 ⟨rfl, hb3⟩; have HB3 := Hd (HB2.out.trans hb3); have K3 := Hd (K2.out.keep hb3); have S3 := S2.keep hb3; clear hb3 S2 tz t0 t1 t2 t3 t4 t5 t6 t7; obtain ⟨tz, t0, t1, t2, t3, t4, t5, t6, t7⟩ := K3.out.u)
     | (go_at_call 30; (with_reducible refine Calls.mono (CZ.out _ HB3.out) ?_); rintro e V4 ⟨rfl, hb4⟩; have HB4 := Hd (HB3.out.trans hb4); have K4 := Hd (K3.out.keep hb4); have S4 := S3.keep hb4; clear hb4 S3 tz t0 t1 t2 t3 t4 t5 t6 t7; obtain ⟨tz, t0, t1, t2, t3, t4, t5, t6, t7⟩ := K4.out.u))
    refine pR (v := .tuple #[.agg #[.int .i64 zk, .int .i64 zn, .int .i64 zs, .string zt, .int .i64 zm], .int .i64 0]) (by first | (simp [results, Tryz.results13, go_sem, S4, zero]; done) | (simp [results, Tryz.results13, go_sem, S4, zero]; rfl)) rfl ⟨by rw [L.out] <;> rfl, ?_⟩
    have hNw := HNN.out
    have hbz := HB4.out
    exact Bel.y
end Go.Proofs.YtjckpkamhdbcnaaGreatDoor
