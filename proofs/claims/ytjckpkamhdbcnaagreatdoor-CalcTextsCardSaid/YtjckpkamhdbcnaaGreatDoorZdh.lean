import Derived.Test.YtjckpkamhdbcnaaGreatDoorZdd
import Derived.Test.YtjckpkamhdbcnaaGreatDoorZde
namespace Go.Proofs.YtjckpkamhdbcnaaGreatDoor
set_option maxRecDepth 100000
set_option maxHeartbeats 64000000
set_option linter.unusedSimpArgs false
set_option linter.unusedVariables false
open Go.RowKit
attribute [local go_sem ↓] Qas Qau
theorem Qxm : ∀ x : Ex, okX x = true -> lnX x := Ex.ind fun o v nm ks IH h => by
 obtain ⟨h1, h2⟩ := Qby h
 exact ⟨by omega, Qol fun x hx => IH x hx (h2 x hx)⟩
theorem law_Texts (s : ByteArray) (hs : s.size <= 9223372036854775807) (l : List Bnd) (AL : Option Addr) (cL : Nat) (w : World) (hm : Mx w) (hB : Bnds w AL l) (hll : l.length <= 9223372036854775807) (hlf : ∀ b ∈ l, b.Fit) :
  Calls Tryz.prog 4 #[.string s, .slice AL l.length cL] w fun e w' => e = .returned (.bool true) /\ Bel w w' := by
 have CA := Hd fun W (hW : Bel w W) => Qo6 W (hm.keep hW)
 by_cases he : (parE s).2.2 = 0
 ·obtain ⟨x, n0, hpu⟩ : ∃ x n, parE s = (x, n, 0) := ⟨(parE s).1, (parE s).2.1, by rw [← he]⟩
  obtain ⟨rfl, hsn, -⟩ := Qi3 hpu
  have hok := Qst hsn
  have hsm := Qss hpu
  have hln := Qxm x hok
  have CP := Hd fun W (hW : Bel w W) => Qfs hpu hs W (hm.keep hW)
  have CG := fun A c W (hW : Lie (fun _ => True) W A x.ks) => Qpp x W A c 1 500 hln hW
  have CE := fun A c W (hW : Bel w W) (hL : Lie (fun _ => True) W A x.ks) => Qc1 l hll hlf x A c AL cL W hsm hL (hB.keep hW)
  have CR := fun A c W (hW : Bel w W) (hL : Lie (fun _ => True) W A x.ks) => Qij l hll hlf x A c AL cL W hsm hln hL (hB.keep hW)
  generalize bgX x 1 500 = g at CG
  generalize evV l x = r at CE CR
  obtain ⟨⟨zk, zn, zs, zt, zm⟩, e⟩ := r
  have z1 := Qhb ⟨zk, zn, zs, zt, zm⟩
  clear hs hm hsn hok hsm hln hpu he hB hll hlf
  obtain ⟨o, ⟨vk, vn, vs, vt, vm⟩, nm, ks⟩ := x
  simp only [Ex.op, Ex.v, Ex.nm, Ex.ks] at CP CG CE CR
  generalize Qaa nm = bn at CP CG CE CR
  generalize hnk : ks.length = n at CP CG CE CR
  clear hnk
  have CG := Hd CG
  have CE := Hd CE
  have CR := Hd CR
  by_cases hg : g < 0
  ·go_enter Tryz.func4, Tryz.ntmps4
   go_upto_region 2 with (go_at_call 14; (with_reducible refine Calls.mono (CP.out _ (Bel.refl _)) ?_); rintro e V1 ⟨A, c, rfl, h1, hb1⟩; have hq1 := Hd hb1; have h1 := Hd h1; clear hb1)
   refine uN (w0 := V1) (by exact Bel.y) fun W0 hcc hf hz hb2 => ?_
   have T2 : Qab W0 V1.heap.size o ⟨vk, vn, vs, vt, vm⟩ bn A n c := by simp [Qab, Qap, hcc, hf, hz, go_sem]
   clear hcc hf hz
   generalize V1.heap.size = N at T2
   have HB0 := Hd (hq1.out.trans hb2)
   have L0 := Hd (h1.out.keep hb2)
   have K0 := Hd T2
   clear hb2 T2
   obtain ⟨tz, t0, t1, t2, t3, t4, t5, t6, t7⟩ := K0.out.u
   go_upto_region 3 with (first
    | (go_at_call 11; (with_reducible refine Calls.mono (CA.out _ HB0.out) ?_); rintro e V1 ⟨rfl, hb1⟩; have HB1 := Hd (HB0.out.trans hb1); have K1 := Hd (K0.out.keep hb1); have L1 := Hd (L0.out.keep hb1); clear hb1 tz t0 t1 t2 t3 t4 t5 t6 t7; obtain ⟨tz, t0, t1, t2, t3, t4, t5, t6, t7⟩ := K1.out.u)
    | (go_at_call 10; (with_reducible refine Calls.mono (CG.out _ _ _ L1.out) ?_); rintro e V2 ⟨rfl, hb2⟩; have HB2 := Hd (HB1.out.trans hb2); have K2 := Hd (K1.out.keep hb2); have L2 := Hd (L1.out.keep hb2); clear hb2 tz t0 t1 t2 t3 t4 t5 t6 t7; obtain ⟨tz, t0, t1, t2, t3, t4, t5, t6, t7⟩ := K2.out.u))
   clear tz t0 t1 t2 t3 t4 t5 t6 t7
   go_wp2_with (go_at_call 11; (with_reducible refine Calls.mono (CA.out _ HB2.out) ?_); rintro e V3 ⟨rfl, hb3⟩; have HB3 := Hd (HB2.out.trans hb3); clear hb3)
   go_ret
   exact ⟨rfl, HB3.out⟩
  go_enter Tryz.func4, Tryz.ntmps4
  go_upto_region 2 with (go_at_call 14; (with_reducible refine Calls.mono (CP.out _ (Bel.refl _)) ?_); rintro e V1 ⟨A, c, rfl, h1, hb1⟩; have hq1 := Hd hb1; have h1 := Hd h1; clear hb1)
  refine uN (w0 := V1) (by exact Bel.y) fun W0 hcc hf hz hb2 => ?_
  have T2 : Qab W0 V1.heap.size o ⟨vk, vn, vs, vt, vm⟩ bn A n c := by simp [Qab, Qap, hcc, hf, hz, go_sem]
  clear hcc hf hz
  generalize V1.heap.size = N at T2
  have HB0 := Hd (hq1.out.trans hb2)
  have L0 := Hd (h1.out.keep hb2)
  have K0 := Hd T2
  clear hb2 T2
  obtain ⟨tz, t0, t1, t2, t3, t4, t5, t6, t7⟩ := K0.out.u
  go_upto_region 5 with (first
   | (go_at_call 11; (with_reducible refine Calls.mono (CA.out _ HB0.out) ?_); rintro e V1 ⟨rfl, hb1⟩; have HB1 := Hd (HB0.out.trans hb1); have K1 := Hd (K0.out.keep hb1); have L1 := Hd (L0.out.keep hb1); clear hb1 tz t0 t1 t2 t3 t4 t5 t6 t7; obtain ⟨tz, t0, t1, t2, t3, t4, t5, t6, t7⟩ := K1.out.u)
   | (go_at_call 10; (with_reducible refine Calls.mono (CG.out _ _ _ L1.out) ?_); rintro e V2 ⟨rfl, hb2⟩; have HB2 := Hd (HB1.out.trans hb2); have K2 := Hd (K1.out.keep hb2); have L2 := Hd (L1.out.keep hb2); clear hb2 tz t0 t1 t2 t3 t4 t5 t6 t7; obtain ⟨tz, t0, t1, t2, t3, t4, t5, t6, t7⟩ := K2.out.u)
   | (go_at_call 12; (with_reducible refine Calls.mono (CE.out _ _ _ HB2.out L2.out) ?_); rintro e V3 ⟨rfl, hb3⟩; have HB3 := Hd (HB2.out.trans hb3); have K3 := Hd (K2.out.keep hb3); have L3 := Hd (L2.out.keep hb3); clear hb3 tz t0 t1 t2 t3 t4 t5 t6 t7; obtain ⟨tz, t0, t1, t2, t3, t4, t5, t6, t7⟩ := K3.out.u))
  refine uN (w0 := V3) (by exact Bel.y) fun W3 hcc hf hz hb => ?_
  have R0 : Qal W3 V3.heap.size 0 ⟨zk, zn, zs, zt, zm⟩ := by simp [Qal, hcc, hf, hz, go_sem]
  have g0 : V3.heap.size < W3.heap.size := by rw [hz]; simp
  clear hcc hf hz
  have HB4 := Hd (HB3.out.trans hb)
  have K4 := Hd (K3.out.keep hb)
  have L4 := Hd (L3.out.keep hb)
  clear hb
  generalize V3.heap.size = Za at R0 g0
  have KRa := Hd R0
  have Ga := Hd g0
  clear R0 g0 tz t0 t1 t2 t3 t4 t5 t6 t7
  obtain ⟨tz, t0, t1, t2, t3, t4, t5, t6, t7⟩ := K4.out.u
  go_upto_region 6 with (go_at_call 13; (with_reducible refine Calls.mono (CR.out _ _ _ HB4.out L4.out) ?_); rintro e V5 ⟨rfl, hb5⟩; have hbx := hb5; have HB5 := Hd (HB4.out.trans hb5); have K5 := Hd (K4.out.keep hb5); have L5 := Hd (L4.out.keep hb5); clear hb5 tz t0 t1 t2 t3 t4 t5 t6 t7; obtain ⟨tz, t0, t1, t2, t3, t4, t5, t6, t7⟩ := K5.out.u; have HXa5 := Hd hbx)
  refine uN (w0 := V5) (by exact Bel.y) fun W5 hcc hf hz hb => ?_
  have R0 : Qal W5 V5.heap.size 0 ⟨zk, zn, zs, zt, zm⟩ := by simp [Qal, hcc, hf, hz, go_sem]
  have g0 : V5.heap.size < W5.heap.size := by rw [hz]; simp
  clear hcc hf hz
  have HB6 := Hd (HB5.out.trans hb)
  have K6 := Hd (K5.out.keep hb)
  have L6 := Hd (L5.out.keep hb)
  have KRa := Hd (KRa.out.keep (HXa5.out.trans hb) Ga.out)
  have Ga := Hd (lL Ga.out (HXa5.out.trans hb).size)
  clear hb
  generalize V5.heap.size = Zb at R0 g0
  have KRb := Hd R0
  have Gb := Hd g0
  clear R0 g0 tz t0 t1 t2 t3 t4 t5 t6 t7
  obtain ⟨tz, t0, t1, t2, t3, t4, t5, t6, t7⟩ := K6.out.u
  have ka := KRa.out
  have kb := KRb.out
  simp only [Qal, Nat.zero_add] at ka kb
  clear tz t0 t1 t2 t3 t4 t5 t6 t7
  go_wp2_with fail
  go_ret
  exact ⟨rfl, HB6.out⟩
 have CP := Hd fun W (hW : Bel w W) => Qfs (s := s) (x := (parE s).1) (n := (parE s).2.1) (e := (parE s).2.2) rfl hs W (hm.keep hW)
 have g1 : (((parE s).2.2 : Int) != 0) = true := by rw [bne_iff_ne]; omega
 generalize parE s = R at CP g1
 obtain ⟨⟨o, ⟨vk, vn, vs, vt, vm⟩, nm, ks⟩, pl, er⟩ := R
 simp only [Ex.op, Ex.v, Ex.nm, Ex.ks] at CP g1
 generalize Qaa nm = bn at CP
 generalize hnk : ks.length = n at CP
 clear hs hm he hnk hB hll hlf
 go_enter Tryz.func4, Tryz.ntmps4
 go_upto_region 2 with (go_at_call 14; (with_reducible refine Calls.mono (CP.out _ (Bel.refl _)) ?_); rintro e V1 ⟨A, c, rfl, h1, hb1⟩; have hq1 := Hd hb1; have h1 := Hd h1; clear hb1)
 refine uN (w0 := V1) (by exact Bel.y) fun W0 hcc hf hz hb2 => ?_
 have T2 : Qab W0 V1.heap.size o ⟨vk, vn, vs, vt, vm⟩ bn A n c := by simp [Qab, Qap, hcc, hf, hz, go_sem]
 clear hcc hf hz
 generalize V1.heap.size = N at T2
 have HB0 := Hd (hq1.out.trans hb2)
 have L0 := Hd (h1.out.keep hb2)
 have K0 := Hd T2
 clear hb2 T2
 obtain ⟨tz, t0, t1, t2, t3, t4, t5, t6, t7⟩ := K0.out.u
 clear tz t0 t1 t2 t3 t4 t5 t6 t7
 go_upto_region 3 with (go_at_call 11; (with_reducible refine Calls.mono (CA.out _ HB0.out) ?_); rintro e V2 ⟨rfl, hb2⟩; have HB1 := Hd (HB0.out.trans hb2); clear hb2)
 go_wp2_with (go_at_call 11; (with_reducible refine Calls.mono (CA.out _ HB1.out) ?_); rintro e V3 ⟨rfl, hb3⟩; have HB2 := Hd (HB1.out.trans hb3); clear hb3)
 go_ret
 exact ⟨rfl, HB2.out⟩
end Go.Proofs.YtjckpkamhdbcnaaGreatDoor
