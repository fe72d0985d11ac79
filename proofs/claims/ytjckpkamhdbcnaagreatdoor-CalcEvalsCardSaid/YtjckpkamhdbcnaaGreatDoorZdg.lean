import Derived.Test.YtjckpkamhdbcnaaGreatDoorZdd
import Derived.Test.YtjckpkamhdbcnaaGreatDoorZde
namespace Go.Proofs.YtjckpkamhdbcnaaGreatDoor
set_option maxRecDepth 100000
set_option maxHeartbeats 64000000
set_option linter.unusedSimpArgs false
set_option linter.unusedVariables false
open Go.RowKit
attribute [local go_sem ↓] Qas Qau
theorem law_Evals (x : Ex) (A : Option Addr) (c : Nat) (l : List Bnd) (AL : Option Addr) (cL : Nat) (w : World) (hm : Mx w) (hsm : smX x) (hln : lnX x) (hL : Lie (fun _ => True) w A x.ks) (hB : Bnds w AL l) (hll : l.length <= 9223372036854775807) (hlf : ∀ b ∈ l, b.Fit) :
  Calls Tryz.prog 3 #[exV x.op x.v (Qaa x.nm) A x.ks.length c, .slice AL l.length cL] w fun e w' => e = .returned (.bool true) /\ Bel w w' := by
 have CA := Hd fun W (hW : Bel w W) => Qo6 W (hm.keep hW)
 have CG := fun W (hW : Bel w W) => Qpp x W A c 1 500 hln (hL.keep hW)
 have CE := fun W (hW : Bel w W) => Qc1 l hll hlf x A c AL cL W hsm (hL.keep hW) (hB.keep hW)
 have CR := fun W (hW : Bel w W) => Qij l hll hlf x A c AL cL W hsm hln (hL.keep hW) (hB.keep hW)
 generalize bgX x 1 500 = g at CG
 generalize evV l x = r at CE CR
 obtain ⟨⟨zk, zn, zs, zt, zm⟩, e⟩ := r
 have z1 := Qhb ⟨zk, zn, zs, zt, zm⟩
 obtain ⟨o, ⟨vk, vn, vs, vt, vm⟩, nm, ks⟩ := x
 simp only [Ex.op, Ex.v, Ex.nm, Ex.ks] at CG CE CR ⊢
 generalize Qaa nm = bn at CG CE CR ⊢
 generalize ks.length = n at CG CE CR ⊢
 have CG := Hd CG
 have CE := Hd CE
 have CR := Hd CR
 clear hm hsm hln hL hB hll hlf
 by_cases hg : g < 0
 ·go_enter Tryz.func3, Tryz.ntmps3
  go_upto_region 1 with fail
  refine uN (w0 := w) (by exact Bel.y) fun W0 hcc hf hz hb0 => ?_
  have T0 : Qab W0 w.heap.size o ⟨vk, vn, vs, vt, vm⟩ bn A n c := by simp [Qab, Qap, hcc, hf, hz, go_sem]
  clear hcc hf hz
  have HNw := Hd (Nat.le_refl w.heap.size)
  generalize hNN : w.heap.size = N at T0
  have HNN := Hd (Nat.le_of_eq hNN)
  clear hNN HNw
  have HB0 := Hd hb0
  have K0 := Hd T0
  clear hb0 T0
  obtain ⟨tz, t0, t1, t2, t3, t4, t5, t6, t7⟩ := K0.out.u
  go_wp2_with (first
   | (go_at_call 10; (with_reducible refine Calls.mono (CG.out _ HB0.out) ?_); rintro e V1 ⟨rfl, hb1⟩; have HB1 := Hd (HB0.out.trans hb1); have K1 := Hd (K0.out.keep hb1); clear hb1 tz t0 t1 t2 t3 t4 t5 t6 t7; obtain ⟨tz, t0, t1, t2, t3, t4, t5, t6, t7⟩ := K1.out.u)
   | (go_at_call 11; (with_reducible refine Calls.mono (CA.out _ HB1.out) ?_); rintro e V2 ⟨rfl, hb2⟩; have HB2 := Hd (HB1.out.trans hb2); have K2 := Hd (K1.out.keep hb2); clear hb2 tz t0 t1 t2 t3 t4 t5 t6 t7; obtain ⟨tz, t0, t1, t2, t3, t4, t5, t6, t7⟩ := K2.out.u))
  go_ret
  exact ⟨rfl, by have h1 := HNN.out; have h2 := HB2.out; exact Bel.y⟩
 go_enter Tryz.func3, Tryz.ntmps3
 go_upto_region 1 with fail
 refine uN (w0 := w) (by exact Bel.y) fun W0 hcc hf hz hb0 => ?_
 have T0 : Qab W0 w.heap.size o ⟨vk, vn, vs, vt, vm⟩ bn A n c := by simp [Qab, Qap, hcc, hf, hz, go_sem]
 clear hcc hf hz
 have HNw := Hd (Nat.le_refl w.heap.size)
 generalize hNN : w.heap.size = N at T0
 have HNN := Hd (Nat.le_of_eq hNN)
 clear hNN HNw
 have HB0 := Hd hb0
 have K0 := Hd T0
 clear hb0 T0
 obtain ⟨tz, t0, t1, t2, t3, t4, t5, t6, t7⟩ := K0.out.u
 go_upto_region 4 with (first
  | (go_at_call 10; (with_reducible refine Calls.mono (CG.out _ HB0.out) ?_); rintro e V1 ⟨rfl, hb1⟩; have HB1 := Hd (HB0.out.trans hb1); have K1 := Hd (K0.out.keep hb1); clear hb1 tz t0 t1 t2 t3 t4 t5 t6 t7; obtain ⟨tz, t0, t1, t2, t3, t4, t5, t6, t7⟩ := K1.out.u)
  | (go_at_call 12; (with_reducible refine Calls.mono (CE.out _ HB1.out) ?_); rintro e V2 ⟨rfl, hb2⟩; have HB2 := Hd (HB1.out.trans hb2); have K2 := Hd (K1.out.keep hb2); clear hb2 tz t0 t1 t2 t3 t4 t5 t6 t7; obtain ⟨tz, t0, t1, t2, t3, t4, t5, t6, t7⟩ := K2.out.u))
 refine uN (w0 := V2) (by exact Bel.y) fun W2 hcc hf hz hb => ?_
 have R0 : Qal W2 V2.heap.size 0 ⟨zk, zn, zs, zt, zm⟩ := by simp [Qal, hcc, hf, hz, go_sem]
 have g0 : V2.heap.size < W2.heap.size := by rw [hz]; simp
 clear hcc hf hz
 have HB3 := Hd (HB2.out.trans hb)
 have K3 := Hd (K2.out.keep hb)
 clear hb
 generalize V2.heap.size = Za at R0 g0
 have KRa := Hd R0
 have Ga := Hd g0
 clear R0 g0 tz t0 t1 t2 t3 t4 t5 t6 t7
 obtain ⟨tz, t0, t1, t2, t3, t4, t5, t6, t7⟩ := K3.out.u
 go_upto_region 5 with (go_at_call 13; (with_reducible refine Calls.mono (CR.out _ HB3.out) ?_); rintro e V4 ⟨rfl, hb4⟩; have hbx := hb4; have HB4 := Hd (HB3.out.trans hb4); have K4 := Hd (K3.out.keep hb4); clear hb4 tz t0 t1 t2 t3 t4 t5 t6 t7; obtain ⟨tz, t0, t1, t2, t3, t4, t5, t6, t7⟩ := K4.out.u; have HXa4 := Hd hbx)
 refine uN (w0 := V4) (by exact Bel.y) fun W4 hcc hf hz hb => ?_
 have R0 : Qal W4 V4.heap.size 0 ⟨zk, zn, zs, zt, zm⟩ := by simp [Qal, hcc, hf, hz, go_sem]
 have g0 : V4.heap.size < W4.heap.size := by rw [hz]; simp
 clear hcc hf hz
 have HB5 := Hd (HB4.out.trans hb)
 have K5 := Hd (K4.out.keep hb)
 have KRa := Hd (KRa.out.keep (HXa4.out.trans hb) Ga.out)
 have Ga := Hd (lL Ga.out (HXa4.out.trans hb).size)
 clear hb
 generalize V4.heap.size = Zb at R0 g0
 have KRb := Hd R0
 have Gb := Hd g0
 clear R0 g0 tz t0 t1 t2 t3 t4 t5 t6 t7
 obtain ⟨tz, t0, t1, t2, t3, t4, t5, t6, t7⟩ := K5.out.u
 clear tz t0 t1 t2 t3 t4 t5 t6 t7
 go_wp2_with (go_at_call 11; (with_reducible refine Calls.mono (CA.out _ HB5.out) ?_); rintro e V6 ⟨rfl, hb6⟩; have ka := KRa.out.keep hb6 Ga.out; have kb := KRb.out.keep hb6 Gb.out; simp only [Qal, Nat.zero_add] at ka kb; have HB6 := Hd (HB5.out.trans hb6); clear hb6)
 go_ret
 exact ⟨rfl, HB6.out⟩
end Go.Proofs.YtjckpkamhdbcnaaGreatDoor
