import Derived.Test.YtjckpkamhdbcnaaGreatDoorZbj
import Derived.Test.YtjckpkamhdbcnaaGreatDoorZde
import Derived.Test.YtjckpkamhdbcnaaGreatDoorZdk
namespace Go.Proofs.YtjckpkamhdbcnaaGreatDoor
set_option maxRecDepth 100000
set_option maxHeartbeats 64000000
set_option linter.unusedSimpArgs false
set_option linter.unusedVariables false
open Go.RowKit
attribute [local go_sem ↓] Qas Qau
theorem wpOp_app {P : Program} {ops : Array Go.Oper} {Q : Exit -> Act -> World -> Prop} {K : Act -> World -> Prop} {a : Act} {w w' : World} {v' : Value} {i : Nat} {o : Go.Oper} (hi : ops[i]? = some o) (hw : Region.wanted o (yielded ops a.tmps) = true) (s x : Operand) (t : TypeId)
  (ho : o.op = .call { callee := .builtin .append, args := #[s, x], argTypes := #[t, t] }) (hr : (Builtin.append_ #[t, t] o.type #[a.eval s, a.eval x]).run P w = .ok v' w') (h : K (a.put o.dst v') w') : wpOp P ops Q i K a w :=
 Qf9 hi hw (by
  unfold execOp
  simp only [ho, resolve, invoke, builtin, Sem.run_bind, Sem.run_pure, Result.andThen_ok, List.map_toArray, List.map_cons, List.map_nil, hr]) h
theorem own_at {n b : Nat} (h : b < n) : (Value.slice (some ⟨n, 0, none⟩) 0 0).ownBlock ≠ some b := by
 intro e
 simp [Value.ownBlock] at e
 try omega
mutual
theorem evX_more (l m : List Bnd) : ∀ x : Ex, bdsX l x = true -> evX (l ++ m) x = evX l x /\ bdsX (l ++ m) x = true
 | .mk o v nm ks, h => by
  rw [bdsX, bA] at h
  obtain ⟨h1, h2⟩ := h
  obtain ⟨e1, e2⟩ := evL_more l m ks h2
  rw [evX, evX, e1, bdsX, e2, Bool.and_true]
  by_cases ho : o = 2
  ·rw [iP ho] at h1 ⊢
   have hf : (l ++ m).find? (nmIs (Qaa nm)) = l.find? (nmIs (Qaa nm)) := by
    rw [List.find?_append]
    cases hq : l.find? (nmIs (Qaa nm)) with
    | none => rw [hq] at h1; cases h1
    | some y => rfl
   refine ⟨?_, by rw [hf]; exact h1⟩
   unfold evO lookB
   rw [hf]
  rw [iN ho]
  refine ⟨?_, rfl⟩
  unfold evO
  simp only [iN ho]
theorem evL_more (l m : List Bnd) : ∀ ks : List Ex, bdsL l ks = true -> evL (l ++ m) ks = evL l ks /\ bdsL (l ++ m) ks = true
 | [], _ => by rw [evL, evL, bdsL]; exact ⟨rfl, rfl⟩
 | x :: t, h => by
  rw [bdsL, bA] at h
  obtain ⟨a1, a2⟩ := evX_more l m x h.1
  obtain ⟨b1, b2⟩ := evL_more l m t h.2
  rw [evL, evL, a1, b1, bdsL, a2, b2]
  exact ⟨rfl, rfl⟩
end
theorem evV_ok {l : List Bnd} {x : Ex} (h : (evV l x).2 = 0) : sndX x = true /\ (l.all fun b => vsnd b.v) = true /\ bdsX l x = true /\ evV l x = (evX l x, 0) := by
 unfold evV at h ⊢
 by_cases h1 : sndX x = true /\ (l.all fun b => vsnd b.v) = true
 ·rw [iP h1] at h ⊢
  by_cases h2 : bdsX l x = true
  ·rw [iP h2]
   exact ⟨h1.1, h1.2, h2, rfl⟩
  rw [iN h2] at h
  exact absurd h (by decide)
 rw [iN h1] at h
 exact absurd h (by decide)
theorem law_Sound (x : Ex) (A : Option Addr) (c : Nat) (l : List Bnd) (AL : Option Addr) (cL : Nat) (m : Bnd) (w : World) (hm : Mx w) (hsm : smX x) (hln : lnX x) (hL : Lie (fun _ => True) w A x.ks) (hB : Bnds w AL l) (hll : l.length <= 1048576) (hlf : ∀ b ∈ l, b.Fit) (hA0 : AL = none -> cL = 0) (hmf : m.Fit) :
  Calls Tryz.prog 7 #[exV x.op x.v (Qaa x.nm) A x.ks.length c, .slice AL l.length cL, m.val] w fun e w' => e = .returned (.bool true) /\ Bel w w' := by
 have CA := Hd fun W (hW : Bel w W) => Qo6 W (hm.keep hW)
 have CG := fun W (hW : Bel w W) => Qpp x W A c 1 300 hln (hL.keep hW)
 have CE := fun W (hW : Bel w W) => Qc1 l (by omega) hlf x A c AL cL W hsm (hL.keep hW) (hB.keep hW)
 have CM := fun W => Qat m.v hmf W
 have ET : (evV l x).2 = 0 -> vsnd m.v = true -> evV (l ++ [m]) x = evV l x /\ vsnd (evV l x).1 = true := fun h hv => by
  obtain ⟨h1, h2, h3, h4⟩ := evV_ok h
  obtain ⟨e1, e2⟩ := evX_more l [m] x h3
  refine ⟨?_, ?_⟩
  ·rw [h4]
   unfold evV
   rw [iP ⟨h1, by rw [List.all_append, h2, Bool.true_and]; simp [hv]⟩, iP e2, e1]
  rw [h4]
  exact Qh9 (fun b hb => List.all_eq_true.1 h2 b hb) x (Qst h1)
 have CF := fun W A1 c1 (hW : Bel w W) (hB1 : Bnds W A1 (l ++ [m])) => Qc1 (l ++ [m]) (by rw [lA]; simp; omega) (fun b hb => by rcases List.mem_append.1 hb with h | h; exact hlf b h; rw [List.mem_singleton.1 h]; exact hmf) x A c A1 c1 W hsm (hL.keep hW) hB1
 have HBB := Hd hB
 have HL1 := Hd (show ([] : List Bnd).length + l.length <= 1048577 by simp; omega)
 have HL2 := Hd (show l.length + [m].length <= 1048577 by simp; omega)
 generalize bgX x 1 300 = g at CG
 clear hm hsm hln hL hB hlf hll
 obtain ⟨mn, ⟨mk, mm, ms, mt, mu⟩⟩ := m
 by_cases hg : g < 0
 ·clear CF CM ET HL1 HL2
  obtain ⟨o, ⟨vk, vn, vs, vt, vm⟩, nm, ks⟩ := x
  simp only [Ex.op, Ex.v, Ex.nm, Ex.ks] at CG CE ⊢
  generalize Qaa nm = bn at CG CE ⊢
  generalize ks.length = n at CG CE ⊢
  have CG := Hd CG
  clear CE
  go_enter Tryz.func7, Tryz.ntmps7
  go_upto_region 1 with fail
  refine uN (w0 := w) (by exact Bel.y) fun W0 hcc hf hz hb0 => ?_
  have T0 : Qab W0 w.heap.size o ⟨vk, vn, vs, vt, vm⟩ bn A n c := by simp [Qab, Qap, hcc, hf, hz, go_sem]
  have M0 : BndAt W0 (w.heap.size + 1) 0 ⟨mn, ⟨mk, mm, ms, mt, mu⟩⟩ := by simp [BndAt, hcc, hf, hz, go_sem]
  have g1 : w.heap.size + 1 < W0.heap.size := by rw [hz]; simp
  clear hcc hf hz
  have HNw := Hd (Nat.le_refl w.heap.size)
  generalize hNN : w.heap.size = N at T0 M0 g1
  have HNN := Hd (Nat.le_of_eq hNN)
  clear hNN HNw
  have HB0 := Hd hb0
  have K0 := Hd T0
  have M0 := Hd M0
  have G1 := Hd g1
  clear hb0 T0 g1
  obtain ⟨tz, t0, t1, t2, t3, t4, t5, t6, t7⟩ := K0.out.u
  have HM0 := Hd (Bel.refl W0)
  go_wp2_with (first
   | (go_at_call 10; (with_reducible refine Calls.mono (CG.out _ HB0.out) ?_); rintro e V1 ⟨rfl, hb1⟩; have HB1 := Hd (HB0.out.trans hb1); have K1 := Hd (K0.out.keep hb1); have HM1 := Hd (HM0.out.trans hb1); clear hb1 tz t0 t1 t2 t3 t4 t5 t6 t7; obtain ⟨tz, t0, t1, t2, t3, t4, t5, t6, t7⟩ := K1.out.u)
   | (go_at_call 11; (with_reducible refine Calls.mono (CA.out _ HB1.out) ?_); rintro e V2 ⟨rfl, hb2⟩; have HB2 := Hd (HB1.out.trans hb2); have K2 := Hd (K1.out.keep hb2); clear hb2 tz t0 t1 t2 t3 t4 t5 t6 t7; obtain ⟨tz, t0, t1, t2, t3, t4, t5, t6, t7⟩ := K2.out.u))
  go_ret
  exact ⟨rfl, by have h1 := HNN.out; have h2 := HB2.out; exact Bel.y⟩
 by_cases he : (evV l x).2 = 0
 ·cases hv : vsnd ⟨mk, mm, ms, mt, mu⟩ with
  | false =>
   rw [show (⟨mn, ⟨mk, mm, ms, mt, mu⟩⟩ : Bnd).v = ⟨mk, mm, ms, mt, mu⟩ from rfl, hv] at CM
   generalize hr : evV l x = r at CE he
   obtain ⟨⟨zk, zn, zs, zt, zm⟩, e⟩ := r
   obtain rfl : e = 0 := he
   clear ET CF hr hv HL1 HL2 hA0
   obtain ⟨o, ⟨vk, vn, vs, vt, vm⟩, nm, ks⟩ := x
   simp only [Ex.op, Ex.v, Ex.nm, Ex.ks] at CG CE ⊢
   generalize Qaa nm = bn at CG CE ⊢
   generalize ks.length = n at CG CE ⊢
   have CG := Hd CG
   have CE := Hd CE
   have CM := Hd CM
   go_enter Tryz.func7, Tryz.ntmps7
   go_upto_region 1 with fail
   refine uN (w0 := w) (by exact Bel.y) fun W0 hcc hf hz hb0 => ?_
   have T0 : Qab W0 w.heap.size o ⟨vk, vn, vs, vt, vm⟩ bn A n c := by simp [Qab, Qap, hcc, hf, hz, go_sem]
   have M0 : BndAt W0 (w.heap.size + 1) 0 ⟨mn, ⟨mk, mm, ms, mt, mu⟩⟩ := by simp [BndAt, hcc, hf, hz, go_sem]
   have g1 : w.heap.size + 1 < W0.heap.size := by rw [hz]; simp
   clear hcc hf hz
   have HNw := Hd (Nat.le_refl w.heap.size)
   generalize hNN : w.heap.size = N at T0 M0 g1
   have HNN := Hd (Nat.le_of_eq hNN)
   clear hNN HNw
   have HB0 := Hd hb0
   have K0 := Hd T0
   have M0 := Hd M0
   have G1 := Hd g1
   clear hb0 T0 g1
   obtain ⟨tz, t0, t1, t2, t3, t4, t5, t6, t7⟩ := K0.out.u
   have HM0 := Hd (Bel.refl W0)
   go_upto_region 4 with (first
    | (go_at_call 10; (with_reducible refine Calls.mono (CG.out _ HB0.out) ?_); rintro e V1 ⟨rfl, hb1⟩; have HB1 := Hd (HB0.out.trans hb1); have K1 := Hd (K0.out.keep hb1); have HM1 := Hd (HM0.out.trans hb1); clear hb1 tz t0 t1 t2 t3 t4 t5 t6 t7; obtain ⟨tz, t0, t1, t2, t3, t4, t5, t6, t7⟩ := K1.out.u)
    | (go_at_call 12; (with_reducible refine Calls.mono (CE.out _ HB1.out) ?_); rintro e V2 ⟨rfl, hb2⟩; have HB2 := Hd (HB1.out.trans hb2); have K2 := Hd (K1.out.keep hb2); have HM2 := Hd (HM1.out.trans hb2); clear hb2 tz t0 t1 t2 t3 t4 t5 t6 t7; obtain ⟨tz, t0, t1, t2, t3, t4, t5, t6, t7⟩ := K2.out.u))
   refine uN (w0 := V2) (by exact Bel.y) fun W2 hcc hf hz hb => ?_
   have R0 : Qal W2 V2.heap.size 0 ⟨zk, zn, zs, zt, zm⟩ := by simp [Qal, hcc, hf, hz, go_sem]
   have g0 : V2.heap.size < W2.heap.size := by rw [hz]; simp
   clear hcc hf hz
   have HB3 := Hd (HB2.out.trans hb)
   have K3 := Hd (K2.out.keep hb)
   have HM3 := Hd (HM2.out.trans hb)
   clear hb
   generalize V2.heap.size = Za at R0 g0
   have KRa := Hd R0
   have Ga := Hd g0
   have MK := Hd (BndAt.keep M0.out HM3.out G1.out)
   have MG := Hd (lL G1.out HM3.out.size)
   clear R0 g0 tz t0 t1 t2 t3 t4 t5 t6 t7
   have HX3 := Hd (Bel.refl W2)
   obtain ⟨m0, m1, m2, m3, m4, m5⟩ := MK.out
   simp only [Nat.zero_add] at m0 m1 m2 m3 m4 m5
   go_upto_region 5 with (first
    | (go_at_call 11; (with_reducible refine Calls.mono (CA.out _ HB3.out) ?_); rintro e V4 ⟨rfl, hb⟩; have HB4 := Hd (HB3.out.trans hb); have HX4 := Hd (HX3.out.trans hb); clear hb m0 m1 m2 m3 m4 m5; obtain ⟨m0, m1, m2, m3, m4, m5⟩ := MK.out.keep HX4.out MG.out; simp only [Nat.zero_add] at m0 m1 m2 m3 m4 m5)
    | (go_at_call 20; (with_reducible refine Calls.mono (CM.out _) ?_); rintro e V5 ⟨rfl, hb⟩; have HB5 := Hd (HB4.out.trans hb); have HX5 := Hd (HX4.out.trans hb); clear hb))
   go_wp2_with (go_at_call 11; (with_reducible refine Calls.mono (CA.out _ HB5.out) ?_); rintro e V6 ⟨rfl, hb⟩; have HB6 := Hd (HB5.out.trans hb); clear hb)
   go_ret
   exact ⟨rfl, HB6.out⟩
  | true =>
   obtain ⟨q1, q2⟩ := ET he hv
   rw [q1] at CF
   rw [show (⟨mn, ⟨mk, mm, ms, mt, mu⟩⟩ : Bnd).v = ⟨mk, mm, ms, mt, mu⟩ from rfl, hv] at CM
   generalize hr : evV l x = r at CE CF he q2
   obtain ⟨⟨zk, zn, zs, zt, zm⟩, e⟩ := r
   obtain rfl : e = 0 := he
   have CZ := fun W => Qat ⟨zk, zn, zs, zt, zm⟩ (Qav q2) W
   rw [show vsnd ⟨zk, zn, zs, zt, zm⟩ = true from q2] at CZ
   have z1 := Qhb ⟨zk, zn, zs, zt, zm⟩
   clear ET hr hv q1 q2
   obtain ⟨o, ⟨vk, vn, vs, vt, vm⟩, nm, ks⟩ := x
   simp only [Ex.op, Ex.v, Ex.nm, Ex.ks] at CG CE CF ⊢
   generalize Qaa nm = bn at CG CE CF ⊢
   generalize ks.length = n at CG CE CF ⊢
   have CG := Hd CG
   have CE := Hd CE
   have CF := Hd CF
   have CM := Hd CM
   have CZ := Hd CZ
   go_enter Tryz.func7, Tryz.ntmps7
   go_upto_region 1 with fail
   refine uN (w0 := w) (by exact Bel.y) fun W0 hcc hf hz hb0 => ?_
   have T0 : Qab W0 w.heap.size o ⟨vk, vn, vs, vt, vm⟩ bn A n c := by simp [Qab, Qap, hcc, hf, hz, go_sem]
   have M0 : BndAt W0 (w.heap.size + 1) 0 ⟨mn, ⟨mk, mm, ms, mt, mu⟩⟩ := by simp [BndAt, hcc, hf, hz, go_sem]
   have g1 : w.heap.size + 1 < W0.heap.size := by rw [hz]; simp
   clear hcc hf hz
   have HNw := Hd (Nat.le_refl w.heap.size)
   generalize hNN : w.heap.size = N at T0 M0 g1
   have HNN := Hd (Nat.le_of_eq hNN)
   clear hNN HNw
   have HB0 := Hd hb0
   have K0 := Hd T0
   have M0 := Hd M0
   have G1 := Hd g1
   clear hb0 T0 g1
   obtain ⟨tz, t0, t1, t2, t3, t4, t5, t6, t7⟩ := K0.out.u
   have HM0 := Hd (Bel.refl W0)
   go_upto_region 4 with (first
    | (go_at_call 10; (with_reducible refine Calls.mono (CG.out _ HB0.out) ?_); rintro e V1 ⟨rfl, hb1⟩; have HB1 := Hd (HB0.out.trans hb1); have K1 := Hd (K0.out.keep hb1); have HM1 := Hd (HM0.out.trans hb1); clear hb1 tz t0 t1 t2 t3 t4 t5 t6 t7; obtain ⟨tz, t0, t1, t2, t3, t4, t5, t6, t7⟩ := K1.out.u)
    | (go_at_call 12; (with_reducible refine Calls.mono (CE.out _ HB1.out) ?_); rintro e V2 ⟨rfl, hb2⟩; have HB2 := Hd (HB1.out.trans hb2); have K2 := Hd (K1.out.keep hb2); have HM2 := Hd (HM1.out.trans hb2); clear hb2 tz t0 t1 t2 t3 t4 t5 t6 t7; obtain ⟨tz, t0, t1, t2, t3, t4, t5, t6, t7⟩ := K2.out.u))
   refine uN (w0 := V2) (by exact Bel.y) fun W2 hcc hf hz hb => ?_
   have R0 : Qal W2 V2.heap.size 0 ⟨zk, zn, zs, zt, zm⟩ := by simp [Qal, hcc, hf, hz, go_sem]
   have g0 : V2.heap.size < W2.heap.size := by rw [hz]; simp
   clear hcc hf hz
   have HB3 := Hd (HB2.out.trans hb)
   have K3 := Hd (K2.out.keep hb)
   have HM3 := Hd (HM2.out.trans hb)
   clear hb
   generalize V2.heap.size = Za at R0 g0
   have KRa := Hd R0
   have Ga := Hd g0
   have MK := Hd (BndAt.keep M0.out HM3.out G1.out)
   have MG := Hd (lL G1.out HM3.out.size)
   clear R0 g0 tz t0 t1 t2 t3 t4 t5 t6 t7
   have HX3 := Hd (Bel.refl W2)
   obtain ⟨m0, m1, m2, m3, m4, m5⟩ := MK.out
   simp only [Nat.zero_add] at m0 m1 m2 m3 m4 m5
   go_upto_region 6 with (first
    | (go_at_call 11; (with_reducible refine Calls.mono (CA.out _ HB3.out) ?_); rintro e V4 ⟨rfl, hb⟩; have HB4 := Hd (HB3.out.trans hb); have HX4 := Hd (HX3.out.trans hb); clear hb m0 m1 m2 m3 m4 m5; obtain ⟨m0, m1, m2, m3, m4, m5⟩ := MK.out.keep HX4.out MG.out; simp only [Nat.zero_add] at m0 m1 m2 m3 m4 m5)
    | (go_at_call 20; (with_reducible refine Calls.mono (CM.out _) ?_); rintro e V5 ⟨rfl, hb⟩; have HB5 := Hd (HB4.out.trans hb); have HX5 := Hd (HX4.out.trans hb); clear hb))
   have KW := Hd (K3.out.keep HX5.out)
   have KM := Hd (MK.out.keep HX5.out MG.out)
   have MG5 := Hd (lL MG.out HX5.out.size)
   have KA := Hd (KRa.out.keep HX5.out Ga.out)
   have GA := Hd (lL Ga.out HX5.out.size)
   have HBW := Hd HB5.out
   clear m0 m1 m2 m3 m4 m5 HX3 HX4 HX5 HB0 HB1 HB2 HB3 HB4 HB5 HM0 HM1 HM2 HM3 K0 K1 K2 K3 KRa Ga MK MG M0 G1
   generalize V5 = W at KW KM MG5 KA GA HBW ⊢
   go_cut [9, 10] (fun s9 s10 wx => (∃ B, s9 = .pointer (some ⟨B, 0, none⟩) /\ s10 = .int .i64 0 /\ Slot wx B ⟨zk, zn, zs, zt, zm⟩) /\ Bel W wx)
   case first =>
    have RX := Hd fun X (hX : Bel W X) => (show Qap X N 0 o ⟨vk, vn, vs, vt, vm⟩ bn A n c from (KW.out.keep hX).2.1)
    have RM := Hd fun X (hX : Bel W X) => BndAt.keep KM.out hX MG5.out
    simp only [Qap, BndAt, Nat.zero_add] at RX RM
    have HLB := Hd (HBB.out.keep HBW.out)
    have CE2 := Hd fun X A1 c1 (hX : Bel W X) (hB1 : Bnds X A1 (l ++ [⟨mn, ⟨mk, mm, ms, mt, mu⟩⟩])) => CF.out X A1 c1 (HBW.out.trans hX) hB1
    clear KA GA CE CA CG CM CZ CF KM KW MG5 HBB HBW HNN
    refine wp_region_noPanic (wp_region_held (S := fun X => Bel W X) (by kernel_rfl) ?_)
    have hX0 : Bel W { W with drawn := W.drawn + 1 } := (Bel.refl W).drew
    generalize { W with drawn := W.drawn + 1 } = X0 at hX0 ⊢
    refine wpAnyH_take (i := 0) (v := .agg #[.int .i64 o, .int .i64 vk, .int .i64 vn, .int .i64 vs, .string vt, .int .i64 vm, .string bn, .slice A n c]) rfl (by kernel_rfl) (by kernel_rfl) (by kernel_rfl) (fun _ _ _ h => h) (.inl ⟨by rfl, fun X hS => by obtain ⟨t0, t1, t2, t3, t4, t5, t6, t7⟩ := RX.out X hS; go_simp; first | done | with_reducible rfl | rfl⟩) hX0 ?_
    (try simp only [Act.put, List.getElem_toArray, List.getElem_cons_zero, List.getElem_cons_succ, List.setIfInBounds_toArray, List.set_cons_zero, List.set_cons_succ])
    refine wpAnyH_take (i := 2) (v := (.slice AL l.length cL)) rfl (by kernel_rfl) (by kernel_rfl) (by kernel_rfl) (fun _ _ _ h => h) (.inl ⟨by rfl, fun X hS => by clear hS; go_simp; first | done | with_reducible rfl | rfl⟩) hX0 ?_
    (try simp only [Act.put, List.getElem_toArray, List.getElem_cons_zero, List.getElem_cons_succ, List.setIfInBounds_toArray, List.set_cons_zero, List.set_cons_succ])
    refine wpAnyH_take (i := 4) (v := .agg #[.string mn, .int .i64 mk, .int .i64 mm, .int .i64 ms, .string mt, .int .i64 mu]) rfl (by kernel_rfl) (by kernel_rfl) (by kernel_rfl) (fun _ _ _ h => h) (.inl ⟨by rfl, fun X hS => by obtain ⟨m0, m1, m2, m3, m4, m5⟩ := RM.out X hS; go_simp; first | done | with_reducible rfl | rfl⟩) hX0 ?_
    (try simp only [Act.put, List.getElem_toArray, List.getElem_cons_zero, List.getElem_cons_succ, List.setIfInBounds_toArray, List.set_cons_zero, List.set_cons_succ])
    refine wpAnyH_all (rs := [1, 5, 11]) (by kernel_rfl) (by simp) fun i hi => ?_
    simp only [List.mem_cons, List.not_mem_nil, or_false] at hi
    rcases hi with rfl | rfl | rfl
    ·have hb : Bel X0 (X0.alloc (.cells #[] 46)) := (Bel.refl _).alloc _
     have OB := OwnB.made hX0
     refine Qf9 (v := .slice (some ⟨X0.heap.size, 0, none⟩) 0 0) (w' := (X0.alloc (.cells #[] 46))) rfl (by rfl) (by go_simp; first | done | with_reducible rfl | rfl) ⟨hX0.trans hb, ?_⟩
     (try simp only [Act.put, List.getElem_toArray, List.getElem_cons_zero, List.getElem_cons_succ, List.setIfInBounds_toArray, List.set_cons_zero, List.set_cons_succ])
     have hX1 := hX0.trans hb
     clear hb
     generalize (Value.slice (some ⟨X0.heap.size, 0, none⟩) 0 0) = va at OB ⊢
     generalize (X0.alloc (.cells #[] 46)) = X1 at OB hX1 ⊢
     refine wpAnyH_all (rs := [3, 5, 11]) (by kernel_rfl) (by simp) fun i hi => ?_
     simp only [List.mem_cons, List.not_mem_nil, or_false] at hi
     rcases hi with rfl | rfl | rfl
     ·obtain ⟨v2, X2, hr, OC, hX2, bt, ow⟩ := app_bd hX1 OB (HLB.out.keep hX1) rfl hA0 HL1.out 29
      refine wpOp_app rfl (by rfl) _ _ _ rfl hr ⟨hX2, ?_⟩
      (try simp only [Act.put, List.getElem_toArray, List.getElem_cons_zero, List.getElem_cons_succ, List.setIfInBounds_toArray, List.set_cons_zero, List.set_cons_succ])
      clear OB hr bt ow
      have OB := OC; clear OC
      simp only [List.nil_append] at OB
      refine wpAnyH_all (rs := [5, 11]) (by kernel_rfl) (by simp) fun i hi => ?_
      simp only [List.mem_cons, List.not_mem_nil, or_false] at hi
      rcases hi with rfl | rfl
      ·have hb : Bel X2 (X2.alloc (.cells #[.string mn, .int .i64 mk, .int .i64 mm, .int .i64 ms, .string mt, .int .i64 mu] 46)) := (Bel.refl _).alloc _
       have A5 : Bnds (X2.alloc (.cells #[.string mn, .int .i64 mk, .int .i64 mm, .int .i64 ms, .string mt, .int .i64 mu] 46)) (some ⟨X2.heap.size, 0, none⟩) [⟨mn, ⟨mk, mm, ms, mt, mu⟩⟩] := Qrr X2 ⟨mn, ⟨mk, mm, ms, mt, mu⟩⟩ rfl
       have L5 : X2.heap.size < (X2.alloc (.cells #[.string mn, .int .i64 mk, .int .i64 mm, .int .i64 ms, .string mt, .int .i64 mu] 46)).heap.size := by simp
       have N5 := own_new OB
       replace OB := OB.keep hb
       refine Qf9 (v := .slice (some ⟨X2.heap.size, 0, none⟩) 1 1) (w' := (X2.alloc (.cells #[.string mn, .int .i64 mk, .int .i64 mm, .int .i64 ms, .string mt, .int .i64 mu] 46))) rfl (by rfl) (by go_simp; first | done | with_reducible rfl | rfl) ⟨hX2.trans hb, ?_⟩
       (try simp only [Act.put, List.getElem_toArray, List.getElem_cons_zero, List.getElem_cons_succ, List.setIfInBounds_toArray, List.set_cons_zero, List.set_cons_succ])
       have hX3 := hX2.trans hb
       clear hb
       generalize (X2.alloc (.cells #[.string mn, .int .i64 mk, .int .i64 mm, .int .i64 ms, .string mt, .int .i64 mu] 46)) = X3 at hX3 A5 L5 OB ⊢
       generalize X2.heap.size = B5 at A5 L5 N5 ⊢
       refine wpAnyH_all (rs := [6, 11]) (by kernel_rfl) (by simp) fun i hi => ?_
       simp only [List.mem_cons, List.not_mem_nil, or_false] at hi
       rcases hi with rfl | rfl
       ·obtain ⟨v4, X4, hr, OC, hX4, bt, ow⟩ := app_bd hX3 OB A5 rfl (fun h => by cases h) HL2.out 29
        refine wpOp_app rfl (by rfl) _ _ _ rfl hr ⟨hX4, ?_⟩
        (try simp only [Act.put, List.getElem_toArray, List.getElem_cons_zero, List.getElem_cons_succ, List.setIfInBounds_toArray, List.set_cons_zero, List.set_cons_succ])
        clear A5 L5 N5
        clear OB hr bt ow
        have OB := OC; clear OC
        obtain ⟨A1, c1, rfl, hB1⟩ := OB.val
        clear OB
        refine wpAnyH_all (rs := [7, 11]) (by kernel_rfl) (by simp) fun i hi => ?_
        simp only [List.mem_cons, List.not_mem_nil, or_false] at hi
        rcases hi with rfl | rfl
        ·refine Qa6 (R := fun v w' => v = .tuple #[.agg #[.int .i64 zk, .int .i64 zn, .int .i64 zs, .string zt, .int .i64 zm], .int .i64 0] /\ Bel X4 w') rfl (by rfl) (by go_simp; first | done | with_reducible rfl | rfl) ((CE2.out X4 A1 c1 hX4 hB1).mono fun e w' h => ⟨_, h.1, rfl, h.2⟩) ?_
         rintro v X5 ⟨rfl, hb⟩
         have hX5 := hX4.trans hb
         refine ⟨hX5, ?_⟩
         (try simp only [Act.put, List.getElem_toArray, List.getElem_cons_zero, List.getElem_cons_succ, List.setIfInBounds_toArray, List.set_cons_zero, List.set_cons_succ])
         clear hb hB1
         refine wpAnyH_take (i := 8) (v := (.tuple #[.agg #[.int .i64 zk, .int .i64 zn, .int .i64 zs, .string zt, .int .i64 zm], .int .i64 0])) rfl (by kernel_rfl) (by kernel_rfl) (by kernel_rfl) (fun _ _ _ h => h) (.inl ⟨by rfl, fun X hS => by clear hS; go_simp; first | done | with_reducible rfl | rfl⟩) hX5 ?_
         (try simp only [Act.put, List.getElem_toArray, List.getElem_cons_zero, List.getElem_cons_succ, List.setIfInBounds_toArray, List.set_cons_zero, List.set_cons_succ])
         refine wpAnyH_take (i := 9) (v := (.agg #[.int .i64 zk, .int .i64 zn, .int .i64 zs, .string zt, .int .i64 zm])) rfl (by kernel_rfl) (by kernel_rfl) (by kernel_rfl) (fun _ _ _ h => h) (.inl ⟨by rfl, fun X hS => by clear hS; go_simp; first | done | with_reducible rfl | rfl⟩) hX5 ?_
         (try simp only [Act.put, List.getElem_toArray, List.getElem_cons_zero, List.getElem_cons_succ, List.setIfInBounds_toArray, List.set_cons_zero, List.set_cons_succ])
         refine wpAnyH_take (i := 10) (v := (.int .i64 0)) rfl (by kernel_rfl) (by kernel_rfl) (by kernel_rfl) (fun _ _ _ h => h) (.inl ⟨by rfl, fun X hS => by clear hS; go_simp; first | done | with_reducible rfl | rfl⟩) hX5 ?_
         (try simp only [Act.put, List.getElem_toArray, List.getElem_cons_zero, List.getElem_cons_succ, List.setIfInBounds_toArray, List.set_cons_zero, List.set_cons_succ])
         refine wpAnyH_all (rs := [11]) (by kernel_rfl) (by simp) fun i hi => ?_
         obtain rfl := List.mem_singleton.1 hi
         have hb : Bel X5 (X5.alloc (.cells #[.int .i64 0, .int .i64 0, .int .i64 0, .string ⟨#[]⟩, .int .i64 0] 25)) := (Bel.refl _).alloc _
         have S6 : Slot (X5.alloc (.cells #[.int .i64 0, .int .i64 0, .int .i64 0, .string ⟨#[]⟩, .int .i64 0] 25)) X5.heap.size zero := Qj9 X5 zero
         have L6 : W.heap.size <= X5.heap.size := hX5.size
         refine Qf9 (v := .pointer (some ⟨X5.heap.size, 0, none⟩)) (w' := (X5.alloc (.cells #[.int .i64 0, .int .i64 0, .int .i64 0, .string ⟨#[]⟩, .int .i64 0] 25))) rfl (by rfl) (by go_simp; first | done | with_reducible rfl | rfl) ⟨hX5.trans hb, ?_⟩
         (try simp only [Act.put, List.getElem_toArray, List.getElem_cons_zero, List.getElem_cons_succ, List.setIfInBounds_toArray, List.set_cons_zero, List.set_cons_succ])
         have hX6 := hX5.trans hb
         clear hb
         generalize (X5.alloc (.cells #[.int .i64 0, .int .i64 0, .int .i64 0, .string ⟨#[]⟩, .int .i64 0] 25)) = X6 at hX6 S6 ⊢
         generalize X5.heap.size = B6 at S6 L6 ⊢
         refine wpAnyH_all (rs := [12]) (by kernel_rfl) (by simp) fun i hi => ?_
         obtain rfl := List.mem_singleton.1 hi
         obtain ⟨sz, ⟨s0, s1, s2, s3, s4⟩, ⟨f0, f1, f2, f3, f4⟩⟩ := S6
         simp only [zero, Nat.zero_add] at s0 s1 s2 s3 s4
         have hY : Bel W (((((X6.setCell ⟨B6, 0, none⟩ (.int .i64 zk)).setCell ⟨B6, 1, none⟩ (.int .i64 zn)).setCell ⟨B6, 2, none⟩ (.int .i64 zs)).setCell ⟨B6, 3, none⟩ (.string zt)).setCell ⟨B6, 4, none⟩ (.int .i64 zm)) := by
          have hb := hX6
          exact Bel.y
         have hq : Slot (((((X6.setCell ⟨B6, 0, none⟩ (.int .i64 zk)).setCell ⟨B6, 1, none⟩ (.int .i64 zn)).setCell ⟨B6, 2, none⟩ (.int .i64 zs)).setCell ⟨B6, 3, none⟩ (.string zt)).setCell ⟨B6, 4, none⟩ (.int .i64 zm)) B6 ⟨zk, zn, zs, zt, zm⟩ := by simp [Slot, Qal, Qah, go_sem, sz, s0, s1, s2, s3, s4, f0, f1, f2, f3, f4]
         refine Qbv (w' := (((((X6.setCell ⟨B6, 0, none⟩ (.int .i64 zk)).setCell ⟨B6, 1, none⟩ (.int .i64 zn)).setCell ⟨B6, 2, none⟩ (.int .i64 zs)).setCell ⟨B6, 3, none⟩ (.string zt)).setCell ⟨B6, 4, none⟩ (.int .i64 zm))) rfl (by rfl) (by go_simp; first | done | with_reducible rfl | rfl) ⟨hY, ?_⟩
         (try simp only [Act.put, List.getElem_toArray, List.getElem_cons_zero, List.getElem_cons_succ, List.setIfInBounds_toArray, List.set_cons_zero, List.set_cons_succ])
         generalize (((((X6.setCell ⟨B6, 0, none⟩ (.int .i64 zk)).setCell ⟨B6, 1, none⟩ (.int .i64 zn)).setCell ⟨B6, 2, none⟩ (.int .i64 zs)).setCell ⟨B6, 3, none⟩ (.string zt)).setCell ⟨B6, 4, none⟩ (.int .i64 zm)) = Y at hq hY ⊢
         clear sz s0 s1 s2 s3 s4 f0 f1 f2 f3 f4
         refine wpAnyH_take (i := 13) (v := (.int .i64 0)) rfl (by kernel_rfl) (by kernel_rfl) (by kernel_rfl) (fun _ _ _ h => h) (.inl ⟨by rfl, fun X hS => by clear hS; go_simp; first | done | with_reducible rfl | rfl⟩) hY ?_
         (try simp only [Act.put, List.getElem_toArray, List.getElem_cons_zero, List.getElem_cons_succ, List.setIfInBounds_toArray, List.set_cons_zero, List.set_cons_succ])
         refine wpAnyH_done (by kernel_rfl) (.normal ?_) _
         go_wp2
         go_meet
         exact ⟨⟨B6, rfl, rfl, hq⟩, hY⟩
        have hb : Bel X4 (X4.alloc (.cells #[.int .i64 0, .int .i64 0, .int .i64 0, .string ⟨#[]⟩, .int .i64 0] 25)) := (Bel.refl _).alloc _
        have S6 : Slot (X4.alloc (.cells #[.int .i64 0, .int .i64 0, .int .i64 0, .string ⟨#[]⟩, .int .i64 0] 25)) X4.heap.size zero := Qj9 X4 zero
        have L6 : W.heap.size <= X4.heap.size := hX4.size
        replace hB1 := hB1.keep hb
        refine Qf9 (v := .pointer (some ⟨X4.heap.size, 0, none⟩)) (w' := (X4.alloc (.cells #[.int .i64 0, .int .i64 0, .int .i64 0, .string ⟨#[]⟩, .int .i64 0] 25))) rfl (by rfl) (by go_simp; first | done | with_reducible rfl | rfl) ⟨hX4.trans hb, ?_⟩
        (try simp only [Act.put, List.getElem_toArray, List.getElem_cons_zero, List.getElem_cons_succ, List.setIfInBounds_toArray, List.set_cons_zero, List.set_cons_succ])
        have hX5 := hX4.trans hb
        clear hb
        generalize (X4.alloc (.cells #[.int .i64 0, .int .i64 0, .int .i64 0, .string ⟨#[]⟩, .int .i64 0] 25)) = X5 at hX5 S6 hB1 ⊢
        generalize X4.heap.size = B6 at S6 L6 ⊢
        refine wpAnyH_all (rs := [7]) (by kernel_rfl) (by simp) fun i hi => ?_
        obtain rfl := List.mem_singleton.1 hi
        refine Qa6 (R := fun v w' => v = .tuple #[.agg #[.int .i64 zk, .int .i64 zn, .int .i64 zs, .string zt, .int .i64 zm], .int .i64 0] /\ Bel X5 w') rfl (by rfl) (by go_simp; first | done | with_reducible rfl | rfl) ((CE2.out X5 A1 c1 hX5 hB1).mono fun e w' h => ⟨_, h.1, rfl, h.2⟩) ?_
        rintro v X6 ⟨rfl, hb⟩
        have hX6 := hX5.trans hb
        replace S6 := S6.keep hb
        refine ⟨hX6, ?_⟩
        (try simp only [Act.put, List.getElem_toArray, List.getElem_cons_zero, List.getElem_cons_succ, List.setIfInBounds_toArray, List.set_cons_zero, List.set_cons_succ])
        clear hb hB1
        refine wpAnyH_take (i := 8) (v := (.tuple #[.agg #[.int .i64 zk, .int .i64 zn, .int .i64 zs, .string zt, .int .i64 zm], .int .i64 0])) rfl (by kernel_rfl) (by kernel_rfl) (by kernel_rfl) (fun _ _ _ h => h) (.inl ⟨by rfl, fun X hS => by clear hS; go_simp; first | done | with_reducible rfl | rfl⟩) hX6 ?_
        (try simp only [Act.put, List.getElem_toArray, List.getElem_cons_zero, List.getElem_cons_succ, List.setIfInBounds_toArray, List.set_cons_zero, List.set_cons_succ])
        refine wpAnyH_take (i := 9) (v := (.agg #[.int .i64 zk, .int .i64 zn, .int .i64 zs, .string zt, .int .i64 zm])) rfl (by kernel_rfl) (by kernel_rfl) (by kernel_rfl) (fun _ _ _ h => h) (.inl ⟨by rfl, fun X hS => by clear hS; go_simp; first | done | with_reducible rfl | rfl⟩) hX6 ?_
        (try simp only [Act.put, List.getElem_toArray, List.getElem_cons_zero, List.getElem_cons_succ, List.setIfInBounds_toArray, List.set_cons_zero, List.set_cons_succ])
        refine wpAnyH_take (i := 10) (v := (.int .i64 0)) rfl (by kernel_rfl) (by kernel_rfl) (by kernel_rfl) (fun _ _ _ h => h) (.inl ⟨by rfl, fun X hS => by clear hS; go_simp; first | done | with_reducible rfl | rfl⟩) hX6 ?_
        (try simp only [Act.put, List.getElem_toArray, List.getElem_cons_zero, List.getElem_cons_succ, List.setIfInBounds_toArray, List.set_cons_zero, List.set_cons_succ])
        refine wpAnyH_all (rs := [12]) (by kernel_rfl) (by simp) fun i hi => ?_
        obtain rfl := List.mem_singleton.1 hi
        obtain ⟨sz, ⟨s0, s1, s2, s3, s4⟩, ⟨f0, f1, f2, f3, f4⟩⟩ := S6
        simp only [zero, Nat.zero_add] at s0 s1 s2 s3 s4
        have hY : Bel W (((((X6.setCell ⟨B6, 0, none⟩ (.int .i64 zk)).setCell ⟨B6, 1, none⟩ (.int .i64 zn)).setCell ⟨B6, 2, none⟩ (.int .i64 zs)).setCell ⟨B6, 3, none⟩ (.string zt)).setCell ⟨B6, 4, none⟩ (.int .i64 zm)) := by
         have hb := hX6
         exact Bel.y
        have hq : Slot (((((X6.setCell ⟨B6, 0, none⟩ (.int .i64 zk)).setCell ⟨B6, 1, none⟩ (.int .i64 zn)).setCell ⟨B6, 2, none⟩ (.int .i64 zs)).setCell ⟨B6, 3, none⟩ (.string zt)).setCell ⟨B6, 4, none⟩ (.int .i64 zm)) B6 ⟨zk, zn, zs, zt, zm⟩ := by simp [Slot, Qal, Qah, go_sem, sz, s0, s1, s2, s3, s4, f0, f1, f2, f3, f4]
        refine Qbv (w' := (((((X6.setCell ⟨B6, 0, none⟩ (.int .i64 zk)).setCell ⟨B6, 1, none⟩ (.int .i64 zn)).setCell ⟨B6, 2, none⟩ (.int .i64 zs)).setCell ⟨B6, 3, none⟩ (.string zt)).setCell ⟨B6, 4, none⟩ (.int .i64 zm))) rfl (by rfl) (by go_simp; first | done | with_reducible rfl | rfl) ⟨hY, ?_⟩
        (try simp only [Act.put, List.getElem_toArray, List.getElem_cons_zero, List.getElem_cons_succ, List.setIfInBounds_toArray, List.set_cons_zero, List.set_cons_succ])
        generalize (((((X6.setCell ⟨B6, 0, none⟩ (.int .i64 zk)).setCell ⟨B6, 1, none⟩ (.int .i64 zn)).setCell ⟨B6, 2, none⟩ (.int .i64 zs)).setCell ⟨B6, 3, none⟩ (.string zt)).setCell ⟨B6, 4, none⟩ (.int .i64 zm)) = Y at hq hY ⊢
        clear sz s0 s1 s2 s3 s4 f0 f1 f2 f3 f4
        refine wpAnyH_take (i := 13) (v := (.int .i64 0)) rfl (by kernel_rfl) (by kernel_rfl) (by kernel_rfl) (fun _ _ _ h => h) (.inl ⟨by rfl, fun X hS => by clear hS; go_simp; first | done | with_reducible rfl | rfl⟩) hY ?_
        (try simp only [Act.put, List.getElem_toArray, List.getElem_cons_zero, List.getElem_cons_succ, List.setIfInBounds_toArray, List.set_cons_zero, List.set_cons_succ])
        refine wpAnyH_done (by kernel_rfl) (.normal ?_) _
        go_wp2
        go_meet
        exact ⟨⟨B6, rfl, rfl, hq⟩, hY⟩
       have hb : Bel X3 (X3.alloc (.cells #[.int .i64 0, .int .i64 0, .int .i64 0, .string ⟨#[]⟩, .int .i64 0] 25)) := (Bel.refl _).alloc _
       have S6 : Slot (X3.alloc (.cells #[.int .i64 0, .int .i64 0, .int .i64 0, .string ⟨#[]⟩, .int .i64 0] 25)) X3.heap.size zero := Qj9 X3 zero
       have L6 : W.heap.size <= X3.heap.size := hX3.size
       have N6 := own_new OB
       replace OB := OB.keep hb
       replace A5 := A5.keep hb
       replace L5 := lL L5 hb.size
       refine Qf9 (v := .pointer (some ⟨X3.heap.size, 0, none⟩)) (w' := (X3.alloc (.cells #[.int .i64 0, .int .i64 0, .int .i64 0, .string ⟨#[]⟩, .int .i64 0] 25))) rfl (by rfl) (by go_simp; first | done | with_reducible rfl | rfl) ⟨hX3.trans hb, ?_⟩
       (try simp only [Act.put, List.getElem_toArray, List.getElem_cons_zero, List.getElem_cons_succ, List.setIfInBounds_toArray, List.set_cons_zero, List.set_cons_succ])
       have hX4 := hX3.trans hb
       clear hb
       generalize (X3.alloc (.cells #[.int .i64 0, .int .i64 0, .int .i64 0, .string ⟨#[]⟩, .int .i64 0] 25)) = X4 at hX4 S6 OB A5 L5 ⊢
       generalize X3.heap.size = B6 at S6 L6 N6 ⊢
       refine wpAnyH_all (rs := [6]) (by kernel_rfl) (by simp) fun i hi => ?_
       obtain rfl := List.mem_singleton.1 hi
       obtain ⟨v5, X5, hr, OC, hX5, bt, ow⟩ := app_bd hX4 OB A5 rfl (fun h => by cases h) HL2.out 29
       refine wpOp_app rfl (by rfl) _ _ _ rfl hr ⟨hX5, ?_⟩
       (try simp only [Act.put, List.getElem_toArray, List.getElem_cons_zero, List.getElem_cons_succ, List.setIfInBounds_toArray, List.set_cons_zero, List.set_cons_succ])
       replace S6 := but_slot bt N6 S6
       clear N6
       clear A5 L5 N5
       clear OB hr bt ow
       have OB := OC; clear OC
       obtain ⟨A1, c1, rfl, hB1⟩ := OB.val
       clear OB
       refine wpAnyH_all (rs := [7]) (by kernel_rfl) (by simp) fun i hi => ?_
       obtain rfl := List.mem_singleton.1 hi
       refine Qa6 (R := fun v w' => v = .tuple #[.agg #[.int .i64 zk, .int .i64 zn, .int .i64 zs, .string zt, .int .i64 zm], .int .i64 0] /\ Bel X5 w') rfl (by rfl) (by go_simp; first | done | with_reducible rfl | rfl) ((CE2.out X5 A1 c1 hX5 hB1).mono fun e w' h => ⟨_, h.1, rfl, h.2⟩) ?_
       rintro v X6 ⟨rfl, hb⟩
       have hX6 := hX5.trans hb
       replace S6 := S6.keep hb
       refine ⟨hX6, ?_⟩
       (try simp only [Act.put, List.getElem_toArray, List.getElem_cons_zero, List.getElem_cons_succ, List.setIfInBounds_toArray, List.set_cons_zero, List.set_cons_succ])
       clear hb hB1
       refine wpAnyH_take (i := 8) (v := (.tuple #[.agg #[.int .i64 zk, .int .i64 zn, .int .i64 zs, .string zt, .int .i64 zm], .int .i64 0])) rfl (by kernel_rfl) (by kernel_rfl) (by kernel_rfl) (fun _ _ _ h => h) (.inl ⟨by rfl, fun X hS => by clear hS; go_simp; first | done | with_reducible rfl | rfl⟩) hX6 ?_
       (try simp only [Act.put, List.getElem_toArray, List.getElem_cons_zero, List.getElem_cons_succ, List.setIfInBounds_toArray, List.set_cons_zero, List.set_cons_succ])
       refine wpAnyH_take (i := 9) (v := (.agg #[.int .i64 zk, .int .i64 zn, .int .i64 zs, .string zt, .int .i64 zm])) rfl (by kernel_rfl) (by kernel_rfl) (by kernel_rfl) (fun _ _ _ h => h) (.inl ⟨by rfl, fun X hS => by clear hS; go_simp; first | done | with_reducible rfl | rfl⟩) hX6 ?_
       (try simp only [Act.put, List.getElem_toArray, List.getElem_cons_zero, List.getElem_cons_succ, List.setIfInBounds_toArray, List.set_cons_zero, List.set_cons_succ])
       refine wpAnyH_take (i := 10) (v := (.int .i64 0)) rfl (by kernel_rfl) (by kernel_rfl) (by kernel_rfl) (fun _ _ _ h => h) (.inl ⟨by rfl, fun X hS => by clear hS; go_simp; first | done | with_reducible rfl | rfl⟩) hX6 ?_
       (try simp only [Act.put, List.getElem_toArray, List.getElem_cons_zero, List.getElem_cons_succ, List.setIfInBounds_toArray, List.set_cons_zero, List.set_cons_succ])
       refine wpAnyH_all (rs := [12]) (by kernel_rfl) (by simp) fun i hi => ?_
       obtain rfl := List.mem_singleton.1 hi
       obtain ⟨sz, ⟨s0, s1, s2, s3, s4⟩, ⟨f0, f1, f2, f3, f4⟩⟩ := S6
       simp only [zero, Nat.zero_add] at s0 s1 s2 s3 s4
       have hY : Bel W (((((X6.setCell ⟨B6, 0, none⟩ (.int .i64 zk)).setCell ⟨B6, 1, none⟩ (.int .i64 zn)).setCell ⟨B6, 2, none⟩ (.int .i64 zs)).setCell ⟨B6, 3, none⟩ (.string zt)).setCell ⟨B6, 4, none⟩ (.int .i64 zm)) := by
        have hb := hX6
        exact Bel.y
       have hq : Slot (((((X6.setCell ⟨B6, 0, none⟩ (.int .i64 zk)).setCell ⟨B6, 1, none⟩ (.int .i64 zn)).setCell ⟨B6, 2, none⟩ (.int .i64 zs)).setCell ⟨B6, 3, none⟩ (.string zt)).setCell ⟨B6, 4, none⟩ (.int .i64 zm)) B6 ⟨zk, zn, zs, zt, zm⟩ := by simp [Slot, Qal, Qah, go_sem, sz, s0, s1, s2, s3, s4, f0, f1, f2, f3, f4]
       refine Qbv (w' := (((((X6.setCell ⟨B6, 0, none⟩ (.int .i64 zk)).setCell ⟨B6, 1, none⟩ (.int .i64 zn)).setCell ⟨B6, 2, none⟩ (.int .i64 zs)).setCell ⟨B6, 3, none⟩ (.string zt)).setCell ⟨B6, 4, none⟩ (.int .i64 zm))) rfl (by rfl) (by go_simp; first | done | with_reducible rfl | rfl) ⟨hY, ?_⟩
       (try simp only [Act.put, List.getElem_toArray, List.getElem_cons_zero, List.getElem_cons_succ, List.setIfInBounds_toArray, List.set_cons_zero, List.set_cons_succ])
       generalize (((((X6.setCell ⟨B6, 0, none⟩ (.int .i64 zk)).setCell ⟨B6, 1, none⟩ (.int .i64 zn)).setCell ⟨B6, 2, none⟩ (.int .i64 zs)).setCell ⟨B6, 3, none⟩ (.string zt)).setCell ⟨B6, 4, none⟩ (.int .i64 zm)) = Y at hq hY ⊢
       clear sz s0 s1 s2 s3 s4 f0 f1 f2 f3 f4
       refine wpAnyH_take (i := 13) (v := (.int .i64 0)) rfl (by kernel_rfl) (by kernel_rfl) (by kernel_rfl) (fun _ _ _ h => h) (.inl ⟨by rfl, fun X hS => by clear hS; go_simp; first | done | with_reducible rfl | rfl⟩) hY ?_
       (try simp only [Act.put, List.getElem_toArray, List.getElem_cons_zero, List.getElem_cons_succ, List.setIfInBounds_toArray, List.set_cons_zero, List.set_cons_succ])
       refine wpAnyH_done (by kernel_rfl) (.normal ?_) _
       go_wp2
       go_meet
       exact ⟨⟨B6, rfl, rfl, hq⟩, hY⟩
      have hb : Bel X2 (X2.alloc (.cells #[.int .i64 0, .int .i64 0, .int .i64 0, .string ⟨#[]⟩, .int .i64 0] 25)) := (Bel.refl _).alloc _
      have S6 : Slot (X2.alloc (.cells #[.int .i64 0, .int .i64 0, .int .i64 0, .string ⟨#[]⟩, .int .i64 0] 25)) X2.heap.size zero := Qj9 X2 zero
      have L6 : W.heap.size <= X2.heap.size := hX2.size
      have N6 := own_new OB
      replace OB := OB.keep hb
      refine Qf9 (v := .pointer (some ⟨X2.heap.size, 0, none⟩)) (w' := (X2.alloc (.cells #[.int .i64 0, .int .i64 0, .int .i64 0, .string ⟨#[]⟩, .int .i64 0] 25))) rfl (by rfl) (by go_simp; first | done | with_reducible rfl | rfl) ⟨hX2.trans hb, ?_⟩
      (try simp only [Act.put, List.getElem_toArray, List.getElem_cons_zero, List.getElem_cons_succ, List.setIfInBounds_toArray, List.set_cons_zero, List.set_cons_succ])
      have hX3 := hX2.trans hb
      clear hb
      generalize (X2.alloc (.cells #[.int .i64 0, .int .i64 0, .int .i64 0, .string ⟨#[]⟩, .int .i64 0] 25)) = X3 at hX3 S6 OB ⊢
      generalize X2.heap.size = B6 at S6 L6 N6 ⊢
      refine wpAnyH_all (rs := [5]) (by kernel_rfl) (by simp) fun i hi => ?_
      obtain rfl := List.mem_singleton.1 hi
      have hb : Bel X3 (X3.alloc (.cells #[.string mn, .int .i64 mk, .int .i64 mm, .int .i64 ms, .string mt, .int .i64 mu] 46)) := (Bel.refl _).alloc _
      have A5 : Bnds (X3.alloc (.cells #[.string mn, .int .i64 mk, .int .i64 mm, .int .i64 ms, .string mt, .int .i64 mu] 46)) (some ⟨X3.heap.size, 0, none⟩) [⟨mn, ⟨mk, mm, ms, mt, mu⟩⟩] := Qrr X3 ⟨mn, ⟨mk, mm, ms, mt, mu⟩⟩ rfl
      have L5 : X3.heap.size < (X3.alloc (.cells #[.string mn, .int .i64 mk, .int .i64 mm, .int .i64 ms, .string mt, .int .i64 mu] 46)).heap.size := by simp
      have N5 := own_new OB
      replace OB := OB.keep hb
      replace S6 := S6.keep hb
      refine Qf9 (v := .slice (some ⟨X3.heap.size, 0, none⟩) 1 1) (w' := (X3.alloc (.cells #[.string mn, .int .i64 mk, .int .i64 mm, .int .i64 ms, .string mt, .int .i64 mu] 46))) rfl (by rfl) (by go_simp; first | done | with_reducible rfl | rfl) ⟨hX3.trans hb, ?_⟩
      (try simp only [Act.put, List.getElem_toArray, List.getElem_cons_zero, List.getElem_cons_succ, List.setIfInBounds_toArray, List.set_cons_zero, List.set_cons_succ])
      have hX4 := hX3.trans hb
      clear hb
      generalize (X3.alloc (.cells #[.string mn, .int .i64 mk, .int .i64 mm, .int .i64 ms, .string mt, .int .i64 mu] 46)) = X4 at hX4 A5 L5 OB S6 ⊢
      generalize X3.heap.size = B5 at A5 L5 N5 ⊢
      refine wpAnyH_all (rs := [6]) (by kernel_rfl) (by simp) fun i hi => ?_
      obtain rfl := List.mem_singleton.1 hi
      obtain ⟨v5, X5, hr, OC, hX5, bt, ow⟩ := app_bd hX4 OB A5 rfl (fun h => by cases h) HL2.out 29
      refine wpOp_app rfl (by rfl) _ _ _ rfl hr ⟨hX5, ?_⟩
      (try simp only [Act.put, List.getElem_toArray, List.getElem_cons_zero, List.getElem_cons_succ, List.setIfInBounds_toArray, List.set_cons_zero, List.set_cons_succ])
      replace S6 := but_slot bt N6 S6
      clear N6
      clear A5 L5 N5
      clear OB hr bt ow
      have OB := OC; clear OC
      obtain ⟨A1, c1, rfl, hB1⟩ := OB.val
      clear OB
      refine wpAnyH_all (rs := [7]) (by kernel_rfl) (by simp) fun i hi => ?_
      obtain rfl := List.mem_singleton.1 hi
      refine Qa6 (R := fun v w' => v = .tuple #[.agg #[.int .i64 zk, .int .i64 zn, .int .i64 zs, .string zt, .int .i64 zm], .int .i64 0] /\ Bel X5 w') rfl (by rfl) (by go_simp; first | done | with_reducible rfl | rfl) ((CE2.out X5 A1 c1 hX5 hB1).mono fun e w' h => ⟨_, h.1, rfl, h.2⟩) ?_
      rintro v X6 ⟨rfl, hb⟩
      have hX6 := hX5.trans hb
      replace S6 := S6.keep hb
      refine ⟨hX6, ?_⟩
      (try simp only [Act.put, List.getElem_toArray, List.getElem_cons_zero, List.getElem_cons_succ, List.setIfInBounds_toArray, List.set_cons_zero, List.set_cons_succ])
      clear hb hB1
      refine wpAnyH_take (i := 8) (v := (.tuple #[.agg #[.int .i64 zk, .int .i64 zn, .int .i64 zs, .string zt, .int .i64 zm], .int .i64 0])) rfl (by kernel_rfl) (by kernel_rfl) (by kernel_rfl) (fun _ _ _ h => h) (.inl ⟨by rfl, fun X hS => by clear hS; go_simp; first | done | with_reducible rfl | rfl⟩) hX6 ?_
      (try simp only [Act.put, List.getElem_toArray, List.getElem_cons_zero, List.getElem_cons_succ, List.setIfInBounds_toArray, List.set_cons_zero, List.set_cons_succ])
      refine wpAnyH_take (i := 9) (v := (.agg #[.int .i64 zk, .int .i64 zn, .int .i64 zs, .string zt, .int .i64 zm])) rfl (by kernel_rfl) (by kernel_rfl) (by kernel_rfl) (fun _ _ _ h => h) (.inl ⟨by rfl, fun X hS => by clear hS; go_simp; first | done | with_reducible rfl | rfl⟩) hX6 ?_
      (try simp only [Act.put, List.getElem_toArray, List.getElem_cons_zero, List.getElem_cons_succ, List.setIfInBounds_toArray, List.set_cons_zero, List.set_cons_succ])
      refine wpAnyH_take (i := 10) (v := (.int .i64 0)) rfl (by kernel_rfl) (by kernel_rfl) (by kernel_rfl) (fun _ _ _ h => h) (.inl ⟨by rfl, fun X hS => by clear hS; go_simp; first | done | with_reducible rfl | rfl⟩) hX6 ?_
      (try simp only [Act.put, List.getElem_toArray, List.getElem_cons_zero, List.getElem_cons_succ, List.setIfInBounds_toArray, List.set_cons_zero, List.set_cons_succ])
      refine wpAnyH_all (rs := [12]) (by kernel_rfl) (by simp) fun i hi => ?_
      obtain rfl := List.mem_singleton.1 hi
      obtain ⟨sz, ⟨s0, s1, s2, s3, s4⟩, ⟨f0, f1, f2, f3, f4⟩⟩ := S6
      simp only [zero, Nat.zero_add] at s0 s1 s2 s3 s4
      have hY : Bel W (((((X6.setCell ⟨B6, 0, none⟩ (.int .i64 zk)).setCell ⟨B6, 1, none⟩ (.int .i64 zn)).setCell ⟨B6, 2, none⟩ (.int .i64 zs)).setCell ⟨B6, 3, none⟩ (.string zt)).setCell ⟨B6, 4, none⟩ (.int .i64 zm)) := by
       have hb := hX6
       exact Bel.y
      have hq : Slot (((((X6.setCell ⟨B6, 0, none⟩ (.int .i64 zk)).setCell ⟨B6, 1, none⟩ (.int .i64 zn)).setCell ⟨B6, 2, none⟩ (.int .i64 zs)).setCell ⟨B6, 3, none⟩ (.string zt)).setCell ⟨B6, 4, none⟩ (.int .i64 zm)) B6 ⟨zk, zn, zs, zt, zm⟩ := by simp [Slot, Qal, Qah, go_sem, sz, s0, s1, s2, s3, s4, f0, f1, f2, f3, f4]
      refine Qbv (w' := (((((X6.setCell ⟨B6, 0, none⟩ (.int .i64 zk)).setCell ⟨B6, 1, none⟩ (.int .i64 zn)).setCell ⟨B6, 2, none⟩ (.int .i64 zs)).setCell ⟨B6, 3, none⟩ (.string zt)).setCell ⟨B6, 4, none⟩ (.int .i64 zm))) rfl (by rfl) (by go_simp; first | done | with_reducible rfl | rfl) ⟨hY, ?_⟩
      (try simp only [Act.put, List.getElem_toArray, List.getElem_cons_zero, List.getElem_cons_succ, List.setIfInBounds_toArray, List.set_cons_zero, List.set_cons_succ])
      generalize (((((X6.setCell ⟨B6, 0, none⟩ (.int .i64 zk)).setCell ⟨B6, 1, none⟩ (.int .i64 zn)).setCell ⟨B6, 2, none⟩ (.int .i64 zs)).setCell ⟨B6, 3, none⟩ (.string zt)).setCell ⟨B6, 4, none⟩ (.int .i64 zm)) = Y at hq hY ⊢
      clear sz s0 s1 s2 s3 s4 f0 f1 f2 f3 f4
      refine wpAnyH_take (i := 13) (v := (.int .i64 0)) rfl (by kernel_rfl) (by kernel_rfl) (by kernel_rfl) (fun _ _ _ h => h) (.inl ⟨by rfl, fun X hS => by clear hS; go_simp; first | done | with_reducible rfl | rfl⟩) hY ?_
      (try simp only [Act.put, List.getElem_toArray, List.getElem_cons_zero, List.getElem_cons_succ, List.setIfInBounds_toArray, List.set_cons_zero, List.set_cons_succ])
      refine wpAnyH_done (by kernel_rfl) (.normal ?_) _
      go_wp2
      go_meet
      exact ⟨⟨B6, rfl, rfl, hq⟩, hY⟩
     ·have hb : Bel X1 (X1.alloc (.cells #[.string mn, .int .i64 mk, .int .i64 mm, .int .i64 ms, .string mt, .int .i64 mu] 46)) := (Bel.refl _).alloc _
      have A5 : Bnds (X1.alloc (.cells #[.string mn, .int .i64 mk, .int .i64 mm, .int .i64 ms, .string mt, .int .i64 mu] 46)) (some ⟨X1.heap.size, 0, none⟩) [⟨mn, ⟨mk, mm, ms, mt, mu⟩⟩] := Qrr X1 ⟨mn, ⟨mk, mm, ms, mt, mu⟩⟩ rfl
      have L5 : X1.heap.size < (X1.alloc (.cells #[.string mn, .int .i64 mk, .int .i64 mm, .int .i64 ms, .string mt, .int .i64 mu] 46)).heap.size := by simp
      have N5 := own_new OB
      replace OB := OB.keep hb
      refine Qf9 (v := .slice (some ⟨X1.heap.size, 0, none⟩) 1 1) (w' := (X1.alloc (.cells #[.string mn, .int .i64 mk, .int .i64 mm, .int .i64 ms, .string mt, .int .i64 mu] 46))) rfl (by rfl) (by go_simp; first | done | with_reducible rfl | rfl) ⟨hX1.trans hb, ?_⟩
      (try simp only [Act.put, List.getElem_toArray, List.getElem_cons_zero, List.getElem_cons_succ, List.setIfInBounds_toArray, List.set_cons_zero, List.set_cons_succ])
      have hX2 := hX1.trans hb
      clear hb
      generalize (X1.alloc (.cells #[.string mn, .int .i64 mk, .int .i64 mm, .int .i64 ms, .string mt, .int .i64 mu] 46)) = X2 at hX2 A5 L5 OB ⊢
      generalize X1.heap.size = B5 at A5 L5 N5 ⊢
      refine wpAnyH_all (rs := [3, 11]) (by kernel_rfl) (by simp) fun i hi => ?_
      simp only [List.mem_cons, List.not_mem_nil, or_false] at hi
      rcases hi with rfl | rfl
      ·obtain ⟨v3, X3, hr, OC, hX3, bt, ow⟩ := app_bd hX2 OB (HLB.out.keep hX2) rfl hA0 HL1.out 29
       refine wpOp_app rfl (by rfl) _ _ _ rfl hr ⟨hX3, ?_⟩
       (try simp only [Act.put, List.getElem_toArray, List.getElem_cons_zero, List.getElem_cons_succ, List.setIfInBounds_toArray, List.set_cons_zero, List.set_cons_succ])
       replace A5 := but_bnds bt N5 A5
       replace N5 := own_ne ow N5 L5
       replace L5 := lL L5 bt.size
       clear OB hr bt ow
       have OB := OC; clear OC
       simp only [List.nil_append] at OB
       refine wpAnyH_all (rs := [6, 11]) (by kernel_rfl) (by simp) fun i hi => ?_
       simp only [List.mem_cons, List.not_mem_nil, or_false] at hi
       rcases hi with rfl | rfl
       ·obtain ⟨v4, X4, hr, OC, hX4, bt, ow⟩ := app_bd hX3 OB A5 rfl (fun h => by cases h) HL2.out 29
        refine wpOp_app rfl (by rfl) _ _ _ rfl hr ⟨hX4, ?_⟩
        (try simp only [Act.put, List.getElem_toArray, List.getElem_cons_zero, List.getElem_cons_succ, List.setIfInBounds_toArray, List.set_cons_zero, List.set_cons_succ])
        clear A5 L5 N5
        clear OB hr bt ow
        have OB := OC; clear OC
        obtain ⟨A1, c1, rfl, hB1⟩ := OB.val
        clear OB
        refine wpAnyH_all (rs := [7, 11]) (by kernel_rfl) (by simp) fun i hi => ?_
        simp only [List.mem_cons, List.not_mem_nil, or_false] at hi
        rcases hi with rfl | rfl
        ·refine Qa6 (R := fun v w' => v = .tuple #[.agg #[.int .i64 zk, .int .i64 zn, .int .i64 zs, .string zt, .int .i64 zm], .int .i64 0] /\ Bel X4 w') rfl (by rfl) (by go_simp; first | done | with_reducible rfl | rfl) ((CE2.out X4 A1 c1 hX4 hB1).mono fun e w' h => ⟨_, h.1, rfl, h.2⟩) ?_
         rintro v X5 ⟨rfl, hb⟩
         have hX5 := hX4.trans hb
         refine ⟨hX5, ?_⟩
         (try simp only [Act.put, List.getElem_toArray, List.getElem_cons_zero, List.getElem_cons_succ, List.setIfInBounds_toArray, List.set_cons_zero, List.set_cons_succ])
         clear hb hB1
         refine wpAnyH_take (i := 8) (v := (.tuple #[.agg #[.int .i64 zk, .int .i64 zn, .int .i64 zs, .string zt, .int .i64 zm], .int .i64 0])) rfl (by kernel_rfl) (by kernel_rfl) (by kernel_rfl) (fun _ _ _ h => h) (.inl ⟨by rfl, fun X hS => by clear hS; go_simp; first | done | with_reducible rfl | rfl⟩) hX5 ?_
         (try simp only [Act.put, List.getElem_toArray, List.getElem_cons_zero, List.getElem_cons_succ, List.setIfInBounds_toArray, List.set_cons_zero, List.set_cons_succ])
         refine wpAnyH_take (i := 9) (v := (.agg #[.int .i64 zk, .int .i64 zn, .int .i64 zs, .string zt, .int .i64 zm])) rfl (by kernel_rfl) (by kernel_rfl) (by kernel_rfl) (fun _ _ _ h => h) (.inl ⟨by rfl, fun X hS => by clear hS; go_simp; first | done | with_reducible rfl | rfl⟩) hX5 ?_
         (try simp only [Act.put, List.getElem_toArray, List.getElem_cons_zero, List.getElem_cons_succ, List.setIfInBounds_toArray, List.set_cons_zero, List.set_cons_succ])
         refine wpAnyH_take (i := 10) (v := (.int .i64 0)) rfl (by kernel_rfl) (by kernel_rfl) (by kernel_rfl) (fun _ _ _ h => h) (.inl ⟨by rfl, fun X hS => by clear hS; go_simp; first | done | with_reducible rfl | rfl⟩) hX5 ?_
         (try simp only [Act.put, List.getElem_toArray, List.getElem_cons_zero, List.getElem_cons_succ, List.setIfInBounds_toArray, List.set_cons_zero, List.set_cons_succ])
         refine wpAnyH_all (rs := [11]) (by kernel_rfl) (by simp) fun i hi => ?_
         obtain rfl := List.mem_singleton.1 hi
         have hb : Bel X5 (X5.alloc (.cells #[.int .i64 0, .int .i64 0, .int .i64 0, .string ⟨#[]⟩, .int .i64 0] 25)) := (Bel.refl _).alloc _
         have S6 : Slot (X5.alloc (.cells #[.int .i64 0, .int .i64 0, .int .i64 0, .string ⟨#[]⟩, .int .i64 0] 25)) X5.heap.size zero := Qj9 X5 zero
         have L6 : W.heap.size <= X5.heap.size := hX5.size
         refine Qf9 (v := .pointer (some ⟨X5.heap.size, 0, none⟩)) (w' := (X5.alloc (.cells #[.int .i64 0, .int .i64 0, .int .i64 0, .string ⟨#[]⟩, .int .i64 0] 25))) rfl (by rfl) (by go_simp; first | done | with_reducible rfl | rfl) ⟨hX5.trans hb, ?_⟩
         (try simp only [Act.put, List.getElem_toArray, List.getElem_cons_zero, List.getElem_cons_succ, List.setIfInBounds_toArray, List.set_cons_zero, List.set_cons_succ])
         have hX6 := hX5.trans hb
         clear hb
         generalize (X5.alloc (.cells #[.int .i64 0, .int .i64 0, .int .i64 0, .string ⟨#[]⟩, .int .i64 0] 25)) = X6 at hX6 S6 ⊢
         generalize X5.heap.size = B6 at S6 L6 ⊢
         refine wpAnyH_all (rs := [12]) (by kernel_rfl) (by simp) fun i hi => ?_
         obtain rfl := List.mem_singleton.1 hi
         obtain ⟨sz, ⟨s0, s1, s2, s3, s4⟩, ⟨f0, f1, f2, f3, f4⟩⟩ := S6
         simp only [zero, Nat.zero_add] at s0 s1 s2 s3 s4
         have hY : Bel W (((((X6.setCell ⟨B6, 0, none⟩ (.int .i64 zk)).setCell ⟨B6, 1, none⟩ (.int .i64 zn)).setCell ⟨B6, 2, none⟩ (.int .i64 zs)).setCell ⟨B6, 3, none⟩ (.string zt)).setCell ⟨B6, 4, none⟩ (.int .i64 zm)) := by
          have hb := hX6
          exact Bel.y
         have hq : Slot (((((X6.setCell ⟨B6, 0, none⟩ (.int .i64 zk)).setCell ⟨B6, 1, none⟩ (.int .i64 zn)).setCell ⟨B6, 2, none⟩ (.int .i64 zs)).setCell ⟨B6, 3, none⟩ (.string zt)).setCell ⟨B6, 4, none⟩ (.int .i64 zm)) B6 ⟨zk, zn, zs, zt, zm⟩ := by simp [Slot, Qal, Qah, go_sem, sz, s0, s1, s2, s3, s4, f0, f1, f2, f3, f4]
         refine Qbv (w' := (((((X6.setCell ⟨B6, 0, none⟩ (.int .i64 zk)).setCell ⟨B6, 1, none⟩ (.int .i64 zn)).setCell ⟨B6, 2, none⟩ (.int .i64 zs)).setCell ⟨B6, 3, none⟩ (.string zt)).setCell ⟨B6, 4, none⟩ (.int .i64 zm))) rfl (by rfl) (by go_simp; first | done | with_reducible rfl | rfl) ⟨hY, ?_⟩
         (try simp only [Act.put, List.getElem_toArray, List.getElem_cons_zero, List.getElem_cons_succ, List.setIfInBounds_toArray, List.set_cons_zero, List.set_cons_succ])
         generalize (((((X6.setCell ⟨B6, 0, none⟩ (.int .i64 zk)).setCell ⟨B6, 1, none⟩ (.int .i64 zn)).setCell ⟨B6, 2, none⟩ (.int .i64 zs)).setCell ⟨B6, 3, none⟩ (.string zt)).setCell ⟨B6, 4, none⟩ (.int .i64 zm)) = Y at hq hY ⊢
         clear sz s0 s1 s2 s3 s4 f0 f1 f2 f3 f4
         refine wpAnyH_take (i := 13) (v := (.int .i64 0)) rfl (by kernel_rfl) (by kernel_rfl) (by kernel_rfl) (fun _ _ _ h => h) (.inl ⟨by rfl, fun X hS => by clear hS; go_simp; first | done | with_reducible rfl | rfl⟩) hY ?_
         (try simp only [Act.put, List.getElem_toArray, List.getElem_cons_zero, List.getElem_cons_succ, List.setIfInBounds_toArray, List.set_cons_zero, List.set_cons_succ])
         refine wpAnyH_done (by kernel_rfl) (.normal ?_) _
         go_wp2
         go_meet
         exact ⟨⟨B6, rfl, rfl, hq⟩, hY⟩
        have hb : Bel X4 (X4.alloc (.cells #[.int .i64 0, .int .i64 0, .int .i64 0, .string ⟨#[]⟩, .int .i64 0] 25)) := (Bel.refl _).alloc _
        have S6 : Slot (X4.alloc (.cells #[.int .i64 0, .int .i64 0, .int .i64 0, .string ⟨#[]⟩, .int .i64 0] 25)) X4.heap.size zero := Qj9 X4 zero
        have L6 : W.heap.size <= X4.heap.size := hX4.size
        replace hB1 := hB1.keep hb
        refine Qf9 (v := .pointer (some ⟨X4.heap.size, 0, none⟩)) (w' := (X4.alloc (.cells #[.int .i64 0, .int .i64 0, .int .i64 0, .string ⟨#[]⟩, .int .i64 0] 25))) rfl (by rfl) (by go_simp; first | done | with_reducible rfl | rfl) ⟨hX4.trans hb, ?_⟩
        (try simp only [Act.put, List.getElem_toArray, List.getElem_cons_zero, List.getElem_cons_succ, List.setIfInBounds_toArray, List.set_cons_zero, List.set_cons_succ])
        have hX5 := hX4.trans hb
        clear hb
        generalize (X4.alloc (.cells #[.int .i64 0, .int .i64 0, .int .i64 0, .string ⟨#[]⟩, .int .i64 0] 25)) = X5 at hX5 S6 hB1 ⊢
        generalize X4.heap.size = B6 at S6 L6 ⊢
        refine wpAnyH_all (rs := [7]) (by kernel_rfl) (by simp) fun i hi => ?_
        obtain rfl := List.mem_singleton.1 hi
        refine Qa6 (R := fun v w' => v = .tuple #[.agg #[.int .i64 zk, .int .i64 zn, .int .i64 zs, .string zt, .int .i64 zm], .int .i64 0] /\ Bel X5 w') rfl (by rfl) (by go_simp; first | done | with_reducible rfl | rfl) ((CE2.out X5 A1 c1 hX5 hB1).mono fun e w' h => ⟨_, h.1, rfl, h.2⟩) ?_
        rintro v X6 ⟨rfl, hb⟩
        have hX6 := hX5.trans hb
        replace S6 := S6.keep hb
        refine ⟨hX6, ?_⟩
        (try simp only [Act.put, List.getElem_toArray, List.getElem_cons_zero, List.getElem_cons_succ, List.setIfInBounds_toArray, List.set_cons_zero, List.set_cons_succ])
        clear hb hB1
        refine wpAnyH_take (i := 8) (v := (.tuple #[.agg #[.int .i64 zk, .int .i64 zn, .int .i64 zs, .string zt, .int .i64 zm], .int .i64 0])) rfl (by kernel_rfl) (by kernel_rfl) (by kernel_rfl) (fun _ _ _ h => h) (.inl ⟨by rfl, fun X hS => by clear hS; go_simp; first | done | with_reducible rfl | rfl⟩) hX6 ?_
        (try simp only [Act.put, List.getElem_toArray, List.getElem_cons_zero, List.getElem_cons_succ, List.setIfInBounds_toArray, List.set_cons_zero, List.set_cons_succ])
        refine wpAnyH_take (i := 9) (v := (.agg #[.int .i64 zk, .int .i64 zn, .int .i64 zs, .string zt, .int .i64 zm])) rfl (by kernel_rfl) (by kernel_rfl) (by kernel_rfl) (fun _ _ _ h => h) (.inl ⟨by rfl, fun X hS => by clear hS; go_simp; first | done | with_reducible rfl | rfl⟩) hX6 ?_
        (try simp only [Act.put, List.getElem_toArray, List.getElem_cons_zero, List.getElem_cons_succ, List.setIfInBounds_toArray, List.set_cons_zero, List.set_cons_succ])
        refine wpAnyH_take (i := 10) (v := (.int .i64 0)) rfl (by kernel_rfl) (by kernel_rfl) (by kernel_rfl) (fun _ _ _ h => h) (.inl ⟨by rfl, fun X hS => by clear hS; go_simp; first | done | with_reducible rfl | rfl⟩) hX6 ?_
        (try simp only [Act.put, List.getElem_toArray, List.getElem_cons_zero, List.getElem_cons_succ, List.setIfInBounds_toArray, List.set_cons_zero, List.set_cons_succ])
        refine wpAnyH_all (rs := [12]) (by kernel_rfl) (by simp) fun i hi => ?_
        obtain rfl := List.mem_singleton.1 hi
        obtain ⟨sz, ⟨s0, s1, s2, s3, s4⟩, ⟨f0, f1, f2, f3, f4⟩⟩ := S6
        simp only [zero, Nat.zero_add] at s0 s1 s2 s3 s4
        have hY : Bel W (((((X6.setCell ⟨B6, 0, none⟩ (.int .i64 zk)).setCell ⟨B6, 1, none⟩ (.int .i64 zn)).setCell ⟨B6, 2, none⟩ (.int .i64 zs)).setCell ⟨B6, 3, none⟩ (.string zt)).setCell ⟨B6, 4, none⟩ (.int .i64 zm)) := by
         have hb := hX6
         exact Bel.y
        have hq : Slot (((((X6.setCell ⟨B6, 0, none⟩ (.int .i64 zk)).setCell ⟨B6, 1, none⟩ (.int .i64 zn)).setCell ⟨B6, 2, none⟩ (.int .i64 zs)).setCell ⟨B6, 3, none⟩ (.string zt)).setCell ⟨B6, 4, none⟩ (.int .i64 zm)) B6 ⟨zk, zn, zs, zt, zm⟩ := by simp [Slot, Qal, Qah, go_sem, sz, s0, s1, s2, s3, s4, f0, f1, f2, f3, f4]
        refine Qbv (w' := (((((X6.setCell ⟨B6, 0, none⟩ (.int .i64 zk)).setCell ⟨B6, 1, none⟩ (.int .i64 zn)).setCell ⟨B6, 2, none⟩ (.int .i64 zs)).setCell ⟨B6, 3, none⟩ (.string zt)).setCell ⟨B6, 4, none⟩ (.int .i64 zm))) rfl (by rfl) (by go_simp; first | done | with_reducible rfl | rfl) ⟨hY, ?_⟩
        (try simp only [Act.put, List.getElem_toArray, List.getElem_cons_zero, List.getElem_cons_succ, List.setIfInBounds_toArray, List.set_cons_zero, List.set_cons_succ])
        generalize (((((X6.setCell ⟨B6, 0, none⟩ (.int .i64 zk)).setCell ⟨B6, 1, none⟩ (.int .i64 zn)).setCell ⟨B6, 2, none⟩ (.int .i64 zs)).setCell ⟨B6, 3, none⟩ (.string zt)).setCell ⟨B6, 4, none⟩ (.int .i64 zm)) = Y at hq hY ⊢
        clear sz s0 s1 s2 s3 s4 f0 f1 f2 f3 f4
        refine wpAnyH_take (i := 13) (v := (.int .i64 0)) rfl (by kernel_rfl) (by kernel_rfl) (by kernel_rfl) (fun _ _ _ h => h) (.inl ⟨by rfl, fun X hS => by clear hS; go_simp; first | done | with_reducible rfl | rfl⟩) hY ?_
        (try simp only [Act.put, List.getElem_toArray, List.getElem_cons_zero, List.getElem_cons_succ, List.setIfInBounds_toArray, List.set_cons_zero, List.set_cons_succ])
        refine wpAnyH_done (by kernel_rfl) (.normal ?_) _
        go_wp2
        go_meet
        exact ⟨⟨B6, rfl, rfl, hq⟩, hY⟩
       have hb : Bel X3 (X3.alloc (.cells #[.int .i64 0, .int .i64 0, .int .i64 0, .string ⟨#[]⟩, .int .i64 0] 25)) := (Bel.refl _).alloc _
       have S6 : Slot (X3.alloc (.cells #[.int .i64 0, .int .i64 0, .int .i64 0, .string ⟨#[]⟩, .int .i64 0] 25)) X3.heap.size zero := Qj9 X3 zero
       have L6 : W.heap.size <= X3.heap.size := hX3.size
       have N6 := own_new OB
       replace OB := OB.keep hb
       replace A5 := A5.keep hb
       replace L5 := lL L5 hb.size
       refine Qf9 (v := .pointer (some ⟨X3.heap.size, 0, none⟩)) (w' := (X3.alloc (.cells #[.int .i64 0, .int .i64 0, .int .i64 0, .string ⟨#[]⟩, .int .i64 0] 25))) rfl (by rfl) (by go_simp; first | done | with_reducible rfl | rfl) ⟨hX3.trans hb, ?_⟩
       (try simp only [Act.put, List.getElem_toArray, List.getElem_cons_zero, List.getElem_cons_succ, List.setIfInBounds_toArray, List.set_cons_zero, List.set_cons_succ])
       have hX4 := hX3.trans hb
       clear hb
       generalize (X3.alloc (.cells #[.int .i64 0, .int .i64 0, .int .i64 0, .string ⟨#[]⟩, .int .i64 0] 25)) = X4 at hX4 S6 OB A5 L5 ⊢
       generalize X3.heap.size = B6 at S6 L6 N6 ⊢
       refine wpAnyH_all (rs := [6]) (by kernel_rfl) (by simp) fun i hi => ?_
       obtain rfl := List.mem_singleton.1 hi
       obtain ⟨v5, X5, hr, OC, hX5, bt, ow⟩ := app_bd hX4 OB A5 rfl (fun h => by cases h) HL2.out 29
       refine wpOp_app rfl (by rfl) _ _ _ rfl hr ⟨hX5, ?_⟩
       (try simp only [Act.put, List.getElem_toArray, List.getElem_cons_zero, List.getElem_cons_succ, List.setIfInBounds_toArray, List.set_cons_zero, List.set_cons_succ])
       replace S6 := but_slot bt N6 S6
       clear N6
       clear A5 L5 N5
       clear OB hr bt ow
       have OB := OC; clear OC
       obtain ⟨A1, c1, rfl, hB1⟩ := OB.val
       clear OB
       refine wpAnyH_all (rs := [7]) (by kernel_rfl) (by simp) fun i hi => ?_
       obtain rfl := List.mem_singleton.1 hi
       refine Qa6 (R := fun v w' => v = .tuple #[.agg #[.int .i64 zk, .int .i64 zn, .int .i64 zs, .string zt, .int .i64 zm], .int .i64 0] /\ Bel X5 w') rfl (by rfl) (by go_simp; first | done | with_reducible rfl | rfl) ((CE2.out X5 A1 c1 hX5 hB1).mono fun e w' h => ⟨_, h.1, rfl, h.2⟩) ?_
       rintro v X6 ⟨rfl, hb⟩
       have hX6 := hX5.trans hb
       replace S6 := S6.keep hb
       refine ⟨hX6, ?_⟩
       (try simp only [Act.put, List.getElem_toArray, List.getElem_cons_zero, List.getElem_cons_succ, List.setIfInBounds_toArray, List.set_cons_zero, List.set_cons_succ])
       clear hb hB1
       refine wpAnyH_take (i := 8) (v := (.tuple #[.agg #[.int .i64 zk, .int .i64 zn, .int .i64 zs, .string zt, .int .i64 zm], .int .i64 0])) rfl (by kernel_rfl) (by kernel_rfl) (by kernel_rfl) (fun _ _ _ h => h) (.inl ⟨by rfl, fun X hS => by clear hS; go_simp; first | done | with_reducible rfl | rfl⟩) hX6 ?_
       (try simp only [Act.put, List.getElem_toArray, List.getElem_cons_zero, List.getElem_cons_succ, List.setIfInBounds_toArray, List.set_cons_zero, List.set_cons_succ])
       refine wpAnyH_take (i := 9) (v := (.agg #[.int .i64 zk, .int .i64 zn, .int .i64 zs, .string zt, .int .i64 zm])) rfl (by kernel_rfl) (by kernel_rfl) (by kernel_rfl) (fun _ _ _ h => h) (.inl ⟨by rfl, fun X hS => by clear hS; go_simp; first | done | with_reducible rfl | rfl⟩) hX6 ?_
       (try simp only [Act.put, List.getElem_toArray, List.getElem_cons_zero, List.getElem_cons_succ, List.setIfInBounds_toArray, List.set_cons_zero, List.set_cons_succ])
       refine wpAnyH_take (i := 10) (v := (.int .i64 0)) rfl (by kernel_rfl) (by kernel_rfl) (by kernel_rfl) (fun _ _ _ h => h) (.inl ⟨by rfl, fun X hS => by clear hS; go_simp; first | done | with_reducible rfl | rfl⟩) hX6 ?_
       (try simp only [Act.put, List.getElem_toArray, List.getElem_cons_zero, List.getElem_cons_succ, List.setIfInBounds_toArray, List.set_cons_zero, List.set_cons_succ])
       refine wpAnyH_all (rs := [12]) (by kernel_rfl) (by simp) fun i hi => ?_
       obtain rfl := List.mem_singleton.1 hi
       obtain ⟨sz, ⟨s0, s1, s2, s3, s4⟩, ⟨f0, f1, f2, f3, f4⟩⟩ := S6
       simp only [zero, Nat.zero_add] at s0 s1 s2 s3 s4
       have hY : Bel W (((((X6.setCell ⟨B6, 0, none⟩ (.int .i64 zk)).setCell ⟨B6, 1, none⟩ (.int .i64 zn)).setCell ⟨B6, 2, none⟩ (.int .i64 zs)).setCell ⟨B6, 3, none⟩ (.string zt)).setCell ⟨B6, 4, none⟩ (.int .i64 zm)) := by
        have hb := hX6
        exact Bel.y
       have hq : Slot (((((X6.setCell ⟨B6, 0, none⟩ (.int .i64 zk)).setCell ⟨B6, 1, none⟩ (.int .i64 zn)).setCell ⟨B6, 2, none⟩ (.int .i64 zs)).setCell ⟨B6, 3, none⟩ (.string zt)).setCell ⟨B6, 4, none⟩ (.int .i64 zm)) B6 ⟨zk, zn, zs, zt, zm⟩ := by simp [Slot, Qal, Qah, go_sem, sz, s0, s1, s2, s3, s4, f0, f1, f2, f3, f4]
       refine Qbv (w' := (((((X6.setCell ⟨B6, 0, none⟩ (.int .i64 zk)).setCell ⟨B6, 1, none⟩ (.int .i64 zn)).setCell ⟨B6, 2, none⟩ (.int .i64 zs)).setCell ⟨B6, 3, none⟩ (.string zt)).setCell ⟨B6, 4, none⟩ (.int .i64 zm))) rfl (by rfl) (by go_simp; first | done | with_reducible rfl | rfl) ⟨hY, ?_⟩
       (try simp only [Act.put, List.getElem_toArray, List.getElem_cons_zero, List.getElem_cons_succ, List.setIfInBounds_toArray, List.set_cons_zero, List.set_cons_succ])
       generalize (((((X6.setCell ⟨B6, 0, none⟩ (.int .i64 zk)).setCell ⟨B6, 1, none⟩ (.int .i64 zn)).setCell ⟨B6, 2, none⟩ (.int .i64 zs)).setCell ⟨B6, 3, none⟩ (.string zt)).setCell ⟨B6, 4, none⟩ (.int .i64 zm)) = Y at hq hY ⊢
       clear sz s0 s1 s2 s3 s4 f0 f1 f2 f3 f4
       refine wpAnyH_take (i := 13) (v := (.int .i64 0)) rfl (by kernel_rfl) (by kernel_rfl) (by kernel_rfl) (fun _ _ _ h => h) (.inl ⟨by rfl, fun X hS => by clear hS; go_simp; first | done | with_reducible rfl | rfl⟩) hY ?_
       (try simp only [Act.put, List.getElem_toArray, List.getElem_cons_zero, List.getElem_cons_succ, List.setIfInBounds_toArray, List.set_cons_zero, List.set_cons_succ])
       refine wpAnyH_done (by kernel_rfl) (.normal ?_) _
       go_wp2
       go_meet
       exact ⟨⟨B6, rfl, rfl, hq⟩, hY⟩
      have hb : Bel X2 (X2.alloc (.cells #[.int .i64 0, .int .i64 0, .int .i64 0, .string ⟨#[]⟩, .int .i64 0] 25)) := (Bel.refl _).alloc _
      have S6 : Slot (X2.alloc (.cells #[.int .i64 0, .int .i64 0, .int .i64 0, .string ⟨#[]⟩, .int .i64 0] 25)) X2.heap.size zero := Qj9 X2 zero
      have L6 : W.heap.size <= X2.heap.size := hX2.size
      have N6 := own_new OB
      replace OB := OB.keep hb
      replace A5 := A5.keep hb
      replace L5 := lL L5 hb.size
      refine Qf9 (v := .pointer (some ⟨X2.heap.size, 0, none⟩)) (w' := (X2.alloc (.cells #[.int .i64 0, .int .i64 0, .int .i64 0, .string ⟨#[]⟩, .int .i64 0] 25))) rfl (by rfl) (by go_simp; first | done | with_reducible rfl | rfl) ⟨hX2.trans hb, ?_⟩
      (try simp only [Act.put, List.getElem_toArray, List.getElem_cons_zero, List.getElem_cons_succ, List.setIfInBounds_toArray, List.set_cons_zero, List.set_cons_succ])
      have hX3 := hX2.trans hb
      clear hb
      generalize (X2.alloc (.cells #[.int .i64 0, .int .i64 0, .int .i64 0, .string ⟨#[]⟩, .int .i64 0] 25)) = X3 at hX3 S6 OB A5 L5 ⊢
      generalize X2.heap.size = B6 at S6 L6 N6 ⊢
      refine wpAnyH_all (rs := [3]) (by kernel_rfl) (by simp) fun i hi => ?_
      obtain rfl := List.mem_singleton.1 hi
      obtain ⟨v4, X4, hr, OC, hX4, bt, ow⟩ := app_bd hX3 OB (HLB.out.keep hX3) rfl hA0 HL1.out 29
      refine wpOp_app rfl (by rfl) _ _ _ rfl hr ⟨hX4, ?_⟩
      (try simp only [Act.put, List.getElem_toArray, List.getElem_cons_zero, List.getElem_cons_succ, List.setIfInBounds_toArray, List.set_cons_zero, List.set_cons_succ])
      replace A5 := but_bnds bt N5 A5
      replace N5 := own_ne ow N5 L5
      replace L5 := lL L5 bt.size
      have N6' := own_ne ow N6 S6.1
      replace S6 := but_slot bt N6 S6
      replace N6 := N6'; clear N6'
      clear OB hr bt ow
      have OB := OC; clear OC
      simp only [List.nil_append] at OB
      refine wpAnyH_all (rs := [6]) (by kernel_rfl) (by simp) fun i hi => ?_
      obtain rfl := List.mem_singleton.1 hi
      obtain ⟨v5, X5, hr, OC, hX5, bt, ow⟩ := app_bd hX4 OB A5 rfl (fun h => by cases h) HL2.out 29
      refine wpOp_app rfl (by rfl) _ _ _ rfl hr ⟨hX5, ?_⟩
      (try simp only [Act.put, List.getElem_toArray, List.getElem_cons_zero, List.getElem_cons_succ, List.setIfInBounds_toArray, List.set_cons_zero, List.set_cons_succ])
      replace S6 := but_slot bt N6 S6
      clear N6
      clear A5 L5 N5
      clear OB hr bt ow
      have OB := OC; clear OC
      obtain ⟨A1, c1, rfl, hB1⟩ := OB.val
      clear OB
      refine wpAnyH_all (rs := [7]) (by kernel_rfl) (by simp) fun i hi => ?_
      obtain rfl := List.mem_singleton.1 hi
      refine Qa6 (R := fun v w' => v = .tuple #[.agg #[.int .i64 zk, .int .i64 zn, .int .i64 zs, .string zt, .int .i64 zm], .int .i64 0] /\ Bel X5 w') rfl (by rfl) (by go_simp; first | done | with_reducible rfl | rfl) ((CE2.out X5 A1 c1 hX5 hB1).mono fun e w' h => ⟨_, h.1, rfl, h.2⟩) ?_
      rintro v X6 ⟨rfl, hb⟩
      have hX6 := hX5.trans hb
      replace S6 := S6.keep hb
      refine ⟨hX6, ?_⟩
      (try simp only [Act.put, List.getElem_toArray, List.getElem_cons_zero, List.getElem_cons_succ, List.setIfInBounds_toArray, List.set_cons_zero, List.set_cons_succ])
      clear hb hB1
      refine wpAnyH_take (i := 8) (v := (.tuple #[.agg #[.int .i64 zk, .int .i64 zn, .int .i64 zs, .string zt, .int .i64 zm], .int .i64 0])) rfl (by kernel_rfl) (by kernel_rfl) (by kernel_rfl) (fun _ _ _ h => h) (.inl ⟨by rfl, fun X hS => by clear hS; go_simp; first | done | with_reducible rfl | rfl⟩) hX6 ?_
      (try simp only [Act.put, List.getElem_toArray, List.getElem_cons_zero, List.getElem_cons_succ, List.setIfInBounds_toArray, List.set_cons_zero, List.set_cons_succ])
      refine wpAnyH_take (i := 9) (v := (.agg #[.int .i64 zk, .int .i64 zn, .int .i64 zs, .string zt, .int .i64 zm])) rfl (by kernel_rfl) (by kernel_rfl) (by kernel_rfl) (fun _ _ _ h => h) (.inl ⟨by rfl, fun X hS => by clear hS; go_simp; first | done | with_reducible rfl | rfl⟩) hX6 ?_
      (try simp only [Act.put, List.getElem_toArray, List.getElem_cons_zero, List.getElem_cons_succ, List.setIfInBounds_toArray, List.set_cons_zero, List.set_cons_succ])
      refine wpAnyH_take (i := 10) (v := (.int .i64 0)) rfl (by kernel_rfl) (by kernel_rfl) (by kernel_rfl) (fun _ _ _ h => h) (.inl ⟨by rfl, fun X hS => by clear hS; go_simp; first | done | with_reducible rfl | rfl⟩) hX6 ?_
      (try simp only [Act.put, List.getElem_toArray, List.getElem_cons_zero, List.getElem_cons_succ, List.setIfInBounds_toArray, List.set_cons_zero, List.set_cons_succ])
      refine wpAnyH_all (rs := [12]) (by kernel_rfl) (by simp) fun i hi => ?_
      obtain rfl := List.mem_singleton.1 hi
      obtain ⟨sz, ⟨s0, s1, s2, s3, s4⟩, ⟨f0, f1, f2, f3, f4⟩⟩ := S6
      simp only [zero, Nat.zero_add] at s0 s1 s2 s3 s4
      have hY : Bel W (((((X6.setCell ⟨B6, 0, none⟩ (.int .i64 zk)).setCell ⟨B6, 1, none⟩ (.int .i64 zn)).setCell ⟨B6, 2, none⟩ (.int .i64 zs)).setCell ⟨B6, 3, none⟩ (.string zt)).setCell ⟨B6, 4, none⟩ (.int .i64 zm)) := by
       have hb := hX6
       exact Bel.y
      have hq : Slot (((((X6.setCell ⟨B6, 0, none⟩ (.int .i64 zk)).setCell ⟨B6, 1, none⟩ (.int .i64 zn)).setCell ⟨B6, 2, none⟩ (.int .i64 zs)).setCell ⟨B6, 3, none⟩ (.string zt)).setCell ⟨B6, 4, none⟩ (.int .i64 zm)) B6 ⟨zk, zn, zs, zt, zm⟩ := by simp [Slot, Qal, Qah, go_sem, sz, s0, s1, s2, s3, s4, f0, f1, f2, f3, f4]
      refine Qbv (w' := (((((X6.setCell ⟨B6, 0, none⟩ (.int .i64 zk)).setCell ⟨B6, 1, none⟩ (.int .i64 zn)).setCell ⟨B6, 2, none⟩ (.int .i64 zs)).setCell ⟨B6, 3, none⟩ (.string zt)).setCell ⟨B6, 4, none⟩ (.int .i64 zm))) rfl (by rfl) (by go_simp; first | done | with_reducible rfl | rfl) ⟨hY, ?_⟩
      (try simp only [Act.put, List.getElem_toArray, List.getElem_cons_zero, List.getElem_cons_succ, List.setIfInBounds_toArray, List.set_cons_zero, List.set_cons_succ])
      generalize (((((X6.setCell ⟨B6, 0, none⟩ (.int .i64 zk)).setCell ⟨B6, 1, none⟩ (.int .i64 zn)).setCell ⟨B6, 2, none⟩ (.int .i64 zs)).setCell ⟨B6, 3, none⟩ (.string zt)).setCell ⟨B6, 4, none⟩ (.int .i64 zm)) = Y at hq hY ⊢
      clear sz s0 s1 s2 s3 s4 f0 f1 f2 f3 f4
      refine wpAnyH_take (i := 13) (v := (.int .i64 0)) rfl (by kernel_rfl) (by kernel_rfl) (by kernel_rfl) (fun _ _ _ h => h) (.inl ⟨by rfl, fun X hS => by clear hS; go_simp; first | done | with_reducible rfl | rfl⟩) hY ?_
      (try simp only [Act.put, List.getElem_toArray, List.getElem_cons_zero, List.getElem_cons_succ, List.setIfInBounds_toArray, List.set_cons_zero, List.set_cons_succ])
      refine wpAnyH_done (by kernel_rfl) (.normal ?_) _
      go_wp2
      go_meet
      exact ⟨⟨B6, rfl, rfl, hq⟩, hY⟩
     have hb : Bel X1 (X1.alloc (.cells #[.int .i64 0, .int .i64 0, .int .i64 0, .string ⟨#[]⟩, .int .i64 0] 25)) := (Bel.refl _).alloc _
     have S6 : Slot (X1.alloc (.cells #[.int .i64 0, .int .i64 0, .int .i64 0, .string ⟨#[]⟩, .int .i64 0] 25)) X1.heap.size zero := Qj9 X1 zero
     have L6 : W.heap.size <= X1.heap.size := hX1.size
     have N6 := own_new OB
     replace OB := OB.keep hb
     refine Qf9 (v := .pointer (some ⟨X1.heap.size, 0, none⟩)) (w' := (X1.alloc (.cells #[.int .i64 0, .int .i64 0, .int .i64 0, .string ⟨#[]⟩, .int .i64 0] 25))) rfl (by rfl) (by go_simp; first | done | with_reducible rfl | rfl) ⟨hX1.trans hb, ?_⟩
     (try simp only [Act.put, List.getElem_toArray, List.getElem_cons_zero, List.getElem_cons_succ, List.setIfInBounds_toArray, List.set_cons_zero, List.set_cons_succ])
     have hX2 := hX1.trans hb
     clear hb
     generalize (X1.alloc (.cells #[.int .i64 0, .int .i64 0, .int .i64 0, .string ⟨#[]⟩, .int .i64 0] 25)) = X2 at hX2 S6 OB ⊢
     generalize X1.heap.size = B6 at S6 L6 N6 ⊢
     refine wpAnyH_all (rs := [3, 5]) (by kernel_rfl) (by simp) fun i hi => ?_
     simp only [List.mem_cons, List.not_mem_nil, or_false] at hi
     rcases hi with rfl | rfl
     ·obtain ⟨v3, X3, hr, OC, hX3, bt, ow⟩ := app_bd hX2 OB (HLB.out.keep hX2) rfl hA0 HL1.out 29
      refine wpOp_app rfl (by rfl) _ _ _ rfl hr ⟨hX3, ?_⟩
      (try simp only [Act.put, List.getElem_toArray, List.getElem_cons_zero, List.getElem_cons_succ, List.setIfInBounds_toArray, List.set_cons_zero, List.set_cons_succ])
      have N6' := own_ne ow N6 S6.1
      replace S6 := but_slot bt N6 S6
      replace N6 := N6'; clear N6'
      clear OB hr bt ow
      have OB := OC; clear OC
      simp only [List.nil_append] at OB
      refine wpAnyH_all (rs := [5]) (by kernel_rfl) (by simp) fun i hi => ?_
      obtain rfl := List.mem_singleton.1 hi
      have hb : Bel X3 (X3.alloc (.cells #[.string mn, .int .i64 mk, .int .i64 mm, .int .i64 ms, .string mt, .int .i64 mu] 46)) := (Bel.refl _).alloc _
      have A5 : Bnds (X3.alloc (.cells #[.string mn, .int .i64 mk, .int .i64 mm, .int .i64 ms, .string mt, .int .i64 mu] 46)) (some ⟨X3.heap.size, 0, none⟩) [⟨mn, ⟨mk, mm, ms, mt, mu⟩⟩] := Qrr X3 ⟨mn, ⟨mk, mm, ms, mt, mu⟩⟩ rfl
      have L5 : X3.heap.size < (X3.alloc (.cells #[.string mn, .int .i64 mk, .int .i64 mm, .int .i64 ms, .string mt, .int .i64 mu] 46)).heap.size := by simp
      have N5 := own_new OB
      replace OB := OB.keep hb
      replace S6 := S6.keep hb
      refine Qf9 (v := .slice (some ⟨X3.heap.size, 0, none⟩) 1 1) (w' := (X3.alloc (.cells #[.string mn, .int .i64 mk, .int .i64 mm, .int .i64 ms, .string mt, .int .i64 mu] 46))) rfl (by rfl) (by go_simp; first | done | with_reducible rfl | rfl) ⟨hX3.trans hb, ?_⟩
      (try simp only [Act.put, List.getElem_toArray, List.getElem_cons_zero, List.getElem_cons_succ, List.setIfInBounds_toArray, List.set_cons_zero, List.set_cons_succ])
      have hX4 := hX3.trans hb
      clear hb
      generalize (X3.alloc (.cells #[.string mn, .int .i64 mk, .int .i64 mm, .int .i64 ms, .string mt, .int .i64 mu] 46)) = X4 at hX4 A5 L5 OB S6 ⊢
      generalize X3.heap.size = B5 at A5 L5 N5 ⊢
      refine wpAnyH_all (rs := [6]) (by kernel_rfl) (by simp) fun i hi => ?_
      obtain rfl := List.mem_singleton.1 hi
      obtain ⟨v5, X5, hr, OC, hX5, bt, ow⟩ := app_bd hX4 OB A5 rfl (fun h => by cases h) HL2.out 29
      refine wpOp_app rfl (by rfl) _ _ _ rfl hr ⟨hX5, ?_⟩
      (try simp only [Act.put, List.getElem_toArray, List.getElem_cons_zero, List.getElem_cons_succ, List.setIfInBounds_toArray, List.set_cons_zero, List.set_cons_succ])
      replace S6 := but_slot bt N6 S6
      clear N6
      clear A5 L5 N5
      clear OB hr bt ow
      have OB := OC; clear OC
      obtain ⟨A1, c1, rfl, hB1⟩ := OB.val
      clear OB
      refine wpAnyH_all (rs := [7]) (by kernel_rfl) (by simp) fun i hi => ?_
      obtain rfl := List.mem_singleton.1 hi
      refine Qa6 (R := fun v w' => v = .tuple #[.agg #[.int .i64 zk, .int .i64 zn, .int .i64 zs, .string zt, .int .i64 zm], .int .i64 0] /\ Bel X5 w') rfl (by rfl) (by go_simp; first | done | with_reducible rfl | rfl) ((CE2.out X5 A1 c1 hX5 hB1).mono fun e w' h => ⟨_, h.1, rfl, h.2⟩) ?_
      rintro v X6 ⟨rfl, hb⟩
      have hX6 := hX5.trans hb
      replace S6 := S6.keep hb
      refine ⟨hX6, ?_⟩
      (try simp only [Act.put, List.getElem_toArray, List.getElem_cons_zero, List.getElem_cons_succ, List.setIfInBounds_toArray, List.set_cons_zero, List.set_cons_succ])
      clear hb hB1
      refine wpAnyH_take (i := 8) (v := (.tuple #[.agg #[.int .i64 zk, .int .i64 zn, .int .i64 zs, .string zt, .int .i64 zm], .int .i64 0])) rfl (by kernel_rfl) (by kernel_rfl) (by kernel_rfl) (fun _ _ _ h => h) (.inl ⟨by rfl, fun X hS => by clear hS; go_simp; first | done | with_reducible rfl | rfl⟩) hX6 ?_
      (try simp only [Act.put, List.getElem_toArray, List.getElem_cons_zero, List.getElem_cons_succ, List.setIfInBounds_toArray, List.set_cons_zero, List.set_cons_succ])
      refine wpAnyH_take (i := 9) (v := (.agg #[.int .i64 zk, .int .i64 zn, .int .i64 zs, .string zt, .int .i64 zm])) rfl (by kernel_rfl) (by kernel_rfl) (by kernel_rfl) (fun _ _ _ h => h) (.inl ⟨by rfl, fun X hS => by clear hS; go_simp; first | done | with_reducible rfl | rfl⟩) hX6 ?_
      (try simp only [Act.put, List.getElem_toArray, List.getElem_cons_zero, List.getElem_cons_succ, List.setIfInBounds_toArray, List.set_cons_zero, List.set_cons_succ])
      refine wpAnyH_take (i := 10) (v := (.int .i64 0)) rfl (by kernel_rfl) (by kernel_rfl) (by kernel_rfl) (fun _ _ _ h => h) (.inl ⟨by rfl, fun X hS => by clear hS; go_simp; first | done | with_reducible rfl | rfl⟩) hX6 ?_
      (try simp only [Act.put, List.getElem_toArray, List.getElem_cons_zero, List.getElem_cons_succ, List.setIfInBounds_toArray, List.set_cons_zero, List.set_cons_succ])
      refine wpAnyH_all (rs := [12]) (by kernel_rfl) (by simp) fun i hi => ?_
      obtain rfl := List.mem_singleton.1 hi
      obtain ⟨sz, ⟨s0, s1, s2, s3, s4⟩, ⟨f0, f1, f2, f3, f4⟩⟩ := S6
      simp only [zero, Nat.zero_add] at s0 s1 s2 s3 s4
      have hY : Bel W (((((X6.setCell ⟨B6, 0, none⟩ (.int .i64 zk)).setCell ⟨B6, 1, none⟩ (.int .i64 zn)).setCell ⟨B6, 2, none⟩ (.int .i64 zs)).setCell ⟨B6, 3, none⟩ (.string zt)).setCell ⟨B6, 4, none⟩ (.int .i64 zm)) := by
       have hb := hX6
       exact Bel.y
      have hq : Slot (((((X6.setCell ⟨B6, 0, none⟩ (.int .i64 zk)).setCell ⟨B6, 1, none⟩ (.int .i64 zn)).setCell ⟨B6, 2, none⟩ (.int .i64 zs)).setCell ⟨B6, 3, none⟩ (.string zt)).setCell ⟨B6, 4, none⟩ (.int .i64 zm)) B6 ⟨zk, zn, zs, zt, zm⟩ := by simp [Slot, Qal, Qah, go_sem, sz, s0, s1, s2, s3, s4, f0, f1, f2, f3, f4]
      refine Qbv (w' := (((((X6.setCell ⟨B6, 0, none⟩ (.int .i64 zk)).setCell ⟨B6, 1, none⟩ (.int .i64 zn)).setCell ⟨B6, 2, none⟩ (.int .i64 zs)).setCell ⟨B6, 3, none⟩ (.string zt)).setCell ⟨B6, 4, none⟩ (.int .i64 zm))) rfl (by rfl) (by go_simp; first | done | with_reducible rfl | rfl) ⟨hY, ?_⟩
      (try simp only [Act.put, List.getElem_toArray, List.getElem_cons_zero, List.getElem_cons_succ, List.setIfInBounds_toArray, List.set_cons_zero, List.set_cons_succ])
      generalize (((((X6.setCell ⟨B6, 0, none⟩ (.int .i64 zk)).setCell ⟨B6, 1, none⟩ (.int .i64 zn)).setCell ⟨B6, 2, none⟩ (.int .i64 zs)).setCell ⟨B6, 3, none⟩ (.string zt)).setCell ⟨B6, 4, none⟩ (.int .i64 zm)) = Y at hq hY ⊢
      clear sz s0 s1 s2 s3 s4 f0 f1 f2 f3 f4
      refine wpAnyH_take (i := 13) (v := (.int .i64 0)) rfl (by kernel_rfl) (by kernel_rfl) (by kernel_rfl) (fun _ _ _ h => h) (.inl ⟨by rfl, fun X hS => by clear hS; go_simp; first | done | with_reducible rfl | rfl⟩) hY ?_
      (try simp only [Act.put, List.getElem_toArray, List.getElem_cons_zero, List.getElem_cons_succ, List.setIfInBounds_toArray, List.set_cons_zero, List.set_cons_succ])
      refine wpAnyH_done (by kernel_rfl) (.normal ?_) _
      go_wp2
      go_meet
      exact ⟨⟨B6, rfl, rfl, hq⟩, hY⟩
     have hb : Bel X2 (X2.alloc (.cells #[.string mn, .int .i64 mk, .int .i64 mm, .int .i64 ms, .string mt, .int .i64 mu] 46)) := (Bel.refl _).alloc _
     have A5 : Bnds (X2.alloc (.cells #[.string mn, .int .i64 mk, .int .i64 mm, .int .i64 ms, .string mt, .int .i64 mu] 46)) (some ⟨X2.heap.size, 0, none⟩) [⟨mn, ⟨mk, mm, ms, mt, mu⟩⟩] := Qrr X2 ⟨mn, ⟨mk, mm, ms, mt, mu⟩⟩ rfl
     have L5 : X2.heap.size < (X2.alloc (.cells #[.string mn, .int .i64 mk, .int .i64 mm, .int .i64 ms, .string mt, .int .i64 mu] 46)).heap.size := by simp
     have N5 := own_new OB
     replace OB := OB.keep hb
     replace S6 := S6.keep hb
     refine Qf9 (v := .slice (some ⟨X2.heap.size, 0, none⟩) 1 1) (w' := (X2.alloc (.cells #[.string mn, .int .i64 mk, .int .i64 mm, .int .i64 ms, .string mt, .int .i64 mu] 46))) rfl (by rfl) (by go_simp; first | done | with_reducible rfl | rfl) ⟨hX2.trans hb, ?_⟩
     (try simp only [Act.put, List.getElem_toArray, List.getElem_cons_zero, List.getElem_cons_succ, List.setIfInBounds_toArray, List.set_cons_zero, List.set_cons_succ])
     have hX3 := hX2.trans hb
     clear hb
     generalize (X2.alloc (.cells #[.string mn, .int .i64 mk, .int .i64 mm, .int .i64 ms, .string mt, .int .i64 mu] 46)) = X3 at hX3 A5 L5 OB S6 ⊢
     generalize X2.heap.size = B5 at A5 L5 N5 ⊢
     refine wpAnyH_all (rs := [3]) (by kernel_rfl) (by simp) fun i hi => ?_
     obtain rfl := List.mem_singleton.1 hi
     obtain ⟨v4, X4, hr, OC, hX4, bt, ow⟩ := app_bd hX3 OB (HLB.out.keep hX3) rfl hA0 HL1.out 29
     refine wpOp_app rfl (by rfl) _ _ _ rfl hr ⟨hX4, ?_⟩
     (try simp only [Act.put, List.getElem_toArray, List.getElem_cons_zero, List.getElem_cons_succ, List.setIfInBounds_toArray, List.set_cons_zero, List.set_cons_succ])
     replace A5 := but_bnds bt N5 A5
     replace N5 := own_ne ow N5 L5
     replace L5 := lL L5 bt.size
     have N6' := own_ne ow N6 S6.1
     replace S6 := but_slot bt N6 S6
     replace N6 := N6'; clear N6'
     clear OB hr bt ow
     have OB := OC; clear OC
     simp only [List.nil_append] at OB
     refine wpAnyH_all (rs := [6]) (by kernel_rfl) (by simp) fun i hi => ?_
     obtain rfl := List.mem_singleton.1 hi
     obtain ⟨v5, X5, hr, OC, hX5, bt, ow⟩ := app_bd hX4 OB A5 rfl (fun h => by cases h) HL2.out 29
     refine wpOp_app rfl (by rfl) _ _ _ rfl hr ⟨hX5, ?_⟩
     (try simp only [Act.put, List.getElem_toArray, List.getElem_cons_zero, List.getElem_cons_succ, List.setIfInBounds_toArray, List.set_cons_zero, List.set_cons_succ])
     replace S6 := but_slot bt N6 S6
     clear N6
     clear A5 L5 N5
     clear OB hr bt ow
     have OB := OC; clear OC
     obtain ⟨A1, c1, rfl, hB1⟩ := OB.val
     clear OB
     refine wpAnyH_all (rs := [7]) (by kernel_rfl) (by simp) fun i hi => ?_
     obtain rfl := List.mem_singleton.1 hi
     refine Qa6 (R := fun v w' => v = .tuple #[.agg #[.int .i64 zk, .int .i64 zn, .int .i64 zs, .string zt, .int .i64 zm], .int .i64 0] /\ Bel X5 w') rfl (by rfl) (by go_simp; first | done | with_reducible rfl | rfl) ((CE2.out X5 A1 c1 hX5 hB1).mono fun e w' h => ⟨_, h.1, rfl, h.2⟩) ?_
     rintro v X6 ⟨rfl, hb⟩
     have hX6 := hX5.trans hb
     replace S6 := S6.keep hb
     refine ⟨hX6, ?_⟩
     (try simp only [Act.put, List.getElem_toArray, List.getElem_cons_zero, List.getElem_cons_succ, List.setIfInBounds_toArray, List.set_cons_zero, List.set_cons_succ])
     clear hb hB1
     refine wpAnyH_take (i := 8) (v := (.tuple #[.agg #[.int .i64 zk, .int .i64 zn, .int .i64 zs, .string zt, .int .i64 zm], .int .i64 0])) rfl (by kernel_rfl) (by kernel_rfl) (by kernel_rfl) (fun _ _ _ h => h) (.inl ⟨by rfl, fun X hS => by clear hS; go_simp; first | done | with_reducible rfl | rfl⟩) hX6 ?_
     (try simp only [Act.put, List.getElem_toArray, List.getElem_cons_zero, List.getElem_cons_succ, List.setIfInBounds_toArray, List.set_cons_zero, List.set_cons_succ])
     refine wpAnyH_take (i := 9) (v := (.agg #[.int .i64 zk, .int .i64 zn, .int .i64 zs, .string zt, .int .i64 zm])) rfl (by kernel_rfl) (by kernel_rfl) (by kernel_rfl) (fun _ _ _ h => h) (.inl ⟨by rfl, fun X hS => by clear hS; go_simp; first | done | with_reducible rfl | rfl⟩) hX6 ?_
     (try simp only [Act.put, List.getElem_toArray, List.getElem_cons_zero, List.getElem_cons_succ, List.setIfInBounds_toArray, List.set_cons_zero, List.set_cons_succ])
     refine wpAnyH_take (i := 10) (v := (.int .i64 0)) rfl (by kernel_rfl) (by kernel_rfl) (by kernel_rfl) (fun _ _ _ h => h) (.inl ⟨by rfl, fun X hS => by clear hS; go_simp; first | done | with_reducible rfl | rfl⟩) hX6 ?_
     (try simp only [Act.put, List.getElem_toArray, List.getElem_cons_zero, List.getElem_cons_succ, List.setIfInBounds_toArray, List.set_cons_zero, List.set_cons_succ])
     refine wpAnyH_all (rs := [12]) (by kernel_rfl) (by simp) fun i hi => ?_
     obtain rfl := List.mem_singleton.1 hi
     obtain ⟨sz, ⟨s0, s1, s2, s3, s4⟩, ⟨f0, f1, f2, f3, f4⟩⟩ := S6
     simp only [zero, Nat.zero_add] at s0 s1 s2 s3 s4
     have hY : Bel W (((((X6.setCell ⟨B6, 0, none⟩ (.int .i64 zk)).setCell ⟨B6, 1, none⟩ (.int .i64 zn)).setCell ⟨B6, 2, none⟩ (.int .i64 zs)).setCell ⟨B6, 3, none⟩ (.string zt)).setCell ⟨B6, 4, none⟩ (.int .i64 zm)) := by
      have hb := hX6
      exact Bel.y
     have hq : Slot (((((X6.setCell ⟨B6, 0, none⟩ (.int .i64 zk)).setCell ⟨B6, 1, none⟩ (.int .i64 zn)).setCell ⟨B6, 2, none⟩ (.int .i64 zs)).setCell ⟨B6, 3, none⟩ (.string zt)).setCell ⟨B6, 4, none⟩ (.int .i64 zm)) B6 ⟨zk, zn, zs, zt, zm⟩ := by simp [Slot, Qal, Qah, go_sem, sz, s0, s1, s2, s3, s4, f0, f1, f2, f3, f4]
     refine Qbv (w' := (((((X6.setCell ⟨B6, 0, none⟩ (.int .i64 zk)).setCell ⟨B6, 1, none⟩ (.int .i64 zn)).setCell ⟨B6, 2, none⟩ (.int .i64 zs)).setCell ⟨B6, 3, none⟩ (.string zt)).setCell ⟨B6, 4, none⟩ (.int .i64 zm))) rfl (by rfl) (by go_simp; first | done | with_reducible rfl | rfl) ⟨hY, ?_⟩
     (try simp only [Act.put, List.getElem_toArray, List.getElem_cons_zero, List.getElem_cons_succ, List.setIfInBounds_toArray, List.set_cons_zero, List.set_cons_succ])
     generalize (((((X6.setCell ⟨B6, 0, none⟩ (.int .i64 zk)).setCell ⟨B6, 1, none⟩ (.int .i64 zn)).setCell ⟨B6, 2, none⟩ (.int .i64 zs)).setCell ⟨B6, 3, none⟩ (.string zt)).setCell ⟨B6, 4, none⟩ (.int .i64 zm)) = Y at hq hY ⊢
     clear sz s0 s1 s2 s3 s4 f0 f1 f2 f3 f4
     refine wpAnyH_take (i := 13) (v := (.int .i64 0)) rfl (by kernel_rfl) (by kernel_rfl) (by kernel_rfl) (fun _ _ _ h => h) (.inl ⟨by rfl, fun X hS => by clear hS; go_simp; first | done | with_reducible rfl | rfl⟩) hY ?_
     (try simp only [Act.put, List.getElem_toArray, List.getElem_cons_zero, List.getElem_cons_succ, List.setIfInBounds_toArray, List.set_cons_zero, List.set_cons_succ])
     refine wpAnyH_done (by kernel_rfl) (.normal ?_) _
     go_wp2
     go_meet
     exact ⟨⟨B6, rfl, rfl, hq⟩, hY⟩
    ·have hb : Bel X0 (X0.alloc (.cells #[.string mn, .int .i64 mk, .int .i64 mm, .int .i64 ms, .string mt, .int .i64 mu] 46)) := (Bel.refl _).alloc _
     have A5 : Bnds (X0.alloc (.cells #[.string mn, .int .i64 mk, .int .i64 mm, .int .i64 ms, .string mt, .int .i64 mu] 46)) (some ⟨X0.heap.size, 0, none⟩) [⟨mn, ⟨mk, mm, ms, mt, mu⟩⟩] := Qrr X0 ⟨mn, ⟨mk, mm, ms, mt, mu⟩⟩ rfl
     have L5 : X0.heap.size < (X0.alloc (.cells #[.string mn, .int .i64 mk, .int .i64 mm, .int .i64 ms, .string mt, .int .i64 mu] 46)).heap.size := by simp
     refine Qf9 (v := .slice (some ⟨X0.heap.size, 0, none⟩) 1 1) (w' := (X0.alloc (.cells #[.string mn, .int .i64 mk, .int .i64 mm, .int .i64 ms, .string mt, .int .i64 mu] 46))) rfl (by rfl) (by go_simp; first | done | with_reducible rfl | rfl) ⟨hX0.trans hb, ?_⟩
     (try simp only [Act.put, List.getElem_toArray, List.getElem_cons_zero, List.getElem_cons_succ, List.setIfInBounds_toArray, List.set_cons_zero, List.set_cons_succ])
     have hX1 := hX0.trans hb
     clear hb
     generalize (X0.alloc (.cells #[.string mn, .int .i64 mk, .int .i64 mm, .int .i64 ms, .string mt, .int .i64 mu] 46)) = X1 at hX1 A5 L5 ⊢
     generalize X0.heap.size = B5 at A5 L5 ⊢
     refine wpAnyH_all (rs := [1, 11]) (by kernel_rfl) (by simp) fun i hi => ?_
     simp only [List.mem_cons, List.not_mem_nil, or_false] at hi
     rcases hi with rfl | rfl
     ·have hb : Bel X1 (X1.alloc (.cells #[] 46)) := (Bel.refl _).alloc _
      have OB := OwnB.made hX1
      have N5 := own_at L5
      replace A5 := A5.keep hb
      replace L5 := lL L5 hb.size
      refine Qf9 (v := .slice (some ⟨X1.heap.size, 0, none⟩) 0 0) (w' := (X1.alloc (.cells #[] 46))) rfl (by rfl) (by go_simp; first | done | with_reducible rfl | rfl) ⟨hX1.trans hb, ?_⟩
      (try simp only [Act.put, List.getElem_toArray, List.getElem_cons_zero, List.getElem_cons_succ, List.setIfInBounds_toArray, List.set_cons_zero, List.set_cons_succ])
      have hX2 := hX1.trans hb
      clear hb
      generalize (Value.slice (some ⟨X1.heap.size, 0, none⟩) 0 0) = va at OB N5 ⊢
      generalize (X1.alloc (.cells #[] 46)) = X2 at OB hX2 A5 L5 ⊢
      refine wpAnyH_all (rs := [3, 11]) (by kernel_rfl) (by simp) fun i hi => ?_
      simp only [List.mem_cons, List.not_mem_nil, or_false] at hi
      rcases hi with rfl | rfl
      ·obtain ⟨v3, X3, hr, OC, hX3, bt, ow⟩ := app_bd hX2 OB (HLB.out.keep hX2) rfl hA0 HL1.out 29
       refine wpOp_app rfl (by rfl) _ _ _ rfl hr ⟨hX3, ?_⟩
       (try simp only [Act.put, List.getElem_toArray, List.getElem_cons_zero, List.getElem_cons_succ, List.setIfInBounds_toArray, List.set_cons_zero, List.set_cons_succ])
       replace A5 := but_bnds bt N5 A5
       replace N5 := own_ne ow N5 L5
       replace L5 := lL L5 bt.size
       clear OB hr bt ow
       have OB := OC; clear OC
       simp only [List.nil_append] at OB
       refine wpAnyH_all (rs := [6, 11]) (by kernel_rfl) (by simp) fun i hi => ?_
       simp only [List.mem_cons, List.not_mem_nil, or_false] at hi
       rcases hi with rfl | rfl
       ·obtain ⟨v4, X4, hr, OC, hX4, bt, ow⟩ := app_bd hX3 OB A5 rfl (fun h => by cases h) HL2.out 29
        refine wpOp_app rfl (by rfl) _ _ _ rfl hr ⟨hX4, ?_⟩
        (try simp only [Act.put, List.getElem_toArray, List.getElem_cons_zero, List.getElem_cons_succ, List.setIfInBounds_toArray, List.set_cons_zero, List.set_cons_succ])
        clear A5 L5 N5
        clear OB hr bt ow
        have OB := OC; clear OC
        obtain ⟨A1, c1, rfl, hB1⟩ := OB.val
        clear OB
        refine wpAnyH_all (rs := [7, 11]) (by kernel_rfl) (by simp) fun i hi => ?_
        simp only [List.mem_cons, List.not_mem_nil, or_false] at hi
        rcases hi with rfl | rfl
        ·refine Qa6 (R := fun v w' => v = .tuple #[.agg #[.int .i64 zk, .int .i64 zn, .int .i64 zs, .string zt, .int .i64 zm], .int .i64 0] /\ Bel X4 w') rfl (by rfl) (by go_simp; first | done | with_reducible rfl | rfl) ((CE2.out X4 A1 c1 hX4 hB1).mono fun e w' h => ⟨_, h.1, rfl, h.2⟩) ?_
         rintro v X5 ⟨rfl, hb⟩
         have hX5 := hX4.trans hb
         refine ⟨hX5, ?_⟩
         (try simp only [Act.put, List.getElem_toArray, List.getElem_cons_zero, List.getElem_cons_succ, List.setIfInBounds_toArray, List.set_cons_zero, List.set_cons_succ])
         clear hb hB1
         refine wpAnyH_take (i := 8) (v := (.tuple #[.agg #[.int .i64 zk, .int .i64 zn, .int .i64 zs, .string zt, .int .i64 zm], .int .i64 0])) rfl (by kernel_rfl) (by kernel_rfl) (by kernel_rfl) (fun _ _ _ h => h) (.inl ⟨by rfl, fun X hS => by clear hS; go_simp; first | done | with_reducible rfl | rfl⟩) hX5 ?_
         (try simp only [Act.put, List.getElem_toArray, List.getElem_cons_zero, List.getElem_cons_succ, List.setIfInBounds_toArray, List.set_cons_zero, List.set_cons_succ])
         refine wpAnyH_take (i := 9) (v := (.agg #[.int .i64 zk, .int .i64 zn, .int .i64 zs, .string zt, .int .i64 zm])) rfl (by kernel_rfl) (by kernel_rfl) (by kernel_rfl) (fun _ _ _ h => h) (.inl ⟨by rfl, fun X hS => by clear hS; go_simp; first | done | with_reducible rfl | rfl⟩) hX5 ?_
         (try simp only [Act.put, List.getElem_toArray, List.getElem_cons_zero, List.getElem_cons_succ, List.setIfInBounds_toArray, List.set_cons_zero, List.set_cons_succ])
         refine wpAnyH_take (i := 10) (v := (.int .i64 0)) rfl (by kernel_rfl) (by kernel_rfl) (by kernel_rfl) (fun _ _ _ h => h) (.inl ⟨by rfl, fun X hS => by clear hS; go_simp; first | done | with_reducible rfl | rfl⟩) hX5 ?_
         (try simp only [Act.put, List.getElem_toArray, List.getElem_cons_zero, List.getElem_cons_succ, List.setIfInBounds_toArray, List.set_cons_zero, List.set_cons_succ])
         refine wpAnyH_all (rs := [11]) (by kernel_rfl) (by simp) fun i hi => ?_
         obtain rfl := List.mem_singleton.1 hi
         have hb : Bel X5 (X5.alloc (.cells #[.int .i64 0, .int .i64 0, .int .i64 0, .string ⟨#[]⟩, .int .i64 0] 25)) := (Bel.refl _).alloc _
         have S6 : Slot (X5.alloc (.cells #[.int .i64 0, .int .i64 0, .int .i64 0, .string ⟨#[]⟩, .int .i64 0] 25)) X5.heap.size zero := Qj9 X5 zero
         have L6 : W.heap.size <= X5.heap.size := hX5.size
         refine Qf9 (v := .pointer (some ⟨X5.heap.size, 0, none⟩)) (w' := (X5.alloc (.cells #[.int .i64 0, .int .i64 0, .int .i64 0, .string ⟨#[]⟩, .int .i64 0] 25))) rfl (by rfl) (by go_simp; first | done | with_reducible rfl | rfl) ⟨hX5.trans hb, ?_⟩
         (try simp only [Act.put, List.getElem_toArray, List.getElem_cons_zero, List.getElem_cons_succ, List.setIfInBounds_toArray, List.set_cons_zero, List.set_cons_succ])
         have hX6 := hX5.trans hb
         clear hb
         generalize (X5.alloc (.cells #[.int .i64 0, .int .i64 0, .int .i64 0, .string ⟨#[]⟩, .int .i64 0] 25)) = X6 at hX6 S6 ⊢
         generalize X5.heap.size = B6 at S6 L6 ⊢
         refine wpAnyH_all (rs := [12]) (by kernel_rfl) (by simp) fun i hi => ?_
         obtain rfl := List.mem_singleton.1 hi
         obtain ⟨sz, ⟨s0, s1, s2, s3, s4⟩, ⟨f0, f1, f2, f3, f4⟩⟩ := S6
         simp only [zero, Nat.zero_add] at s0 s1 s2 s3 s4
         have hY : Bel W (((((X6.setCell ⟨B6, 0, none⟩ (.int .i64 zk)).setCell ⟨B6, 1, none⟩ (.int .i64 zn)).setCell ⟨B6, 2, none⟩ (.int .i64 zs)).setCell ⟨B6, 3, none⟩ (.string zt)).setCell ⟨B6, 4, none⟩ (.int .i64 zm)) := by
          have hb := hX6
          exact Bel.y
         have hq : Slot (((((X6.setCell ⟨B6, 0, none⟩ (.int .i64 zk)).setCell ⟨B6, 1, none⟩ (.int .i64 zn)).setCell ⟨B6, 2, none⟩ (.int .i64 zs)).setCell ⟨B6, 3, none⟩ (.string zt)).setCell ⟨B6, 4, none⟩ (.int .i64 zm)) B6 ⟨zk, zn, zs, zt, zm⟩ := by simp [Slot, Qal, Qah, go_sem, sz, s0, s1, s2, s3, s4, f0, f1, f2, f3, f4]
         refine Qbv (w' := (((((X6.setCell ⟨B6, 0, none⟩ (.int .i64 zk)).setCell ⟨B6, 1, none⟩ (.int .i64 zn)).setCell ⟨B6, 2, none⟩ (.int .i64 zs)).setCell ⟨B6, 3, none⟩ (.string zt)).setCell ⟨B6, 4, none⟩ (.int .i64 zm))) rfl (by rfl) (by go_simp; first | done | with_reducible rfl | rfl) ⟨hY, ?_⟩
         (try simp only [Act.put, List.getElem_toArray, List.getElem_cons_zero, List.getElem_cons_succ, List.setIfInBounds_toArray, List.set_cons_zero, List.set_cons_succ])
         generalize (((((X6.setCell ⟨B6, 0, none⟩ (.int .i64 zk)).setCell ⟨B6, 1, none⟩ (.int .i64 zn)).setCell ⟨B6, 2, none⟩ (.int .i64 zs)).setCell ⟨B6, 3, none⟩ (.string zt)).setCell ⟨B6, 4, none⟩ (.int .i64 zm)) = Y at hq hY ⊢
         clear sz s0 s1 s2 s3 s4 f0 f1 f2 f3 f4
         refine wpAnyH_take (i := 13) (v := (.int .i64 0)) rfl (by kernel_rfl) (by kernel_rfl) (by kernel_rfl) (fun _ _ _ h => h) (.inl ⟨by rfl, fun X hS => by clear hS; go_simp; first | done | with_reducible rfl | rfl⟩) hY ?_
         (try simp only [Act.put, List.getElem_toArray, List.getElem_cons_zero, List.getElem_cons_succ, List.setIfInBounds_toArray, List.set_cons_zero, List.set_cons_succ])
         refine wpAnyH_done (by kernel_rfl) (.normal ?_) _
         go_wp2
         go_meet
         exact ⟨⟨B6, rfl, rfl, hq⟩, hY⟩
        have hb : Bel X4 (X4.alloc (.cells #[.int .i64 0, .int .i64 0, .int .i64 0, .string ⟨#[]⟩, .int .i64 0] 25)) := (Bel.refl _).alloc _
        have S6 : Slot (X4.alloc (.cells #[.int .i64 0, .int .i64 0, .int .i64 0, .string ⟨#[]⟩, .int .i64 0] 25)) X4.heap.size zero := Qj9 X4 zero
        have L6 : W.heap.size <= X4.heap.size := hX4.size
        replace hB1 := hB1.keep hb
        refine Qf9 (v := .pointer (some ⟨X4.heap.size, 0, none⟩)) (w' := (X4.alloc (.cells #[.int .i64 0, .int .i64 0, .int .i64 0, .string ⟨#[]⟩, .int .i64 0] 25))) rfl (by rfl) (by go_simp; first | done | with_reducible rfl | rfl) ⟨hX4.trans hb, ?_⟩
        (try simp only [Act.put, List.getElem_toArray, List.getElem_cons_zero, List.getElem_cons_succ, List.setIfInBounds_toArray, List.set_cons_zero, List.set_cons_succ])
        have hX5 := hX4.trans hb
        clear hb
        generalize (X4.alloc (.cells #[.int .i64 0, .int .i64 0, .int .i64 0, .string ⟨#[]⟩, .int .i64 0] 25)) = X5 at hX5 S6 hB1 ⊢
        generalize X4.heap.size = B6 at S6 L6 ⊢
        refine wpAnyH_all (rs := [7]) (by kernel_rfl) (by simp) fun i hi => ?_
        obtain rfl := List.mem_singleton.1 hi
        refine Qa6 (R := fun v w' => v = .tuple #[.agg #[.int .i64 zk, .int .i64 zn, .int .i64 zs, .string zt, .int .i64 zm], .int .i64 0] /\ Bel X5 w') rfl (by rfl) (by go_simp; first | done | with_reducible rfl | rfl) ((CE2.out X5 A1 c1 hX5 hB1).mono fun e w' h => ⟨_, h.1, rfl, h.2⟩) ?_
        rintro v X6 ⟨rfl, hb⟩
        have hX6 := hX5.trans hb
        replace S6 := S6.keep hb
        refine ⟨hX6, ?_⟩
        (try simp only [Act.put, List.getElem_toArray, List.getElem_cons_zero, List.getElem_cons_succ, List.setIfInBounds_toArray, List.set_cons_zero, List.set_cons_succ])
        clear hb hB1
        refine wpAnyH_take (i := 8) (v := (.tuple #[.agg #[.int .i64 zk, .int .i64 zn, .int .i64 zs, .string zt, .int .i64 zm], .int .i64 0])) rfl (by kernel_rfl) (by kernel_rfl) (by kernel_rfl) (fun _ _ _ h => h) (.inl ⟨by rfl, fun X hS => by clear hS; go_simp; first | done | with_reducible rfl | rfl⟩) hX6 ?_
        (try simp only [Act.put, List.getElem_toArray, List.getElem_cons_zero, List.getElem_cons_succ, List.setIfInBounds_toArray, List.set_cons_zero, List.set_cons_succ])
        refine wpAnyH_take (i := 9) (v := (.agg #[.int .i64 zk, .int .i64 zn, .int .i64 zs, .string zt, .int .i64 zm])) rfl (by kernel_rfl) (by kernel_rfl) (by kernel_rfl) (fun _ _ _ h => h) (.inl ⟨by rfl, fun X hS => by clear hS; go_simp; first | done | with_reducible rfl | rfl⟩) hX6 ?_
        (try simp only [Act.put, List.getElem_toArray, List.getElem_cons_zero, List.getElem_cons_succ, List.setIfInBounds_toArray, List.set_cons_zero, List.set_cons_succ])
        refine wpAnyH_take (i := 10) (v := (.int .i64 0)) rfl (by kernel_rfl) (by kernel_rfl) (by kernel_rfl) (fun _ _ _ h => h) (.inl ⟨by rfl, fun X hS => by clear hS; go_simp; first | done | with_reducible rfl | rfl⟩) hX6 ?_
        (try simp only [Act.put, List.getElem_toArray, List.getElem_cons_zero, List.getElem_cons_succ, List.setIfInBounds_toArray, List.set_cons_zero, List.set_cons_succ])
        refine wpAnyH_all (rs := [12]) (by kernel_rfl) (by simp) fun i hi => ?_
        obtain rfl := List.mem_singleton.1 hi
        obtain ⟨sz, ⟨s0, s1, s2, s3, s4⟩, ⟨f0, f1, f2, f3, f4⟩⟩ := S6
        simp only [zero, Nat.zero_add] at s0 s1 s2 s3 s4
        have hY : Bel W (((((X6.setCell ⟨B6, 0, none⟩ (.int .i64 zk)).setCell ⟨B6, 1, none⟩ (.int .i64 zn)).setCell ⟨B6, 2, none⟩ (.int .i64 zs)).setCell ⟨B6, 3, none⟩ (.string zt)).setCell ⟨B6, 4, none⟩ (.int .i64 zm)) := by
         have hb := hX6
         exact Bel.y
        have hq : Slot (((((X6.setCell ⟨B6, 0, none⟩ (.int .i64 zk)).setCell ⟨B6, 1, none⟩ (.int .i64 zn)).setCell ⟨B6, 2, none⟩ (.int .i64 zs)).setCell ⟨B6, 3, none⟩ (.string zt)).setCell ⟨B6, 4, none⟩ (.int .i64 zm)) B6 ⟨zk, zn, zs, zt, zm⟩ := by simp [Slot, Qal, Qah, go_sem, sz, s0, s1, s2, s3, s4, f0, f1, f2, f3, f4]
        refine Qbv (w' := (((((X6.setCell ⟨B6, 0, none⟩ (.int .i64 zk)).setCell ⟨B6, 1, none⟩ (.int .i64 zn)).setCell ⟨B6, 2, none⟩ (.int .i64 zs)).setCell ⟨B6, 3, none⟩ (.string zt)).setCell ⟨B6, 4, none⟩ (.int .i64 zm))) rfl (by rfl) (by go_simp; first | done | with_reducible rfl | rfl) ⟨hY, ?_⟩
        (try simp only [Act.put, List.getElem_toArray, List.getElem_cons_zero, List.getElem_cons_succ, List.setIfInBounds_toArray, List.set_cons_zero, List.set_cons_succ])
        generalize (((((X6.setCell ⟨B6, 0, none⟩ (.int .i64 zk)).setCell ⟨B6, 1, none⟩ (.int .i64 zn)).setCell ⟨B6, 2, none⟩ (.int .i64 zs)).setCell ⟨B6, 3, none⟩ (.string zt)).setCell ⟨B6, 4, none⟩ (.int .i64 zm)) = Y at hq hY ⊢
        clear sz s0 s1 s2 s3 s4 f0 f1 f2 f3 f4
        refine wpAnyH_take (i := 13) (v := (.int .i64 0)) rfl (by kernel_rfl) (by kernel_rfl) (by kernel_rfl) (fun _ _ _ h => h) (.inl ⟨by rfl, fun X hS => by clear hS; go_simp; first | done | with_reducible rfl | rfl⟩) hY ?_
        (try simp only [Act.put, List.getElem_toArray, List.getElem_cons_zero, List.getElem_cons_succ, List.setIfInBounds_toArray, List.set_cons_zero, List.set_cons_succ])
        refine wpAnyH_done (by kernel_rfl) (.normal ?_) _
        go_wp2
        go_meet
        exact ⟨⟨B6, rfl, rfl, hq⟩, hY⟩
       have hb : Bel X3 (X3.alloc (.cells #[.int .i64 0, .int .i64 0, .int .i64 0, .string ⟨#[]⟩, .int .i64 0] 25)) := (Bel.refl _).alloc _
       have S6 : Slot (X3.alloc (.cells #[.int .i64 0, .int .i64 0, .int .i64 0, .string ⟨#[]⟩, .int .i64 0] 25)) X3.heap.size zero := Qj9 X3 zero
       have L6 : W.heap.size <= X3.heap.size := hX3.size
       have N6 := own_new OB
       replace OB := OB.keep hb
       replace A5 := A5.keep hb
       replace L5 := lL L5 hb.size
       refine Qf9 (v := .pointer (some ⟨X3.heap.size, 0, none⟩)) (w' := (X3.alloc (.cells #[.int .i64 0, .int .i64 0, .int .i64 0, .string ⟨#[]⟩, .int .i64 0] 25))) rfl (by rfl) (by go_simp; first | done | with_reducible rfl | rfl) ⟨hX3.trans hb, ?_⟩
       (try simp only [Act.put, List.getElem_toArray, List.getElem_cons_zero, List.getElem_cons_succ, List.setIfInBounds_toArray, List.set_cons_zero, List.set_cons_succ])
       have hX4 := hX3.trans hb
       clear hb
       generalize (X3.alloc (.cells #[.int .i64 0, .int .i64 0, .int .i64 0, .string ⟨#[]⟩, .int .i64 0] 25)) = X4 at hX4 S6 OB A5 L5 ⊢
       generalize X3.heap.size = B6 at S6 L6 N6 ⊢
       refine wpAnyH_all (rs := [6]) (by kernel_rfl) (by simp) fun i hi => ?_
       obtain rfl := List.mem_singleton.1 hi
       obtain ⟨v5, X5, hr, OC, hX5, bt, ow⟩ := app_bd hX4 OB A5 rfl (fun h => by cases h) HL2.out 29
       refine wpOp_app rfl (by rfl) _ _ _ rfl hr ⟨hX5, ?_⟩
       (try simp only [Act.put, List.getElem_toArray, List.getElem_cons_zero, List.getElem_cons_succ, List.setIfInBounds_toArray, List.set_cons_zero, List.set_cons_succ])
       replace S6 := but_slot bt N6 S6
       clear N6
       clear A5 L5 N5
       clear OB hr bt ow
       have OB := OC; clear OC
       obtain ⟨A1, c1, rfl, hB1⟩ := OB.val
       clear OB
       refine wpAnyH_all (rs := [7]) (by kernel_rfl) (by simp) fun i hi => ?_
       obtain rfl := List.mem_singleton.1 hi
       refine Qa6 (R := fun v w' => v = .tuple #[.agg #[.int .i64 zk, .int .i64 zn, .int .i64 zs, .string zt, .int .i64 zm], .int .i64 0] /\ Bel X5 w') rfl (by rfl) (by go_simp; first | done | with_reducible rfl | rfl) ((CE2.out X5 A1 c1 hX5 hB1).mono fun e w' h => ⟨_, h.1, rfl, h.2⟩) ?_
       rintro v X6 ⟨rfl, hb⟩
       have hX6 := hX5.trans hb
       replace S6 := S6.keep hb
       refine ⟨hX6, ?_⟩
       (try simp only [Act.put, List.getElem_toArray, List.getElem_cons_zero, List.getElem_cons_succ, List.setIfInBounds_toArray, List.set_cons_zero, List.set_cons_succ])
       clear hb hB1
       refine wpAnyH_take (i := 8) (v := (.tuple #[.agg #[.int .i64 zk, .int .i64 zn, .int .i64 zs, .string zt, .int .i64 zm], .int .i64 0])) rfl (by kernel_rfl) (by kernel_rfl) (by kernel_rfl) (fun _ _ _ h => h) (.inl ⟨by rfl, fun X hS => by clear hS; go_simp; first | done | with_reducible rfl | rfl⟩) hX6 ?_
       (try simp only [Act.put, List.getElem_toArray, List.getElem_cons_zero, List.getElem_cons_succ, List.setIfInBounds_toArray, List.set_cons_zero, List.set_cons_succ])
       refine wpAnyH_take (i := 9) (v := (.agg #[.int .i64 zk, .int .i64 zn, .int .i64 zs, .string zt, .int .i64 zm])) rfl (by kernel_rfl) (by kernel_rfl) (by kernel_rfl) (fun _ _ _ h => h) (.inl ⟨by rfl, fun X hS => by clear hS; go_simp; first | done | with_reducible rfl | rfl⟩) hX6 ?_
       (try simp only [Act.put, List.getElem_toArray, List.getElem_cons_zero, List.getElem_cons_succ, List.setIfInBounds_toArray, List.set_cons_zero, List.set_cons_succ])
       refine wpAnyH_take (i := 10) (v := (.int .i64 0)) rfl (by kernel_rfl) (by kernel_rfl) (by kernel_rfl) (fun _ _ _ h => h) (.inl ⟨by rfl, fun X hS => by clear hS; go_simp; first | done | with_reducible rfl | rfl⟩) hX6 ?_
       (try simp only [Act.put, List.getElem_toArray, List.getElem_cons_zero, List.getElem_cons_succ, List.setIfInBounds_toArray, List.set_cons_zero, List.set_cons_succ])
       refine wpAnyH_all (rs := [12]) (by kernel_rfl) (by simp) fun i hi => ?_
       obtain rfl := List.mem_singleton.1 hi
       obtain ⟨sz, ⟨s0, s1, s2, s3, s4⟩, ⟨f0, f1, f2, f3, f4⟩⟩ := S6
       simp only [zero, Nat.zero_add] at s0 s1 s2 s3 s4
       have hY : Bel W (((((X6.setCell ⟨B6, 0, none⟩ (.int .i64 zk)).setCell ⟨B6, 1, none⟩ (.int .i64 zn)).setCell ⟨B6, 2, none⟩ (.int .i64 zs)).setCell ⟨B6, 3, none⟩ (.string zt)).setCell ⟨B6, 4, none⟩ (.int .i64 zm)) := by
        have hb := hX6
        exact Bel.y
       have hq : Slot (((((X6.setCell ⟨B6, 0, none⟩ (.int .i64 zk)).setCell ⟨B6, 1, none⟩ (.int .i64 zn)).setCell ⟨B6, 2, none⟩ (.int .i64 zs)).setCell ⟨B6, 3, none⟩ (.string zt)).setCell ⟨B6, 4, none⟩ (.int .i64 zm)) B6 ⟨zk, zn, zs, zt, zm⟩ := by simp [Slot, Qal, Qah, go_sem, sz, s0, s1, s2, s3, s4, f0, f1, f2, f3, f4]
       refine Qbv (w' := (((((X6.setCell ⟨B6, 0, none⟩ (.int .i64 zk)).setCell ⟨B6, 1, none⟩ (.int .i64 zn)).setCell ⟨B6, 2, none⟩ (.int .i64 zs)).setCell ⟨B6, 3, none⟩ (.string zt)).setCell ⟨B6, 4, none⟩ (.int .i64 zm))) rfl (by rfl) (by go_simp; first | done | with_reducible rfl | rfl) ⟨hY, ?_⟩
       (try simp only [Act.put, List.getElem_toArray, List.getElem_cons_zero, List.getElem_cons_succ, List.setIfInBounds_toArray, List.set_cons_zero, List.set_cons_succ])
       generalize (((((X6.setCell ⟨B6, 0, none⟩ (.int .i64 zk)).setCell ⟨B6, 1, none⟩ (.int .i64 zn)).setCell ⟨B6, 2, none⟩ (.int .i64 zs)).setCell ⟨B6, 3, none⟩ (.string zt)).setCell ⟨B6, 4, none⟩ (.int .i64 zm)) = Y at hq hY ⊢
       clear sz s0 s1 s2 s3 s4 f0 f1 f2 f3 f4
       refine wpAnyH_take (i := 13) (v := (.int .i64 0)) rfl (by kernel_rfl) (by kernel_rfl) (by kernel_rfl) (fun _ _ _ h => h) (.inl ⟨by rfl, fun X hS => by clear hS; go_simp; first | done | with_reducible rfl | rfl⟩) hY ?_
       (try simp only [Act.put, List.getElem_toArray, List.getElem_cons_zero, List.getElem_cons_succ, List.setIfInBounds_toArray, List.set_cons_zero, List.set_cons_succ])
       refine wpAnyH_done (by kernel_rfl) (.normal ?_) _
       go_wp2
       go_meet
       exact ⟨⟨B6, rfl, rfl, hq⟩, hY⟩
      have hb : Bel X2 (X2.alloc (.cells #[.int .i64 0, .int .i64 0, .int .i64 0, .string ⟨#[]⟩, .int .i64 0] 25)) := (Bel.refl _).alloc _
      have S6 : Slot (X2.alloc (.cells #[.int .i64 0, .int .i64 0, .int .i64 0, .string ⟨#[]⟩, .int .i64 0] 25)) X2.heap.size zero := Qj9 X2 zero
      have L6 : W.heap.size <= X2.heap.size := hX2.size
      have N6 := own_new OB
      replace OB := OB.keep hb
      replace A5 := A5.keep hb
      replace L5 := lL L5 hb.size
      refine Qf9 (v := .pointer (some ⟨X2.heap.size, 0, none⟩)) (w' := (X2.alloc (.cells #[.int .i64 0, .int .i64 0, .int .i64 0, .string ⟨#[]⟩, .int .i64 0] 25))) rfl (by rfl) (by go_simp; first | done | with_reducible rfl | rfl) ⟨hX2.trans hb, ?_⟩
      (try simp only [Act.put, List.getElem_toArray, List.getElem_cons_zero, List.getElem_cons_succ, List.setIfInBounds_toArray, List.set_cons_zero, List.set_cons_succ])
      have hX3 := hX2.trans hb
      clear hb
      generalize (X2.alloc (.cells #[.int .i64 0, .int .i64 0, .int .i64 0, .string ⟨#[]⟩, .int .i64 0] 25)) = X3 at hX3 S6 OB A5 L5 ⊢
      generalize X2.heap.size = B6 at S6 L6 N6 ⊢
      refine wpAnyH_all (rs := [3]) (by kernel_rfl) (by simp) fun i hi => ?_
      obtain rfl := List.mem_singleton.1 hi
      obtain ⟨v4, X4, hr, OC, hX4, bt, ow⟩ := app_bd hX3 OB (HLB.out.keep hX3) rfl hA0 HL1.out 29
      refine wpOp_app rfl (by rfl) _ _ _ rfl hr ⟨hX4, ?_⟩
      (try simp only [Act.put, List.getElem_toArray, List.getElem_cons_zero, List.getElem_cons_succ, List.setIfInBounds_toArray, List.set_cons_zero, List.set_cons_succ])
      replace A5 := but_bnds bt N5 A5
      replace N5 := own_ne ow N5 L5
      replace L5 := lL L5 bt.size
      have N6' := own_ne ow N6 S6.1
      replace S6 := but_slot bt N6 S6
      replace N6 := N6'; clear N6'
      clear OB hr bt ow
      have OB := OC; clear OC
      simp only [List.nil_append] at OB
      refine wpAnyH_all (rs := [6]) (by kernel_rfl) (by simp) fun i hi => ?_
      obtain rfl := List.mem_singleton.1 hi
      obtain ⟨v5, X5, hr, OC, hX5, bt, ow⟩ := app_bd hX4 OB A5 rfl (fun h => by cases h) HL2.out 29
      refine wpOp_app rfl (by rfl) _ _ _ rfl hr ⟨hX5, ?_⟩
      (try simp only [Act.put, List.getElem_toArray, List.getElem_cons_zero, List.getElem_cons_succ, List.setIfInBounds_toArray, List.set_cons_zero, List.set_cons_succ])
      replace S6 := but_slot bt N6 S6
      clear N6
      clear A5 L5 N5
      clear OB hr bt ow
      have OB := OC; clear OC
      obtain ⟨A1, c1, rfl, hB1⟩ := OB.val
      clear OB
      refine wpAnyH_all (rs := [7]) (by kernel_rfl) (by simp) fun i hi => ?_
      obtain rfl := List.mem_singleton.1 hi
      refine Qa6 (R := fun v w' => v = .tuple #[.agg #[.int .i64 zk, .int .i64 zn, .int .i64 zs, .string zt, .int .i64 zm], .int .i64 0] /\ Bel X5 w') rfl (by rfl) (by go_simp; first | done | with_reducible rfl | rfl) ((CE2.out X5 A1 c1 hX5 hB1).mono fun e w' h => ⟨_, h.1, rfl, h.2⟩) ?_
      rintro v X6 ⟨rfl, hb⟩
      have hX6 := hX5.trans hb
      replace S6 := S6.keep hb
      refine ⟨hX6, ?_⟩
      (try simp only [Act.put, List.getElem_toArray, List.getElem_cons_zero, List.getElem_cons_succ, List.setIfInBounds_toArray, List.set_cons_zero, List.set_cons_succ])
      clear hb hB1
      refine wpAnyH_take (i := 8) (v := (.tuple #[.agg #[.int .i64 zk, .int .i64 zn, .int .i64 zs, .string zt, .int .i64 zm], .int .i64 0])) rfl (by kernel_rfl) (by kernel_rfl) (by kernel_rfl) (fun _ _ _ h => h) (.inl ⟨by rfl, fun X hS => by clear hS; go_simp; first | done | with_reducible rfl | rfl⟩) hX6 ?_
      (try simp only [Act.put, List.getElem_toArray, List.getElem_cons_zero, List.getElem_cons_succ, List.setIfInBounds_toArray, List.set_cons_zero, List.set_cons_succ])
      refine wpAnyH_take (i := 9) (v := (.agg #[.int .i64 zk, .int .i64 zn, .int .i64 zs, .string zt, .int .i64 zm])) rfl (by kernel_rfl) (by kernel_rfl) (by kernel_rfl) (fun _ _ _ h => h) (.inl ⟨by rfl, fun X hS => by clear hS; go_simp; first | done | with_reducible rfl | rfl⟩) hX6 ?_
      (try simp only [Act.put, List.getElem_toArray, List.getElem_cons_zero, List.getElem_cons_succ, List.setIfInBounds_toArray, List.set_cons_zero, List.set_cons_succ])
      refine wpAnyH_take (i := 10) (v := (.int .i64 0)) rfl (by kernel_rfl) (by kernel_rfl) (by kernel_rfl) (fun _ _ _ h => h) (.inl ⟨by rfl, fun X hS => by clear hS; go_simp; first | done | with_reducible rfl | rfl⟩) hX6 ?_
      (try simp only [Act.put, List.getElem_toArray, List.getElem_cons_zero, List.getElem_cons_succ, List.setIfInBounds_toArray, List.set_cons_zero, List.set_cons_succ])
      refine wpAnyH_all (rs := [12]) (by kernel_rfl) (by simp) fun i hi => ?_
      obtain rfl := List.mem_singleton.1 hi
      obtain ⟨sz, ⟨s0, s1, s2, s3, s4⟩, ⟨f0, f1, f2, f3, f4⟩⟩ := S6
      simp only [zero, Nat.zero_add] at s0 s1 s2 s3 s4
      have hY : Bel W (((((X6.setCell ⟨B6, 0, none⟩ (.int .i64 zk)).setCell ⟨B6, 1, none⟩ (.int .i64 zn)).setCell ⟨B6, 2, none⟩ (.int .i64 zs)).setCell ⟨B6, 3, none⟩ (.string zt)).setCell ⟨B6, 4, none⟩ (.int .i64 zm)) := by
       have hb := hX6
       exact Bel.y
      have hq : Slot (((((X6.setCell ⟨B6, 0, none⟩ (.int .i64 zk)).setCell ⟨B6, 1, none⟩ (.int .i64 zn)).setCell ⟨B6, 2, none⟩ (.int .i64 zs)).setCell ⟨B6, 3, none⟩ (.string zt)).setCell ⟨B6, 4, none⟩ (.int .i64 zm)) B6 ⟨zk, zn, zs, zt, zm⟩ := by simp [Slot, Qal, Qah, go_sem, sz, s0, s1, s2, s3, s4, f0, f1, f2, f3, f4]
      refine Qbv (w' := (((((X6.setCell ⟨B6, 0, none⟩ (.int .i64 zk)).setCell ⟨B6, 1, none⟩ (.int .i64 zn)).setCell ⟨B6, 2, none⟩ (.int .i64 zs)).setCell ⟨B6, 3, none⟩ (.string zt)).setCell ⟨B6, 4, none⟩ (.int .i64 zm))) rfl (by rfl) (by go_simp; first | done | with_reducible rfl | rfl) ⟨hY, ?_⟩
      (try simp only [Act.put, List.getElem_toArray, List.getElem_cons_zero, List.getElem_cons_succ, List.setIfInBounds_toArray, List.set_cons_zero, List.set_cons_succ])
      generalize (((((X6.setCell ⟨B6, 0, none⟩ (.int .i64 zk)).setCell ⟨B6, 1, none⟩ (.int .i64 zn)).setCell ⟨B6, 2, none⟩ (.int .i64 zs)).setCell ⟨B6, 3, none⟩ (.string zt)).setCell ⟨B6, 4, none⟩ (.int .i64 zm)) = Y at hq hY ⊢
      clear sz s0 s1 s2 s3 s4 f0 f1 f2 f3 f4
      refine wpAnyH_take (i := 13) (v := (.int .i64 0)) rfl (by kernel_rfl) (by kernel_rfl) (by kernel_rfl) (fun _ _ _ h => h) (.inl ⟨by rfl, fun X hS => by clear hS; go_simp; first | done | with_reducible rfl | rfl⟩) hY ?_
      (try simp only [Act.put, List.getElem_toArray, List.getElem_cons_zero, List.getElem_cons_succ, List.setIfInBounds_toArray, List.set_cons_zero, List.set_cons_succ])
      refine wpAnyH_done (by kernel_rfl) (.normal ?_) _
      go_wp2
      go_meet
      exact ⟨⟨B6, rfl, rfl, hq⟩, hY⟩
     have hb : Bel X1 (X1.alloc (.cells #[.int .i64 0, .int .i64 0, .int .i64 0, .string ⟨#[]⟩, .int .i64 0] 25)) := (Bel.refl _).alloc _
     have S6 : Slot (X1.alloc (.cells #[.int .i64 0, .int .i64 0, .int .i64 0, .string ⟨#[]⟩, .int .i64 0] 25)) X1.heap.size zero := Qj9 X1 zero
     have L6 : W.heap.size <= X1.heap.size := hX1.size
     replace A5 := A5.keep hb
     replace L5 := lL L5 hb.size
     refine Qf9 (v := .pointer (some ⟨X1.heap.size, 0, none⟩)) (w' := (X1.alloc (.cells #[.int .i64 0, .int .i64 0, .int .i64 0, .string ⟨#[]⟩, .int .i64 0] 25))) rfl (by rfl) (by go_simp; first | done | with_reducible rfl | rfl) ⟨hX1.trans hb, ?_⟩
     (try simp only [Act.put, List.getElem_toArray, List.getElem_cons_zero, List.getElem_cons_succ, List.setIfInBounds_toArray, List.set_cons_zero, List.set_cons_succ])
     have hX2 := hX1.trans hb
     clear hb
     generalize (X1.alloc (.cells #[.int .i64 0, .int .i64 0, .int .i64 0, .string ⟨#[]⟩, .int .i64 0] 25)) = X2 at hX2 S6 A5 L5 ⊢
     generalize X1.heap.size = B6 at S6 L6 ⊢
     refine wpAnyH_all (rs := [1]) (by kernel_rfl) (by simp) fun i hi => ?_
     obtain rfl := List.mem_singleton.1 hi
     have hb : Bel X2 (X2.alloc (.cells #[] 46)) := (Bel.refl _).alloc _
     have OB := OwnB.made hX2
     have N5 := own_at L5
     replace A5 := A5.keep hb
     replace L5 := lL L5 hb.size
     have N6 := own_at S6.1
     replace S6 := S6.keep hb
     refine Qf9 (v := .slice (some ⟨X2.heap.size, 0, none⟩) 0 0) (w' := (X2.alloc (.cells #[] 46))) rfl (by rfl) (by go_simp; first | done | with_reducible rfl | rfl) ⟨hX2.trans hb, ?_⟩
     (try simp only [Act.put, List.getElem_toArray, List.getElem_cons_zero, List.getElem_cons_succ, List.setIfInBounds_toArray, List.set_cons_zero, List.set_cons_succ])
     have hX3 := hX2.trans hb
     clear hb
     generalize (Value.slice (some ⟨X2.heap.size, 0, none⟩) 0 0) = va at OB N5 N6 ⊢
     generalize (X2.alloc (.cells #[] 46)) = X3 at OB hX3 A5 L5 S6 ⊢
     refine wpAnyH_all (rs := [3]) (by kernel_rfl) (by simp) fun i hi => ?_
     obtain rfl := List.mem_singleton.1 hi
     obtain ⟨v4, X4, hr, OC, hX4, bt, ow⟩ := app_bd hX3 OB (HLB.out.keep hX3) rfl hA0 HL1.out 29
     refine wpOp_app rfl (by rfl) _ _ _ rfl hr ⟨hX4, ?_⟩
     (try simp only [Act.put, List.getElem_toArray, List.getElem_cons_zero, List.getElem_cons_succ, List.setIfInBounds_toArray, List.set_cons_zero, List.set_cons_succ])
     replace A5 := but_bnds bt N5 A5
     replace N5 := own_ne ow N5 L5
     replace L5 := lL L5 bt.size
     have N6' := own_ne ow N6 S6.1
     replace S6 := but_slot bt N6 S6
     replace N6 := N6'; clear N6'
     clear OB hr bt ow
     have OB := OC; clear OC
     simp only [List.nil_append] at OB
     refine wpAnyH_all (rs := [6]) (by kernel_rfl) (by simp) fun i hi => ?_
     obtain rfl := List.mem_singleton.1 hi
     obtain ⟨v5, X5, hr, OC, hX5, bt, ow⟩ := app_bd hX4 OB A5 rfl (fun h => by cases h) HL2.out 29
     refine wpOp_app rfl (by rfl) _ _ _ rfl hr ⟨hX5, ?_⟩
     (try simp only [Act.put, List.getElem_toArray, List.getElem_cons_zero, List.getElem_cons_succ, List.setIfInBounds_toArray, List.set_cons_zero, List.set_cons_succ])
     replace S6 := but_slot bt N6 S6
     clear N6
     clear A5 L5 N5
     clear OB hr bt ow
     have OB := OC; clear OC
     obtain ⟨A1, c1, rfl, hB1⟩ := OB.val
     clear OB
     refine wpAnyH_all (rs := [7]) (by kernel_rfl) (by simp) fun i hi => ?_
     obtain rfl := List.mem_singleton.1 hi
     refine Qa6 (R := fun v w' => v = .tuple #[.agg #[.int .i64 zk, .int .i64 zn, .int .i64 zs, .string zt, .int .i64 zm], .int .i64 0] /\ Bel X5 w') rfl (by rfl) (by go_simp; first | done | with_reducible rfl | rfl) ((CE2.out X5 A1 c1 hX5 hB1).mono fun e w' h => ⟨_, h.1, rfl, h.2⟩) ?_
     rintro v X6 ⟨rfl, hb⟩
     have hX6 := hX5.trans hb
     replace S6 := S6.keep hb
     refine ⟨hX6, ?_⟩
     (try simp only [Act.put, List.getElem_toArray, List.getElem_cons_zero, List.getElem_cons_succ, List.setIfInBounds_toArray, List.set_cons_zero, List.set_cons_succ])
     clear hb hB1
     refine wpAnyH_take (i := 8) (v := (.tuple #[.agg #[.int .i64 zk, .int .i64 zn, .int .i64 zs, .string zt, .int .i64 zm], .int .i64 0])) rfl (by kernel_rfl) (by kernel_rfl) (by kernel_rfl) (fun _ _ _ h => h) (.inl ⟨by rfl, fun X hS => by clear hS; go_simp; first | done | with_reducible rfl | rfl⟩) hX6 ?_
     (try simp only [Act.put, List.getElem_toArray, List.getElem_cons_zero, List.getElem_cons_succ, List.setIfInBounds_toArray, List.set_cons_zero, List.set_cons_succ])
     refine wpAnyH_take (i := 9) (v := (.agg #[.int .i64 zk, .int .i64 zn, .int .i64 zs, .string zt, .int .i64 zm])) rfl (by kernel_rfl) (by kernel_rfl) (by kernel_rfl) (fun _ _ _ h => h) (.inl ⟨by rfl, fun X hS => by clear hS; go_simp; first | done | with_reducible rfl | rfl⟩) hX6 ?_
     (try simp only [Act.put, List.getElem_toArray, List.getElem_cons_zero, List.getElem_cons_succ, List.setIfInBounds_toArray, List.set_cons_zero, List.set_cons_succ])
     refine wpAnyH_take (i := 10) (v := (.int .i64 0)) rfl (by kernel_rfl) (by kernel_rfl) (by kernel_rfl) (fun _ _ _ h => h) (.inl ⟨by rfl, fun X hS => by clear hS; go_simp; first | done | with_reducible rfl | rfl⟩) hX6 ?_
     (try simp only [Act.put, List.getElem_toArray, List.getElem_cons_zero, List.getElem_cons_succ, List.setIfInBounds_toArray, List.set_cons_zero, List.set_cons_succ])
     refine wpAnyH_all (rs := [12]) (by kernel_rfl) (by simp) fun i hi => ?_
     obtain rfl := List.mem_singleton.1 hi
     obtain ⟨sz, ⟨s0, s1, s2, s3, s4⟩, ⟨f0, f1, f2, f3, f4⟩⟩ := S6
     simp only [zero, Nat.zero_add] at s0 s1 s2 s3 s4
     have hY : Bel W (((((X6.setCell ⟨B6, 0, none⟩ (.int .i64 zk)).setCell ⟨B6, 1, none⟩ (.int .i64 zn)).setCell ⟨B6, 2, none⟩ (.int .i64 zs)).setCell ⟨B6, 3, none⟩ (.string zt)).setCell ⟨B6, 4, none⟩ (.int .i64 zm)) := by
      have hb := hX6
      exact Bel.y
     have hq : Slot (((((X6.setCell ⟨B6, 0, none⟩ (.int .i64 zk)).setCell ⟨B6, 1, none⟩ (.int .i64 zn)).setCell ⟨B6, 2, none⟩ (.int .i64 zs)).setCell ⟨B6, 3, none⟩ (.string zt)).setCell ⟨B6, 4, none⟩ (.int .i64 zm)) B6 ⟨zk, zn, zs, zt, zm⟩ := by simp [Slot, Qal, Qah, go_sem, sz, s0, s1, s2, s3, s4, f0, f1, f2, f3, f4]
     refine Qbv (w' := (((((X6.setCell ⟨B6, 0, none⟩ (.int .i64 zk)).setCell ⟨B6, 1, none⟩ (.int .i64 zn)).setCell ⟨B6, 2, none⟩ (.int .i64 zs)).setCell ⟨B6, 3, none⟩ (.string zt)).setCell ⟨B6, 4, none⟩ (.int .i64 zm))) rfl (by rfl) (by go_simp; first | done | with_reducible rfl | rfl) ⟨hY, ?_⟩
     (try simp only [Act.put, List.getElem_toArray, List.getElem_cons_zero, List.getElem_cons_succ, List.setIfInBounds_toArray, List.set_cons_zero, List.set_cons_succ])
     generalize (((((X6.setCell ⟨B6, 0, none⟩ (.int .i64 zk)).setCell ⟨B6, 1, none⟩ (.int .i64 zn)).setCell ⟨B6, 2, none⟩ (.int .i64 zs)).setCell ⟨B6, 3, none⟩ (.string zt)).setCell ⟨B6, 4, none⟩ (.int .i64 zm)) = Y at hq hY ⊢
     clear sz s0 s1 s2 s3 s4 f0 f1 f2 f3 f4
     refine wpAnyH_take (i := 13) (v := (.int .i64 0)) rfl (by kernel_rfl) (by kernel_rfl) (by kernel_rfl) (fun _ _ _ h => h) (.inl ⟨by rfl, fun X hS => by clear hS; go_simp; first | done | with_reducible rfl | rfl⟩) hY ?_
     (try simp only [Act.put, List.getElem_toArray, List.getElem_cons_zero, List.getElem_cons_succ, List.setIfInBounds_toArray, List.set_cons_zero, List.set_cons_succ])
     refine wpAnyH_done (by kernel_rfl) (.normal ?_) _
     go_wp2
     go_meet
     exact ⟨⟨B6, rfl, rfl, hq⟩, hY⟩
    have hb : Bel X0 (X0.alloc (.cells #[.int .i64 0, .int .i64 0, .int .i64 0, .string ⟨#[]⟩, .int .i64 0] 25)) := (Bel.refl _).alloc _
    have S6 : Slot (X0.alloc (.cells #[.int .i64 0, .int .i64 0, .int .i64 0, .string ⟨#[]⟩, .int .i64 0] 25)) X0.heap.size zero := Qj9 X0 zero
    have L6 : W.heap.size <= X0.heap.size := hX0.size
    refine Qf9 (v := .pointer (some ⟨X0.heap.size, 0, none⟩)) (w' := (X0.alloc (.cells #[.int .i64 0, .int .i64 0, .int .i64 0, .string ⟨#[]⟩, .int .i64 0] 25))) rfl (by rfl) (by go_simp; first | done | with_reducible rfl | rfl) ⟨hX0.trans hb, ?_⟩
    (try simp only [Act.put, List.getElem_toArray, List.getElem_cons_zero, List.getElem_cons_succ, List.setIfInBounds_toArray, List.set_cons_zero, List.set_cons_succ])
    have hX1 := hX0.trans hb
    clear hb
    generalize (X0.alloc (.cells #[.int .i64 0, .int .i64 0, .int .i64 0, .string ⟨#[]⟩, .int .i64 0] 25)) = X1 at hX1 S6 ⊢
    generalize X0.heap.size = B6 at S6 L6 ⊢
    refine wpAnyH_all (rs := [1, 5]) (by kernel_rfl) (by simp) fun i hi => ?_
    simp only [List.mem_cons, List.not_mem_nil, or_false] at hi
    rcases hi with rfl | rfl
    ·have hb : Bel X1 (X1.alloc (.cells #[] 46)) := (Bel.refl _).alloc _
     have OB := OwnB.made hX1
     have N6 := own_at S6.1
     replace S6 := S6.keep hb
     refine Qf9 (v := .slice (some ⟨X1.heap.size, 0, none⟩) 0 0) (w' := (X1.alloc (.cells #[] 46))) rfl (by rfl) (by go_simp; first | done | with_reducible rfl | rfl) ⟨hX1.trans hb, ?_⟩
     (try simp only [Act.put, List.getElem_toArray, List.getElem_cons_zero, List.getElem_cons_succ, List.setIfInBounds_toArray, List.set_cons_zero, List.set_cons_succ])
     have hX2 := hX1.trans hb
     clear hb
     generalize (Value.slice (some ⟨X1.heap.size, 0, none⟩) 0 0) = va at OB N6 ⊢
     generalize (X1.alloc (.cells #[] 46)) = X2 at OB hX2 S6 ⊢
     refine wpAnyH_all (rs := [3, 5]) (by kernel_rfl) (by simp) fun i hi => ?_
     simp only [List.mem_cons, List.not_mem_nil, or_false] at hi
     rcases hi with rfl | rfl
     ·obtain ⟨v3, X3, hr, OC, hX3, bt, ow⟩ := app_bd hX2 OB (HLB.out.keep hX2) rfl hA0 HL1.out 29
      refine wpOp_app rfl (by rfl) _ _ _ rfl hr ⟨hX3, ?_⟩
      (try simp only [Act.put, List.getElem_toArray, List.getElem_cons_zero, List.getElem_cons_succ, List.setIfInBounds_toArray, List.set_cons_zero, List.set_cons_succ])
      have N6' := own_ne ow N6 S6.1
      replace S6 := but_slot bt N6 S6
      replace N6 := N6'; clear N6'
      clear OB hr bt ow
      have OB := OC; clear OC
      simp only [List.nil_append] at OB
      refine wpAnyH_all (rs := [5]) (by kernel_rfl) (by simp) fun i hi => ?_
      obtain rfl := List.mem_singleton.1 hi
      have hb : Bel X3 (X3.alloc (.cells #[.string mn, .int .i64 mk, .int .i64 mm, .int .i64 ms, .string mt, .int .i64 mu] 46)) := (Bel.refl _).alloc _
      have A5 : Bnds (X3.alloc (.cells #[.string mn, .int .i64 mk, .int .i64 mm, .int .i64 ms, .string mt, .int .i64 mu] 46)) (some ⟨X3.heap.size, 0, none⟩) [⟨mn, ⟨mk, mm, ms, mt, mu⟩⟩] := Qrr X3 ⟨mn, ⟨mk, mm, ms, mt, mu⟩⟩ rfl
      have L5 : X3.heap.size < (X3.alloc (.cells #[.string mn, .int .i64 mk, .int .i64 mm, .int .i64 ms, .string mt, .int .i64 mu] 46)).heap.size := by simp
      have N5 := own_new OB
      replace OB := OB.keep hb
      replace S6 := S6.keep hb
      refine Qf9 (v := .slice (some ⟨X3.heap.size, 0, none⟩) 1 1) (w' := (X3.alloc (.cells #[.string mn, .int .i64 mk, .int .i64 mm, .int .i64 ms, .string mt, .int .i64 mu] 46))) rfl (by rfl) (by go_simp; first | done | with_reducible rfl | rfl) ⟨hX3.trans hb, ?_⟩
      (try simp only [Act.put, List.getElem_toArray, List.getElem_cons_zero, List.getElem_cons_succ, List.setIfInBounds_toArray, List.set_cons_zero, List.set_cons_succ])
      have hX4 := hX3.trans hb
      clear hb
      generalize (X3.alloc (.cells #[.string mn, .int .i64 mk, .int .i64 mm, .int .i64 ms, .string mt, .int .i64 mu] 46)) = X4 at hX4 A5 L5 OB S6 ⊢
      generalize X3.heap.size = B5 at A5 L5 N5 ⊢
      refine wpAnyH_all (rs := [6]) (by kernel_rfl) (by simp) fun i hi => ?_
      obtain rfl := List.mem_singleton.1 hi
      obtain ⟨v5, X5, hr, OC, hX5, bt, ow⟩ := app_bd hX4 OB A5 rfl (fun h => by cases h) HL2.out 29
      refine wpOp_app rfl (by rfl) _ _ _ rfl hr ⟨hX5, ?_⟩
      (try simp only [Act.put, List.getElem_toArray, List.getElem_cons_zero, List.getElem_cons_succ, List.setIfInBounds_toArray, List.set_cons_zero, List.set_cons_succ])
      replace S6 := but_slot bt N6 S6
      clear N6
      clear A5 L5 N5
      clear OB hr bt ow
      have OB := OC; clear OC
      obtain ⟨A1, c1, rfl, hB1⟩ := OB.val
      clear OB
      refine wpAnyH_all (rs := [7]) (by kernel_rfl) (by simp) fun i hi => ?_
      obtain rfl := List.mem_singleton.1 hi
      refine Qa6 (R := fun v w' => v = .tuple #[.agg #[.int .i64 zk, .int .i64 zn, .int .i64 zs, .string zt, .int .i64 zm], .int .i64 0] /\ Bel X5 w') rfl (by rfl) (by go_simp; first | done | with_reducible rfl | rfl) ((CE2.out X5 A1 c1 hX5 hB1).mono fun e w' h => ⟨_, h.1, rfl, h.2⟩) ?_
      rintro v X6 ⟨rfl, hb⟩
      have hX6 := hX5.trans hb
      replace S6 := S6.keep hb
      refine ⟨hX6, ?_⟩
      (try simp only [Act.put, List.getElem_toArray, List.getElem_cons_zero, List.getElem_cons_succ, List.setIfInBounds_toArray, List.set_cons_zero, List.set_cons_succ])
      clear hb hB1
      refine wpAnyH_take (i := 8) (v := (.tuple #[.agg #[.int .i64 zk, .int .i64 zn, .int .i64 zs, .string zt, .int .i64 zm], .int .i64 0])) rfl (by kernel_rfl) (by kernel_rfl) (by kernel_rfl) (fun _ _ _ h => h) (.inl ⟨by rfl, fun X hS => by clear hS; go_simp; first | done | with_reducible rfl | rfl⟩) hX6 ?_
      (try simp only [Act.put, List.getElem_toArray, List.getElem_cons_zero, List.getElem_cons_succ, List.setIfInBounds_toArray, List.set_cons_zero, List.set_cons_succ])
      refine wpAnyH_take (i := 9) (v := (.agg #[.int .i64 zk, .int .i64 zn, .int .i64 zs, .string zt, .int .i64 zm])) rfl (by kernel_rfl) (by kernel_rfl) (by kernel_rfl) (fun _ _ _ h => h) (.inl ⟨by rfl, fun X hS => by clear hS; go_simp; first | done | with_reducible rfl | rfl⟩) hX6 ?_
      (try simp only [Act.put, List.getElem_toArray, List.getElem_cons_zero, List.getElem_cons_succ, List.setIfInBounds_toArray, List.set_cons_zero, List.set_cons_succ])
      refine wpAnyH_take (i := 10) (v := (.int .i64 0)) rfl (by kernel_rfl) (by kernel_rfl) (by kernel_rfl) (fun _ _ _ h => h) (.inl ⟨by rfl, fun X hS => by clear hS; go_simp; first | done | with_reducible rfl | rfl⟩) hX6 ?_
      (try simp only [Act.put, List.getElem_toArray, List.getElem_cons_zero, List.getElem_cons_succ, List.setIfInBounds_toArray, List.set_cons_zero, List.set_cons_succ])
      refine wpAnyH_all (rs := [12]) (by kernel_rfl) (by simp) fun i hi => ?_
      obtain rfl := List.mem_singleton.1 hi
      obtain ⟨sz, ⟨s0, s1, s2, s3, s4⟩, ⟨f0, f1, f2, f3, f4⟩⟩ := S6
      simp only [zero, Nat.zero_add] at s0 s1 s2 s3 s4
      have hY : Bel W (((((X6.setCell ⟨B6, 0, none⟩ (.int .i64 zk)).setCell ⟨B6, 1, none⟩ (.int .i64 zn)).setCell ⟨B6, 2, none⟩ (.int .i64 zs)).setCell ⟨B6, 3, none⟩ (.string zt)).setCell ⟨B6, 4, none⟩ (.int .i64 zm)) := by
       have hb := hX6
       exact Bel.y
      have hq : Slot (((((X6.setCell ⟨B6, 0, none⟩ (.int .i64 zk)).setCell ⟨B6, 1, none⟩ (.int .i64 zn)).setCell ⟨B6, 2, none⟩ (.int .i64 zs)).setCell ⟨B6, 3, none⟩ (.string zt)).setCell ⟨B6, 4, none⟩ (.int .i64 zm)) B6 ⟨zk, zn, zs, zt, zm⟩ := by simp [Slot, Qal, Qah, go_sem, sz, s0, s1, s2, s3, s4, f0, f1, f2, f3, f4]
      refine Qbv (w' := (((((X6.setCell ⟨B6, 0, none⟩ (.int .i64 zk)).setCell ⟨B6, 1, none⟩ (.int .i64 zn)).setCell ⟨B6, 2, none⟩ (.int .i64 zs)).setCell ⟨B6, 3, none⟩ (.string zt)).setCell ⟨B6, 4, none⟩ (.int .i64 zm))) rfl (by rfl) (by go_simp; first | done | with_reducible rfl | rfl) ⟨hY, ?_⟩
      (try simp only [Act.put, List.getElem_toArray, List.getElem_cons_zero, List.getElem_cons_succ, List.setIfInBounds_toArray, List.set_cons_zero, List.set_cons_succ])
      generalize (((((X6.setCell ⟨B6, 0, none⟩ (.int .i64 zk)).setCell ⟨B6, 1, none⟩ (.int .i64 zn)).setCell ⟨B6, 2, none⟩ (.int .i64 zs)).setCell ⟨B6, 3, none⟩ (.string zt)).setCell ⟨B6, 4, none⟩ (.int .i64 zm)) = Y at hq hY ⊢
      clear sz s0 s1 s2 s3 s4 f0 f1 f2 f3 f4
      refine wpAnyH_take (i := 13) (v := (.int .i64 0)) rfl (by kernel_rfl) (by kernel_rfl) (by kernel_rfl) (fun _ _ _ h => h) (.inl ⟨by rfl, fun X hS => by clear hS; go_simp; first | done | with_reducible rfl | rfl⟩) hY ?_
      (try simp only [Act.put, List.getElem_toArray, List.getElem_cons_zero, List.getElem_cons_succ, List.setIfInBounds_toArray, List.set_cons_zero, List.set_cons_succ])
      refine wpAnyH_done (by kernel_rfl) (.normal ?_) _
      go_wp2
      go_meet
      exact ⟨⟨B6, rfl, rfl, hq⟩, hY⟩
     have hb : Bel X2 (X2.alloc (.cells #[.string mn, .int .i64 mk, .int .i64 mm, .int .i64 ms, .string mt, .int .i64 mu] 46)) := (Bel.refl _).alloc _
     have A5 : Bnds (X2.alloc (.cells #[.string mn, .int .i64 mk, .int .i64 mm, .int .i64 ms, .string mt, .int .i64 mu] 46)) (some ⟨X2.heap.size, 0, none⟩) [⟨mn, ⟨mk, mm, ms, mt, mu⟩⟩] := Qrr X2 ⟨mn, ⟨mk, mm, ms, mt, mu⟩⟩ rfl
     have L5 : X2.heap.size < (X2.alloc (.cells #[.string mn, .int .i64 mk, .int .i64 mm, .int .i64 ms, .string mt, .int .i64 mu] 46)).heap.size := by simp
     have N5 := own_new OB
     replace OB := OB.keep hb
     replace S6 := S6.keep hb
     refine Qf9 (v := .slice (some ⟨X2.heap.size, 0, none⟩) 1 1) (w' := (X2.alloc (.cells #[.string mn, .int .i64 mk, .int .i64 mm, .int .i64 ms, .string mt, .int .i64 mu] 46))) rfl (by rfl) (by go_simp; first | done | with_reducible rfl | rfl) ⟨hX2.trans hb, ?_⟩
     (try simp only [Act.put, List.getElem_toArray, List.getElem_cons_zero, List.getElem_cons_succ, List.setIfInBounds_toArray, List.set_cons_zero, List.set_cons_succ])
     have hX3 := hX2.trans hb
     clear hb
     generalize (X2.alloc (.cells #[.string mn, .int .i64 mk, .int .i64 mm, .int .i64 ms, .string mt, .int .i64 mu] 46)) = X3 at hX3 A5 L5 OB S6 ⊢
     generalize X2.heap.size = B5 at A5 L5 N5 ⊢
     refine wpAnyH_all (rs := [3]) (by kernel_rfl) (by simp) fun i hi => ?_
     obtain rfl := List.mem_singleton.1 hi
     obtain ⟨v4, X4, hr, OC, hX4, bt, ow⟩ := app_bd hX3 OB (HLB.out.keep hX3) rfl hA0 HL1.out 29
     refine wpOp_app rfl (by rfl) _ _ _ rfl hr ⟨hX4, ?_⟩
     (try simp only [Act.put, List.getElem_toArray, List.getElem_cons_zero, List.getElem_cons_succ, List.setIfInBounds_toArray, List.set_cons_zero, List.set_cons_succ])
     replace A5 := but_bnds bt N5 A5
     replace N5 := own_ne ow N5 L5
     replace L5 := lL L5 bt.size
     have N6' := own_ne ow N6 S6.1
     replace S6 := but_slot bt N6 S6
     replace N6 := N6'; clear N6'
     clear OB hr bt ow
     have OB := OC; clear OC
     simp only [List.nil_append] at OB
     refine wpAnyH_all (rs := [6]) (by kernel_rfl) (by simp) fun i hi => ?_
     obtain rfl := List.mem_singleton.1 hi
     obtain ⟨v5, X5, hr, OC, hX5, bt, ow⟩ := app_bd hX4 OB A5 rfl (fun h => by cases h) HL2.out 29
     refine wpOp_app rfl (by rfl) _ _ _ rfl hr ⟨hX5, ?_⟩
     (try simp only [Act.put, List.getElem_toArray, List.getElem_cons_zero, List.getElem_cons_succ, List.setIfInBounds_toArray, List.set_cons_zero, List.set_cons_succ])
     replace S6 := but_slot bt N6 S6
     clear N6
     clear A5 L5 N5
     clear OB hr bt ow
     have OB := OC; clear OC
     obtain ⟨A1, c1, rfl, hB1⟩ := OB.val
     clear OB
     refine wpAnyH_all (rs := [7]) (by kernel_rfl) (by simp) fun i hi => ?_
     obtain rfl := List.mem_singleton.1 hi
     refine Qa6 (R := fun v w' => v = .tuple #[.agg #[.int .i64 zk, .int .i64 zn, .int .i64 zs, .string zt, .int .i64 zm], .int .i64 0] /\ Bel X5 w') rfl (by rfl) (by go_simp; first | done | with_reducible rfl | rfl) ((CE2.out X5 A1 c1 hX5 hB1).mono fun e w' h => ⟨_, h.1, rfl, h.2⟩) ?_
     rintro v X6 ⟨rfl, hb⟩
     have hX6 := hX5.trans hb
     replace S6 := S6.keep hb
     refine ⟨hX6, ?_⟩
     (try simp only [Act.put, List.getElem_toArray, List.getElem_cons_zero, List.getElem_cons_succ, List.setIfInBounds_toArray, List.set_cons_zero, List.set_cons_succ])
     clear hb hB1
     refine wpAnyH_take (i := 8) (v := (.tuple #[.agg #[.int .i64 zk, .int .i64 zn, .int .i64 zs, .string zt, .int .i64 zm], .int .i64 0])) rfl (by kernel_rfl) (by kernel_rfl) (by kernel_rfl) (fun _ _ _ h => h) (.inl ⟨by rfl, fun X hS => by clear hS; go_simp; first | done | with_reducible rfl | rfl⟩) hX6 ?_
     (try simp only [Act.put, List.getElem_toArray, List.getElem_cons_zero, List.getElem_cons_succ, List.setIfInBounds_toArray, List.set_cons_zero, List.set_cons_succ])
     refine wpAnyH_take (i := 9) (v := (.agg #[.int .i64 zk, .int .i64 zn, .int .i64 zs, .string zt, .int .i64 zm])) rfl (by kernel_rfl) (by kernel_rfl) (by kernel_rfl) (fun _ _ _ h => h) (.inl ⟨by rfl, fun X hS => by clear hS; go_simp; first | done | with_reducible rfl | rfl⟩) hX6 ?_
     (try simp only [Act.put, List.getElem_toArray, List.getElem_cons_zero, List.getElem_cons_succ, List.setIfInBounds_toArray, List.set_cons_zero, List.set_cons_succ])
     refine wpAnyH_take (i := 10) (v := (.int .i64 0)) rfl (by kernel_rfl) (by kernel_rfl) (by kernel_rfl) (fun _ _ _ h => h) (.inl ⟨by rfl, fun X hS => by clear hS; go_simp; first | done | with_reducible rfl | rfl⟩) hX6 ?_
     (try simp only [Act.put, List.getElem_toArray, List.getElem_cons_zero, List.getElem_cons_succ, List.setIfInBounds_toArray, List.set_cons_zero, List.set_cons_succ])
     refine wpAnyH_all (rs := [12]) (by kernel_rfl) (by simp) fun i hi => ?_
     obtain rfl := List.mem_singleton.1 hi
     obtain ⟨sz, ⟨s0, s1, s2, s3, s4⟩, ⟨f0, f1, f2, f3, f4⟩⟩ := S6
     simp only [zero, Nat.zero_add] at s0 s1 s2 s3 s4
     have hY : Bel W (((((X6.setCell ⟨B6, 0, none⟩ (.int .i64 zk)).setCell ⟨B6, 1, none⟩ (.int .i64 zn)).setCell ⟨B6, 2, none⟩ (.int .i64 zs)).setCell ⟨B6, 3, none⟩ (.string zt)).setCell ⟨B6, 4, none⟩ (.int .i64 zm)) := by
      have hb := hX6
      exact Bel.y
     have hq : Slot (((((X6.setCell ⟨B6, 0, none⟩ (.int .i64 zk)).setCell ⟨B6, 1, none⟩ (.int .i64 zn)).setCell ⟨B6, 2, none⟩ (.int .i64 zs)).setCell ⟨B6, 3, none⟩ (.string zt)).setCell ⟨B6, 4, none⟩ (.int .i64 zm)) B6 ⟨zk, zn, zs, zt, zm⟩ := by simp [Slot, Qal, Qah, go_sem, sz, s0, s1, s2, s3, s4, f0, f1, f2, f3, f4]
     refine Qbv (w' := (((((X6.setCell ⟨B6, 0, none⟩ (.int .i64 zk)).setCell ⟨B6, 1, none⟩ (.int .i64 zn)).setCell ⟨B6, 2, none⟩ (.int .i64 zs)).setCell ⟨B6, 3, none⟩ (.string zt)).setCell ⟨B6, 4, none⟩ (.int .i64 zm))) rfl (by rfl) (by go_simp; first | done | with_reducible rfl | rfl) ⟨hY, ?_⟩
     (try simp only [Act.put, List.getElem_toArray, List.getElem_cons_zero, List.getElem_cons_succ, List.setIfInBounds_toArray, List.set_cons_zero, List.set_cons_succ])
     generalize (((((X6.setCell ⟨B6, 0, none⟩ (.int .i64 zk)).setCell ⟨B6, 1, none⟩ (.int .i64 zn)).setCell ⟨B6, 2, none⟩ (.int .i64 zs)).setCell ⟨B6, 3, none⟩ (.string zt)).setCell ⟨B6, 4, none⟩ (.int .i64 zm)) = Y at hq hY ⊢
     clear sz s0 s1 s2 s3 s4 f0 f1 f2 f3 f4
     refine wpAnyH_take (i := 13) (v := (.int .i64 0)) rfl (by kernel_rfl) (by kernel_rfl) (by kernel_rfl) (fun _ _ _ h => h) (.inl ⟨by rfl, fun X hS => by clear hS; go_simp; first | done | with_reducible rfl | rfl⟩) hY ?_
     (try simp only [Act.put, List.getElem_toArray, List.getElem_cons_zero, List.getElem_cons_succ, List.setIfInBounds_toArray, List.set_cons_zero, List.set_cons_succ])
     refine wpAnyH_done (by kernel_rfl) (.normal ?_) _
     go_wp2
     go_meet
     exact ⟨⟨B6, rfl, rfl, hq⟩, hY⟩
    have hb : Bel X1 (X1.alloc (.cells #[.string mn, .int .i64 mk, .int .i64 mm, .int .i64 ms, .string mt, .int .i64 mu] 46)) := (Bel.refl _).alloc _
    have A5 : Bnds (X1.alloc (.cells #[.string mn, .int .i64 mk, .int .i64 mm, .int .i64 ms, .string mt, .int .i64 mu] 46)) (some ⟨X1.heap.size, 0, none⟩) [⟨mn, ⟨mk, mm, ms, mt, mu⟩⟩] := Qrr X1 ⟨mn, ⟨mk, mm, ms, mt, mu⟩⟩ rfl
    have L5 : X1.heap.size < (X1.alloc (.cells #[.string mn, .int .i64 mk, .int .i64 mm, .int .i64 ms, .string mt, .int .i64 mu] 46)).heap.size := by simp
    replace S6 := S6.keep hb
    refine Qf9 (v := .slice (some ⟨X1.heap.size, 0, none⟩) 1 1) (w' := (X1.alloc (.cells #[.string mn, .int .i64 mk, .int .i64 mm, .int .i64 ms, .string mt, .int .i64 mu] 46))) rfl (by rfl) (by go_simp; first | done | with_reducible rfl | rfl) ⟨hX1.trans hb, ?_⟩
    (try simp only [Act.put, List.getElem_toArray, List.getElem_cons_zero, List.getElem_cons_succ, List.setIfInBounds_toArray, List.set_cons_zero, List.set_cons_succ])
    have hX2 := hX1.trans hb
    clear hb
    generalize (X1.alloc (.cells #[.string mn, .int .i64 mk, .int .i64 mm, .int .i64 ms, .string mt, .int .i64 mu] 46)) = X2 at hX2 A5 L5 S6 ⊢
    generalize X1.heap.size = B5 at A5 L5 ⊢
    refine wpAnyH_all (rs := [1]) (by kernel_rfl) (by simp) fun i hi => ?_
    obtain rfl := List.mem_singleton.1 hi
    have hb : Bel X2 (X2.alloc (.cells #[] 46)) := (Bel.refl _).alloc _
    have OB := OwnB.made hX2
    have N5 := own_at L5
    replace A5 := A5.keep hb
    replace L5 := lL L5 hb.size
    have N6 := own_at S6.1
    replace S6 := S6.keep hb
    refine Qf9 (v := .slice (some ⟨X2.heap.size, 0, none⟩) 0 0) (w' := (X2.alloc (.cells #[] 46))) rfl (by rfl) (by go_simp; first | done | with_reducible rfl | rfl) ⟨hX2.trans hb, ?_⟩
    (try simp only [Act.put, List.getElem_toArray, List.getElem_cons_zero, List.getElem_cons_succ, List.setIfInBounds_toArray, List.set_cons_zero, List.set_cons_succ])
    have hX3 := hX2.trans hb
    clear hb
    generalize (Value.slice (some ⟨X2.heap.size, 0, none⟩) 0 0) = va at OB N5 N6 ⊢
    generalize (X2.alloc (.cells #[] 46)) = X3 at OB hX3 A5 L5 S6 ⊢
    refine wpAnyH_all (rs := [3]) (by kernel_rfl) (by simp) fun i hi => ?_
    obtain rfl := List.mem_singleton.1 hi
    obtain ⟨v4, X4, hr, OC, hX4, bt, ow⟩ := app_bd hX3 OB (HLB.out.keep hX3) rfl hA0 HL1.out 29
    refine wpOp_app rfl (by rfl) _ _ _ rfl hr ⟨hX4, ?_⟩
    (try simp only [Act.put, List.getElem_toArray, List.getElem_cons_zero, List.getElem_cons_succ, List.setIfInBounds_toArray, List.set_cons_zero, List.set_cons_succ])
    replace A5 := but_bnds bt N5 A5
    replace N5 := own_ne ow N5 L5
    replace L5 := lL L5 bt.size
    have N6' := own_ne ow N6 S6.1
    replace S6 := but_slot bt N6 S6
    replace N6 := N6'; clear N6'
    clear OB hr bt ow
    have OB := OC; clear OC
    simp only [List.nil_append] at OB
    refine wpAnyH_all (rs := [6]) (by kernel_rfl) (by simp) fun i hi => ?_
    obtain rfl := List.mem_singleton.1 hi
    obtain ⟨v5, X5, hr, OC, hX5, bt, ow⟩ := app_bd hX4 OB A5 rfl (fun h => by cases h) HL2.out 29
    refine wpOp_app rfl (by rfl) _ _ _ rfl hr ⟨hX5, ?_⟩
    (try simp only [Act.put, List.getElem_toArray, List.getElem_cons_zero, List.getElem_cons_succ, List.setIfInBounds_toArray, List.set_cons_zero, List.set_cons_succ])
    replace S6 := but_slot bt N6 S6
    clear N6
    clear A5 L5 N5
    clear OB hr bt ow
    have OB := OC; clear OC
    obtain ⟨A1, c1, rfl, hB1⟩ := OB.val
    clear OB
    refine wpAnyH_all (rs := [7]) (by kernel_rfl) (by simp) fun i hi => ?_
    obtain rfl := List.mem_singleton.1 hi
    refine Qa6 (R := fun v w' => v = .tuple #[.agg #[.int .i64 zk, .int .i64 zn, .int .i64 zs, .string zt, .int .i64 zm], .int .i64 0] /\ Bel X5 w') rfl (by rfl) (by go_simp; first | done | with_reducible rfl | rfl) ((CE2.out X5 A1 c1 hX5 hB1).mono fun e w' h => ⟨_, h.1, rfl, h.2⟩) ?_
    rintro v X6 ⟨rfl, hb⟩
    have hX6 := hX5.trans hb
    replace S6 := S6.keep hb
    refine ⟨hX6, ?_⟩
    (try simp only [Act.put, List.getElem_toArray, List.getElem_cons_zero, List.getElem_cons_succ, List.setIfInBounds_toArray, List.set_cons_zero, List.set_cons_succ])
    clear hb hB1
    refine wpAnyH_take (i := 8) (v := (.tuple #[.agg #[.int .i64 zk, .int .i64 zn, .int .i64 zs, .string zt, .int .i64 zm], .int .i64 0])) rfl (by kernel_rfl) (by kernel_rfl) (by kernel_rfl) (fun _ _ _ h => h) (.inl ⟨by rfl, fun X hS => by clear hS; go_simp; first | done | with_reducible rfl | rfl⟩) hX6 ?_
    (try simp only [Act.put, List.getElem_toArray, List.getElem_cons_zero, List.getElem_cons_succ, List.setIfInBounds_toArray, List.set_cons_zero, List.set_cons_succ])
    refine wpAnyH_take (i := 9) (v := (.agg #[.int .i64 zk, .int .i64 zn, .int .i64 zs, .string zt, .int .i64 zm])) rfl (by kernel_rfl) (by kernel_rfl) (by kernel_rfl) (fun _ _ _ h => h) (.inl ⟨by rfl, fun X hS => by clear hS; go_simp; first | done | with_reducible rfl | rfl⟩) hX6 ?_
    (try simp only [Act.put, List.getElem_toArray, List.getElem_cons_zero, List.getElem_cons_succ, List.setIfInBounds_toArray, List.set_cons_zero, List.set_cons_succ])
    refine wpAnyH_take (i := 10) (v := (.int .i64 0)) rfl (by kernel_rfl) (by kernel_rfl) (by kernel_rfl) (fun _ _ _ h => h) (.inl ⟨by rfl, fun X hS => by clear hS; go_simp; first | done | with_reducible rfl | rfl⟩) hX6 ?_
    (try simp only [Act.put, List.getElem_toArray, List.getElem_cons_zero, List.getElem_cons_succ, List.setIfInBounds_toArray, List.set_cons_zero, List.set_cons_succ])
    refine wpAnyH_all (rs := [12]) (by kernel_rfl) (by simp) fun i hi => ?_
    obtain rfl := List.mem_singleton.1 hi
    obtain ⟨sz, ⟨s0, s1, s2, s3, s4⟩, ⟨f0, f1, f2, f3, f4⟩⟩ := S6
    simp only [zero, Nat.zero_add] at s0 s1 s2 s3 s4
    have hY : Bel W (((((X6.setCell ⟨B6, 0, none⟩ (.int .i64 zk)).setCell ⟨B6, 1, none⟩ (.int .i64 zn)).setCell ⟨B6, 2, none⟩ (.int .i64 zs)).setCell ⟨B6, 3, none⟩ (.string zt)).setCell ⟨B6, 4, none⟩ (.int .i64 zm)) := by
     have hb := hX6
     exact Bel.y
    have hq : Slot (((((X6.setCell ⟨B6, 0, none⟩ (.int .i64 zk)).setCell ⟨B6, 1, none⟩ (.int .i64 zn)).setCell ⟨B6, 2, none⟩ (.int .i64 zs)).setCell ⟨B6, 3, none⟩ (.string zt)).setCell ⟨B6, 4, none⟩ (.int .i64 zm)) B6 ⟨zk, zn, zs, zt, zm⟩ := by simp [Slot, Qal, Qah, go_sem, sz, s0, s1, s2, s3, s4, f0, f1, f2, f3, f4]
    refine Qbv (w' := (((((X6.setCell ⟨B6, 0, none⟩ (.int .i64 zk)).setCell ⟨B6, 1, none⟩ (.int .i64 zn)).setCell ⟨B6, 2, none⟩ (.int .i64 zs)).setCell ⟨B6, 3, none⟩ (.string zt)).setCell ⟨B6, 4, none⟩ (.int .i64 zm))) rfl (by rfl) (by go_simp; first | done | with_reducible rfl | rfl) ⟨hY, ?_⟩
    (try simp only [Act.put, List.getElem_toArray, List.getElem_cons_zero, List.getElem_cons_succ, List.setIfInBounds_toArray, List.set_cons_zero, List.set_cons_succ])
    generalize (((((X6.setCell ⟨B6, 0, none⟩ (.int .i64 zk)).setCell ⟨B6, 1, none⟩ (.int .i64 zn)).setCell ⟨B6, 2, none⟩ (.int .i64 zs)).setCell ⟨B6, 3, none⟩ (.string zt)).setCell ⟨B6, 4, none⟩ (.int .i64 zm)) = Y at hq hY ⊢
    clear sz s0 s1 s2 s3 s4 f0 f1 f2 f3 f4
    refine wpAnyH_take (i := 13) (v := (.int .i64 0)) rfl (by kernel_rfl) (by kernel_rfl) (by kernel_rfl) (fun _ _ _ h => h) (.inl ⟨by rfl, fun X hS => by clear hS; go_simp; first | done | with_reducible rfl | rfl⟩) hY ?_
    (try simp only [Act.put, List.getElem_toArray, List.getElem_cons_zero, List.getElem_cons_succ, List.setIfInBounds_toArray, List.set_cons_zero, List.set_cons_succ])
    refine wpAnyH_done (by kernel_rfl) (.normal ?_) _
    go_wp2
    go_meet
    exact ⟨⟨B6, rfl, rfl, hq⟩, hY⟩
   case rest =>
    obtain ⟨⟨B, rfl, rfl, hq⟩, hbX⟩ := hcut
    have ka := KA.out.keep hbX GA.out
    have HBX := Hd (HBW.out.trans hbX)
    obtain ⟨q0, ⟨q1, q2, q3, q4, q5⟩, -⟩ := hq
    simp only [Qal, Nat.zero_add] at ka q1 q2 q3 q4 q5
    obtain ⟨a0, a1, a2, a3, a4⟩ := ka
    clear hbX
    go_wp2_with (go_at_call 20; (with_reducible refine Calls.mono (CZ.out _) ?_); rintro e V7 ⟨rfl, hb⟩; have HB7 := Hd (HBX.out.trans hb); clear hb)
    go_ret
    exact ⟨rfl, HB7.out⟩
 generalize hr : evV l x = r at CE he
 obtain ⟨⟨zk, zn, zs, zt, zm⟩, e⟩ := r
 have f1 : (e != 0) = true := by rw [bne_iff_ne]; exact he
 clear ET CF CM he hr HL1 HL2
 obtain ⟨o, ⟨vk, vn, vs, vt, vm⟩, nm, ks⟩ := x
 simp only [Ex.op, Ex.v, Ex.nm, Ex.ks] at CG CE ⊢
 generalize Qaa nm = bn at CG CE ⊢
 generalize ks.length = n at CG CE ⊢
 have CG := Hd CG
 have CE := Hd CE
 go_enter Tryz.func7, Tryz.ntmps7
 go_upto_region 1 with fail
 refine uN (w0 := w) (by exact Bel.y) fun W0 hcc hf hz hb0 => ?_
 have T0 : Qab W0 w.heap.size o ⟨vk, vn, vs, vt, vm⟩ bn A n c := by simp [Qab, Qap, hcc, hf, hz, go_sem]
 have M0 : BndAt W0 (w.heap.size + 1) 0 ⟨mn, ⟨mk, mm, ms, mt, mu⟩⟩ := by simp [BndAt, hcc, hf, hz, go_sem]
 have g1 : w.heap.size + 1 < W0.heap.size := by rw [hz]; simp
 clear hcc hf hz
 have HNw := Hd (Nat.le_refl w.heap.size)
 generalize hNN : w.heap.size = N at T0 M0 g1
 have HNN := Hd (Nat.le_of_eq hNN)
 clear hNN HNw
 have HB0 := Hd hb0
 have K0 := Hd T0
 have M0 := Hd M0
 have G1 := Hd g1
 clear hb0 T0 g1
 obtain ⟨tz, t0, t1, t2, t3, t4, t5, t6, t7⟩ := K0.out.u
 have HM0 := Hd (Bel.refl W0)
 go_upto_region 4 with (first
  | (go_at_call 10; (with_reducible refine Calls.mono (CG.out _ HB0.out) ?_); rintro e V1 ⟨rfl, hb1⟩; have HB1 := Hd (HB0.out.trans hb1); have K1 := Hd (K0.out.keep hb1); have HM1 := Hd (HM0.out.trans hb1); clear hb1 tz t0 t1 t2 t3 t4 t5 t6 t7; obtain ⟨tz, t0, t1, t2, t3, t4, t5, t6, t7⟩ := K1.out.u)
  | (go_at_call 12; (with_reducible refine Calls.mono (CE.out _ HB1.out) ?_); rintro e V2 ⟨rfl, hb2⟩; have HB2 := Hd (HB1.out.trans hb2); have K2 := Hd (K1.out.keep hb2); have HM2 := Hd (HM1.out.trans hb2); clear hb2 tz t0 t1 t2 t3 t4 t5 t6 t7; obtain ⟨tz, t0, t1, t2, t3, t4, t5, t6, t7⟩ := K2.out.u))
 refine uN (w0 := V2) (by exact Bel.y) fun W2 hcc hf hz hb => ?_
 have R0 : Qal W2 V2.heap.size 0 ⟨zk, zn, zs, zt, zm⟩ := by simp [Qal, hcc, hf, hz, go_sem]
 have g0 : V2.heap.size < W2.heap.size := by rw [hz]; simp
 clear hcc hf hz
 have HB3 := Hd (HB2.out.trans hb)
 have K3 := Hd (K2.out.keep hb)
 have HM3 := Hd (HM2.out.trans hb)
 clear hb
 generalize V2.heap.size = Za at R0 g0
 have KRa := Hd R0
 have Ga := Hd g0
 have MK := Hd (BndAt.keep M0.out HM3.out G1.out)
 have MG := Hd (lL G1.out HM3.out.size)
 clear R0 g0 tz t0 t1 t2 t3 t4 t5 t6 t7
 have HX3 := Hd (Bel.refl W2)
 go_upto_region 5 with (go_at_call 11; (with_reducible refine Calls.mono (CA.out _ HB3.out) ?_); rintro e V4 ⟨rfl, hb⟩; have HB4 := Hd (HB3.out.trans hb); clear hb)
 go_wp2_with (go_at_call 11; (with_reducible refine Calls.mono (CA.out _ HB4.out) ?_); rintro e V5 ⟨rfl, hb⟩; have HB5 := Hd (HB4.out.trans hb); clear hb)
 go_ret
 exact ⟨rfl, HB5.out⟩
end Go.Proofs.YtjckpkamhdbcnaaGreatDoor
