import Derived.Test.YtjckpkamhdbcnaaGreatDoorZcb
import Derived.Test.YtjckpkamhdbcnaaGreatDoorZt
import Derived.Test.YtjckpkamhdbcnaaGreatDoorZx
import Derived.Test.YtjckpkamhdbcnaaGreatDoorZcc
namespace Go.Proofs.YtjckpkamhdbcnaaGreatDoor
set_option maxRecDepth 100000
set_option maxHeartbeats 64000000
set_option linter.unusedSimpArgs false
set_option linter.unusedVariables false
open Go.RowKit
attribute [local go_sem ↓] Qas Qau
def rT (d k : Nat) (x : Ex) : Bool := okX x && (decide (d + dpX x <= 64) && decide (szX x <= k))
theorem Qw1 (x : Ex) : rT 0 4096 x = sndX x := by
 unfold rT sndX
 rw [Nat.zero_add]
def RsC (x : Ex) : Prop := ∀ (w : World) (A : Option Addr) (c d k : Nat) (dv kv : Int), dv = d + 1 -> kv = k -> d <= 64 -> k <= 4096 -> smX x -> lnX x -> Lie (fun _ => True) w A x.ks ->
 Calls Tryz.prog 56 #[exV x.op x.v (Qaa x.nm) A x.ks.length c, .int .i64 dv, .int .i64 kv] w fun r w' => ∃ lv : Int, r = .returned (.tuple #[.int .i64 lv, .bool (rT d k x)]) /\ Bel w w' /\ (rT d k x = true -> lv = k - szX x)
theorem Ql5 {d k : Nat} {o : Int} {v : Val} {nm : List UInt8} {ks : List Ex} (h : prtB o v nm ks.length = false) : rT d k (.mk o v nm ks) = false := by
 unfold rT
 rw [okX, h]
 rfl
theorem Qvl {o : Int} {v : Val} {nm : List UInt8} {n : Nat} (h : ¬ (1 <= o /\ o <= 17 /\ n = kidN o)) : prtB o v nm n = false := by
 unfold prtB
 rw [dF h]
 rfl
def RsP (x : Ex) (C : Nat -> Nat -> Prop) : Prop := ∀ (w : World) (A : Option Addr) (c d k : Nat) (dv kv : Int), dv = d + 1 -> kv = k -> d <= 64 -> k <= 4096 -> smX x -> lnX x -> Lie (fun _ => True) w A x.ks -> C d k ->
 Calls Tryz.prog 56 #[exV x.op x.v (Qaa x.nm) A x.ks.length c, .int .i64 dv, .int .i64 kv] w fun r w' => ∃ lv : Int, r = .returned (.tuple #[.int .i64 lv, .bool (rT d k x)]) /\ Bel w w' /\ (rT d k x = true -> lv = k - szX x)
theorem Qw2 (x : Ex) (IH : ∀ y ∈ x.ks, RsC y) : RsP x (fun d k => ¬ d + 1 <= 64) := by
 intro w A c d k dv kv hdv hkv hd hk hsm hln hL hC
 subst hdv
 subst hkv
 obtain ⟨o, ⟨vk, vn, vs, vt, vm⟩, nm, ks⟩ := x
 obtain ⟨hs1, hs2, hs3⟩ := hsm
 obtain ⟨hl1, hl2⟩ := hln
 have CV := Hd fun W => Qat ⟨vk, vn, vs, vt, vm⟩ hs1 W
 have CW := Hd fun W => Qce (Qaa nm) (by rw [Qae]; exact hs2) W
 simp only [Val.val] at CV
 simp only [Ex.op, Ex.v, Ex.nm, Ex.ks] at hL ⊢
 have HT := Hd (show rT d k (.mk o ⟨vk, vn, vs, vt, vm⟩ nm ks) = ((prtB o ⟨vk, vn, vs, vt, vm⟩ nm ks.length && okL ks) && (decide (d + (1 + dpL ks) <= 64) && decide (1 + szL ks <= k))) from by
  simp only [rT, okX, dpX, szX]
  try rfl)
 have HP := Hd (show prtB o ⟨vk, vn, vs, vt, vm⟩ nm ks.length = prtV o ⟨vk, vn, vs, vt, vm⟩ (Qaa nm) ks.length from (Qds _ _ _ _).symm)
 have HI := Hd fun (q : Nat) (y : Ex) (hy : ks[q]? = some y) => IH y (List.mem_of_getElem? hy)
 have HSM := Hd hs3
 have HLN := Hd hl2
 have HL := Hd hL
 have NO := Hd fun (h : prtB o ⟨vk, vn, vs, vt, vm⟩ nm ks.length = false) => Ql5 (d := d) (k := k) h
 generalize hbn : Qaa nm = bn at CW HP ⊢
 obtain ⟨n, hn⟩ : ∃ n, n = ks.length := ⟨_, rfl⟩
 rw [← hn] at hl1 HP HT NO ⊢
 have Hn := Hd hn
 have hni : (n : Int) <= 9223372036854775807 := by omega
 have w1 : IntKind.i64.wrap ((k : Int) - 1) = (k : Int) - 1 := by rw [IntKind.wrap_i64]; omega
 have w2 : IntKind.i64.wrap ((d : Int) + 1 + 1) = (d : Int) + 1 + 1 := by rw [IntKind.wrap_i64]; omega
 clear hbn hs1 hs2 hs3 hl2 IH hL hn
 replace hC : ¬ d + 1 <= 64 := hC
 have g1 : 64 < (d : Int) + 1 := by omega
 have hF := Hd (show rT d k (.mk o ⟨vk, vn, vs, vt, vm⟩ nm ks) = false from by rw [HT.out, dF (show ¬ d + (1 + dpL ks) <= 64 from by omega)]; simp)
 go_enter Tryz.func56, Tryz.ntmps56
 go_upto_region 1 with fail
 refine uN ((Bel.refl w).alloc _) fun W1 hcc hf hz hb => ?_
 have T1 : Qab W1 w.heap.size o ⟨vk, vn, vs, vt, vm⟩ bn A n c := by simp [Qab, Qap, hcc, hf, hz, go_sem]
 clear hcc hf hz
 generalize w.heap.size = N at T1
 have HB0 := Hd hb
 clear hb
 have L1 := Hd T1
 obtain ⟨tz, t0, t1, t2, t3, t4, t5, t6, t7⟩ := T1.u
 go_wp2_with fail
 go_ret2
 rw [hF.out]
 exact ⟨_, rfl, HB0.out, fun h => by cases h⟩
theorem Qw3 (x : Ex) (IH : ∀ y ∈ x.ks, RsC y) : RsP x (fun d k => d + 1 <= 64 /\ ¬ 1 <= k) := by
 intro w A c d k dv kv hdv hkv hd hk hsm hln hL hC
 subst hdv
 subst hkv
 obtain ⟨o, ⟨vk, vn, vs, vt, vm⟩, nm, ks⟩ := x
 obtain ⟨hs1, hs2, hs3⟩ := hsm
 obtain ⟨hl1, hl2⟩ := hln
 have CV := Hd fun W => Qat ⟨vk, vn, vs, vt, vm⟩ hs1 W
 have CW := Hd fun W => Qce (Qaa nm) (by rw [Qae]; exact hs2) W
 simp only [Val.val] at CV
 simp only [Ex.op, Ex.v, Ex.nm, Ex.ks] at hL ⊢
 have HT := Hd (show rT d k (.mk o ⟨vk, vn, vs, vt, vm⟩ nm ks) = ((prtB o ⟨vk, vn, vs, vt, vm⟩ nm ks.length && okL ks) && (decide (d + (1 + dpL ks) <= 64) && decide (1 + szL ks <= k))) from by
  simp only [rT, okX, dpX, szX]
  try rfl)
 have HP := Hd (show prtB o ⟨vk, vn, vs, vt, vm⟩ nm ks.length = prtV o ⟨vk, vn, vs, vt, vm⟩ (Qaa nm) ks.length from (Qds _ _ _ _).symm)
 have HI := Hd fun (q : Nat) (y : Ex) (hy : ks[q]? = some y) => IH y (List.mem_of_getElem? hy)
 have HSM := Hd hs3
 have HLN := Hd hl2
 have HL := Hd hL
 have NO := Hd fun (h : prtB o ⟨vk, vn, vs, vt, vm⟩ nm ks.length = false) => Ql5 (d := d) (k := k) h
 generalize hbn : Qaa nm = bn at CW HP ⊢
 obtain ⟨n, hn⟩ : ∃ n, n = ks.length := ⟨_, rfl⟩
 rw [← hn] at hl1 HP HT NO ⊢
 have Hn := Hd hn
 have hni : (n : Int) <= 9223372036854775807 := by omega
 have w1 : IntKind.i64.wrap ((k : Int) - 1) = (k : Int) - 1 := by rw [IntKind.wrap_i64]; omega
 have w2 : IntKind.i64.wrap ((d : Int) + 1 + 1) = (d : Int) + 1 + 1 := by rw [IntKind.wrap_i64]; omega
 clear hbn hs1 hs2 hs3 hl2 IH hL hn
 obtain ⟨hd2, hk2⟩ : d + 1 <= 64 /\ ¬ 1 <= k := hC
 have g1 : ¬ 64 < (d : Int) + 1 := by omega
 have g2 : (k : Int) - 1 < 0 := by omega
 have hF := Hd (show rT d k (.mk o ⟨vk, vn, vs, vt, vm⟩ nm ks) = false from by rw [HT.out, dF (show ¬ 1 + szL ks <= k from by omega)]; simp)
 go_enter Tryz.func56, Tryz.ntmps56
 go_upto_region 1 with fail
 refine uN ((Bel.refl w).alloc _) fun W1 hcc hf hz hb => ?_
 have T1 : Qab W1 w.heap.size o ⟨vk, vn, vs, vt, vm⟩ bn A n c := by simp [Qab, Qap, hcc, hf, hz, go_sem]
 clear hcc hf hz
 generalize w.heap.size = N at T1
 have HB0 := Hd hb
 clear hb
 have L1 := Hd T1
 obtain ⟨tz, t0, t1, t2, t3, t4, t5, t6, t7⟩ := T1.u
 go_wp2_with fail
 go_ret2
 rw [hF.out]
 exact ⟨_, rfl, HB0.out, fun h => by cases h⟩
theorem Qxk (x : Ex) (hop : x.op = 1) (IH : ∀ y ∈ x.ks, RsC y) : RsP x (fun d k => d + 1 <= 64 /\ 1 <= k) := by
 intro w A c d k dv kv hdv hkv hd hk hsm hln hL hC
 subst hdv
 subst hkv
 obtain ⟨o, ⟨vk, vn, vs, vt, vm⟩, nm, ks⟩ := x
 obtain ⟨hs1, hs2, hs3⟩ := hsm
 obtain ⟨hl1, hl2⟩ := hln
 have CV := Hd fun W => Qat ⟨vk, vn, vs, vt, vm⟩ hs1 W
 have CW := Hd fun W => Qce (Qaa nm) (by rw [Qae]; exact hs2) W
 simp only [Val.val] at CV
 simp only [Ex.op, Ex.v, Ex.nm, Ex.ks] at hL ⊢
 have HT := Hd (show rT d k (.mk o ⟨vk, vn, vs, vt, vm⟩ nm ks) = ((prtB o ⟨vk, vn, vs, vt, vm⟩ nm ks.length && okL ks) && (decide (d + (1 + dpL ks) <= 64) && decide (1 + szL ks <= k))) from by
  simp only [rT, okX, dpX, szX]
  try rfl)
 have HP := Hd (show prtB o ⟨vk, vn, vs, vt, vm⟩ nm ks.length = prtV o ⟨vk, vn, vs, vt, vm⟩ (Qaa nm) ks.length from (Qds _ _ _ _).symm)
 have HI := Hd fun (q : Nat) (y : Ex) (hy : ks[q]? = some y) => IH y (List.mem_of_getElem? hy)
 have HSM := Hd hs3
 have HLN := Hd hl2
 have HL := Hd hL
 have NO := Hd fun (h : prtB o ⟨vk, vn, vs, vt, vm⟩ nm ks.length = false) => Ql5 (d := d) (k := k) h
 generalize hbn : Qaa nm = bn at CW HP ⊢
 obtain ⟨n, hn⟩ : ∃ n, n = ks.length := ⟨_, rfl⟩
 rw [← hn] at hl1 HP HT NO ⊢
 have Hn := Hd hn
 have hni : (n : Int) <= 9223372036854775807 := by omega
 have w1 : IntKind.i64.wrap ((k : Int) - 1) = (k : Int) - 1 := by rw [IntKind.wrap_i64]; omega
 have w2 : IntKind.i64.wrap ((d : Int) + 1 + 1) = (d : Int) + 1 + 1 := by rw [IntKind.wrap_i64]; omega
 clear hbn hs1 hs2 hs3 hl2 IH hL hn
 obtain rfl : o = 1 := hop
 obtain ⟨hd2, hk2⟩ : d + 1 <= 64 /\ 1 <= k := hC
 have g1 : ¬ 64 < (d : Int) + 1 := by omega
 have g2 : ¬ (k : Int) - 1 < 0 := by omega
 by_cases hn : n = 0
 ·subst hn
  by_cases hb0 : bn = ⟨#[]⟩
  ·subst hb0
   cases hs : vsnd ⟨vk, vn, vs, vt, vm⟩ with
   | false =>
    rw [hs] at CV
    have hF := Hd (NO.out (by rw [HP.out]; unfold prtV; rw [hs]; simp))
    go_enter Tryz.func56, Tryz.ntmps56
    go_upto_region 1 with fail
    refine uN ((Bel.refl w).alloc _) fun W1 hcc hf hz hb => ?_
    have T1 : Qab W1 w.heap.size 1 ⟨vk, vn, vs, vt, vm⟩ ⟨#[]⟩ A 0 c := by simp [Qab, Qap, hcc, hf, hz, go_sem]
    clear hcc hf hz
    generalize w.heap.size = N at T1
    have HB0 := Hd hb
    clear hb
    have L1 := Hd T1
    obtain ⟨tz, t0, t1, t2, t3, t4, t5, t6, t7⟩ := T1.u
    go_wp2_with (go_at_call 20; (with_reducible refine Calls.mono (CV.out _) ?_); rintro ee V1 ⟨rfl, hb1⟩; have HV1 := Hd (HB0.out.trans hb1); clear tz t0 t1 t2 t3 t4 t5 t6 t7; obtain ⟨tz, t0, t1, t2, t3, t4, t5, t6, t7⟩ := (L1.out.keep hb1).u; clear hb1)
    go_ret2
    rw [hF.out]
    exact ⟨_, rfl, HV1.out, fun h => by cases h⟩
   | true =>
    rw [hs] at CV
    by_cases hv0 : vn < 0
    ·have hk1 : vk = 1 := by
      rcases Qr7 hs with h | ⟨n, s, h⟩ | ⟨t, h⟩ | h | h | ⟨e, h⟩ <;> simp only [Val.mk.injEq] at h
      all_goals first | exact h.1 | omega
     subst hk1
     have hF := Hd (NO.out (by rw [HP.out]; unfold prtV; rw [hs, dF (show ¬ (0 : Int) <= vn from by omega)]; simp))
     go_enter Tryz.func56, Tryz.ntmps56
     go_upto_region 1 with fail
     refine uN ((Bel.refl w).alloc _) fun W1 hcc hf hz hb => ?_
     have T1 : Qab W1 w.heap.size 1 ⟨1, vn, vs, vt, vm⟩ ⟨#[]⟩ A 0 c := by simp [Qab, Qap, hcc, hf, hz, go_sem]
     clear hcc hf hz
     generalize w.heap.size = N at T1
     have HB0 := Hd hb
     clear hb
     have L1 := Hd T1
     obtain ⟨tz, t0, t1, t2, t3, t4, t5, t6, t7⟩ := T1.u
     go_wp2_with (go_at_call 20; (with_reducible refine Calls.mono (CV.out _) ?_); rintro ee V1 ⟨rfl, hb1⟩; have HV1 := Hd (HB0.out.trans hb1); clear tz t0 t1 t2 t3 t4 t5 t6 t7; obtain ⟨tz, t0, t1, t2, t3, t4, t5, t6, t7⟩ := (L1.out.keep hb1).u; clear hb1)
     go_ret2
     rw [hF.out]
     exact ⟨_, rfl, HV1.out, fun h => by cases h⟩
    have hPT : prtV 1 ⟨vk, vn, vs, vt, vm⟩ ⟨#[]⟩ 0 = true := by unfold prtV; rw [hs, dT (show (0 : Int) <= vn from by omega)]; simp [kidI]
    by_cases hk1 : vk = 1
    ·subst hk1
     have hF := Hd (show rT d k (.mk 1 ⟨1, vn, vs, vt, vm⟩ nm ks) = true from by
      obtain rfl : ks = [] := List.eq_nil_of_length_eq_zero Hn.out.symm
      rw [HT.out, HP.out, hPT, dT (show d + (1 + dpL []) <= 64 from by simp only [dpL]; omega), dT (show 1 + szL [] <= k from by simp only [szL]; omega)]
      rfl)
     have hZ := Hd (show szX (.mk 1 ⟨1, vn, vs, vt, vm⟩ nm ks) = 1 from by
      obtain rfl : ks = [] := List.eq_nil_of_length_eq_zero Hn.out.symm
      simp only [szX, szL])
     clear hPT
     go_enter Tryz.func56, Tryz.ntmps56
     go_upto_region 1 with fail
     refine uN ((Bel.refl w).alloc _) fun W1 hcc hf hz hb => ?_
     have T1 : Qab W1 w.heap.size 1 ⟨1, vn, vs, vt, vm⟩ ⟨#[]⟩ A 0 c := by simp [Qab, Qap, hcc, hf, hz, go_sem]
     clear hcc hf hz
     generalize w.heap.size = N at T1
     have HB0 := Hd hb
     clear hb
     have L1 := Hd T1
     obtain ⟨tz, t0, t1, t2, t3, t4, t5, t6, t7⟩ := T1.u
     go_wp2_with (go_at_call 20; (with_reducible refine Calls.mono (CV.out _) ?_); rintro ee V1 ⟨rfl, hb1⟩; have HV1 := Hd (HB0.out.trans hb1); clear tz t0 t1 t2 t3 t4 t5 t6 t7; obtain ⟨tz, t0, t1, t2, t3, t4, t5, t6, t7⟩ := (L1.out.keep hb1).u; clear hb1)
     refine wp_loop_rounds 1 ?_
     rw [rounds_succ]
     go_wp2_with fail
     go_ret2
     rw [hF.out]
     exact ⟨_, rfl, HV1.out, fun _ => by rw [hZ.out]; omega⟩
    have hF := Hd (show rT d k (.mk 1 ⟨vk, vn, vs, vt, vm⟩ nm ks) = true from by
     obtain rfl : ks = [] := List.eq_nil_of_length_eq_zero Hn.out.symm
     rw [HT.out, HP.out, hPT, dT (show d + (1 + dpL []) <= 64 from by simp only [dpL]; omega), dT (show 1 + szL [] <= k from by simp only [szL]; omega)]
     rfl)
    have hZ := Hd (show szX (.mk 1 ⟨vk, vn, vs, vt, vm⟩ nm ks) = 1 from by
     obtain rfl : ks = [] := List.eq_nil_of_length_eq_zero Hn.out.symm
     simp only [szX, szL])
    clear hPT
    go_enter Tryz.func56, Tryz.ntmps56
    go_upto_region 1 with fail
    refine uN ((Bel.refl w).alloc _) fun W1 hcc hf hz hb => ?_
    have T1 : Qab W1 w.heap.size 1 ⟨vk, vn, vs, vt, vm⟩ ⟨#[]⟩ A 0 c := by simp [Qab, Qap, hcc, hf, hz, go_sem]
    clear hcc hf hz
    generalize w.heap.size = N at T1
    have HB0 := Hd hb
    clear hb
    have L1 := Hd T1
    obtain ⟨tz, t0, t1, t2, t3, t4, t5, t6, t7⟩ := T1.u
    go_wp2_with (go_at_call 20; (with_reducible refine Calls.mono (CV.out _) ?_); rintro ee V1 ⟨rfl, hb1⟩; have HV1 := Hd (HB0.out.trans hb1); clear tz t0 t1 t2 t3 t4 t5 t6 t7; obtain ⟨tz, t0, t1, t2, t3, t4, t5, t6, t7⟩ := (L1.out.keep hb1).u; clear hb1)
    refine wp_loop_rounds 1 ?_
    rw [rounds_succ]
    go_wp2_with fail
    go_ret2
    rw [hF.out]
    exact ⟨_, rfl, HV1.out, fun _ => by rw [hZ.out]; omega⟩
  have hb1 : ¬ bn.toList = [] := fun e => hb0 ((Qba _ _).1 (e.trans (by rw [ByteArray.toList_eq])))
  have hb2 : bn.toList.isEmpty = false := by rw [List.isEmpty_eq_false_iff]; exact hb1
  have hF := Hd (NO.out (by rw [HP.out]; unfold prtV; rw [iP rfl, dF hb0]; simp))
  go_enter Tryz.func56, Tryz.ntmps56
  go_upto_region 1 with fail
  refine uN ((Bel.refl w).alloc _) fun W1 hcc hf hz hb => ?_
  have T1 : Qab W1 w.heap.size 1 ⟨vk, vn, vs, vt, vm⟩ bn A 0 c := by simp [Qab, Qap, hcc, hf, hz, go_sem]
  clear hcc hf hz
  generalize w.heap.size = N at T1
  have HB0 := Hd hb
  clear hb
  have L1 := Hd T1
  obtain ⟨tz, t0, t1, t2, t3, t4, t5, t6, t7⟩ := T1.u
  go_wp2_with fail
  go_ret2
  rw [hF.out]
  exact ⟨_, rfl, HB0.out, fun h => by cases h⟩
 have hni0 : ¬ (n : Int) = 0 := by omega
 have hF := Hd (NO.out (by rw [HP.out]; unfold prtV; rw [dF (show ¬ (n : Int) = kidI 1 from by simp [kidI]; omega)]; rfl))
 go_enter Tryz.func56, Tryz.ntmps56
 go_upto_region 1 with fail
 refine uN ((Bel.refl w).alloc _) fun W1 hcc hf hz hb => ?_
 have T1 : Qab W1 w.heap.size 1 ⟨vk, vn, vs, vt, vm⟩ bn A n c := by simp [Qab, Qap, hcc, hf, hz, go_sem]
 clear hcc hf hz
 generalize w.heap.size = N at T1
 have HB0 := Hd hb
 clear hb
 have L1 := Hd T1
 obtain ⟨tz, t0, t1, t2, t3, t4, t5, t6, t7⟩ := T1.u
 go_wp2_with fail
 go_ret2
 rw [hF.out]
 exact ⟨_, rfl, HB0.out, fun h => by cases h⟩
theorem Qxl (x : Ex) (hop : x.op = 2) (IH : ∀ y ∈ x.ks, RsC y) : RsP x (fun d k => d + 1 <= 64 /\ 1 <= k) := by
 intro w A c d k dv kv hdv hkv hd hk hsm hln hL hC
 subst hdv
 subst hkv
 obtain ⟨o, ⟨vk, vn, vs, vt, vm⟩, nm, ks⟩ := x
 obtain ⟨hs1, hs2, hs3⟩ := hsm
 obtain ⟨hl1, hl2⟩ := hln
 have CV := Hd fun W => Qat ⟨vk, vn, vs, vt, vm⟩ hs1 W
 have CW := Hd fun W => Qce (Qaa nm) (by rw [Qae]; exact hs2) W
 simp only [Val.val] at CV
 simp only [Ex.op, Ex.v, Ex.nm, Ex.ks] at hL ⊢
 have HT := Hd (show rT d k (.mk o ⟨vk, vn, vs, vt, vm⟩ nm ks) = ((prtB o ⟨vk, vn, vs, vt, vm⟩ nm ks.length && okL ks) && (decide (d + (1 + dpL ks) <= 64) && decide (1 + szL ks <= k))) from by
  simp only [rT, okX, dpX, szX]
  try rfl)
 have HP := Hd (show prtB o ⟨vk, vn, vs, vt, vm⟩ nm ks.length = prtV o ⟨vk, vn, vs, vt, vm⟩ (Qaa nm) ks.length from (Qds _ _ _ _).symm)
 have HI := Hd fun (q : Nat) (y : Ex) (hy : ks[q]? = some y) => IH y (List.mem_of_getElem? hy)
 have HSM := Hd hs3
 have HLN := Hd hl2
 have HL := Hd hL
 have NO := Hd fun (h : prtB o ⟨vk, vn, vs, vt, vm⟩ nm ks.length = false) => Ql5 (d := d) (k := k) h
 generalize hbn : Qaa nm = bn at CW HP ⊢
 obtain ⟨n, hn⟩ : ∃ n, n = ks.length := ⟨_, rfl⟩
 rw [← hn] at hl1 HP HT NO ⊢
 have Hn := Hd hn
 have hni : (n : Int) <= 9223372036854775807 := by omega
 have w1 : IntKind.i64.wrap ((k : Int) - 1) = (k : Int) - 1 := by rw [IntKind.wrap_i64]; omega
 have w2 : IntKind.i64.wrap ((d : Int) + 1 + 1) = (d : Int) + 1 + 1 := by rw [IntKind.wrap_i64]; omega
 clear hbn hs1 hs2 hs3 hl2 IH hL hn
 obtain rfl : o = 2 := hop
 obtain ⟨hd2, hk2⟩ : d + 1 <= 64 /\ 1 <= k := hC
 have g1 : ¬ 64 < (d : Int) + 1 := by omega
 have g2 : ¬ (k : Int) - 1 < 0 := by omega
 by_cases hn : n = 0
 ·subst hn
  cases hwd : wordB bn with
  | false =>
   rw [hwd] at CW
   have hF := Hd (NO.out (by rw [HP.out]; unfold prtV; rw [hwd]; simp))
   go_enter Tryz.func56, Tryz.ntmps56
   go_upto_region 1 with fail
   refine uN ((Bel.refl w).alloc _) fun W1 hcc hf hz hb => ?_
   have T1 : Qab W1 w.heap.size 2 ⟨vk, vn, vs, vt, vm⟩ bn A 0 c := by simp [Qab, Qap, hcc, hf, hz, go_sem]
   clear hcc hf hz
   generalize w.heap.size = N at T1
   have HB0 := Hd hb
   clear hb
   have L1 := Hd T1
   obtain ⟨tz, t0, t1, t2, t3, t4, t5, t6, t7⟩ := T1.u
   go_wp2_with (go_at_call 83; (with_reducible refine Calls.mono (CW.out _) ?_); rintro ee V1 ⟨rfl, hb1⟩; have HV1 := Hd (HB0.out.trans hb1); clear tz t0 t1 t2 t3 t4 t5 t6 t7; obtain ⟨tz, t0, t1, t2, t3, t4, t5, t6, t7⟩ := (L1.out.keep hb1).u; clear hb1)
   go_ret2
   rw [hF.out]
   exact ⟨_, rfl, HV1.out, fun h => by cases h⟩
  | true =>
   rw [hwd] at CW
   cases hq : veq ⟨vk, vn, vs, vt, vm⟩ ⟨0, 0, 0, ⟨#[]⟩, 0⟩ with
   | false =>
    have hF := Hd (NO.out (by rw [HP.out]; unfold prtV; rw [hwd]; simp [zv, hq]))
    go_enter Tryz.func56, Tryz.ntmps56
    go_upto_region 1 with fail
    refine uN ((Bel.refl w).alloc _) fun W1 hcc hf hz hb => ?_
    have T1 : Qab W1 w.heap.size 2 ⟨vk, vn, vs, vt, vm⟩ bn A 0 c := by simp [Qab, Qap, hcc, hf, hz, go_sem]
    clear hcc hf hz
    generalize w.heap.size = N at T1
    have HB0 := Hd hb
    clear hb
    have L1 := Hd T1
    obtain ⟨tz, t0, t1, t2, t3, t4, t5, t6, t7⟩ := T1.u
    go_wp2_with (go_at_call 83; (with_reducible refine Calls.mono (CW.out _) ?_); rintro ee V1 ⟨rfl, hb1⟩; have HV1 := Hd (HB0.out.trans hb1); clear tz t0 t1 t2 t3 t4 t5 t6 t7; obtain ⟨tz, t0, t1, t2, t3, t4, t5, t6, t7⟩ := (L1.out.keep hb1).u; clear hb1)
    go_ret2
    rw [hF.out]
    exact ⟨_, rfl, HV1.out, fun h => by cases h⟩
   | true =>
    have hPT : prtV 2 ⟨vk, vn, vs, vt, vm⟩ bn 0 = true := by unfold prtV; rw [hwd]; simp [kidI, zv, hq]
    have hF := Hd (show rT d k (.mk 2 ⟨vk, vn, vs, vt, vm⟩ nm ks) = true from by
     obtain rfl : ks = [] := List.eq_nil_of_length_eq_zero Hn.out.symm
     rw [HT.out, HP.out, hPT, dT (show d + (1 + dpL []) <= 64 from by simp only [dpL]; omega), dT (show 1 + szL [] <= k from by simp only [szL]; omega)]
     rfl)
    have hZ := Hd (show szX (.mk 2 ⟨vk, vn, vs, vt, vm⟩ nm ks) = 1 from by
     obtain rfl : ks = [] := List.eq_nil_of_length_eq_zero Hn.out.symm
     simp only [szX, szL])
    clear hPT
    go_enter Tryz.func56, Tryz.ntmps56
    go_upto_region 1 with fail
    refine uN ((Bel.refl w).alloc _) fun W1 hcc hf hz hb => ?_
    have T1 : Qab W1 w.heap.size 2 ⟨vk, vn, vs, vt, vm⟩ bn A 0 c := by simp [Qab, Qap, hcc, hf, hz, go_sem]
    clear hcc hf hz
    generalize w.heap.size = N at T1
    have HB0 := Hd hb
    clear hb
    have L1 := Hd T1
    obtain ⟨tz, t0, t1, t2, t3, t4, t5, t6, t7⟩ := T1.u
    go_wp2_with (go_at_call 83; (with_reducible refine Calls.mono (CW.out _) ?_); rintro ee V1 ⟨rfl, hb1⟩; have HV1 := Hd (HB0.out.trans hb1); clear tz t0 t1 t2 t3 t4 t5 t6 t7; obtain ⟨tz, t0, t1, t2, t3, t4, t5, t6, t7⟩ := (L1.out.keep hb1).u; clear hb1)
    refine wp_loop_rounds 1 ?_
    rw [rounds_succ]
    go_wp2_with fail
    go_ret2
    rw [hF.out]
    exact ⟨_, rfl, HV1.out, fun _ => by rw [hZ.out]; omega⟩
 have hni0 : ¬ (n : Int) = 0 := by omega
 have hF := Hd (NO.out (by rw [HP.out]; unfold prtV; rw [dF (show ¬ (n : Int) = kidI 2 from by simp [kidI]; omega)]; rfl))
 go_enter Tryz.func56, Tryz.ntmps56
 go_upto_region 1 with fail
 refine uN ((Bel.refl w).alloc _) fun W1 hcc hf hz hb => ?_
 have T1 : Qab W1 w.heap.size 2 ⟨vk, vn, vs, vt, vm⟩ bn A n c := by simp [Qab, Qap, hcc, hf, hz, go_sem]
 clear hcc hf hz
 generalize w.heap.size = N at T1
 have HB0 := Hd hb
 clear hb
 have L1 := Hd T1
 obtain ⟨tz, t0, t1, t2, t3, t4, t5, t6, t7⟩ := T1.u
 go_wp2_with fail
 go_ret2
 rw [hF.out]
 exact ⟨_, rfl, HB0.out, fun h => by cases h⟩
theorem Qw4 (x : Ex) (hop : ¬ x.op = 1 /\ ¬ x.op = 2 /\ ¬ x.op = 3 /\ ¬ x.op = 16 /\ ¬ x.op = 17 /\ (x.op < 3 \/ 17 < x.op)) (IH : ∀ y ∈ x.ks, RsC y) : RsP x (fun d k => d + 1 <= 64 /\ 1 <= k) := by
 intro w A c d k dv kv hdv hkv hd hk hsm hln hL hC
 subst hdv
 subst hkv
 obtain ⟨o, ⟨vk, vn, vs, vt, vm⟩, nm, ks⟩ := x
 obtain ⟨hs1, hs2, hs3⟩ := hsm
 obtain ⟨hl1, hl2⟩ := hln
 have CV := Hd fun W => Qat ⟨vk, vn, vs, vt, vm⟩ hs1 W
 have CW := Hd fun W => Qce (Qaa nm) (by rw [Qae]; exact hs2) W
 simp only [Val.val] at CV
 simp only [Ex.op, Ex.v, Ex.nm, Ex.ks] at hL ⊢
 have HT := Hd (show rT d k (.mk o ⟨vk, vn, vs, vt, vm⟩ nm ks) = ((prtB o ⟨vk, vn, vs, vt, vm⟩ nm ks.length && okL ks) && (decide (d + (1 + dpL ks) <= 64) && decide (1 + szL ks <= k))) from by
  simp only [rT, okX, dpX, szX]
  try rfl)
 have HP := Hd (show prtB o ⟨vk, vn, vs, vt, vm⟩ nm ks.length = prtV o ⟨vk, vn, vs, vt, vm⟩ (Qaa nm) ks.length from (Qds _ _ _ _).symm)
 have HI := Hd fun (q : Nat) (y : Ex) (hy : ks[q]? = some y) => IH y (List.mem_of_getElem? hy)
 have HSM := Hd hs3
 have HLN := Hd hl2
 have HL := Hd hL
 have NO := Hd fun (h : prtB o ⟨vk, vn, vs, vt, vm⟩ nm ks.length = false) => Ql5 (d := d) (k := k) h
 generalize hbn : Qaa nm = bn at CW HP ⊢
 obtain ⟨n, hn⟩ : ∃ n, n = ks.length := ⟨_, rfl⟩
 rw [← hn] at hl1 HP HT NO ⊢
 have Hn := Hd hn
 have hni : (n : Int) <= 9223372036854775807 := by omega
 have w1 : IntKind.i64.wrap ((k : Int) - 1) = (k : Int) - 1 := by rw [IntKind.wrap_i64]; omega
 have w2 : IntKind.i64.wrap ((d : Int) + 1 + 1) = (d : Int) + 1 + 1 := by rw [IntKind.wrap_i64]; omega
 clear hbn hs1 hs2 hs3 hl2 IH hL hn
 obtain ⟨h1, h2, h3, h4, h5, h6⟩ : ¬ o = 1 /\ ¬ o = 2 /\ ¬ o = 3 /\ ¬ o = 16 /\ ¬ o = 17 /\ (o < 3 \/ 17 < o) := hop
 obtain ⟨hd2, hk2⟩ : d + 1 <= 64 /\ 1 <= k := hC
 have g1 : ¬ 64 < (d : Int) + 1 := by omega
 have g2 : ¬ (k : Int) - 1 < 0 := by omega
 have he1 : (o == 1) = false := by rw [bN]; omega
 have he2 : (o == 2) = false := by rw [bN]; omega
 have he3 : (o == 3) = false := by rw [bN]; omega
 have he16 : (o == 16) = false := by rw [bN]; omega
 have he17 : (o == 17) = false := by rw [bN]; omega
 have hq1 : (o != 1) = true := by rw [bne_iff_ne]; omega
 have hq2 : (o != 2) = true := by rw [bne_iff_ne]; omega
 have hF := Hd (NO.out (Qvl (by rintro ⟨e1, e2, e3⟩; omega)))
 rcases h6 with h6 | h6
 ·have hlo : o < 1 := by omega
  go_enter Tryz.func56, Tryz.ntmps56
  go_upto_region 1 with fail
  refine uN ((Bel.refl w).alloc _) fun W1 hcc hf hz hb => ?_
  have T1 : Qab W1 w.heap.size o ⟨vk, vn, vs, vt, vm⟩ bn A n c := by simp [Qab, Qap, hcc, hf, hz, go_sem]
  clear hcc hf hz
  generalize w.heap.size = N at T1
  have HB0 := Hd hb
  clear hb
  have L1 := Hd T1
  obtain ⟨tz, t0, t1, t2, t3, t4, t5, t6, t7⟩ := T1.u
  go_wp2_with fail
  go_ret2
  rw [hF.out]
  exact ⟨_, rfl, HB0.out, fun h => by cases h⟩
 have hlo : ¬ o < 1 := by omega
 go_enter Tryz.func56, Tryz.ntmps56
 go_upto_region 1 with fail
 refine uN ((Bel.refl w).alloc _) fun W1 hcc hf hz hb => ?_
 have T1 : Qab W1 w.heap.size o ⟨vk, vn, vs, vt, vm⟩ bn A n c := by simp [Qab, Qap, hcc, hf, hz, go_sem]
 clear hcc hf hz
 generalize w.heap.size = N at T1
 have HB0 := Hd hb
 clear hb
 have L1 := Hd T1
 obtain ⟨tz, t0, t1, t2, t3, t4, t5, t6, t7⟩ := T1.u
 go_wp2_with fail
 go_ret2
 rw [hF.out]
 exact ⟨_, rfl, HB0.out, fun h => by cases h⟩
end Go.Proofs.YtjckpkamhdbcnaaGreatDoor
