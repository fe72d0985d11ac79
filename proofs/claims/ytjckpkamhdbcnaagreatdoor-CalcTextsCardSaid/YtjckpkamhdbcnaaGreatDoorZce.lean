import Derived.Test.YtjckpkamhdbcnaaGreatDoorZcd
namespace Go.Proofs.YtjckpkamhdbcnaaGreatDoor
set_option maxRecDepth 100000
set_option maxHeartbeats 64000000
set_option linter.unusedSimpArgs false
set_option linter.unusedVariables false
open Go.RowKit
attribute [local go_sem ↓] Qas Qau
theorem Qk9 (x : Ex) (hop : x.op = 3 \/ x.op = 16 \/ x.op = 17 \/ 3 < x.op /\ x.op < 16) (IH : ∀ y ∈ x.ks, RsC y) : RsP x (fun d k => d + 1 <= 64 /\ 1 <= k) := by
 intro w A c d k dv kv hdv hkv hd hk hsm hln hL hC
 subst hdv
 subst hkv
 obtain ⟨o, ⟨vk, vn, vs, vt, vm⟩, nm, ks⟩ := x
 obtain ⟨hs1, hs2, hs3⟩ := hsm
 obtain ⟨hl1, hl2⟩ := hln
 have CV := Hd fun W => Qat ⟨vk, vn, vs, vt, vm⟩ hs1 W
 have CW := Hd fun W => Qce (Qaa nm) (by rw [Qae]; exact hs2) W
 simp only [Val.val] at CV
 simp only [Ex.op, Ex.v, Ex.nm, Ex.ks] at hL ⊢
 have HT := Hd (show rT d k (.mk o ⟨vk, vn, vs, vt, vm⟩ nm ks) = ((prtB o ⟨vk, vn, vs, vt, vm⟩ nm ks.length && okL ks) && (decide (d + (1 + dpL ks) <= 64) && decide (1 + szL ks <= k))) from by
  simp only [rT, okX, dpX, szX]
  try rfl)
 have HP := Hd (show prtB o ⟨vk, vn, vs, vt, vm⟩ nm ks.length = prtV o ⟨vk, vn, vs, vt, vm⟩ (Qaa nm) ks.length from (Qds _ _ _ _).symm)
 have HI := Hd fun (q : Nat) (y : Ex) (hy : ks[q]? = some y) => IH y (List.mem_of_getElem? hy)
 have HSM := Hd hs3
 have HLN := Hd hl2
 have HL := Hd hL
 have NO := Hd fun (h : prtB o ⟨vk, vn, vs, vt, vm⟩ nm ks.length = false) => Ql5 (d := d) (k := k) h
 generalize hbn : Qaa nm = bn at CW HP ⊢
 obtain ⟨n, hn⟩ : ∃ n, n = ks.length := ⟨_, rfl⟩
 rw [← hn] at hl1 HP HT NO ⊢
 have Hn := Hd hn
 have hni : (n : Int) <= 9223372036854775807 := by omega
 have w1 : IntKind.i64.wrap ((k : Int) - 1) = (k : Int) - 1 := by rw [IntKind.wrap_i64]; omega
 have w2 : IntKind.i64.wrap ((d : Int) + 1 + 1) = (d : Int) + 1 + 1 := by rw [IntKind.wrap_i64]; omega
 clear hbn hs1 hs2 hs3 hl2 IH hL hn
 replace hop : o = 3 \/ o = 16 \/ o = 17 \/ 3 < o /\ o < 16 := hop
 obtain ⟨hd2, hk2⟩ : d + 1 <= 64 /\ 1 <= k := hC
 have g1 : ¬ 64 < (d : Int) + 1 := by omega
 have g2 : ¬ (k : Int) - 1 < 0 := by omega
 rcases hop with h | h | h | h
 all_goals
  first
  | (have h1 : o = 3 := h; have hkI : kidI o = 1 := (by rw [h1]; rfl); have he3 : (o == 3) = true := (by rw [beq_iff_eq]; omega); have hne16 : ¬ o = 16 := (by omega); have he16 : (o == 16) = false := (by rw [bN]; omega); have hne17 : ¬ o = 17 := (by omega); have he17 : (o == 17) = false := (by rw [bN]; omega); clear h1)
  | (have h1 : o = 16 := h; have hkI : kidI o = 1 := (by rw [h1]; rfl); have hne3 : ¬ o = 3 := (by omega); have he3 : (o == 3) = false := (by rw [bN]; omega); have he16 : (o == 16) = true := (by rw [beq_iff_eq]; omega); have hne17 : ¬ o = 17 := (by omega); have he17 : (o == 17) = false := (by rw [bN]; omega); clear h1)
  | (have h1 : o = 17 := h; have hkI : kidI o = 3 := (by rw [h1]; rfl); have hne3 : ¬ o = 3 := (by omega); have he3 : (o == 3) = false := (by rw [bN]; omega); have hne16 : ¬ o = 16 := (by omega); have he16 : (o == 16) = false := (by rw [bN]; omega); have he17 : (o == 17) = true := (by rw [beq_iff_eq]; omega); clear h1)
  | (have h1 : 3 < o := h.1; have h2 : o < 16 := h.2; have hkI : kidI o = 2 := (by unfold kidI; rw [iN (by omega), iN (by omega), iN (by omega), iN (by omega), iN (by omega), iP ⟨h1, h2⟩]); have hne3 : ¬ o = 3 := (by omega); have he3 : (o == 3) = false := (by rw [bN]; omega); have hne16 : ¬ o = 16 := (by omega); have he16 : (o == 16) = false := (by rw [bN]; omega); have hne17 : ¬ o = 17 := (by omega); have he17 : (o == 17) = false := (by rw [bN]; omega); clear h1)
  have hne1 : ¬ o = 1 := by omega
  have hne2 : ¬ o = 2 := by omega
  have hlo : ¬ o < 1 := by omega
  have hhi : ¬ 17 < o := by omega
  have he1 : (o == 1) = false := by rw [bN]; omega
  have he2 : (o == 2) = false := by rw [bN]; omega
  have hq1 : (o != 1) = true := by rw [bne_iff_ne]; omega
  have hq2 : (o != 2) = true := by rw [bne_iff_ne]; omega
  clear h
  by_cases hn : (n : Int) = kidI o
  ·have hn2 := hn
   rw [hkI] at hn2
   by_cases hb0 : bn = ⟨#[]⟩
   ·subst hb0
    cases hq : veq ⟨vk, vn, vs, vt, vm⟩ ⟨0, 0, 0, ⟨#[]⟩, 0⟩ with
    | false =>
     have hF := Hd (NO.out (by rw [HP.out]; unfold prtV; rw [iN hne1, iN hne2]; simp [zv, hq]))
     clear hn
     go_enter Tryz.func56, Tryz.ntmps56
     go_upto_region 1 with fail
     refine uN ((Bel.refl w).alloc _) fun W1 hcc hf hz hb => ?_
     have T1 : Qab W1 w.heap.size o ⟨vk, vn, vs, vt, vm⟩ ⟨#[]⟩ A n c := by simp [Qab, Qap, hcc, hf, hz, go_sem]
     clear hcc hf hz
     generalize w.heap.size = N at T1
     have HB0 := Hd hb
     clear hb
     have L1 := Hd T1
     obtain ⟨tz, t0, t1, t2, t3, t4, t5, t6, t7⟩ := T1.u
     go_wp2_with fail
     go_ret2
     rw [hF.out]
     exact ⟨_, rfl, HB0.out, fun h => by cases h⟩
    | true =>
     have hPT : prtV o ⟨vk, vn, vs, vt, vm⟩ ⟨#[]⟩ n = true := by unfold prtV; rw [iN hne1, iN hne2]; simp [hn, zv, hq]
     have hT2 := Hd (show rT d k (.mk o ⟨vk, vn, vs, vt, vm⟩ nm ks) = (okL ks && (decide (d + (1 + dpL ks) <= 64) && decide (1 + szL ks <= k))) from by rw [HT.out, HP.out, hPT, Bool.true_and])
     have hZ := Hd (show szX (.mk o ⟨vk, vn, vs, vt, vm⟩ nm ks) = 1 + szL ks from by simp only [szX])
     clear hPT hn
     go_enter Tryz.func56, Tryz.ntmps56
     go_upto_region 1 with fail
     refine uN ((Bel.refl w).alloc _) fun W1 hcc hf hz hb => ?_
     have T1 : Qab W1 w.heap.size o ⟨vk, vn, vs, vt, vm⟩ ⟨#[]⟩ A n c := by simp [Qab, Qap, hcc, hf, hz, go_sem]
     clear hcc hf hz
     generalize w.heap.size = N at T1
     have HB0 := Hd hb
     clear hb
     have L1 := Hd T1
     obtain ⟨tz, t0, t1, t2, t3, t4, t5, t6, t7⟩ := T1.u
     go_wp2_with fail
     clear tz t0 t1 t2 t3 t4 t5 t6 t7 hn2
     go_loopg [2, 9, 10] (n + 1) (fun g lv iv _ wr => ∃ (q : Nat) (l : Int), iv = .int .i64 q /\ lv = .int .i64 l /\ Hid (l = (k : Int) - 1 - szL (ks.take q)) /\ q <= n /\ Hid (n + 1 - q <= g) /\ Hid (∀ (i : Nat) (y : Ex), i < q -> ks[i]? = some y -> okX y = true /\ d + 1 + dpX y <= 64) /\ Hid (1 + szL (ks.take q) <= k) /\ Hid (Bel W1 wr))
     case atStart => exact ⟨0, _, rfl, rfl, Hd (by simp [szL]), Nat.zero_le _, Hd (by omega), Hd (fun i y h => absurd h (Nat.not_lt_zero _)), Hd (by simp only [List.take_zero, szL]; omega), Hd (Bel.refl _)⟩
     case round =>
      obtain ⟨q, l, rfl, rfl, hl, hq2, hg, hA, hI, hW⟩ := hrel
      obtain ⟨tz, t0, t1, t2, t3, t4, t5, t6, t7⟩ := (L1.out.keep hW.out).u
      rcases Nat.lt_or_ge q n with hlt | hge
      ·have hlti : (q : Int) < n := by omega
       have l0 : (0 : Int) <= (q : Int) := by omega
       obtain ⟨y, hy⟩ : ∃ y, ks[q]? = some y := ⟨ks[q]'(by have := Hn.out; omega), gE _⟩
       obtain ⟨B, off, hAA, -, hBlt, A', c', hE, hLy⟩ := (HL.out.keep (HB0.out.trans hW.out)).get hy
       subst hAA
       obtain ⟨yo, ⟨yk, yn, ys, yt, ym⟩, ynm, yks⟩ := y
       have CK := HI.out q _ hy wr A' c' (d + 1) (k - 1 - szL (ks.take q)) ((d : Int) + 1 + 1) l (by omega) (by have := hl.out; have := hI.out; omega) hd2 (by omega) (Qje HSM.out hy) (Qjh HLN.out (List.mem_of_getElem? hy)) hLy
       simp only [Ex.op, Ex.v, Ex.nm, Ex.ks] at hE CK
       obtain ⟨e0, e1, e2, e3, e4, e5, e6, e7⟩ := hE
       have wq : IntKind.i64.wrap ((q : Int) + 1) = ((q + 1 : Nat) : Int) := by rw [IntKind.wrap_i64]; omega
       have HGT := Hd (Qg5 ks q _ hy)
       have HY := Hd hy
       clear hy hLy hBlt
       cases hs : rT (d + 1) (k - 1 - szL (ks.take q)) (.mk yo ⟨yk, yn, ys, yt, ym⟩ ynm yks) with
       | true =>
        rw [hs] at CK
        replace CK := Hd CK
        have hs2 := hs
        unfold rT at hs2
        rw [bA, bA, decide_eq_true_eq, decide_eq_true_eq] at hs2
        have HS := Hd hs2
        clear hs hs2
        go_wp2_with (go_at_call 56; (with_reducible refine Calls.mono CK.out ?_); rintro ee V6 ⟨l6, rfl, hb6, hk6⟩; have hq6 := Hd (hW.out.trans hb6); have hK6 := Hd (hk6 rfl); clear hb6 hk6)
        go_roundg (n + 1 - (q + 1))
        case measure => have := hg.out; omega
        case rel =>
         refine ⟨q + 1, l6, rfl, rfl, Hd ?_, hlt, Hd (Nat.le_refl _), Hd fun i z hi hz => ?_, Hd ?_, hq6⟩
         ·rw [HGT.out.2.2.1]
          have := hK6.out
          have := HS.out.2.2
          have := hI.out
          omega
         ·rcases Nat.lt_or_ge i q with h | h
          ·exact hA.out i z h hz
          obtain rfl : i = q := by omega
          rw [HY.out] at hz
          obtain rfl := Option.some.inj hz
          exact ⟨HS.out.1, HS.out.2.1⟩
         ·rw [HGT.out.2.2.1]
          have := HS.out.2.2
          have := hI.out
          omega
       | false =>
        rw [hs] at CK
        replace CK := Hd CK
        have hF := Hd (show rT d k (.mk o ⟨vk, vn, vs, vt, vm⟩ nm ks) = false from by
         rw [hT2.out]
         cases h : (okL ks && (decide (d + (1 + dpL ks) <= 64) && decide (1 + szL ks <= k))) with
         | false => rfl
         | true =>
          rw [bA, bA, decide_eq_true_eq, decide_eq_true_eq] at h
          have := HGT.out
          unfold rT at hs
          rw [this.2.2.2 h.1, dT (show d + 1 + dpX _ <= 64 from by omega), dT (show szX _ <= k - 1 - szL (ks.take q) from by omega)] at hs
          cases hs)
        clear hs
        go_wp2_with (go_at_call 56; (with_reducible refine Calls.mono CK.out ?_); rintro ee V6 ⟨l6, rfl, hb6, -⟩; have hq6 := Hd (hW.out.trans hb6); clear hb6)
        go_ret2
        rw [hF.out]
        exact ⟨_, rfl, HB0.out.trans hq6.out, fun h => by cases h⟩
      obtain rfl : q = n := by omega
      have htk : ks.take q = ks := List.take_of_length_le (by have := Hn.out; omega)
      have hF := Hd (show rT d k (.mk o ⟨vk, vn, vs, vt, vm⟩ nm ks) = true from by
       have h4 := hI.out
       rw [htk] at h4
       have h1 : okL ks = true := Qoc ks fun i y hy => (hA.out i y (by have := (List.getElem?_eq_some_iff.1 hy).1; have := Hn.out; omega) hy).1
       have h2 : dpL ks <= 64 - (d + 1) := Qod ks _ fun i y hy => by have := (hA.out i y (by have := (List.getElem?_eq_some_iff.1 hy).1; have := Hn.out; omega) hy).2; omega
       rw [hT2.out, h1, dT (show d + (1 + dpL ks) <= 64 from by omega), dT h4]
       rfl)
      rw [htk] at hl
      clear htk
      go_wp2_with fail
      go_ret2
      rw [hF.out]
      refine ⟨_, rfl, HB0.out.trans hW.out, fun _ => ?_⟩
      rw [hZ.out, hl.out]
      omega
   have hb1 : ¬ bn.toList = [] := fun e => hb0 ((Qba _ _).1 (e.trans (by rw [ByteArray.toList_eq])))
   have hb2 : bn.toList.isEmpty = false := by rw [List.isEmpty_eq_false_iff]; exact hb1
   have hF := Hd (NO.out (by rw [HP.out]; unfold prtV; rw [iN hne1, iN hne2, dF hb0]; simp))
   clear hn
   go_enter Tryz.func56, Tryz.ntmps56
   go_upto_region 1 with fail
   refine uN ((Bel.refl w).alloc _) fun W1 hcc hf hz hb => ?_
   have T1 : Qab W1 w.heap.size o ⟨vk, vn, vs, vt, vm⟩ bn A n c := by simp [Qab, Qap, hcc, hf, hz, go_sem]
   clear hcc hf hz
   generalize w.heap.size = N at T1
   have HB0 := Hd hb
   clear hb
   have L1 := Hd T1
   obtain ⟨tz, t0, t1, t2, t3, t4, t5, t6, t7⟩ := T1.u
   go_wp2_with fail
   go_ret2
   rw [hF.out]
   exact ⟨_, rfl, HB0.out, fun h => by cases h⟩
  have hF := Hd (NO.out (by rw [HP.out]; unfold prtV; rw [dF hn]; rfl))
  rw [hkI] at hn
  go_enter Tryz.func56, Tryz.ntmps56
  go_upto_region 1 with fail
  refine uN ((Bel.refl w).alloc _) fun W1 hcc hf hz hb => ?_
  have T1 : Qab W1 w.heap.size o ⟨vk, vn, vs, vt, vm⟩ bn A n c := by simp [Qab, Qap, hcc, hf, hz, go_sem]
  clear hcc hf hz
  generalize w.heap.size = N at T1
  have HB0 := Hd hb
  clear hb
  have L1 := Hd T1
  obtain ⟨tz, t0, t1, t2, t3, t4, t5, t6, t7⟩ := T1.u
  go_wp2_with fail
  go_ret2
  rw [hF.out]
  exact ⟨_, rfl, HB0.out, fun h => by cases h⟩
theorem Qvm (x : Ex) (IH : ∀ y ∈ x.ks, RsC y) : RsC x := by
 intro w A c d k dv kv h1 h2 h3 h4 h5 h6 h7
 by_cases hd : d + 1 <= 64
 ·by_cases hk : 1 <= k
  ·rcases kids7 x.op with h | h | h | h | h | h | h
   ·exact Qxk x h IH w A c d k dv kv h1 h2 h3 h4 h5 h6 h7 ⟨hd, hk⟩
   ·exact Qxl x h IH w A c d k dv kv h1 h2 h3 h4 h5 h6 h7 ⟨hd, hk⟩
   ·exact Qk9 x (.inl h) IH w A c d k dv kv h1 h2 h3 h4 h5 h6 h7 ⟨hd, hk⟩
   ·exact Qk9 x (.inr (.inl h)) IH w A c d k dv kv h1 h2 h3 h4 h5 h6 h7 ⟨hd, hk⟩
   ·exact Qk9 x (.inr (.inr (.inl h))) IH w A c d k dv kv h1 h2 h3 h4 h5 h6 h7 ⟨hd, hk⟩
   ·exact Qk9 x (.inr (.inr (.inr h))) IH w A c d k dv kv h1 h2 h3 h4 h5 h6 h7 ⟨hd, hk⟩
   exact Qw4 x h IH w A c d k dv kv h1 h2 h3 h4 h5 h6 h7 ⟨hd, hk⟩
  exact Qw3 x IH w A c d k dv kv h1 h2 h3 h4 h5 h6 h7 ⟨hd, hk⟩
 exact Qw2 x IH w A c d k dv kv h1 h2 h3 h4 h5 h6 h7 hd
theorem Qw5 : ∀ x : Ex, RsC x := Ex.ind fun op v nm ks IH => Qvm (.mk op v nm ks) IH
theorem Qjq (x : Ex) (A : Option Addr) (c : Nat) (w : World) (hsm : smX x) (hln : lnX x) (hL : Lie (fun _ => True) w A x.ks) :
  Calls Tryz.prog 28 #[exV x.op x.v (Qaa x.nm) A x.ks.length c] w fun r w' => r = .returned (.bool (sndX x)) /\ Bel w w' := by
 have CR := Hd fun W (hW : Bel w W) => Qw5 x W A c 0 4096 1 4096 (by decide) rfl (by decide) (by decide) hsm hln (hL.keep hW)
 rw [Qw1] at CR
 generalize sndX x = res at CR ⊢
 obtain ⟨o, ⟨vk, vn, vs, vt, vm⟩, nm, ks⟩ := x
 simp only [Ex.op, Ex.v, Ex.nm, Ex.ks] at CR ⊢
 generalize Qaa nm = bn at CR ⊢
 generalize ks.length = n at CR ⊢
 clear hsm hln hL
 go_enter Tryz.func28, Tryz.ntmps28
 go_upto_region 1 with fail
 refine uN ((Bel.refl w).alloc _) fun W1 hcc hf hz hb => ?_
 have T1 : Qab W1 w.heap.size o ⟨vk, vn, vs, vt, vm⟩ bn A n c := by simp [Qab, Qap, hcc, hf, hz, go_sem]
 clear hcc hf hz
 generalize w.heap.size = N at T1
 have HB0 := Hd hb
 clear hb
 have L1 := Hd T1
 obtain ⟨tz, t0, t1, t2, t3, t4, t5, t6, t7⟩ := T1.u
 go_wp2_with (go_at_call 56; (with_reducible refine Calls.mono (CR.out _ HB0.out) ?_); rintro ee V6 ⟨l6, rfl, hb6, -⟩; have hq6 := Hd (HB0.out.trans hb6); clear hb6)
 go_ret
 exact ⟨rfl, hq6.out⟩
end Go.Proofs.YtjckpkamhdbcnaaGreatDoor
