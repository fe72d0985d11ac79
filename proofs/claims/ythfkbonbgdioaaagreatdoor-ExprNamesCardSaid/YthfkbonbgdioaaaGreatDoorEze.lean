import Derived.Test.YthfkbonbgdioaaaGreatDoorEzc
namespace Go.Proofs.YthfkbonbgdioaaaGreatDoor
set_option linter.unusedSimpArgs false
set_option linter.unusedVariables false
open Go.RowKit
attribute [local go_sem ↓] eql_val neq_val
/-! The document: whether anything is an expression: its kids. -/
set_option maxRecDepth 100000 in
set_option maxHeartbeats 8000000 in
theorem rs_c3 (x : Ex) (hop : x.op = 3) (IH : ∀ y ∈ x.ks, RsC y) : RsP x (fun d k => d + 1 ≤ 64 ∧ 1 ≤ k) := by
  intro w A c d k dv kv hdv hkv hd hk hsm hln hL hC
  subst hdv
  subst hkv
  obtain ⟨o, ⟨vk, vn, vs, vt, vm⟩, nm, ks⟩ := x
  obtain ⟨hs1, hs2, hs3⟩ := hsm
  obtain ⟨hl1, hl2⟩ := hln
  have CV := Lib.hid fun W => rvsound_any ⟨vk, vn, vs, vt, vm⟩ hs1 W
  have CW := Lib.hid fun W => rword_any (bytesOf nm) (by rw [bytesOf_size]; exact hs2) W
  simp only [Val.val] at CV
  simp only [Ex.op, Ex.v, Ex.nm, Ex.ks] at hL ⊢
  have HT := Lib.hid (show rT d k (.mk o ⟨vk, vn, vs, vt, vm⟩ nm ks) = ((prtB o ⟨vk, vn, vs, vt, vm⟩ nm ks.length && okL ks) && (decide (d + (1 + dpL ks) ≤ 64) && decide (1 + szL ks ≤ k))) from by
    simp only [rT, okX, dpX, szX]
    try rfl)
  have HP := Lib.hid (show prtB o ⟨vk, vn, vs, vt, vm⟩ nm ks.length = prtV o ⟨vk, vn, vs, vt, vm⟩ (bytesOf nm) ks.length from (prtV_eq _ _ _ _).symm)
  have HI := Lib.hid fun (q : Nat) (y : Ex) (hy : ks[q]? = some y) => IH y (List.mem_of_getElem? hy)
  have HSM := Lib.hid hs3
  have HLN := Lib.hid hl2
  have HL := Lib.hid hL
  have NO := Lib.hid fun (h : prtB o ⟨vk, vn, vs, vt, vm⟩ nm ks.length = false) => rT_no (d := d) (k := k) h
  generalize hbn : bytesOf nm = bn at CW HP ⊢
  obtain ⟨n, hn⟩ : ∃ n, n = ks.length := ⟨_, rfl⟩
  rw [← hn] at hl1 HP HT NO ⊢
  have Hn := Lib.hid hn
  have hni : (n : Int) ≤ 9223372036854775807 := by omega
  have w1 : IntKind.i64.wrap ((k : Int) - 1) = (k : Int) - 1 := by rw [IntKind.wrap_i64]; omega
  have w2 : IntKind.i64.wrap ((d : Int) + 1 + 1) = (d : Int) + 1 + 1 := by rw [IntKind.wrap_i64]; omega
  clear hbn hs1 hs2 hs3 hl2 IH hL hn
  obtain rfl : o = 3 := hop
  obtain ⟨hd2, hk2⟩ : d + 1 ≤ 64 ∧ 1 ≤ k := hC
  have g1 : ¬ 64 < (d : Int) + 1 := by omega
  have g2 : ¬ (k : Int) - 1 < 0 := by omega
  have hkI : kidI 3 = 1 := rfl
  have hne1 : ¬ (3 : Int) = 1 := by decide
  have hne2 : ¬ (3 : Int) = 2 := by decide
  by_cases hn : n = 1
  · subst hn
    by_cases hb0 : bn = ⟨#[]⟩
    · subst hb0
      cases hq : veq ⟨vk, vn, vs, vt, vm⟩ ⟨0, 0, 0, ⟨#[]⟩, 0⟩ with
      | false =>
        have hF := Lib.hid (NO.out (by rw [HP.out]; unfold prtV; rw [if_neg hne1, if_neg hne2]; simp [zv, hq]))
        go_enter Tryz.func20, Tryz.ntmps20
        go_upto_region 1 with fail
        refine under_name ((Bel.refl w).alloc _) fun W1 hcc hf hz hb => ?_
        have T1 : XFree W1 w.heap.size 3 ⟨vk, vn, vs, vt, vm⟩ ⟨#[]⟩ A 1 c := by simp [XFree, ExAt, hcc, hf, hz, go_sem]
        clear hcc hf hz
        generalize w.heap.size = N at T1
        have HB0 := Lib.hid hb
        clear hb
        have L1 := Lib.hid T1
        obtain ⟨tz, ⟨t0, t1, t2, t3, t4, t5, t6, t7⟩, ⟨tf0, tf1, tf2, tf3, tf4, tf5, tf6, tf7⟩⟩ := T1
        simp only [Nat.zero_add] at t0 t1 t2 t3 t4 t5 t6 t7
        clear tf0 tf1 tf2 tf3 tf4 tf5 tf6 tf7
        go_wp2_with fail
        go_ret2
        rw [hF.out]
        exact ⟨_, rfl, HB0.out, fun h => by cases h⟩
      | true =>
        have hPT : prtV 3 ⟨vk, vn, vs, vt, vm⟩ ⟨#[]⟩ 1 = true := by unfold prtV; rw [if_neg hne1, if_neg hne2]; simp [hkI, zv, hq]
        have hT2 := Lib.hid (show rT d k (.mk 3 ⟨vk, vn, vs, vt, vm⟩ nm ks) = (okL ks && (decide (d + (1 + dpL ks) ≤ 64) && decide (1 + szL ks ≤ k))) from by rw [HT.out, HP.out, hPT, Bool.true_and])
        have hZ := Lib.hid (show szX (.mk 3 ⟨vk, vn, vs, vt, vm⟩ nm ks) = 1 + szL ks from by simp only [szX])
        clear hPT
        go_enter Tryz.func20, Tryz.ntmps20
        go_upto_region 1 with fail
        refine under_name ((Bel.refl w).alloc _) fun W1 hcc hf hz hb => ?_
        have T1 : XFree W1 w.heap.size 3 ⟨vk, vn, vs, vt, vm⟩ ⟨#[]⟩ A 1 c := by simp [XFree, ExAt, hcc, hf, hz, go_sem]
        clear hcc hf hz
        generalize w.heap.size = N at T1
        have HB0 := Lib.hid hb
        clear hb
        have L1 := Lib.hid T1
        obtain ⟨tz, ⟨t0, t1, t2, t3, t4, t5, t6, t7⟩, ⟨tf0, tf1, tf2, tf3, tf4, tf5, tf6, tf7⟩⟩ := T1
        simp only [Nat.zero_add] at t0 t1 t2 t3 t4 t5 t6 t7
        clear tf0 tf1 tf2 tf3 tf4 tf5 tf6 tf7
        go_wp2_with fail
        clear tz t0 t1 t2 t3 t4 t5 t6 t7
        go_loopg [2, 9, 10] (1 + 1) (fun g lv iv _ wr => ∃ (q : Nat) (l : Int), iv = .int .i64 q ∧ lv = .int .i64 l ∧ Hid (l = (k : Int) - 1 - szL (ks.take q)) ∧ q ≤ 1 ∧ Hid (1 + 1 - q ≤ g) ∧ Hid (∀ (i : Nat) (y : Ex), i < q → ks[i]? = some y → okX y = true ∧ d + 1 + dpX y ≤ 64) ∧ Hid (1 + szL (ks.take q) ≤ k) ∧ Hid (Bel W1 wr))
        case atStart => exact ⟨0, _, rfl, rfl, Lib.hid (by simp [szL]), Nat.zero_le _, Lib.hid (by omega), Lib.hid (fun i y h => absurd h (Nat.not_lt_zero _)), Lib.hid (by simp only [List.take_zero, szL]; omega), Lib.hid (Bel.refl _)⟩
        case round =>
          obtain ⟨q, l, rfl, rfl, hl, hq2, hg, hA, hI, hW⟩ := hrel
          obtain ⟨tz, ⟨t0, t1, t2, t3, t4, t5, t6, t7⟩, ⟨tf0, tf1, tf2, tf3, tf4, tf5, tf6, tf7⟩⟩ := L1.out.keep hW.out
          simp only [Nat.zero_add] at t0 t1 t2 t3 t4 t5 t6 t7
          clear tf0 tf1 tf2 tf3 tf4 tf5 tf6 tf7
          rcases Nat.lt_or_ge q 1 with hlt | hge
          · have hlti : (q : Int) < 1 := by omega
            have l0 : (0 : Int) ≤ (q : Int) := by omega
            obtain ⟨y, hy⟩ : ∃ y, ks[q]? = some y := ⟨ks[q]'(by have := Hn.out; omega), List.getElem?_eq_getElem _⟩
            obtain ⟨B, off, hAA, -, hBlt, A', c', hE, hLy⟩ := (HL.out.keep (HB0.out.trans hW.out)).get hy
            subst hAA
            obtain ⟨yo, ⟨yk, yn, ys, yt, ym⟩, ynm, yks⟩ := y
            have CK := HI.out q _ hy wr A' c' (d + 1) (k - 1 - szL (ks.take q)) ((d : Int) + 1 + 1) l (by omega) (by have := hl.out; have := hI.out; omega) hd2 (by omega) (smL_get HSM.out hy) (lnL_mem HLN.out (List.mem_of_getElem? hy)) hLy
            simp only [Ex.op, Ex.v, Ex.nm, Ex.ks] at hE CK
            obtain ⟨e0, e1, e2, e3, e4, e5, e6, e7⟩ := hE
            have wq : IntKind.i64.wrap ((q : Int) + 1) = ((q + 1 : Nat) : Int) := by rw [IntKind.wrap_i64]; omega
            have HGT := Lib.hid (list_get ks q _ hy)
            have HY := Lib.hid hy
            clear hy hLy hBlt
            cases hs : rT (d + 1) (k - 1 - szL (ks.take q)) (.mk yo ⟨yk, yn, ys, yt, ym⟩ ynm yks) with
            | true =>
              rw [hs] at CK
              replace CK := Lib.hid CK
              have hs2 := hs
              unfold rT at hs2
              rw [Bool.and_eq_true, Bool.and_eq_true, decide_eq_true_eq, decide_eq_true_eq] at hs2
              have HS := Lib.hid hs2
              clear hs hs2
              go_wp2_with (go_at_call 20; (with_reducible refine Calls.mono CK.out ?_); rintro ee V6 ⟨l6, rfl, hb6, hk6⟩; have hq6 := Lib.hid (hW.out.trans hb6); have hK6 := Lib.hid (hk6 rfl); clear hb6 hk6)
              go_roundg (1 + 1 - (q + 1))
              case measure => have := hg.out; omega
              case rel =>
                refine ⟨q + 1, l6, rfl, rfl, Lib.hid ?_, hlt, Lib.hid (Nat.le_refl _), Lib.hid fun i z hi hz => ?_, Lib.hid ?_, hq6⟩
                · rw [HGT.out.2.2.1]
                  have := hK6.out
                  have := HS.out.2.2
                  have := hI.out
                  omega
                · rcases Nat.lt_or_ge i q with h | h
                  · exact hA.out i z h hz
                  · obtain rfl : i = q := by omega
                    rw [HY.out] at hz
                    obtain rfl := Option.some.inj hz
                    exact ⟨HS.out.1, HS.out.2.1⟩
                · rw [HGT.out.2.2.1]
                  have := HS.out.2.2
                  have := hI.out
                  omega
            | false =>
              rw [hs] at CK
              replace CK := Lib.hid CK
              have hF := Lib.hid (show rT d k (.mk 3 ⟨vk, vn, vs, vt, vm⟩ nm ks) = false from by
                rw [hT2.out]
                cases h : (okL ks && (decide (d + (1 + dpL ks) ≤ 64) && decide (1 + szL ks ≤ k))) with
                | false => rfl
                | true =>
                  rw [Bool.and_eq_true, Bool.and_eq_true, decide_eq_true_eq, decide_eq_true_eq] at h
                  have := HGT.out
                  unfold rT at hs
                  rw [this.2.2.2 h.1, decide_eq_true (show d + 1 + dpX _ ≤ 64 from by omega), decide_eq_true (show szX _ ≤ k - 1 - szL (ks.take q) from by omega)] at hs
                  cases hs)
              clear hs
              go_wp2_with (go_at_call 20; (with_reducible refine Calls.mono CK.out ?_); rintro ee V6 ⟨l6, rfl, hb6, -⟩; have hq6 := Lib.hid (hW.out.trans hb6); clear hb6)
              go_ret2
              rw [hF.out]
              exact ⟨_, rfl, HB0.out.trans hq6.out, fun h => by cases h⟩
          · obtain rfl : q = 1 := by omega
            have htk : ks.take 1 = ks := List.take_of_length_le (by have := Hn.out; omega)
            have hF := Lib.hid (show rT d k (.mk 3 ⟨vk, vn, vs, vt, vm⟩ nm ks) = true from by
              have h4 := hI.out
              rw [htk] at h4
              have h1 : okL ks = true := okL_of ks fun i y hy => (hA.out i y (by have := (List.getElem?_eq_some_iff.1 hy).1; have := Hn.out; omega) hy).1
              have h2 : dpL ks ≤ 64 - (d + 1) := dpL_of ks _ fun i y hy => by have := (hA.out i y (by have := (List.getElem?_eq_some_iff.1 hy).1; have := Hn.out; omega) hy).2; omega
              rw [hT2.out, h1, decide_eq_true (show d + (1 + dpL ks) ≤ 64 from by omega), decide_eq_true h4]
              rfl)
            rw [htk] at hl
            clear htk
            go_wp2_with fail
            go_ret2
            rw [hF.out]
            refine ⟨_, rfl, HB0.out.trans hW.out, fun _ => ?_⟩
            rw [hZ.out, hl.out]
            omega
    · have hb1 : ¬ bn.toList = [] := fun e => hb0 ((toList_inj _ _).1 (e.trans (by rw [ByteArray.toList_eq])))
      have hb2 : bn.toList.isEmpty = false := by rw [List.isEmpty_eq_false_iff]; exact hb1
      have hF := Lib.hid (NO.out (by rw [HP.out]; unfold prtV; rw [if_neg hne1, if_neg hne2, decide_eq_false hb0]; simp))
      go_enter Tryz.func20, Tryz.ntmps20
      go_upto_region 1 with fail
      refine under_name ((Bel.refl w).alloc _) fun W1 hcc hf hz hb => ?_
      have T1 : XFree W1 w.heap.size 3 ⟨vk, vn, vs, vt, vm⟩ bn A 1 c := by simp [XFree, ExAt, hcc, hf, hz, go_sem]
      clear hcc hf hz
      generalize w.heap.size = N at T1
      have HB0 := Lib.hid hb
      clear hb
      have L1 := Lib.hid T1
      obtain ⟨tz, ⟨t0, t1, t2, t3, t4, t5, t6, t7⟩, ⟨tf0, tf1, tf2, tf3, tf4, tf5, tf6, tf7⟩⟩ := T1
      simp only [Nat.zero_add] at t0 t1 t2 t3 t4 t5 t6 t7
      clear tf0 tf1 tf2 tf3 tf4 tf5 tf6 tf7
      go_wp2_with fail
      go_ret2
      rw [hF.out]
      exact ⟨_, rfl, HB0.out, fun h => by cases h⟩
  · have hni0 : ¬ (n : Int) = 1 := by omega
    have hF := Lib.hid (NO.out (by rw [HP.out]; unfold prtV; rw [decide_eq_false (show ¬ (n : Int) = kidI 3 from by rw [hkI]; exact hni0)]; rfl))
    go_enter Tryz.func20, Tryz.ntmps20
    go_upto_region 1 with fail
    refine under_name ((Bel.refl w).alloc _) fun W1 hcc hf hz hb => ?_
    have T1 : XFree W1 w.heap.size 3 ⟨vk, vn, vs, vt, vm⟩ bn A n c := by simp [XFree, ExAt, hcc, hf, hz, go_sem]
    clear hcc hf hz
    generalize w.heap.size = N at T1
    have HB0 := Lib.hid hb
    clear hb
    have L1 := Lib.hid T1
    obtain ⟨tz, ⟨t0, t1, t2, t3, t4, t5, t6, t7⟩, ⟨tf0, tf1, tf2, tf3, tf4, tf5, tf6, tf7⟩⟩ := T1
    simp only [Nat.zero_add] at t0 t1 t2 t3 t4 t5 t6 t7
    clear tf0 tf1 tf2 tf3 tf4 tf5 tf6 tf7
    go_wp2_with fail
    go_ret2
    rw [hF.out]
    exact ⟨_, rfl, HB0.out, fun h => by cases h⟩
set_option maxRecDepth 100000 in
set_option maxHeartbeats 8000000 in
theorem rs_c16 (x : Ex) (hop : x.op = 16) (IH : ∀ y ∈ x.ks, RsC y) : RsP x (fun d k => d + 1 ≤ 64 ∧ 1 ≤ k) := by
  intro w A c d k dv kv hdv hkv hd hk hsm hln hL hC
  subst hdv
  subst hkv
  obtain ⟨o, ⟨vk, vn, vs, vt, vm⟩, nm, ks⟩ := x
  obtain ⟨hs1, hs2, hs3⟩ := hsm
  obtain ⟨hl1, hl2⟩ := hln
  have CV := Lib.hid fun W => rvsound_any ⟨vk, vn, vs, vt, vm⟩ hs1 W
  have CW := Lib.hid fun W => rword_any (bytesOf nm) (by rw [bytesOf_size]; exact hs2) W
  simp only [Val.val] at CV
  simp only [Ex.op, Ex.v, Ex.nm, Ex.ks] at hL ⊢
  have HT := Lib.hid (show rT d k (.mk o ⟨vk, vn, vs, vt, vm⟩ nm ks) = ((prtB o ⟨vk, vn, vs, vt, vm⟩ nm ks.length && okL ks) && (decide (d + (1 + dpL ks) ≤ 64) && decide (1 + szL ks ≤ k))) from by
    simp only [rT, okX, dpX, szX]
    try rfl)
  have HP := Lib.hid (show prtB o ⟨vk, vn, vs, vt, vm⟩ nm ks.length = prtV o ⟨vk, vn, vs, vt, vm⟩ (bytesOf nm) ks.length from (prtV_eq _ _ _ _).symm)
  have HI := Lib.hid fun (q : Nat) (y : Ex) (hy : ks[q]? = some y) => IH y (List.mem_of_getElem? hy)
  have HSM := Lib.hid hs3
  have HLN := Lib.hid hl2
  have HL := Lib.hid hL
  have NO := Lib.hid fun (h : prtB o ⟨vk, vn, vs, vt, vm⟩ nm ks.length = false) => rT_no (d := d) (k := k) h
  generalize hbn : bytesOf nm = bn at CW HP ⊢
  obtain ⟨n, hn⟩ : ∃ n, n = ks.length := ⟨_, rfl⟩
  rw [← hn] at hl1 HP HT NO ⊢
  have Hn := Lib.hid hn
  have hni : (n : Int) ≤ 9223372036854775807 := by omega
  have w1 : IntKind.i64.wrap ((k : Int) - 1) = (k : Int) - 1 := by rw [IntKind.wrap_i64]; omega
  have w2 : IntKind.i64.wrap ((d : Int) + 1 + 1) = (d : Int) + 1 + 1 := by rw [IntKind.wrap_i64]; omega
  clear hbn hs1 hs2 hs3 hl2 IH hL hn
  obtain rfl : o = 16 := hop
  obtain ⟨hd2, hk2⟩ : d + 1 ≤ 64 ∧ 1 ≤ k := hC
  have g1 : ¬ 64 < (d : Int) + 1 := by omega
  have g2 : ¬ (k : Int) - 1 < 0 := by omega
  have hkI : kidI 16 = 1 := rfl
  have hne1 : ¬ (16 : Int) = 1 := by decide
  have hne2 : ¬ (16 : Int) = 2 := by decide
  by_cases hn : n = 1
  · subst hn
    by_cases hb0 : bn = ⟨#[]⟩
    · subst hb0
      cases hq : veq ⟨vk, vn, vs, vt, vm⟩ ⟨0, 0, 0, ⟨#[]⟩, 0⟩ with
      | false =>
        have hF := Lib.hid (NO.out (by rw [HP.out]; unfold prtV; rw [if_neg hne1, if_neg hne2]; simp [zv, hq]))
        go_enter Tryz.func20, Tryz.ntmps20
        go_upto_region 1 with fail
        refine under_name ((Bel.refl w).alloc _) fun W1 hcc hf hz hb => ?_
        have T1 : XFree W1 w.heap.size 16 ⟨vk, vn, vs, vt, vm⟩ ⟨#[]⟩ A 1 c := by simp [XFree, ExAt, hcc, hf, hz, go_sem]
        clear hcc hf hz
        generalize w.heap.size = N at T1
        have HB0 := Lib.hid hb
        clear hb
        have L1 := Lib.hid T1
        obtain ⟨tz, ⟨t0, t1, t2, t3, t4, t5, t6, t7⟩, ⟨tf0, tf1, tf2, tf3, tf4, tf5, tf6, tf7⟩⟩ := T1
        simp only [Nat.zero_add] at t0 t1 t2 t3 t4 t5 t6 t7
        clear tf0 tf1 tf2 tf3 tf4 tf5 tf6 tf7
        go_wp2_with fail
        go_ret2
        rw [hF.out]
        exact ⟨_, rfl, HB0.out, fun h => by cases h⟩
      | true =>
        have hPT : prtV 16 ⟨vk, vn, vs, vt, vm⟩ ⟨#[]⟩ 1 = true := by unfold prtV; rw [if_neg hne1, if_neg hne2]; simp [hkI, zv, hq]
        have hT2 := Lib.hid (show rT d k (.mk 16 ⟨vk, vn, vs, vt, vm⟩ nm ks) = (okL ks && (decide (d + (1 + dpL ks) ≤ 64) && decide (1 + szL ks ≤ k))) from by rw [HT.out, HP.out, hPT, Bool.true_and])
        have hZ := Lib.hid (show szX (.mk 16 ⟨vk, vn, vs, vt, vm⟩ nm ks) = 1 + szL ks from by simp only [szX])
        clear hPT
        go_enter Tryz.func20, Tryz.ntmps20
        go_upto_region 1 with fail
        refine under_name ((Bel.refl w).alloc _) fun W1 hcc hf hz hb => ?_
        have T1 : XFree W1 w.heap.size 16 ⟨vk, vn, vs, vt, vm⟩ ⟨#[]⟩ A 1 c := by simp [XFree, ExAt, hcc, hf, hz, go_sem]
        clear hcc hf hz
        generalize w.heap.size = N at T1
        have HB0 := Lib.hid hb
        clear hb
        have L1 := Lib.hid T1
        obtain ⟨tz, ⟨t0, t1, t2, t3, t4, t5, t6, t7⟩, ⟨tf0, tf1, tf2, tf3, tf4, tf5, tf6, tf7⟩⟩ := T1
        simp only [Nat.zero_add] at t0 t1 t2 t3 t4 t5 t6 t7
        clear tf0 tf1 tf2 tf3 tf4 tf5 tf6 tf7
        go_wp2_with fail
        clear tz t0 t1 t2 t3 t4 t5 t6 t7
        go_loopg [2, 9, 10] (1 + 1) (fun g lv iv _ wr => ∃ (q : Nat) (l : Int), iv = .int .i64 q ∧ lv = .int .i64 l ∧ Hid (l = (k : Int) - 1 - szL (ks.take q)) ∧ q ≤ 1 ∧ Hid (1 + 1 - q ≤ g) ∧ Hid (∀ (i : Nat) (y : Ex), i < q → ks[i]? = some y → okX y = true ∧ d + 1 + dpX y ≤ 64) ∧ Hid (1 + szL (ks.take q) ≤ k) ∧ Hid (Bel W1 wr))
        case atStart => exact ⟨0, _, rfl, rfl, Lib.hid (by simp [szL]), Nat.zero_le _, Lib.hid (by omega), Lib.hid (fun i y h => absurd h (Nat.not_lt_zero _)), Lib.hid (by simp only [List.take_zero, szL]; omega), Lib.hid (Bel.refl _)⟩
        case round =>
          obtain ⟨q, l, rfl, rfl, hl, hq2, hg, hA, hI, hW⟩ := hrel
          obtain ⟨tz, ⟨t0, t1, t2, t3, t4, t5, t6, t7⟩, ⟨tf0, tf1, tf2, tf3, tf4, tf5, tf6, tf7⟩⟩ := L1.out.keep hW.out
          simp only [Nat.zero_add] at t0 t1 t2 t3 t4 t5 t6 t7
          clear tf0 tf1 tf2 tf3 tf4 tf5 tf6 tf7
          rcases Nat.lt_or_ge q 1 with hlt | hge
          · have hlti : (q : Int) < 1 := by omega
            have l0 : (0 : Int) ≤ (q : Int) := by omega
            obtain ⟨y, hy⟩ : ∃ y, ks[q]? = some y := ⟨ks[q]'(by have := Hn.out; omega), List.getElem?_eq_getElem _⟩
            obtain ⟨B, off, hAA, -, hBlt, A', c', hE, hLy⟩ := (HL.out.keep (HB0.out.trans hW.out)).get hy
            subst hAA
            obtain ⟨yo, ⟨yk, yn, ys, yt, ym⟩, ynm, yks⟩ := y
            have CK := HI.out q _ hy wr A' c' (d + 1) (k - 1 - szL (ks.take q)) ((d : Int) + 1 + 1) l (by omega) (by have := hl.out; have := hI.out; omega) hd2 (by omega) (smL_get HSM.out hy) (lnL_mem HLN.out (List.mem_of_getElem? hy)) hLy
            simp only [Ex.op, Ex.v, Ex.nm, Ex.ks] at hE CK
            obtain ⟨e0, e1, e2, e3, e4, e5, e6, e7⟩ := hE
            have wq : IntKind.i64.wrap ((q : Int) + 1) = ((q + 1 : Nat) : Int) := by rw [IntKind.wrap_i64]; omega
            have HGT := Lib.hid (list_get ks q _ hy)
            have HY := Lib.hid hy
            clear hy hLy hBlt
            cases hs : rT (d + 1) (k - 1 - szL (ks.take q)) (.mk yo ⟨yk, yn, ys, yt, ym⟩ ynm yks) with
            | true =>
              rw [hs] at CK
              replace CK := Lib.hid CK
              have hs2 := hs
              unfold rT at hs2
              rw [Bool.and_eq_true, Bool.and_eq_true, decide_eq_true_eq, decide_eq_true_eq] at hs2
              have HS := Lib.hid hs2
              clear hs hs2
              go_wp2_with (go_at_call 20; (with_reducible refine Calls.mono CK.out ?_); rintro ee V6 ⟨l6, rfl, hb6, hk6⟩; have hq6 := Lib.hid (hW.out.trans hb6); have hK6 := Lib.hid (hk6 rfl); clear hb6 hk6)
              go_roundg (1 + 1 - (q + 1))
              case measure => have := hg.out; omega
              case rel =>
                refine ⟨q + 1, l6, rfl, rfl, Lib.hid ?_, hlt, Lib.hid (Nat.le_refl _), Lib.hid fun i z hi hz => ?_, Lib.hid ?_, hq6⟩
                · rw [HGT.out.2.2.1]
                  have := hK6.out
                  have := HS.out.2.2
                  have := hI.out
                  omega
                · rcases Nat.lt_or_ge i q with h | h
                  · exact hA.out i z h hz
                  · obtain rfl : i = q := by omega
                    rw [HY.out] at hz
                    obtain rfl := Option.some.inj hz
                    exact ⟨HS.out.1, HS.out.2.1⟩
                · rw [HGT.out.2.2.1]
                  have := HS.out.2.2
                  have := hI.out
                  omega
            | false =>
              rw [hs] at CK
              replace CK := Lib.hid CK
              have hF := Lib.hid (show rT d k (.mk 16 ⟨vk, vn, vs, vt, vm⟩ nm ks) = false from by
                rw [hT2.out]
                cases h : (okL ks && (decide (d + (1 + dpL ks) ≤ 64) && decide (1 + szL ks ≤ k))) with
                | false => rfl
                | true =>
                  rw [Bool.and_eq_true, Bool.and_eq_true, decide_eq_true_eq, decide_eq_true_eq] at h
                  have := HGT.out
                  unfold rT at hs
                  rw [this.2.2.2 h.1, decide_eq_true (show d + 1 + dpX _ ≤ 64 from by omega), decide_eq_true (show szX _ ≤ k - 1 - szL (ks.take q) from by omega)] at hs
                  cases hs)
              clear hs
              go_wp2_with (go_at_call 20; (with_reducible refine Calls.mono CK.out ?_); rintro ee V6 ⟨l6, rfl, hb6, -⟩; have hq6 := Lib.hid (hW.out.trans hb6); clear hb6)
              go_ret2
              rw [hF.out]
              exact ⟨_, rfl, HB0.out.trans hq6.out, fun h => by cases h⟩
          · obtain rfl : q = 1 := by omega
            have htk : ks.take 1 = ks := List.take_of_length_le (by have := Hn.out; omega)
            have hF := Lib.hid (show rT d k (.mk 16 ⟨vk, vn, vs, vt, vm⟩ nm ks) = true from by
              have h4 := hI.out
              rw [htk] at h4
              have h1 : okL ks = true := okL_of ks fun i y hy => (hA.out i y (by have := (List.getElem?_eq_some_iff.1 hy).1; have := Hn.out; omega) hy).1
              have h2 : dpL ks ≤ 64 - (d + 1) := dpL_of ks _ fun i y hy => by have := (hA.out i y (by have := (List.getElem?_eq_some_iff.1 hy).1; have := Hn.out; omega) hy).2; omega
              rw [hT2.out, h1, decide_eq_true (show d + (1 + dpL ks) ≤ 64 from by omega), decide_eq_true h4]
              rfl)
            rw [htk] at hl
            clear htk
            go_wp2_with fail
            go_ret2
            rw [hF.out]
            refine ⟨_, rfl, HB0.out.trans hW.out, fun _ => ?_⟩
            rw [hZ.out, hl.out]
            omega
    · have hb1 : ¬ bn.toList = [] := fun e => hb0 ((toList_inj _ _).1 (e.trans (by rw [ByteArray.toList_eq])))
      have hb2 : bn.toList.isEmpty = false := by rw [List.isEmpty_eq_false_iff]; exact hb1
      have hF := Lib.hid (NO.out (by rw [HP.out]; unfold prtV; rw [if_neg hne1, if_neg hne2, decide_eq_false hb0]; simp))
      go_enter Tryz.func20, Tryz.ntmps20
      go_upto_region 1 with fail
      refine under_name ((Bel.refl w).alloc _) fun W1 hcc hf hz hb => ?_
      have T1 : XFree W1 w.heap.size 16 ⟨vk, vn, vs, vt, vm⟩ bn A 1 c := by simp [XFree, ExAt, hcc, hf, hz, go_sem]
      clear hcc hf hz
      generalize w.heap.size = N at T1
      have HB0 := Lib.hid hb
      clear hb
      have L1 := Lib.hid T1
      obtain ⟨tz, ⟨t0, t1, t2, t3, t4, t5, t6, t7⟩, ⟨tf0, tf1, tf2, tf3, tf4, tf5, tf6, tf7⟩⟩ := T1
      simp only [Nat.zero_add] at t0 t1 t2 t3 t4 t5 t6 t7
      clear tf0 tf1 tf2 tf3 tf4 tf5 tf6 tf7
      go_wp2_with fail
      go_ret2
      rw [hF.out]
      exact ⟨_, rfl, HB0.out, fun h => by cases h⟩
  · have hni0 : ¬ (n : Int) = 1 := by omega
    have hF := Lib.hid (NO.out (by rw [HP.out]; unfold prtV; rw [decide_eq_false (show ¬ (n : Int) = kidI 16 from by rw [hkI]; exact hni0)]; rfl))
    go_enter Tryz.func20, Tryz.ntmps20
    go_upto_region 1 with fail
    refine under_name ((Bel.refl w).alloc _) fun W1 hcc hf hz hb => ?_
    have T1 : XFree W1 w.heap.size 16 ⟨vk, vn, vs, vt, vm⟩ bn A n c := by simp [XFree, ExAt, hcc, hf, hz, go_sem]
    clear hcc hf hz
    generalize w.heap.size = N at T1
    have HB0 := Lib.hid hb
    clear hb
    have L1 := Lib.hid T1
    obtain ⟨tz, ⟨t0, t1, t2, t3, t4, t5, t6, t7⟩, ⟨tf0, tf1, tf2, tf3, tf4, tf5, tf6, tf7⟩⟩ := T1
    simp only [Nat.zero_add] at t0 t1 t2 t3 t4 t5 t6 t7
    clear tf0 tf1 tf2 tf3 tf4 tf5 tf6 tf7
    go_wp2_with fail
    go_ret2
    rw [hF.out]
    exact ⟨_, rfl, HB0.out, fun h => by cases h⟩
set_option maxRecDepth 100000 in
set_option maxHeartbeats 8000000 in
theorem rs_c17 (x : Ex) (hop : x.op = 17) (IH : ∀ y ∈ x.ks, RsC y) : RsP x (fun d k => d + 1 ≤ 64 ∧ 1 ≤ k) := by
  intro w A c d k dv kv hdv hkv hd hk hsm hln hL hC
  subst hdv
  subst hkv
  obtain ⟨o, ⟨vk, vn, vs, vt, vm⟩, nm, ks⟩ := x
  obtain ⟨hs1, hs2, hs3⟩ := hsm
  obtain ⟨hl1, hl2⟩ := hln
  have CV := Lib.hid fun W => rvsound_any ⟨vk, vn, vs, vt, vm⟩ hs1 W
  have CW := Lib.hid fun W => rword_any (bytesOf nm) (by rw [bytesOf_size]; exact hs2) W
  simp only [Val.val] at CV
  simp only [Ex.op, Ex.v, Ex.nm, Ex.ks] at hL ⊢
  have HT := Lib.hid (show rT d k (.mk o ⟨vk, vn, vs, vt, vm⟩ nm ks) = ((prtB o ⟨vk, vn, vs, vt, vm⟩ nm ks.length && okL ks) && (decide (d + (1 + dpL ks) ≤ 64) && decide (1 + szL ks ≤ k))) from by
    simp only [rT, okX, dpX, szX]
    try rfl)
  have HP := Lib.hid (show prtB o ⟨vk, vn, vs, vt, vm⟩ nm ks.length = prtV o ⟨vk, vn, vs, vt, vm⟩ (bytesOf nm) ks.length from (prtV_eq _ _ _ _).symm)
  have HI := Lib.hid fun (q : Nat) (y : Ex) (hy : ks[q]? = some y) => IH y (List.mem_of_getElem? hy)
  have HSM := Lib.hid hs3
  have HLN := Lib.hid hl2
  have HL := Lib.hid hL
  have NO := Lib.hid fun (h : prtB o ⟨vk, vn, vs, vt, vm⟩ nm ks.length = false) => rT_no (d := d) (k := k) h
  generalize hbn : bytesOf nm = bn at CW HP ⊢
  obtain ⟨n, hn⟩ : ∃ n, n = ks.length := ⟨_, rfl⟩
  rw [← hn] at hl1 HP HT NO ⊢
  have Hn := Lib.hid hn
  have hni : (n : Int) ≤ 9223372036854775807 := by omega
  have w1 : IntKind.i64.wrap ((k : Int) - 1) = (k : Int) - 1 := by rw [IntKind.wrap_i64]; omega
  have w2 : IntKind.i64.wrap ((d : Int) + 1 + 1) = (d : Int) + 1 + 1 := by rw [IntKind.wrap_i64]; omega
  clear hbn hs1 hs2 hs3 hl2 IH hL hn
  obtain rfl : o = 17 := hop
  obtain ⟨hd2, hk2⟩ : d + 1 ≤ 64 ∧ 1 ≤ k := hC
  have g1 : ¬ 64 < (d : Int) + 1 := by omega
  have g2 : ¬ (k : Int) - 1 < 0 := by omega
  have hkI : kidI 17 = 3 := rfl
  have hne1 : ¬ (17 : Int) = 1 := by decide
  have hne2 : ¬ (17 : Int) = 2 := by decide
  by_cases hn : n = 3
  · subst hn
    by_cases hb0 : bn = ⟨#[]⟩
    · subst hb0
      cases hq : veq ⟨vk, vn, vs, vt, vm⟩ ⟨0, 0, 0, ⟨#[]⟩, 0⟩ with
      | false =>
        have hF := Lib.hid (NO.out (by rw [HP.out]; unfold prtV; rw [if_neg hne1, if_neg hne2]; simp [zv, hq]))
        go_enter Tryz.func20, Tryz.ntmps20
        go_upto_region 1 with fail
        refine under_name ((Bel.refl w).alloc _) fun W1 hcc hf hz hb => ?_
        have T1 : XFree W1 w.heap.size 17 ⟨vk, vn, vs, vt, vm⟩ ⟨#[]⟩ A 3 c := by simp [XFree, ExAt, hcc, hf, hz, go_sem]
        clear hcc hf hz
        generalize w.heap.size = N at T1
        have HB0 := Lib.hid hb
        clear hb
        have L1 := Lib.hid T1
        obtain ⟨tz, ⟨t0, t1, t2, t3, t4, t5, t6, t7⟩, ⟨tf0, tf1, tf2, tf3, tf4, tf5, tf6, tf7⟩⟩ := T1
        simp only [Nat.zero_add] at t0 t1 t2 t3 t4 t5 t6 t7
        clear tf0 tf1 tf2 tf3 tf4 tf5 tf6 tf7
        go_wp2_with fail
        go_ret2
        rw [hF.out]
        exact ⟨_, rfl, HB0.out, fun h => by cases h⟩
      | true =>
        have hPT : prtV 17 ⟨vk, vn, vs, vt, vm⟩ ⟨#[]⟩ 3 = true := by unfold prtV; rw [if_neg hne1, if_neg hne2]; simp [hkI, zv, hq]
        have hT2 := Lib.hid (show rT d k (.mk 17 ⟨vk, vn, vs, vt, vm⟩ nm ks) = (okL ks && (decide (d + (1 + dpL ks) ≤ 64) && decide (1 + szL ks ≤ k))) from by rw [HT.out, HP.out, hPT, Bool.true_and])
        have hZ := Lib.hid (show szX (.mk 17 ⟨vk, vn, vs, vt, vm⟩ nm ks) = 1 + szL ks from by simp only [szX])
        clear hPT
        go_enter Tryz.func20, Tryz.ntmps20
        go_upto_region 1 with fail
        refine under_name ((Bel.refl w).alloc _) fun W1 hcc hf hz hb => ?_
        have T1 : XFree W1 w.heap.size 17 ⟨vk, vn, vs, vt, vm⟩ ⟨#[]⟩ A 3 c := by simp [XFree, ExAt, hcc, hf, hz, go_sem]
        clear hcc hf hz
        generalize w.heap.size = N at T1
        have HB0 := Lib.hid hb
        clear hb
        have L1 := Lib.hid T1
        obtain ⟨tz, ⟨t0, t1, t2, t3, t4, t5, t6, t7⟩, ⟨tf0, tf1, tf2, tf3, tf4, tf5, tf6, tf7⟩⟩ := T1
        simp only [Nat.zero_add] at t0 t1 t2 t3 t4 t5 t6 t7
        clear tf0 tf1 tf2 tf3 tf4 tf5 tf6 tf7
        go_wp2_with fail
        clear tz t0 t1 t2 t3 t4 t5 t6 t7
        go_loopg [2, 9, 10] (3 + 1) (fun g lv iv _ wr => ∃ (q : Nat) (l : Int), iv = .int .i64 q ∧ lv = .int .i64 l ∧ Hid (l = (k : Int) - 1 - szL (ks.take q)) ∧ q ≤ 3 ∧ Hid (3 + 1 - q ≤ g) ∧ Hid (∀ (i : Nat) (y : Ex), i < q → ks[i]? = some y → okX y = true ∧ d + 1 + dpX y ≤ 64) ∧ Hid (1 + szL (ks.take q) ≤ k) ∧ Hid (Bel W1 wr))
        case atStart => exact ⟨0, _, rfl, rfl, Lib.hid (by simp [szL]), Nat.zero_le _, Lib.hid (by omega), Lib.hid (fun i y h => absurd h (Nat.not_lt_zero _)), Lib.hid (by simp only [List.take_zero, szL]; omega), Lib.hid (Bel.refl _)⟩
        case round =>
          obtain ⟨q, l, rfl, rfl, hl, hq2, hg, hA, hI, hW⟩ := hrel
          obtain ⟨tz, ⟨t0, t1, t2, t3, t4, t5, t6, t7⟩, ⟨tf0, tf1, tf2, tf3, tf4, tf5, tf6, tf7⟩⟩ := L1.out.keep hW.out
          simp only [Nat.zero_add] at t0 t1 t2 t3 t4 t5 t6 t7
          clear tf0 tf1 tf2 tf3 tf4 tf5 tf6 tf7
          rcases Nat.lt_or_ge q 3 with hlt | hge
          · have hlti : (q : Int) < 3 := by omega
            have l0 : (0 : Int) ≤ (q : Int) := by omega
            obtain ⟨y, hy⟩ : ∃ y, ks[q]? = some y := ⟨ks[q]'(by have := Hn.out; omega), List.getElem?_eq_getElem _⟩
            obtain ⟨B, off, hAA, -, hBlt, A', c', hE, hLy⟩ := (HL.out.keep (HB0.out.trans hW.out)).get hy
            subst hAA
            obtain ⟨yo, ⟨yk, yn, ys, yt, ym⟩, ynm, yks⟩ := y
            have CK := HI.out q _ hy wr A' c' (d + 1) (k - 1 - szL (ks.take q)) ((d : Int) + 1 + 1) l (by omega) (by have := hl.out; have := hI.out; omega) hd2 (by omega) (smL_get HSM.out hy) (lnL_mem HLN.out (List.mem_of_getElem? hy)) hLy
            simp only [Ex.op, Ex.v, Ex.nm, Ex.ks] at hE CK
            obtain ⟨e0, e1, e2, e3, e4, e5, e6, e7⟩ := hE
            have wq : IntKind.i64.wrap ((q : Int) + 1) = ((q + 1 : Nat) : Int) := by rw [IntKind.wrap_i64]; omega
            have HGT := Lib.hid (list_get ks q _ hy)
            have HY := Lib.hid hy
            clear hy hLy hBlt
            cases hs : rT (d + 1) (k - 1 - szL (ks.take q)) (.mk yo ⟨yk, yn, ys, yt, ym⟩ ynm yks) with
            | true =>
              rw [hs] at CK
              replace CK := Lib.hid CK
              have hs2 := hs
              unfold rT at hs2
              rw [Bool.and_eq_true, Bool.and_eq_true, decide_eq_true_eq, decide_eq_true_eq] at hs2
              have HS := Lib.hid hs2
              clear hs hs2
              go_wp2_with (go_at_call 20; (with_reducible refine Calls.mono CK.out ?_); rintro ee V6 ⟨l6, rfl, hb6, hk6⟩; have hq6 := Lib.hid (hW.out.trans hb6); have hK6 := Lib.hid (hk6 rfl); clear hb6 hk6)
              go_roundg (3 + 1 - (q + 1))
              case measure => have := hg.out; omega
              case rel =>
                refine ⟨q + 1, l6, rfl, rfl, Lib.hid ?_, hlt, Lib.hid (Nat.le_refl _), Lib.hid fun i z hi hz => ?_, Lib.hid ?_, hq6⟩
                · rw [HGT.out.2.2.1]
                  have := hK6.out
                  have := HS.out.2.2
                  have := hI.out
                  omega
                · rcases Nat.lt_or_ge i q with h | h
                  · exact hA.out i z h hz
                  · obtain rfl : i = q := by omega
                    rw [HY.out] at hz
                    obtain rfl := Option.some.inj hz
                    exact ⟨HS.out.1, HS.out.2.1⟩
                · rw [HGT.out.2.2.1]
                  have := HS.out.2.2
                  have := hI.out
                  omega
            | false =>
              rw [hs] at CK
              replace CK := Lib.hid CK
              have hF := Lib.hid (show rT d k (.mk 17 ⟨vk, vn, vs, vt, vm⟩ nm ks) = false from by
                rw [hT2.out]
                cases h : (okL ks && (decide (d + (1 + dpL ks) ≤ 64) && decide (1 + szL ks ≤ k))) with
                | false => rfl
                | true =>
                  rw [Bool.and_eq_true, Bool.and_eq_true, decide_eq_true_eq, decide_eq_true_eq] at h
                  have := HGT.out
                  unfold rT at hs
                  rw [this.2.2.2 h.1, decide_eq_true (show d + 1 + dpX _ ≤ 64 from by omega), decide_eq_true (show szX _ ≤ k - 1 - szL (ks.take q) from by omega)] at hs
                  cases hs)
              clear hs
              go_wp2_with (go_at_call 20; (with_reducible refine Calls.mono CK.out ?_); rintro ee V6 ⟨l6, rfl, hb6, -⟩; have hq6 := Lib.hid (hW.out.trans hb6); clear hb6)
              go_ret2
              rw [hF.out]
              exact ⟨_, rfl, HB0.out.trans hq6.out, fun h => by cases h⟩
          · obtain rfl : q = 3 := by omega
            have htk : ks.take 3 = ks := List.take_of_length_le (by have := Hn.out; omega)
            have hF := Lib.hid (show rT d k (.mk 17 ⟨vk, vn, vs, vt, vm⟩ nm ks) = true from by
              have h4 := hI.out
              rw [htk] at h4
              have h1 : okL ks = true := okL_of ks fun i y hy => (hA.out i y (by have := (List.getElem?_eq_some_iff.1 hy).1; have := Hn.out; omega) hy).1
              have h2 : dpL ks ≤ 64 - (d + 1) := dpL_of ks _ fun i y hy => by have := (hA.out i y (by have := (List.getElem?_eq_some_iff.1 hy).1; have := Hn.out; omega) hy).2; omega
              rw [hT2.out, h1, decide_eq_true (show d + (1 + dpL ks) ≤ 64 from by omega), decide_eq_true h4]
              rfl)
            rw [htk] at hl
            clear htk
            go_wp2_with fail
            go_ret2
            rw [hF.out]
            refine ⟨_, rfl, HB0.out.trans hW.out, fun _ => ?_⟩
            rw [hZ.out, hl.out]
            omega
    · have hb1 : ¬ bn.toList = [] := fun e => hb0 ((toList_inj _ _).1 (e.trans (by rw [ByteArray.toList_eq])))
      have hb2 : bn.toList.isEmpty = false := by rw [List.isEmpty_eq_false_iff]; exact hb1
      have hF := Lib.hid (NO.out (by rw [HP.out]; unfold prtV; rw [if_neg hne1, if_neg hne2, decide_eq_false hb0]; simp))
      go_enter Tryz.func20, Tryz.ntmps20
      go_upto_region 1 with fail
      refine under_name ((Bel.refl w).alloc _) fun W1 hcc hf hz hb => ?_
      have T1 : XFree W1 w.heap.size 17 ⟨vk, vn, vs, vt, vm⟩ bn A 3 c := by simp [XFree, ExAt, hcc, hf, hz, go_sem]
      clear hcc hf hz
      generalize w.heap.size = N at T1
      have HB0 := Lib.hid hb
      clear hb
      have L1 := Lib.hid T1
      obtain ⟨tz, ⟨t0, t1, t2, t3, t4, t5, t6, t7⟩, ⟨tf0, tf1, tf2, tf3, tf4, tf5, tf6, tf7⟩⟩ := T1
      simp only [Nat.zero_add] at t0 t1 t2 t3 t4 t5 t6 t7
      clear tf0 tf1 tf2 tf3 tf4 tf5 tf6 tf7
      go_wp2_with fail
      go_ret2
      rw [hF.out]
      exact ⟨_, rfl, HB0.out, fun h => by cases h⟩
  · have hni0 : ¬ (n : Int) = 3 := by omega
    have hF := Lib.hid (NO.out (by rw [HP.out]; unfold prtV; rw [decide_eq_false (show ¬ (n : Int) = kidI 17 from by rw [hkI]; exact hni0)]; rfl))
    go_enter Tryz.func20, Tryz.ntmps20
    go_upto_region 1 with fail
    refine under_name ((Bel.refl w).alloc _) fun W1 hcc hf hz hb => ?_
    have T1 : XFree W1 w.heap.size 17 ⟨vk, vn, vs, vt, vm⟩ bn A n c := by simp [XFree, ExAt, hcc, hf, hz, go_sem]
    clear hcc hf hz
    generalize w.heap.size = N at T1
    have HB0 := Lib.hid hb
    clear hb
    have L1 := Lib.hid T1
    obtain ⟨tz, ⟨t0, t1, t2, t3, t4, t5, t6, t7⟩, ⟨tf0, tf1, tf2, tf3, tf4, tf5, tf6, tf7⟩⟩ := T1
    simp only [Nat.zero_add] at t0 t1 t2 t3 t4 t5 t6 t7
    clear tf0 tf1 tf2 tf3 tf4 tf5 tf6 tf7
    go_wp2_with fail
    go_ret2
    rw [hF.out]
    exact ⟨_, rfl, HB0.out, fun h => by cases h⟩
set_option maxRecDepth 100000 in
set_option maxHeartbeats 8000000 in
theorem rs_mid (x : Ex) (hop : 3 < x.op ∧ x.op < 16) (IH : ∀ y ∈ x.ks, RsC y) : RsP x (fun d k => d + 1 ≤ 64 ∧ 1 ≤ k) := by
  intro w A c d k dv kv hdv hkv hd hk hsm hln hL hC
  subst hdv
  subst hkv
  obtain ⟨o, ⟨vk, vn, vs, vt, vm⟩, nm, ks⟩ := x
  obtain ⟨hs1, hs2, hs3⟩ := hsm
  obtain ⟨hl1, hl2⟩ := hln
  have CV := Lib.hid fun W => rvsound_any ⟨vk, vn, vs, vt, vm⟩ hs1 W
  have CW := Lib.hid fun W => rword_any (bytesOf nm) (by rw [bytesOf_size]; exact hs2) W
  simp only [Val.val] at CV
  simp only [Ex.op, Ex.v, Ex.nm, Ex.ks] at hL ⊢
  have HT := Lib.hid (show rT d k (.mk o ⟨vk, vn, vs, vt, vm⟩ nm ks) = ((prtB o ⟨vk, vn, vs, vt, vm⟩ nm ks.length && okL ks) && (decide (d + (1 + dpL ks) ≤ 64) && decide (1 + szL ks ≤ k))) from by
    simp only [rT, okX, dpX, szX]
    try rfl)
  have HP := Lib.hid (show prtB o ⟨vk, vn, vs, vt, vm⟩ nm ks.length = prtV o ⟨vk, vn, vs, vt, vm⟩ (bytesOf nm) ks.length from (prtV_eq _ _ _ _).symm)
  have HI := Lib.hid fun (q : Nat) (y : Ex) (hy : ks[q]? = some y) => IH y (List.mem_of_getElem? hy)
  have HSM := Lib.hid hs3
  have HLN := Lib.hid hl2
  have HL := Lib.hid hL
  have NO := Lib.hid fun (h : prtB o ⟨vk, vn, vs, vt, vm⟩ nm ks.length = false) => rT_no (d := d) (k := k) h
  generalize hbn : bytesOf nm = bn at CW HP ⊢
  obtain ⟨n, hn⟩ : ∃ n, n = ks.length := ⟨_, rfl⟩
  rw [← hn] at hl1 HP HT NO ⊢
  have Hn := Lib.hid hn
  have hni : (n : Int) ≤ 9223372036854775807 := by omega
  have w1 : IntKind.i64.wrap ((k : Int) - 1) = (k : Int) - 1 := by rw [IntKind.wrap_i64]; omega
  have w2 : IntKind.i64.wrap ((d : Int) + 1 + 1) = (d : Int) + 1 + 1 := by rw [IntKind.wrap_i64]; omega
  clear hbn hs1 hs2 hs3 hl2 IH hL hn
  obtain ⟨h1, h2⟩ : 3 < o ∧ o < 16 := hop
  obtain ⟨hd2, hk2⟩ : d + 1 ≤ 64 ∧ 1 ≤ k := hC
  have g1 : ¬ 64 < (d : Int) + 1 := by omega
  have g2 : ¬ (k : Int) - 1 < 0 := by omega
  have hkI : kidI o = 2 := by unfold kidI; rw [if_neg (by omega), if_neg (by omega), if_neg (by omega), if_neg (by omega), if_neg (by omega), if_pos ⟨h1, h2⟩]
  have hne1 : ¬ o = 1 := by omega
  have hne2 : ¬ o = 2 := by omega
  have hne3 : ¬ o = 3 := by omega
  have hne16 : ¬ o = 16 := by omega
  have hne17 : ¬ o = 17 := by omega
  have hlo : ¬ o < 1 := by omega
  have hhi : ¬ 17 < o := by omega
  have he1 : (o == 1) = false := by rw [beq_eq_false_iff_ne]; omega
  have he2 : (o == 2) = false := by rw [beq_eq_false_iff_ne]; omega
  have he3 : (o == 3) = false := by rw [beq_eq_false_iff_ne]; omega
  have he16 : (o == 16) = false := by rw [beq_eq_false_iff_ne]; omega
  have he17 : (o == 17) = false := by rw [beq_eq_false_iff_ne]; omega
  have hq1 : (o != 1) = true := by rw [bne_iff_ne]; omega
  have hq2 : (o != 2) = true := by rw [bne_iff_ne]; omega
  by_cases hn : n = 2
  · subst hn
    by_cases hb0 : bn = ⟨#[]⟩
    · subst hb0
      cases hq : veq ⟨vk, vn, vs, vt, vm⟩ ⟨0, 0, 0, ⟨#[]⟩, 0⟩ with
      | false =>
        have hF := Lib.hid (NO.out (by rw [HP.out]; unfold prtV; rw [if_neg hne1, if_neg hne2]; simp [zv, hq]))
        go_enter Tryz.func20, Tryz.ntmps20
        go_upto_region 1 with fail
        refine under_name ((Bel.refl w).alloc _) fun W1 hcc hf hz hb => ?_
        have T1 : XFree W1 w.heap.size o ⟨vk, vn, vs, vt, vm⟩ ⟨#[]⟩ A 2 c := by simp [XFree, ExAt, hcc, hf, hz, go_sem]
        clear hcc hf hz
        generalize w.heap.size = N at T1
        have HB0 := Lib.hid hb
        clear hb
        have L1 := Lib.hid T1
        obtain ⟨tz, ⟨t0, t1, t2, t3, t4, t5, t6, t7⟩, ⟨tf0, tf1, tf2, tf3, tf4, tf5, tf6, tf7⟩⟩ := T1
        simp only [Nat.zero_add] at t0 t1 t2 t3 t4 t5 t6 t7
        clear tf0 tf1 tf2 tf3 tf4 tf5 tf6 tf7
        go_wp2_with fail
        go_ret2
        rw [hF.out]
        exact ⟨_, rfl, HB0.out, fun h => by cases h⟩
      | true =>
        have hPT : prtV o ⟨vk, vn, vs, vt, vm⟩ ⟨#[]⟩ 2 = true := by unfold prtV; rw [if_neg hne1, if_neg hne2]; simp [hkI, zv, hq]
        have hT2 := Lib.hid (show rT d k (.mk o ⟨vk, vn, vs, vt, vm⟩ nm ks) = (okL ks && (decide (d + (1 + dpL ks) ≤ 64) && decide (1 + szL ks ≤ k))) from by rw [HT.out, HP.out, hPT, Bool.true_and])
        have hZ := Lib.hid (show szX (.mk o ⟨vk, vn, vs, vt, vm⟩ nm ks) = 1 + szL ks from by simp only [szX])
        clear hPT
        go_enter Tryz.func20, Tryz.ntmps20
        go_upto_region 1 with fail
        refine under_name ((Bel.refl w).alloc _) fun W1 hcc hf hz hb => ?_
        have T1 : XFree W1 w.heap.size o ⟨vk, vn, vs, vt, vm⟩ ⟨#[]⟩ A 2 c := by simp [XFree, ExAt, hcc, hf, hz, go_sem]
        clear hcc hf hz
        generalize w.heap.size = N at T1
        have HB0 := Lib.hid hb
        clear hb
        have L1 := Lib.hid T1
        obtain ⟨tz, ⟨t0, t1, t2, t3, t4, t5, t6, t7⟩, ⟨tf0, tf1, tf2, tf3, tf4, tf5, tf6, tf7⟩⟩ := T1
        simp only [Nat.zero_add] at t0 t1 t2 t3 t4 t5 t6 t7
        clear tf0 tf1 tf2 tf3 tf4 tf5 tf6 tf7
        go_wp2_with fail
        clear tz t0 t1 t2 t3 t4 t5 t6 t7
        go_loopg [2, 9, 10] (2 + 1) (fun g lv iv _ wr => ∃ (q : Nat) (l : Int), iv = .int .i64 q ∧ lv = .int .i64 l ∧ Hid (l = (k : Int) - 1 - szL (ks.take q)) ∧ q ≤ 2 ∧ Hid (2 + 1 - q ≤ g) ∧ Hid (∀ (i : Nat) (y : Ex), i < q → ks[i]? = some y → okX y = true ∧ d + 1 + dpX y ≤ 64) ∧ Hid (1 + szL (ks.take q) ≤ k) ∧ Hid (Bel W1 wr))
        case atStart => exact ⟨0, _, rfl, rfl, Lib.hid (by simp [szL]), Nat.zero_le _, Lib.hid (by omega), Lib.hid (fun i y h => absurd h (Nat.not_lt_zero _)), Lib.hid (by simp only [List.take_zero, szL]; omega), Lib.hid (Bel.refl _)⟩
        case round =>
          obtain ⟨q, l, rfl, rfl, hl, hq2, hg, hA, hI, hW⟩ := hrel
          obtain ⟨tz, ⟨t0, t1, t2, t3, t4, t5, t6, t7⟩, ⟨tf0, tf1, tf2, tf3, tf4, tf5, tf6, tf7⟩⟩ := L1.out.keep hW.out
          simp only [Nat.zero_add] at t0 t1 t2 t3 t4 t5 t6 t7
          clear tf0 tf1 tf2 tf3 tf4 tf5 tf6 tf7
          rcases Nat.lt_or_ge q 2 with hlt | hge
          · have hlti : (q : Int) < 2 := by omega
            have l0 : (0 : Int) ≤ (q : Int) := by omega
            obtain ⟨y, hy⟩ : ∃ y, ks[q]? = some y := ⟨ks[q]'(by have := Hn.out; omega), List.getElem?_eq_getElem _⟩
            obtain ⟨B, off, hAA, -, hBlt, A', c', hE, hLy⟩ := (HL.out.keep (HB0.out.trans hW.out)).get hy
            subst hAA
            obtain ⟨yo, ⟨yk, yn, ys, yt, ym⟩, ynm, yks⟩ := y
            have CK := HI.out q _ hy wr A' c' (d + 1) (k - 1 - szL (ks.take q)) ((d : Int) + 1 + 1) l (by omega) (by have := hl.out; have := hI.out; omega) hd2 (by omega) (smL_get HSM.out hy) (lnL_mem HLN.out (List.mem_of_getElem? hy)) hLy
            simp only [Ex.op, Ex.v, Ex.nm, Ex.ks] at hE CK
            obtain ⟨e0, e1, e2, e3, e4, e5, e6, e7⟩ := hE
            have wq : IntKind.i64.wrap ((q : Int) + 1) = ((q + 1 : Nat) : Int) := by rw [IntKind.wrap_i64]; omega
            have HGT := Lib.hid (list_get ks q _ hy)
            have HY := Lib.hid hy
            clear hy hLy hBlt
            cases hs : rT (d + 1) (k - 1 - szL (ks.take q)) (.mk yo ⟨yk, yn, ys, yt, ym⟩ ynm yks) with
            | true =>
              rw [hs] at CK
              replace CK := Lib.hid CK
              have hs2 := hs
              unfold rT at hs2
              rw [Bool.and_eq_true, Bool.and_eq_true, decide_eq_true_eq, decide_eq_true_eq] at hs2
              have HS := Lib.hid hs2
              clear hs hs2
              go_wp2_with (go_at_call 20; (with_reducible refine Calls.mono CK.out ?_); rintro ee V6 ⟨l6, rfl, hb6, hk6⟩; have hq6 := Lib.hid (hW.out.trans hb6); have hK6 := Lib.hid (hk6 rfl); clear hb6 hk6)
              go_roundg (2 + 1 - (q + 1))
              case measure => have := hg.out; omega
              case rel =>
                refine ⟨q + 1, l6, rfl, rfl, Lib.hid ?_, hlt, Lib.hid (Nat.le_refl _), Lib.hid fun i z hi hz => ?_, Lib.hid ?_, hq6⟩
                · rw [HGT.out.2.2.1]
                  have := hK6.out
                  have := HS.out.2.2
                  have := hI.out
                  omega
                · rcases Nat.lt_or_ge i q with h | h
                  · exact hA.out i z h hz
                  · obtain rfl : i = q := by omega
                    rw [HY.out] at hz
                    obtain rfl := Option.some.inj hz
                    exact ⟨HS.out.1, HS.out.2.1⟩
                · rw [HGT.out.2.2.1]
                  have := HS.out.2.2
                  have := hI.out
                  omega
            | false =>
              rw [hs] at CK
              replace CK := Lib.hid CK
              have hF := Lib.hid (show rT d k (.mk o ⟨vk, vn, vs, vt, vm⟩ nm ks) = false from by
                rw [hT2.out]
                cases h : (okL ks && (decide (d + (1 + dpL ks) ≤ 64) && decide (1 + szL ks ≤ k))) with
                | false => rfl
                | true =>
                  rw [Bool.and_eq_true, Bool.and_eq_true, decide_eq_true_eq, decide_eq_true_eq] at h
                  have := HGT.out
                  unfold rT at hs
                  rw [this.2.2.2 h.1, decide_eq_true (show d + 1 + dpX _ ≤ 64 from by omega), decide_eq_true (show szX _ ≤ k - 1 - szL (ks.take q) from by omega)] at hs
                  cases hs)
              clear hs
              go_wp2_with (go_at_call 20; (with_reducible refine Calls.mono CK.out ?_); rintro ee V6 ⟨l6, rfl, hb6, -⟩; have hq6 := Lib.hid (hW.out.trans hb6); clear hb6)
              go_ret2
              rw [hF.out]
              exact ⟨_, rfl, HB0.out.trans hq6.out, fun h => by cases h⟩
          · obtain rfl : q = 2 := by omega
            have htk : ks.take 2 = ks := List.take_of_length_le (by have := Hn.out; omega)
            have hF := Lib.hid (show rT d k (.mk o ⟨vk, vn, vs, vt, vm⟩ nm ks) = true from by
              have h4 := hI.out
              rw [htk] at h4
              have h1 : okL ks = true := okL_of ks fun i y hy => (hA.out i y (by have := (List.getElem?_eq_some_iff.1 hy).1; have := Hn.out; omega) hy).1
              have h2 : dpL ks ≤ 64 - (d + 1) := dpL_of ks _ fun i y hy => by have := (hA.out i y (by have := (List.getElem?_eq_some_iff.1 hy).1; have := Hn.out; omega) hy).2; omega
              rw [hT2.out, h1, decide_eq_true (show d + (1 + dpL ks) ≤ 64 from by omega), decide_eq_true h4]
              rfl)
            rw [htk] at hl
            clear htk
            go_wp2_with fail
            go_ret2
            rw [hF.out]
            refine ⟨_, rfl, HB0.out.trans hW.out, fun _ => ?_⟩
            rw [hZ.out, hl.out]
            omega
    · have hb1 : ¬ bn.toList = [] := fun e => hb0 ((toList_inj _ _).1 (e.trans (by rw [ByteArray.toList_eq])))
      have hb2 : bn.toList.isEmpty = false := by rw [List.isEmpty_eq_false_iff]; exact hb1
      have hF := Lib.hid (NO.out (by rw [HP.out]; unfold prtV; rw [if_neg hne1, if_neg hne2, decide_eq_false hb0]; simp))
      go_enter Tryz.func20, Tryz.ntmps20
      go_upto_region 1 with fail
      refine under_name ((Bel.refl w).alloc _) fun W1 hcc hf hz hb => ?_
      have T1 : XFree W1 w.heap.size o ⟨vk, vn, vs, vt, vm⟩ bn A 2 c := by simp [XFree, ExAt, hcc, hf, hz, go_sem]
      clear hcc hf hz
      generalize w.heap.size = N at T1
      have HB0 := Lib.hid hb
      clear hb
      have L1 := Lib.hid T1
      obtain ⟨tz, ⟨t0, t1, t2, t3, t4, t5, t6, t7⟩, ⟨tf0, tf1, tf2, tf3, tf4, tf5, tf6, tf7⟩⟩ := T1
      simp only [Nat.zero_add] at t0 t1 t2 t3 t4 t5 t6 t7
      clear tf0 tf1 tf2 tf3 tf4 tf5 tf6 tf7
      go_wp2_with fail
      go_ret2
      rw [hF.out]
      exact ⟨_, rfl, HB0.out, fun h => by cases h⟩
  · have hni0 : ¬ (n : Int) = 2 := by omega
    have hF := Lib.hid (NO.out (by rw [HP.out]; unfold prtV; rw [decide_eq_false (show ¬ (n : Int) = kidI o from by rw [hkI]; exact hni0)]; rfl))
    go_enter Tryz.func20, Tryz.ntmps20
    go_upto_region 1 with fail
    refine under_name ((Bel.refl w).alloc _) fun W1 hcc hf hz hb => ?_
    have T1 : XFree W1 w.heap.size o ⟨vk, vn, vs, vt, vm⟩ bn A n c := by simp [XFree, ExAt, hcc, hf, hz, go_sem]
    clear hcc hf hz
    generalize w.heap.size = N at T1
    have HB0 := Lib.hid hb
    clear hb
    have L1 := Lib.hid T1
    obtain ⟨tz, ⟨t0, t1, t2, t3, t4, t5, t6, t7⟩, ⟨tf0, tf1, tf2, tf3, tf4, tf5, tf6, tf7⟩⟩ := T1
    simp only [Nat.zero_add] at t0 t1 t2 t3 t4 t5 t6 t7
    clear tf0 tf1 tf2 tf3 tf4 tf5 tf6 tf7
    go_wp2_with fail
    go_ret2
    rw [hF.out]
    exact ⟨_, rfl, HB0.out, fun h => by cases h⟩
theorem rs_step (x : Ex) (IH : ∀ y ∈ x.ks, RsC y) : RsC x := by
  intro w A c d k dv kv h1 h2 h3 h4 h5 h6 h7
  by_cases hd : d + 1 ≤ 64
  · by_cases hk : 1 ≤ k
    · rcases kids7 x.op with h | h | h | h | h | h | h
      · exact rs_c1 x h IH w A c d k dv kv h1 h2 h3 h4 h5 h6 h7 ⟨hd, hk⟩
      · exact rs_c2 x h IH w A c d k dv kv h1 h2 h3 h4 h5 h6 h7 ⟨hd, hk⟩
      · exact rs_c3 x h IH w A c d k dv kv h1 h2 h3 h4 h5 h6 h7 ⟨hd, hk⟩
      · exact rs_c16 x h IH w A c d k dv kv h1 h2 h3 h4 h5 h6 h7 ⟨hd, hk⟩
      · exact rs_c17 x h IH w A c d k dv kv h1 h2 h3 h4 h5 h6 h7 ⟨hd, hk⟩
      · exact rs_mid x h IH w A c d k dv kv h1 h2 h3 h4 h5 h6 h7 ⟨hd, hk⟩
      · exact rs_out x h IH w A c d k dv kv h1 h2 h3 h4 h5 h6 h7 ⟨hd, hk⟩
    · exact rs_nil x IH w A c d k dv kv h1 h2 h3 h4 h5 h6 h7 ⟨hd, hk⟩
  · exact rs_top x IH w A c d k dv kv h1 h2 h3 h4 h5 h6 h7 hd
theorem rs_all : ∀ x : Ex, RsC x := Ex.ind fun op v nm ks IH => rs_step (.mk op v nm ks) IH
set_option maxRecDepth 100000 in
set_option maxHeartbeats 8000000 in
theorem rxsound_any (x : Ex) (A : Option Addr) (c : Nat) (w : World) (hsm : smX x) (hln : lnX x) (hL : Lie (fun _ => True) w A x.ks) :
    Calls Tryz.prog 11 #[exV x.op x.v (bytesOf x.nm) A x.ks.length c] w fun r w' => r = .returned (.bool (sndX x)) ∧ Bel w w' := by
  have CR := Lib.hid fun W (hW : Bel w W) => rs_all x W A c 0 4096 1 4096 (by decide) rfl (by decide) (by decide) hsm hln (hL.keep hW)
  rw [rT_top] at CR
  generalize sndX x = res at CR ⊢
  obtain ⟨o, ⟨vk, vn, vs, vt, vm⟩, nm, ks⟩ := x
  simp only [Ex.op, Ex.v, Ex.nm, Ex.ks] at CR ⊢
  generalize bytesOf nm = bn at CR ⊢
  generalize ks.length = n at CR ⊢
  clear hsm hln hL
  go_enter Tryz.func11, Tryz.ntmps11
  go_upto_region 1 with fail
  refine under_name ((Bel.refl w).alloc _) fun W1 hcc hf hz hb => ?_
  have T1 : XFree W1 w.heap.size o ⟨vk, vn, vs, vt, vm⟩ bn A n c := by simp [XFree, ExAt, hcc, hf, hz, go_sem]
  clear hcc hf hz
  generalize w.heap.size = N at T1
  have HB0 := Lib.hid hb
  clear hb
  have L1 := Lib.hid T1
  obtain ⟨tz, ⟨t0, t1, t2, t3, t4, t5, t6, t7⟩, ⟨tf0, tf1, tf2, tf3, tf4, tf5, tf6, tf7⟩⟩ := T1
  simp only [Nat.zero_add] at t0 t1 t2 t3 t4 t5 t6 t7
  clear tf0 tf1 tf2 tf3 tf4 tf5 tf6 tf7
  go_wp2_with (go_at_call 20; (with_reducible refine Calls.mono (CR.out _ HB0.out) ?_); rintro ee V6 ⟨l6, rfl, hb6, -⟩; have hq6 := Lib.hid (HB0.out.trans hb6); clear hb6)
  go_ret
  exact ⟨rfl, hq6.out⟩
end Go.Proofs.YthfkbonbgdioaaaGreatDoor
