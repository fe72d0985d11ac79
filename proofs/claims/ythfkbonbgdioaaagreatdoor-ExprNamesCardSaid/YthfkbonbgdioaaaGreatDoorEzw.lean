import Derived.Test.YthfkbonbgdioaaaGreatDoorEyd
import Derived.Test.YthfkbonbgdioaaaGreatDoorEze
import Derived.Test.YthfkbonbgdioaaaGreatDoorEzd
import Derived.Laws.Cover1
namespace Go.Proofs.YthfkbonbgdioaaaGreatDoor
set_option linter.unusedSimpArgs false
set_option linter.unusedVariables false
open Go.RowKit
/-! The names in an expression: those that it was made with, rising, each once. -/
theorem srt_at {l : List ByteArray} (h : Srt l) {q : Nat} {x y : ByteArray} (hx : l[q]? = some x) (hy : l[q + 1]? = some y) : sless x y = true := by
  have h1 := (List.getElem?_eq_some_iff.1 hx)
  have h2 := (List.getElem?_eq_some_iff.1 hy)
  obtain ⟨h3, rfl⟩ := h1
  obtain ⟨h4, rfl⟩ := h2
  exact List.pairwise_iff_getElem.1 h q (q + 1) h3 h4 (Nat.lt_succ_self q)
theorem inl_snoc {l : List ByteArray} {q : Nat} {x : ByteArray} (h : l[q]? = some x) (s : ByteArray) : inl (l.take (q + 1)) s = (inl (l.take q) s || decide (x = s)) := by
  rw [List.take_add_one, h]
  simp [inl]
theorem sb_eq (b : Bool) : (b == b) = true := by cases b <;> rfl
set_option maxRecDepth 100000 in
set_option maxHeartbeats 8000000 in
theorem law_Names (x : Ex) (A : Option Addr) (c : Nat) (s : ByteArray) (w : World) (hL : Lie (fun _ => True) w A x.ks) (hsm : smX x) (hln : lnX x) (hs : s.size ≤ 9223372036854775807) (ht : Tab w) (hm : Mx w) :
    Calls Tryz.prog 6 #[exV x.op x.v (bytesOf x.nm) A x.ks.length c, .string s] w fun e w' => e = .returned (.bool true) ∧ Bel w w' := by
  have CA := Lib.hid fun W (hW : Bel w W) => awake_T W (ht.keep hW) (hm.keep hW)
  have CB := Lib.hid fun W (hW : Bel w W) => big_any x W A c 1 500 hln (hL.keep hW)
  have CN := Lib.hid fun W (hW : Bel w W) => names_any x A c W hsm (hL.keep hW)
  have CR := Lib.hid fun W (hW : Bel w W) => rxsound_any x A c W hsm hln (hL.keep hW)
  have CH := Lib.hid fun t W (hW : Bel w W) => has_any x W A c t hln (hL.keep hW)
  have HM : sndX x = true → Srt (nmeX x) ∧ (∀ s, s ∈ nmeX x ↔ s ∈ nmsX x) ∧ (nmeX x).length ≤ 4096 := fun h => by
    have e : nmeX x = sortc (nmsX x) := if_pos h
    rw [e]
    refine ⟨sortc_srt _, fun s => sortc_mem _ s, ?_⟩
    have h1 := sortc_len (nmsX x)
    have h2 := nmsX_len x
    unfold sndX at h
    rw [Bool.and_eq_true, Bool.and_eq_true, decide_eq_true_eq, decide_eq_true_eq] at h
    omega
  have HE : sndX x = false → nmeX x = [] := fun h => if_neg (by rw [h]; decide)
  generalize bgX x 1 500 = bv at CB
  obtain ⟨l, hlx⟩ : ∃ l, l = nmeX x := ⟨_, rfl⟩
  rw [← hlx] at CN HM HE
  generalize nmsX x = ns at CH HM
  generalize sndX x = sn at CR HM HE
  obtain ⟨o, ⟨vk, vn, vs, vt, vm⟩, nm, ks⟩ := x
  simp only [Ex.op, Ex.v, Ex.nm, Ex.ks] at CB CN CR CH ⊢
  obtain ⟨bn, hbn⟩ : ∃ b, b = bytesOf nm := ⟨_, rfl⟩
  obtain ⟨n, hn⟩ : ∃ n, n = ks.length := ⟨_, rfl⟩
  rw [← hbn, ← hn] at CB CN CR CH ⊢
  clear hsm hln hL ht hm hbn hn hlx
  by_cases hbv : bv < 0
  · go_enter Tryz.func6, Tryz.ntmps6
    go_upto_region 1 with fail
    refine under_name ((Bel.refl w).alloc _) fun W1 hcc hf hz hb => ?_
    have T1 : XFree W1 w.heap.size o ⟨vk, vn, vs, vt, vm⟩ bn A n c := by simp [XFree, ExAt, hcc, hf, hz, go_sem]
    clear hcc hf hz
    generalize w.heap.size = N at T1
    have HB0 := Lib.hid hb
    clear hb
    have L1 := Lib.hid T1
    have B0 := Lib.hid (Bel.refl W1)
    obtain ⟨tz, ⟨t0, t1, t2, t3, t4, t5, t6, t7⟩, ⟨tf0, tf1, tf2, tf3, tf4, tf5, tf6, tf7⟩⟩ := T1
    simp only [Nat.zero_add] at t0 t1 t2 t3 t4 t5 t6 t7
    clear tf0 tf1 tf2 tf3 tf4 tf5 tf6 tf7
    go_upto_region 2 with (go_at_call 8; (with_reducible refine Calls.mono (CB.out _ HB0.out) ?_); rintro e V1 ⟨rfl, hb1⟩; have B1 := Lib.hid (B0.out.trans hb1); clear tz t0 t1 t2 t3 t4 t5 t6 t7; obtain ⟨tz, ⟨t0, t1, t2, t3, t4, t5, t6, t7⟩, ⟨tf0, tf1, tf2, tf3, tf4, tf5, tf6, tf7⟩⟩ := L1.out.keep B1.out; simp only [Nat.zero_add] at t0 t1 t2 t3 t4 t5 t6 t7; clear tf0 tf1 tf2 tf3 tf4 tf5 tf6 tf7 hb1)
    go_wp2_with (go_at_call 9; (with_reducible refine Calls.mono (CA.out _ (HB0.out.trans B1.out)) ?_); rintro e V2 ⟨rfl, hb1⟩; have B2 := Lib.hid (B1.out.trans hb1); clear tz t0 t1 t2 t3 t4 t5 t6 t7; obtain ⟨tz, ⟨t0, t1, t2, t3, t4, t5, t6, t7⟩, ⟨tf0, tf1, tf2, tf3, tf4, tf5, tf6, tf7⟩⟩ := L1.out.keep B2.out; simp only [Nat.zero_add] at t0 t1 t2 t3 t4 t5 t6 t7; clear tf0 tf1 tf2 tf3 tf4 tf5 tf6 tf7 hb1)
    go_ret
    exact ⟨rfl, HB0.out.trans B2.out⟩
  · cases sn with
    | false =>
      have hl0 : l.length = 0 := by rw [HE rfl]; rfl
      clear HM HE
      go_enter Tryz.func6, Tryz.ntmps6
      go_upto_region 1 with fail
      refine under_name ((Bel.refl w).alloc _) fun W1 hcc hf hz hb => ?_
      have T1 : XFree W1 w.heap.size o ⟨vk, vn, vs, vt, vm⟩ bn A n c := by simp [XFree, ExAt, hcc, hf, hz, go_sem]
      clear hcc hf hz
      generalize w.heap.size = N at T1
      have HB0 := Lib.hid hb
      clear hb
      have L1 := Lib.hid T1
      have B0 := Lib.hid (Bel.refl W1)
      obtain ⟨tz, ⟨t0, t1, t2, t3, t4, t5, t6, t7⟩, ⟨tf0, tf1, tf2, tf3, tf4, tf5, tf6, tf7⟩⟩ := T1
      simp only [Nat.zero_add] at t0 t1 t2 t3 t4 t5 t6 t7
      clear tf0 tf1 tf2 tf3 tf4 tf5 tf6 tf7
      go_upto_region 3 with (go_at_call 8; (with_reducible refine Calls.mono (CB.out _ HB0.out) ?_); rintro e V1 ⟨rfl, hb1⟩; have B1 := Lib.hid (B0.out.trans hb1); clear tz t0 t1 t2 t3 t4 t5 t6 t7; obtain ⟨tz, ⟨t0, t1, t2, t3, t4, t5, t6, t7⟩, ⟨tf0, tf1, tf2, tf3, tf4, tf5, tf6, tf7⟩⟩ := L1.out.keep B1.out; simp only [Nat.zero_add] at t0 t1 t2 t3 t4 t5 t6 t7; clear tf0 tf1 tf2 tf3 tf4 tf5 tf6 tf7 hb1)
      go_upto_region 4 with (go_at_call 16; (with_reducible refine Calls.mono (CN.out _ (HB0.out.trans B1.out)) ?_); rintro e V2 ⟨A', c', rfl, hS, hlc, hb1⟩; have HS2 := Lib.hid hS; have HLC := Lib.hid hlc; have B2 := Lib.hid (B1.out.trans hb1); clear hS hlc tz t0 t1 t2 t3 t4 t5 t6 t7; obtain ⟨tz, ⟨t0, t1, t2, t3, t4, t5, t6, t7⟩, ⟨tf0, tf1, tf2, tf3, tf4, tf5, tf6, tf7⟩⟩ := L1.out.keep B2.out; simp only [Nat.zero_add] at t0 t1 t2 t3 t4 t5 t6 t7; clear tf0 tf1 tf2 tf3 tf4 tf5 tf6 tf7 hb1)
      rw [hl0] at *
      go_upto_region 5 with (go_at_call 11; (with_reducible refine Calls.mono (CR.out _ (HB0.out.trans B2.out)) ?_); rintro e V3 ⟨rfl, hb1⟩; have B3 := Lib.hid (B2.out.trans hb1); have HB23 := Lib.hid hb1; clear tz t0 t1 t2 t3 t4 t5 t6 t7; obtain ⟨tz, ⟨t0, t1, t2, t3, t4, t5, t6, t7⟩, ⟨tf0, tf1, tf2, tf3, tf4, tf5, tf6, tf7⟩⟩ := L1.out.keep B3.out; simp only [Nat.zero_add] at t0 t1 t2 t3 t4 t5 t6 t7; clear tf0 tf1 tf2 tf3 tf4 tf5 tf6 tf7 hb1)
      go_wp2_with (go_at_call 9; (with_reducible refine Calls.mono (CA.out _ (HB0.out.trans B3.out)) ?_); rintro e V4 ⟨rfl, hb1⟩; have B4 := Lib.hid (B3.out.trans hb1); clear tz t0 t1 t2 t3 t4 t5 t6 t7; obtain ⟨tz, ⟨t0, t1, t2, t3, t4, t5, t6, t7⟩, ⟨tf0, tf1, tf2, tf3, tf4, tf5, tf6, tf7⟩⟩ := L1.out.keep B4.out; simp only [Nat.zero_add] at t0 t1 t2 t3 t4 t5 t6 t7; clear tf0 tf1 tf2 tf3 tf4 tf5 tf6 tf7 hb1)
      go_ret
      exact ⟨rfl, HB0.out.trans B4.out⟩
    | true =>
      obtain ⟨hsrt, hmem, hlen⟩ := HM rfl
      have HSRT := Lib.hid hsrt
      have HMEM := Lib.hid hmem
      obtain ⟨m, hm⟩ : ∃ m, m = l.length := ⟨_, rfl⟩
      rw [← hm] at hlen
      have Hm := Lib.hid hm
      have CN := Lib.hid fun W (hW : Bel w W) => (show Calls Tryz.prog 16 _ W fun r w' => ∃ A' c', r = .returned (.slice A' m c') ∧ Strs w' A' l ∧ l.length ≤ c' ∧ Bel W w' from by rw [hm]; exact CN.out W hW)
      have mi : (m : Int) ≤ 4096 := by omega
      clear HM HE hsrt hmem hm
      go_enter Tryz.func6, Tryz.ntmps6
      go_upto_region 1 with fail
      refine under_name ((Bel.refl w).alloc _) fun W1 hcc hf hz hb => ?_
      have T1 : XFree W1 w.heap.size o ⟨vk, vn, vs, vt, vm⟩ bn A n c := by simp [XFree, ExAt, hcc, hf, hz, go_sem]
      clear hcc hf hz
      generalize w.heap.size = N at T1
      have HB0 := Lib.hid hb
      clear hb
      have L1 := Lib.hid T1
      have B0 := Lib.hid (Bel.refl W1)
      obtain ⟨tz, ⟨t0, t1, t2, t3, t4, t5, t6, t7⟩, ⟨tf0, tf1, tf2, tf3, tf4, tf5, tf6, tf7⟩⟩ := T1
      simp only [Nat.zero_add] at t0 t1 t2 t3 t4 t5 t6 t7
      clear tf0 tf1 tf2 tf3 tf4 tf5 tf6 tf7
      go_upto_region 3 with (go_at_call 8; (with_reducible refine Calls.mono (CB.out _ HB0.out) ?_); rintro e V1 ⟨rfl, hb1⟩; have B1 := Lib.hid (B0.out.trans hb1); clear tz t0 t1 t2 t3 t4 t5 t6 t7; obtain ⟨tz, ⟨t0, t1, t2, t3, t4, t5, t6, t7⟩, ⟨tf0, tf1, tf2, tf3, tf4, tf5, tf6, tf7⟩⟩ := L1.out.keep B1.out; simp only [Nat.zero_add] at t0 t1 t2 t3 t4 t5 t6 t7; clear tf0 tf1 tf2 tf3 tf4 tf5 tf6 tf7 hb1)
      go_upto_region 4 with (go_at_call 16; (with_reducible refine Calls.mono (CN.out _ (HB0.out.trans B1.out)) ?_); rintro e V2 ⟨A', c', rfl, hS, hlc, hb1⟩; have HS2 := Lib.hid hS; have HLC := Lib.hid hlc; have B2 := Lib.hid (B1.out.trans hb1); clear hS hlc tz t0 t1 t2 t3 t4 t5 t6 t7; obtain ⟨tz, ⟨t0, t1, t2, t3, t4, t5, t6, t7⟩, ⟨tf0, tf1, tf2, tf3, tf4, tf5, tf6, tf7⟩⟩ := L1.out.keep B2.out; simp only [Nat.zero_add] at t0 t1 t2 t3 t4 t5 t6 t7; clear tf0 tf1 tf2 tf3 tf4 tf5 tf6 tf7 hb1)
      go_upto_region 6 with (go_at_call 11; (with_reducible refine Calls.mono (CR.out _ (HB0.out.trans B2.out)) ?_); rintro e V3 ⟨rfl, hb1⟩; have B3 := Lib.hid (B2.out.trans hb1); have HB23 := Lib.hid hb1; clear tz t0 t1 t2 t3 t4 t5 t6 t7; obtain ⟨tz, ⟨t0, t1, t2, t3, t4, t5, t6, t7⟩, ⟨tf0, tf1, tf2, tf3, tf4, tf5, tf6, tf7⟩⟩ := L1.out.keep B3.out; simp only [Nat.zero_add] at t0 t1 t2 t3 t4 t5 t6 t7; clear tf0 tf1 tf2 tf3 tf4 tf5 tf6 tf7 hb1)
      go_upto_region 8 with fail
      have HV3 := Lib.hid (HS2.out.keep HB23.out)
      clear tz t0 t1 t2 t3 t4 t5 t6 t7
      go_loopg [6, 7] (m + 1) (fun g bv iv wr => ∃ (q : Nat), iv = .int .i64 q ∧ bv = .bool (inl (l.take q) s) ∧ q ≤ m ∧ Hid (m + 1 - q ≤ g) ∧ Hid (Bel V3 wr))
      case atStart => exact ⟨0, rfl, by simp [inl], Nat.zero_le _, Lib.hid (by omega), Lib.hid (Bel.refl _)⟩
      case round =>
        obtain ⟨q, rfl, rfl, hq, hg, hW⟩ := hrel
        have BW := Lib.hid (B3.out.trans hW.out)
        obtain ⟨tz, ⟨t0, t1, t2, t3, t4, t5, t6, t7⟩, ⟨tf0, tf1, tf2, tf3, tf4, tf5, tf6, tf7⟩⟩ := L1.out.keep BW.out
        simp only [Nat.zero_add] at t0 t1 t2 t3 t4 t5 t6 t7
        clear tf0 tf1 tf2 tf3 tf4 tf5 tf6 tf7
        rcases Nat.lt_or_ge q m with hlt | hge
        · have hlti : (q : Int) < (m : Int) := by omega
          have l0 : (0 : Int) ≤ (q : Int) := by omega
          have wq : IntKind.i64.wrap ((q : Int) + 1) = ((q + 1 : Nat) : Int) := by rw [IntKind.wrap_i64]; omega
          obtain ⟨y, hy⟩ : ∃ y, l[q]? = some y := ⟨l[q]'(by have := Hm.out; omega), List.getElem?_eq_getElem _⟩
          have hyn : y ∈ ns := (HMEM.out y).1 (List.mem_of_getElem? hy)
          obtain ⟨bb, ob, rfl, hbl, hat⟩ := (HV3.out.keep hW.out).blk (by have := Hm.out; omega)
          have k1 := hat q y hy
          have hsn := inl_snoc hy s
          have CHy := CH.out y
          rw [show inl ns y = true from (inl_iff _ _).2 hyn] at CHy
          replace CHy := Lib.hid CHy
          have HSN := Lib.hid hsn
          generalize hi : inl (l.take q) s = iq at HSN
          have hE : (y.toList == s.toList) = decide (y = s) := by
            rw [Bool.eq_iff_iff, beq_iff_eq, decide_eq_true_eq, toList_inj]
          generalize decide (y = s) = e at HSN hE
          clear hi hsn hyn
          rcases (show q = 0 ∨ ∃ p, q = p + 1 from by cases q; exact .inl rfl; exact .inr ⟨_, rfl⟩) with rfl | ⟨p, hp⟩
          · simp only [Nat.add_zero] at k1
            clear hat hy
            cases iq <;> cases e
            all_goals
              go_wp2_with fail
              refine wp_region_uni (S := (fun w' => Bel wr w' ∧ (∀ b o, b < wr.heap.size → w'.cell? ⟨b, o, none⟩ = wr.cell? ⟨b, o, none⟩))) (by kernel_rfl) (by kernel_rfl) keep0 ?_
              repeat (first | (refine wpUni_skip (by rfl) ?_; (try simp only [Act.put, List.setIfInBounds_toArray, List.set_cons_zero, List.set_cons_succ]))
                                                            | (refine wpUni_value (by rfl) (fun w hS => by (try dsimp only at hS); go_simp; first | done | with_reducible rfl) ?_; (try simp only [Act.put, List.setIfInBounds_toArray, List.set_cons_zero, List.set_cons_succ]))
                                                            | (refine wpUni_call (f := 17) (by rfl) (fun w => by go_simp; first | done | with_reducible rfl) (fun w hS => ((CHy.out w ((HB0.out.trans BW.out).trans hS.1))).mono fun e w' ⟨he, hb⟩ => ⟨he, keep1 hS hb⟩) ?_; (try simp only [Act.put, List.setIfInBounds_toArray, List.set_cons_zero, List.set_cons_succ])))
              refine wpUni_nil fun W9 hS => ?_
              have hq9 := Lib.hid (hW.out.trans hS.1)
              clear hS
              go_wp2_with fail
              go_roundg (m + 1 - (0 + 1))
              case measure => have := hg.out; omega
              case rel => exact ⟨0 + 1, by go_num, by (rw [HSN.out]) <;> rfl, hlt, Lib.hid (by omega), hq9⟩
          · obtain ⟨z, hz⟩ : ∃ z, l[p]? = some z := ⟨l[p]'(by have := Hm.out; omega), List.getElem?_eq_getElem _⟩
            have k2 := hat p z hz
            have hls : Op.bytesLess z.toList y.toList = true := srt_at HSRT.out hz (by rw [← hp]; exact hy)
            have hl1 : Op.bytesLess y.toList z.toList = false := sless_asy (a := z) (b := y) hls
            have hl2 : (y.toList == z.toList) = false := by
              rw [beq_eq_false_iff_ne]
              intro e
              rw [(toList_inj _ _).1 e] at hls
              rw [show Op.bytesLess z.toList z.toList = false from sless_irr z] at hls
              cases hls
            have wp : IntKind.i64.wrap ((q : Int) - 1) = (p : Int) := by rw [IntKind.wrap_i64]; omega
            have hqn : 0 < q := by omega
            have hqd : decide (0 < q) = true := decide_eq_true hqn
            have hp0 : (0 : Int) ≤ (p : Int) := by omega
            have hpm : (p : Int) < (m : Int) := by omega
            clear hat hy hz hp
            cases iq <;> cases e
            all_goals
              go_wp2_with fail
              refine wp_region_uni (S := (fun w' => Bel wr w' ∧ (∀ b o, b < wr.heap.size → w'.cell? ⟨b, o, none⟩ = wr.cell? ⟨b, o, none⟩))) (by kernel_rfl) (by kernel_rfl) keep0 ?_
              repeat (first | (refine wpUni_skip (by rfl) ?_; (try simp only [Act.put, List.setIfInBounds_toArray, List.set_cons_zero, List.set_cons_succ]))
                                                            | (refine wpUni_value (by rfl) (fun w hS => by (try dsimp only at hS); go_simp; first | done | with_reducible rfl) ?_; (try simp only [Act.put, List.setIfInBounds_toArray, List.set_cons_zero, List.set_cons_succ]))
                                                            | (refine wpUni_call (f := 17) (by rfl) (fun w => by go_simp; first | done | with_reducible rfl) (fun w hS => ((CHy.out w ((HB0.out.trans BW.out).trans hS.1))).mono fun e w' ⟨he, hb⟩ => ⟨he, keep1 hS hb⟩) ?_; (try simp only [Act.put, List.setIfInBounds_toArray, List.set_cons_zero, List.set_cons_succ])))
              refine wpUni_nil fun W9 hS => ?_
              have hq9 := Lib.hid (hW.out.trans hS.1)
              clear hS
              go_wp2_with fail
              go_roundg (m + 1 - (q + 1))
              case measure => have := hg.out; omega
              case rel => exact ⟨q + 1, by go_num, by (rw [HSN.out]) <;> rfl, hlt, Lib.hid (by omega), hq9⟩
        · obtain rfl : q = m := by omega
          rw [List.take_of_length_le (show l.length ≤ q from by have := Hm.out; omega)]
          have he : inl l s = inl ns s := by
            rw [Bool.eq_iff_iff, inl_iff, inl_iff]
            exact HMEM.out s
          rw [he]
          have CHs := fun W (hW : Bel w W) => CH.out s W hW
          generalize inl ns s = z at CHs ⊢
          replace CHs := Lib.hid CHs
          cases z
          all_goals
            go_wp2_with (first
              | (go_at_call 9; (with_reducible refine Calls.mono (CA.out _ (HB0.out.trans BW.out)) ?_); rintro e V5 ⟨rfl, hb1⟩; have B5 := Lib.hid (BW.out.trans hb1); clear tz t0 t1 t2 t3 t4 t5 t6 t7; obtain ⟨tz, ⟨t0, t1, t2, t3, t4, t5, t6, t7⟩, ⟨tf0, tf1, tf2, tf3, tf4, tf5, tf6, tf7⟩⟩ := L1.out.keep B5.out; simp only [Nat.zero_add] at t0 t1 t2 t3 t4 t5 t6 t7; clear tf0 tf1 tf2 tf3 tf4 tf5 tf6 tf7 hb1)
              | (go_at_call 17; (with_reducible refine Calls.mono (CHs.out _ (HB0.out.trans B5.out)) ?_); rintro e V6 ⟨rfl, hb1⟩; have B6 := Lib.hid (B5.out.trans hb1); clear tz t0 t1 t2 t3 t4 t5 t6 t7; obtain ⟨tz, ⟨t0, t1, t2, t3, t4, t5, t6, t7⟩, ⟨tf0, tf1, tf2, tf3, tf4, tf5, tf6, tf7⟩⟩ := L1.out.keep B6.out; simp only [Nat.zero_add] at t0 t1 t2 t3 t4 t5 t6 t7; clear tf0 tf1 tf2 tf3 tf4 tf5 tf6 tf7 hb1))
            go_ret
            exact ⟨rfl, HB0.out.trans B6.out⟩
end Go.Proofs.YthfkbonbgdioaaaGreatDoor
