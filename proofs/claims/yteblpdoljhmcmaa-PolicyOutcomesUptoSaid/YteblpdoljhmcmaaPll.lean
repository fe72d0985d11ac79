import Derived.Test.YteblpdoljhmcmaaPlk
namespace Go.Proofs.Yteblpdoljhmcmaa
set_option linter.unusedSimpArgs false
set_option linter.unusedVariables false
open Go.RowKit Go.Lib
attribute [local go_sem ↓] eql_val neq_val

/-! The laws of policy: First. -/
theorem Ints.keep {w w' : World} {A : Option Addr} {l : List Int} (h : Ints w A l) (hb : Bel w w') : Ints w' A l := Row.keep h hb
theorem picks_at {outs : List Val} {l : List Int} {k : Nat} {i : Int} (h : l[k]? = some i) : (picks outs l)[k]? = some (outs.getD i.toNat nul) := by
  unfold picks
  rw [List.getElem?_map, h]
  rfl
theorem hd_mem {r : List Val} (h : 0 < r.length) : hd r ∈ r := by
  cases r with
  | nil => simp at h
  | cons v l => exact List.mem_cons_self ..
theorem memV_iff {r : List Val} {v : Val} : memV r v = true ↔ v ∈ r := by
  unfold memV
  rw [List.any_eq_true]
  constructor
  · rintro ⟨u, hu, h⟩
    rw [(veq_iff _ _).1 h]
    exact hu
  · exact fun h => ⟨v, h, q_same v⟩
theorem any_mem {r o : List Val} {v : Val} (h1 : v ∈ o) (h2 : v ∈ r) : o.any (memV r) = true := by
  rw [List.any_eq_true]
  exact ⟨v, h1, memV_iff.2 h2⟩
set_option maxRecDepth 100000 in
set_option maxHeartbeats 8000000 in
theorem law_First (outs : List Val) (A : Option Addr) (c : Nat) (v : Val) (m : Int) (w : World) (hA : Vals w A outs) (lA : outs.length ≤ 9223372036854775807) (tA : ∀ v ∈ outs, v.text.size ≤ 9223372036854775807) (tv : v.text.size ≤ 9223372036854775807) (hm : 0 ≤ m ∧ m ≤ 65535) :
    Calls Try.prog 7 #[.slice A outs.length c, v.val, .int .u16 m] w fun e w' => e = .returned (.bool true) ∧ Bel w w' := by
  have C1 := Lib.hid fun W => fired_any outs.length m W (by omega) hm
  have CO := Lib.hid fun (p : Int) (l : List Int) F f W (hr : risF outs.length 0 l = true) (hl : l.length ≤ 16) (hF : Ints W F l) (hW : Bel w W) => out_any p outs A c [] none 0 v l F f W (hA.keep hW) vals_nil hF lA (by simp) (by omega) tA (by simp) tv (fun i hi => by have := risF_mem hr i hi; omega)
  have CP := Lib.hid fun (l : List Int) F f W (hr : risF outs.length 0 l = true) (hl : l.length ≤ 16) (hF : Ints W F l) (hW : Bel w W) => out_any 80 outs A c outs A c v l F f W (hA.keep hW) (hA.keep hW) hF lA lA (by omega) tA tA tv (fun i hi => by have := risF_mem hr i hi; omega)
  have C5 := Lib.hid fun W => awake_any W
  have HA := Lib.hid hA
  clear hA tA tv
  go_enter Try.func7, Try.ntmps7
  go_upto_region 2 with (go_at_call 14; refine Calls.mono (C1.out _) ?_; rintro e W1 ⟨vl, l, rfl, hl, hr, hn, hb1⟩)
  obtain ⟨F, f, rfl, hF, _⟩ := hl.ints
  have hD : Sl5 W1 w.heap.size v.kind v.n v.scale v.text v.num := (sl5_new w v.kind v.n v.scale v.text v.num).keep hb1
  replace hb1 := ((Bel.refl w).alloc _).trans hb1
  have HF := Lib.hid hF
  have HR := Lib.hid hr
  obtain ⟨q, hq⟩ : ∃ q, q = (outs.all vsnd && vsnd v) := ⟨_, rfl⟩
  have OA := Lib.hid (show ∀ p, known p = true → p ≠ 35 → outR p outs [] v l = if q = true then (if l.length = 0 then .tuple #[v.val, .int .i64 0] else .tuple #[(outF p (picks outs l) []).val, .int .i64 0]) else .tuple #[nul.val, .int .i64 2] from fun p hk h35 => by
    unfold outR outV
    rw [hr, hk, hq]
    by_cases h : (outs.all vsnd && vsnd v) = true
    · rw [if_pos h]
      simp only [List.all_nil, Bool.true_and]
      rw [h]
      simp only [Bool.and_self, Bool.true_eq_false, if_false, h35]
      by_cases h0 : l.length = 0
      · rw [if_pos h0, if_pos h0]
      · rw [if_neg h0, if_neg h0]
    · rw [if_neg h]
      simp only [List.all_nil, Bool.true_and]
      rw [Bool.not_eq_true] at h
      rw [h]; rfl)
  have OP := Lib.hid (show outR 80 outs outs v l = if q = true then (if l.length = 0 then .tuple #[v.val, .int .i64 0] else .tuple #[(prio (picks outs l) outs).val, .int .i64 0]) else .tuple #[nul.val, .int .i64 2] from by
    unfold outR outV
    rw [hr, hq]
    have e : (outs.all vsnd && (outs.all vsnd && vsnd v)) = (outs.all vsnd && vsnd v) := by rw [← Bool.and_assoc, Bool.and_self]
    rw [e]
    by_cases h : (outs.all vsnd && vsnd v) = true
    · rw [if_pos h, h]
      simp only [show known 80 = true from by decide, Bool.and_self, Bool.true_eq_false, if_false, show ¬ (80 : Int) = 35 by omega]
      by_cases h0 : l.length = 0
      · rw [if_pos h0, if_pos h0]
      · rw [if_neg h0, if_neg h0]; rfl
    · rw [if_neg h]
      rw [Bool.not_eq_true] at h
      rw [h]; rfl)
  have K70 := Lib.hid (fun W F f hF hW => CO.out 70 l F f W hr hn hF hW)
  have K80 := Lib.hid (fun W F f hF hW => CO.out 80 l F f W hr hn hF hW)
  have KP := Lib.hid (fun W F f hF hW => CP.out l F f W hr hn hF hW)
  rw [OA.out 70 (by decide) (by omega)] at K70
  rw [OA.out 80 (by decide) (by omega)] at K80
  rw [OP.out] at KP
  clear OA OP CO CP C1 hl hF
  have hli : (l.length : Int) ≤ 16 := by omega
  obtain ⟨v0, v1, v2, v3, v4⟩ := v
  generalize w.heap.size = BD at hD ⊢
  cases q with
  | false =>
    simp only [Bool.false_eq_true, if_false, Val.val, nul] at K70 K80 KP
    clear hq
    have q1 : veq ⟨0, 0, 0, ⟨#[]⟩, 0⟩ ⟨0, 0, 0, ⟨#[]⟩, 0⟩ = true := q_same _
    go_wp2_with (first
      | (go_at_call 9; with_reducible refine Calls.mono (K70.out _ F f HF.out hb1) ?_; rintro e W2 ⟨rfl, hb2⟩; replace hD := hD.keep hb2; have d2 : ¬ BD = W2.heap.size := (by have := hD.1; omega))
      | (go_at_call 9; with_reducible refine Calls.mono (K80.out _ F f (HF.out.keep (hb2.alloc _)) (hb1.trans (hb2.alloc _))) ?_; rintro e W3 ⟨rfl, hb3⟩; have S1 := (sl5_new W2 0 0 0 ⟨#[]⟩ 0).keep hb3; replace hD := hD.keep (((Bel.refl W2).alloc _).trans hb3); have d3 : ¬ BD = W3.heap.size := (by have := hD.1; omega); replace hb3 := (hb2.alloc _).trans hb3)
      | (go_at_call 9; with_reducible refine Calls.mono (KP.out _ F f (HF.out.keep (hb3.alloc _)) (hb1.trans (hb3.alloc _))) ?_; rintro e W4 ⟨rfl, hb4⟩; have S2 := (sl5_new W3 0 0 0 ⟨#[]⟩ 0).keep hb4; replace S1 := S1.keep (((Bel.refl W3).alloc _).trans hb4); replace hb4 := (hb3.alloc _).trans hb4)
      | (go_at_call 11; with_reducible refine Calls.mono (C5.out _) ?_; rintro e W5 ⟨rfl, hb5⟩; have S3 := (sl5_new W4 0 0 0 ⟨#[]⟩ 0).keep hb5; replace S1 := S1.keep (((Bel.refl W4).alloc _).trans hb5); replace S2 := S2.keep (((Bel.refl W4).alloc _).trans hb5); replace hb5 := (hb4.alloc _).trans hb5))
    go_ret
    exact ⟨by simp [q1], hb1.trans hb5⟩
  | true =>
    by_cases hl0 : l.length = 0
    · rw [hl0] at K70 K80 KP ⊢
      simp only [if_true, Val.val] at K70 K80 KP
      clear hq
      have q1 : veq ⟨v0, v1, v2, v3, v4⟩ ⟨v0, v1, v2, v3, v4⟩ = true := q_same _
      go_wp2_with (first
        | (go_at_call 9; with_reducible refine Calls.mono (K70.out _ F f HF.out hb1) ?_; rintro e W2 ⟨rfl, hb2⟩; replace hD := hD.keep hb2; have d2 : ¬ BD = W2.heap.size := (by have := hD.1; omega))
        | (go_at_call 9; with_reducible refine Calls.mono (K80.out _ F f (HF.out.keep (hb2.alloc _)) (hb1.trans (hb2.alloc _))) ?_; rintro e W3 ⟨rfl, hb3⟩; have S1 := (sl5_new W2 v0 v1 v2 v3 v4).keep hb3; replace hD := hD.keep (((Bel.refl W2).alloc _).trans hb3); have d3 : ¬ BD = W3.heap.size := (by have := hD.1; omega); replace hb3 := (hb2.alloc _).trans hb3)
        | (go_at_call 9; with_reducible refine Calls.mono (KP.out _ F f (HF.out.keep (hb3.alloc _)) (hb1.trans (hb3.alloc _))) ?_; rintro e W4 ⟨rfl, hb4⟩; have S2 := (sl5_new W3 v0 v1 v2 v3 v4).keep hb4; replace S1 := S1.keep (((Bel.refl W3).alloc _).trans hb4); replace hb4 := (hb3.alloc _).trans hb4)
        | (go_at_call 11; with_reducible refine Calls.mono (C5.out _) ?_; rintro e W5 ⟨rfl, hb5⟩; have S3 := (sl5_new W4 v0 v1 v2 v3 v4).keep hb5; replace S1 := S1.keep (((Bel.refl W4).alloc _).trans hb5); replace S2 := S2.keep (((Bel.refl W4).alloc _).trans hb5); replace hb5 := (hb4.alloc _).trans hb5))
      go_ret
      exact ⟨by simp [q1], hb1.trans hb5⟩
    · have el0 : ((l.length : Int) == 0) = false := beq_eq_false_iff_ne.2 (by omega)
      simp only [if_true, if_neg hl0, Val.val] at K70 K80 KP
      have HM := Lib.hid (show (outs.any (memV (picks outs l))) = true from any_mem (v := hd (picks outs l)) (picks_mem hr (fun v hv => hv) _ (hd_mem (by unfold picks; rw [List.length_map]; omega))) (hd_mem (by unfold picks; rw [List.length_map]; omega)))
      have PR := Lib.hid (show ∃ PV, PV = prio (picks outs l) outs from ⟨_, rfl⟩)
      obtain ⟨PV, hPV⟩ := PR.out
      rw [← hPV] at KP
      have PR := Lib.hid hPV
      have HH := Lib.hid (show ∃ h, h = hd (picks outs l) from ⟨_, rfl⟩)
      obtain ⟨HV, hHV⟩ := HH.out
      rw [show outF 70 (picks outs l) [] = HV from hHV.symm] at K70
      rw [show outF 80 (picks outs l) [] = HV from hHV.symm] at K80
      have PIK := Lib.hid (show ∀ (k : Nat) (i : Int), l[k]? = some i → (picks outs l)[k]? = some (outs.getD i.toNat nul) ∧ 0 ≤ i ∧ i < outs.length from fun k i h => ⟨picks_at h, (risF_mem hr i (List.mem_of_getElem? h))⟩)
      have PLN := Lib.hid (show (picks outs l).length = l.length from by unfold picks; rw [List.length_map])
      generalize picks outs l = r at *
      obtain ⟨h0, h1, h2, h3, h4⟩ := HV
      obtain ⟨p0, p1, p2, p3, p4⟩ := PV
      simp only at K70 K80 KP
      clear hq hPV hHV HH hr
      have q1 : veq ⟨h0, h1, h2, h3, h4⟩ ⟨h0, h1, h2, h3, h4⟩ = true := q_same _
      go_wp2_with (first
        | (go_at_call 9; with_reducible refine Calls.mono (K70.out _ F f HF.out hb1) ?_; rintro e W2 ⟨rfl, hb2⟩; replace hD := hD.keep hb2; have d2 : ¬ BD = W2.heap.size := (by have := hD.1; omega))
        | (go_at_call 9; with_reducible refine Calls.mono (K80.out _ F f (HF.out.keep (hb2.alloc _)) (hb1.trans (hb2.alloc _))) ?_; rintro e W3 ⟨rfl, hb3⟩; have S1 := (sl5_new W2 h0 h1 h2 h3 h4).keep hb3; replace hD := hD.keep (((Bel.refl W2).alloc _).trans hb3); have d3 : ¬ BD = W3.heap.size := (by have := hD.1; omega); replace hb3 := (hb2.alloc _).trans hb3)
        | (go_at_call 9; with_reducible refine Calls.mono (KP.out _ F f (HF.out.keep (hb3.alloc _)) (hb1.trans (hb3.alloc _))) ?_; rintro e W4 ⟨rfl, hb4⟩; have S2 := (sl5_new W3 h0 h1 h2 h3 h4).keep hb4; replace S1 := S1.keep (((Bel.refl W3).alloc _).trans hb4); replace hb4 := (hb3.alloc _).trans hb4)
        | (go_at_call 11; with_reducible refine Calls.mono (C5.out _) ?_; rintro e W5 ⟨rfl, hb5⟩; have S3 := (sl5_new W4 p0 p1 p2 p3 p4).keep hb5; replace S1 := S1.keep (((Bel.refl W4).alloc _).trans hb5); replace S2 := S2.keep (((Bel.refl W4).alloc _).trans hb5); replace hb5 := (hb4.alloc _).trans hb5))
      obtain ⟨s10, ⟨s11, s12, s13, s14, s15⟩, _⟩ := S3
      clear S1 S2 hD
      go_loopg [14] outs.length (fun g s14 wr => ∃ i : Nat, s14 = .int .i64 i ∧ i ≤ outs.length ∧ Hid (g = outs.length - i ∧ ⟨p0, p1, p2, p3, p4⟩ = prio r (outs.drop i) ∧ (outs.drop i).any (memV r) = true) ∧ Bel W5 wr)
      case atStart => exact ⟨0, rfl, Nat.zero_le _, ⟨rfl, PR.out, HM.out⟩, Bel.refl _⟩
      case round =>
        obtain ⟨i, rfl, hi, hh, hb⟩ := hrel
        have hbw := hb5.trans hb
        by_cases hp : i < outs.length
        · obtain ⟨ab, ao, rfl, alt, aat⟩ := HA.out (by omega)
          obtain ⟨x, hxk⟩ : ∃ x, outs[i]? = some x := ⟨_, List.getElem?_eq_getElem hp⟩
          have hdr : outs.drop i = x :: outs.drop (i + 1) := by rw [List.drop_eq_getElem_cons hp]; simp [List.getElem?_eq_getElem hp] at hxk; rw [hxk]
          have hx := (aat i x hxk).keep (hb1.trans hbw) alt
          have PX := Lib.hid (show memV r x = true → (⟨p0, p1, p2, p3, p4⟩ : Val) = x from fun h => by rw [hh.out.2.1, hdr]; simp [prio, h])
          have PN := Lib.hid (show memV r x = false → (⟨p0, p1, p2, p3, p4⟩ : Val) = prio r (outs.drop (i + 1)) ∧ (outs.drop (i + 1)).any (memV r) = true from fun h => by
            have e1 := hh.out.2.1
            have e2 := hh.out.2.2
            rw [hdr] at e1 e2
            exact ⟨by rw [e1]; simp [prio, h], by simpa [h] using e2⟩)
          have IX := Lib.hid hx
          have i1 : (i : Int) < outs.length := by omega
          have i0 : (0 : Int) ≤ (i : Int) := by omega
          obtain ⟨x0, x1, x2, x3, x4⟩ := x
          clear hdr hxk hx
          go_wp2_with fail
          go_loopg [15] l.length (fun g s15 wr2 => ∃ k : Nat, s15 = .int .i64 k ∧ k ≤ l.length ∧ Hid (g = l.length - k ∧ ∀ (j : Nat) (u : Val), j < k → r[j]? = some u → veq ⟨x0, x1, x2, x3, x4⟩ u = false) ∧ Bel wr wr2)
          case atStart => exact ⟨0, rfl, Nat.zero_le _, ⟨rfl, fun j u h => absurd h (Nat.not_lt_zero _)⟩, Bel.refl _⟩
          case round =>
            obtain ⟨k, rfl, hk, hh2, hb2'⟩ := hrel
            have hbx := hbw.trans hb2'
            by_cases hkp : k < l.length
            · have hln : 0 < (nums l).length := by rw [show (nums l).length = l.length by simp [nums]]; omega
              obtain ⟨fb, fo, rfl, flt, fat⟩ := HF.out hln
              obtain ⟨n, hik⟩ : ∃ n, l[k]? = some n := ⟨_, List.getElem?_eq_getElem hkp⟩
              have hfa := (hbx.cells _ _ flt).trans (fat k _ (show (nums l)[k]? = some (.int .i64 n) by simp [nums, hik]))
              obtain ⟨hrk, n0, n1⟩ := PIK.out k n hik
              obtain ⟨m', rfl⟩ : ∃ m' : Nat, n = m' := ⟨n.toNat, by omega⟩
              have hml : m' < outs.length := by omega
              obtain ⟨u, huk⟩ : ∃ u, outs[m']? = some u := ⟨_, List.getElem?_eq_getElem hml⟩
              have hru : r[k]? = some u := by rw [hrk]; simp [huk]
              have hua := (aat m' u huk).keep (hb1.trans hbx) alt
              have hx2 := IX.out.keep hb2' (Nat.lt_of_lt_of_le alt (hb1.trans hbw).size)
              have lt1 := Nat.lt_of_lt_of_le flt hbx.size
              have lt2 := Nat.lt_of_lt_of_le alt (hb1.trans hbx).size
              have k1 : (k : Int) < l.length := by omega
              have k0 : (0 : Int) ≤ (k : Int) := by omega
              have m1 : (m' : Int) < outs.length := by omega
              have m0 : (0 : Int) ≤ (m' : Int) := by omega
              have GE := Lib.hid (show veq u ⟨x0, x1, x2, x3, x4⟩ = true → memV r ⟨x0, x1, x2, x3, x4⟩ = true from fun h => memV_iff.2 (by rw [← (veq_iff _ _).1 h]; exact List.mem_of_getElem? hru))
              have GN := Lib.hid (show veq u ⟨x0, x1, x2, x3, x4⟩ = false → ∀ (j : Nat) (u' : Val), j < k + 1 → r[j]? = some u' → veq ⟨x0, x1, x2, x3, x4⟩ u' = false from fun h j u' hj hu' => by
                by_cases e : j = k
                · subst e
                  rw [hru] at hu'
                  cases hu'
                  cases hq : veq ⟨x0, x1, x2, x3, x4⟩ u with
                  | false => rfl
                  | true => rw [← (veq_iff _ _).1 hq, q_same] at h; cases h
                · exact hh2.out.2 j u' (by omega) hu')
              have t1 := (hb.trans hb2').cells W4.heap.size 0 s10
              have t2 := (hb.trans hb2').cells W4.heap.size 1 s10
              have t3 := (hb.trans hb2').cells W4.heap.size 2 s10
              have t4 := (hb.trans hb2').cells W4.heap.size 3 s10
              have t5 := (hb.trans hb2').cells W4.heap.size 4 s10
              rw [s11] at t1
              rw [s12] at t2
              rw [s13] at t3
              rw [s14] at t4
              rw [s15] at t5
              have t0 := Nat.lt_of_lt_of_le s10 (hb.trans hb2').size
              obtain ⟨u0, u1, u2, u3, u4⟩ := u
              obtain ⟨a0, a1, a2, a3, a4⟩ := hua
              obtain ⟨y0, y1, y2, y3, y4⟩ := hx2
              generalize hq : veq ⟨u0, u1, u2, u3, u4⟩ ⟨x0, x1, x2, x3, x4⟩ = qq at GE GN
              clear fat hik hrk n0 n1 huk hru s11 s12 s13 s14 s15
              cases qq with
              | true =>
                have PX := Lib.hid (PX.out (GE.out rfl))
                have q5 : veq ⟨p0, p1, p2, p3, p4⟩ ⟨x0, x1, x2, x3, x4⟩ = true := (veq_iff _ _).2 PX.out
                clear PX GE GN PN
                go_wp2_with fail
                refine wp_region_uni (S := (fun w' => Bel wr w' ∧ (∀ b o, b < wr.heap.size → w'.cell? ⟨b, o, none⟩ = wr.cell? ⟨b, o, none⟩))) (by kernel_rfl) (by kernel_rfl) keep0 ?_
                repeat (first | (refine wpUni_skip (by rfl) ?_; (try simp only [Act.put, List.setIfInBounds_toArray, List.set_cons_zero, List.set_cons_succ]))
                                                            | (refine wpUni_value (by rfl) (fun w hS => by (try dsimp only at hS); go_simp; first | done | with_reducible rfl) ?_; (try simp only [Act.put, List.setIfInBounds_toArray, List.set_cons_zero, List.set_cons_succ])))
                refine wpUni_nil fun X1 hS => ?_
                replace hbx := hbx.trans hS.1
                have tX : ∀ b o, b < wr.heap.size → X1.cell? ⟨b, o, none⟩ = wr.cell? ⟨b, o, none⟩ := hS.2
                rw [← tX _ _ t0] at t1 t2 t3 t4 t5
                rw [← tX _ _ lt2] at y0 y1 y2 y3 y4
                have t0' := Nat.lt_of_lt_of_le t0 hS.1.size
                have lt2' := Nat.lt_of_lt_of_le lt2 hS.1.size
                clear hS tX a0 a1 a2 a3 a4 hfa
                go_wp2_with fail
                refine wp_region_uni (S := (fun w' => Bel X1 w' ∧ (∀ b o, b < X1.heap.size → w'.cell? ⟨b, o, none⟩ = X1.cell? ⟨b, o, none⟩))) (by kernel_rfl) (by kernel_rfl) keep0 ?_
                repeat (first | (refine wpUni_skip (by rfl) ?_; (try simp only [Act.put, List.setIfInBounds_toArray, List.set_cons_zero, List.set_cons_succ]))
                                                            | (refine wpUni_value (by rfl) (fun w hS => by (try dsimp only at hS); go_simp; first | done | with_reducible rfl) ?_; (try simp only [Act.put, List.setIfInBounds_toArray, List.set_cons_zero, List.set_cons_succ])))
                refine wpUni_nil fun X2 hS => ?_
                replace hbx := hbx.trans hS.1
                clear hS
                go_wp2_with fail
                go_ret
                exact ⟨by simp [q5], hb1.trans hbx⟩
              | false =>
                go_wp2_with fail
                refine wp_region_uni (S := (fun w' => Bel wr w' ∧ (∀ b o, b < wr.heap.size → w'.cell? ⟨b, o, none⟩ = wr.cell? ⟨b, o, none⟩))) (by kernel_rfl) (by kernel_rfl) keep0 ?_
                repeat (first | (refine wpUni_skip (by rfl) ?_; (try simp only [Act.put, List.setIfInBounds_toArray, List.set_cons_zero, List.set_cons_succ]))
                                                            | (refine wpUni_value (by rfl) (fun w hS => by (try dsimp only at hS); go_simp; first | done | with_reducible rfl) ?_; (try simp only [Act.put, List.setIfInBounds_toArray, List.set_cons_zero, List.set_cons_succ])))
                refine wpUni_nil fun X1 hS => ?_
                replace hb2' := hb2'.trans hS.1
                clear hS
                go_wp2_with fail
                go_roundg (l.length - (k + 1))
                case measure => have := hh2.out.1; omega
                case rel => exact ⟨k + 1, by go_num, by omega, ⟨rfl, GN.out (by trivial)⟩, hb2'⟩
            · obtain rfl : k = l.length := by omega
              have NM := Lib.hid (show memV r ⟨x0, x1, x2, x3, x4⟩ = false from by
                cases hq : memV r ⟨x0, x1, x2, x3, x4⟩ with
                | false => rfl
                | true =>
                  unfold memV at hq
                  rw [List.any_eq_true] at hq
                  obtain ⟨u, hu, hv⟩ := hq
                  obtain ⟨j, hj, rfl⟩ := List.getElem_of_mem hu
                  rw [hh2.out.2 j _ (by rw [← PLN.out]; exact hj) (List.getElem?_eq_getElem hj)] at hv
                  cases hv)
              have PN := Lib.hid (PN.out NM.out)
              go_wp2_with fail
              go_roundg (outs.length - (i + 1))
              case measure => have := hh.out.1; omega
              case rel => exact ⟨i + 1, by go_num, by omega, ⟨rfl, PN.out.1, PN.out.2⟩, hb.trans hb2'⟩
        · exfalso
          have e := hh.out.2.2
          rw [List.drop_eq_nil_of_le (by omega)] at e
          cases e
end Go.Proofs.Yteblpdoljhmcmaa
