import Derived.Test.YtladmlnopbnlgaaDoorVdi
namespace Go.Proofs.YtladmlnopbnlgaaDoor
set_option linter.unusedSimpArgs false
set_option linter.unusedVariables false
open Go.RowKit
attribute [local go_sem ↓] eql_val neq_val

/-! Values: the simplest facts; the laws Sounds, Compares, Texts. -/
set_option maxRecDepth 100000 in
set_option maxHeartbeats 4000000 in
theorem awake_V (w : World) (ht : Tab w) (hm : Mx w) : Calls Tryd.prog 7 #[] w fun e w' => e = .returned (.bool true) ∧ Bel w w' := by
  have T1 := Lib.hid (show ∀ w, Tab w → Mx w → Calls Tryd.prog 14 #[.agg #[.int .i64 2, .int .i64 0, .int .i64 0, .string ⟨#[97, 34, 98]⟩, .int .i64 0]] w fun e w' => e = .returned (.tuple #[.string ⟨#[34, 97, 92, 34, 98, 34]⟩, .int .i64 0]) ∧ Bel w w' from fun w ht hm => by
    have h := vtext_any ⟨2, 0, 0, ⟨#[97, 34, 98]⟩, 0⟩ (by decide) w ht hm
    have e : vtxV ⟨2, 0, 0, ⟨#[97, 34, 98]⟩, 0⟩ = .tuple #[.string ⟨#[34, 97, 92, 34, 98, 34]⟩, .int .i64 0] := by
      have h1 : vsnd ⟨2, 0, 0, ⟨#[97, 34, 98]⟩, 0⟩ = true := by decide +kernel
      rw [vtxV, if_pos h1]
      have h2 : vtx ⟨2, 0, 0, ⟨#[97, 34, 98]⟩, 0⟩ = ⟨(quoL [97, 34, 98]).toArray⟩ := rfl
      rw [h2]
      rfl
    rw [e] at h
    exact h)
  have C1 := Lib.hid (show ∀ w, Calls Tryd.prog 12 #[.agg #[.int .i64 0, .int .i64 0, .int .i64 0, .string ⟨#[]⟩, .int .i64 0], .agg #[.int .i64 3, .int .i64 0, .int .i64 0, .string ⟨#[]⟩, .int .i64 0]] w fun e w' => e = .returned (.tuple #[.int .i64 (-1), .int .i64 0]) ∧ Bel w w' from fun w => by
    have h := vcompare_any ⟨0, 0, 0, ⟨#[]⟩, 0⟩ ⟨3, 0, 0, ⟨#[]⟩, 0⟩ (by decide) (by decide) w
    have e : vcmpV ⟨0, 0, 0, ⟨#[]⟩, 0⟩ ⟨3, 0, 0, ⟨#[]⟩, 0⟩ = .tuple #[.int .i64 (-1), .int .i64 0] := by
      rw [vcmpV, if_pos ⟨by decide +kernel, by decide +kernel⟩]
      rfl
    rw [e] at h
    exact h)
  have S1 := Lib.hid (show ∀ w, Calls Tryd.prog 8 #[.agg #[.int .i64 4, .int .i64 0, .int .i64 0, .string ⟨#[]⟩, .int .i64 5]] w fun e w' => e = .returned (.bool true) ∧ Bel w w' from fun w => by
    have h := vsound_any ⟨4, 0, 0, ⟨#[]⟩, 5⟩ (by decide) w
    rw [show vsnd ⟨4, 0, 0, ⟨#[]⟩, 5⟩ = true by decide +kernel] at h
    exact h)
  have HT := Lib.hid ht
  have HM := Lib.hid hm
  clear ht hm
  go_enter Tryd.func7, Tryd.ntmps7
  go_wp2_with (first
    | (go_at_call 14; refine (T1.out _ HT.out HM.out).mono ?_; rintro e V1 ⟨rfl, b1⟩)
    | (go_at_call 12; refine (C1.out _).mono ?_; rintro e V2 ⟨rfl, b2⟩)
    | (go_at_call 8; refine (S1.out _).mono ?_; rintro e V3 ⟨rfl, b3⟩))
  go_ret
  exact ⟨rfl, (b1.trans b2).trans b3⟩
set_option maxRecDepth 100000 in
set_option maxHeartbeats 4000000 in
theorem law_Sounds (v : Val) (kind scale : Int) (hv : v.text.size ≤ 9223372036854775807) (w : World) (ht : Tab w) (hm : Mx w) : Calls Tryd.prog 3 #[v.val, .int .i64 kind, .int .i64 scale] w fun e w' => e = .returned (.bool true) ∧ Bel w w' := by
  have c1 := fun w => vsound_any v hv w
  have c2 := fun w => rvsound_any v hv w
  have c3 := fun w => vfits_any v kind scale hv w
  have c4 := fun w => rvfits_any v kind scale hv w
  obtain ⟨q, hq⟩ : ∃ q, q = vsnd v := ⟨_, rfl⟩
  obtain ⟨f, hf⟩ : ∃ f, f = vfit v kind scale := ⟨_, rfl⟩
  rw [← hq] at c1 c2
  rw [← hf] at c3 c4
  have C1 := Lib.hid c1
  have C2 := Lib.hid c2
  have C3 := Lib.hid c3
  have C4 := Lib.hid c4
  have HT := Lib.hid ht
  have HM := Lib.hid hm
  obtain ⟨k, n, s, t, m⟩ := v
  clear c1 c2 c3 c4 hq hf hv ht hm
  go_enter Tryd.func3, Tryd.ntmps3
  go_wp2_with fail
  refine under_name ((Bel.refl w).alloc _) fun W hc hf hz hb => ?_
  have hA : ValAt W w.heap.size 0 ⟨k, n, s, t, m⟩ := by simp [ValAt, hc, go_sem]
  have hlt : w.heap.size < W.heap.size := by rw [hz]; simp
  have HTW := Lib.hid (HT.out.keep hb)
  have HMW := Lib.hid (HM.out.keep hb)
  clear hc hf hz
  refine wp_region_uni (S := (fun w' => Bel W w' ∧ (∀ b o, b < W.heap.size → w'.cell? ⟨b, o, none⟩ = W.cell? ⟨b, o, none⟩))) (by kernel_rfl) (by kernel_rfl) keep0 ?_
  repeat (first | (refine wpUni_skip (by rfl) ?_; (try simp only [Act.put, List.setIfInBounds_toArray, List.set_cons_zero, List.set_cons_succ]))
                                                            | (refine wpUni_value (by rfl) (fun w hS => by (try dsimp only at hS); go_simp; first | done | with_reducible rfl) ?_; (try simp only [Act.put, List.setIfInBounds_toArray, List.set_cons_zero, List.set_cons_succ]))
                                                            | (refine wpUni_call (f := 7) (by rfl) (fun w => by go_simp; first | done | with_reducible rfl) (fun w hS => (awake_V w (HTW.out.keep hS.1) (HMW.out.keep hS.1)).mono fun e w' ⟨he, hb⟩ => ⟨he, keep1 hS hb⟩) ?_; (try simp only [Act.put, List.setIfInBounds_toArray, List.set_cons_zero, List.set_cons_succ]))
                                                            | (refine wpUni_call (f := 8) (by rfl) (fun w => by go_simp; first | done | with_reducible rfl) (fun w hS => (C1.out w).mono fun e w' ⟨he, hb⟩ => ⟨he, keep1 hS hb⟩) ?_; (try simp only [Act.put, List.setIfInBounds_toArray, List.set_cons_zero, List.set_cons_succ]))
                                                            | (refine wpUni_call (f := 9) (by rfl) (fun w => by go_simp; first | done | with_reducible rfl) (fun w hS => (C2.out w).mono fun e w' ⟨he, hb⟩ => ⟨he, keep1 hS hb⟩) ?_; (try simp only [Act.put, List.setIfInBounds_toArray, List.set_cons_zero, List.set_cons_succ]))
                                                            | (refine wpUni_call (f := 10) (by rfl) (fun w => by go_simp; first | done | with_reducible rfl) (fun w hS => (C3.out w).mono fun e w' ⟨he, hb⟩ => ⟨he, keep1 hS hb⟩) ?_; (try simp only [Act.put, List.setIfInBounds_toArray, List.set_cons_zero, List.set_cons_succ]))
                                                            | (refine wpUni_call (f := 11) (by rfl) (fun w => by go_simp; first | done | with_reducible rfl) (fun w hS => (C4.out w).mono fun e w' ⟨he, hb⟩ => ⟨he, keep1 hS hb⟩) ?_; (try simp only [Act.put, List.setIfInBounds_toArray, List.set_cons_zero, List.set_cons_succ])))
  refine wpUni_nil fun W1 hS => ?_
  have hb1 := hb.trans hS.1
  clear hS
  go_wp2
  go_ret
  exact ⟨rfl, hb1⟩
set_option maxRecDepth 100000 in
set_option maxHeartbeats 4000000 in
theorem law_Compares (a b : Val) (ha : a.text.size ≤ 9223372036854775807) (hb : b.text.size ≤ 9223372036854775807) (w : World) (ht : Tab w) (hm : Mx w) : Calls Tryd.prog 4 #[a.val, b.val] w fun e w' => e = .returned (.bool true) ∧ Bel w w' := by
  have hcv : ∃ n e : Int, vcmpV a b = .tuple #[.int .i64 n, .int .i64 e] := by
    unfold vcmpV
    split
    · exact ⟨_, _, rfl⟩
    · exact ⟨_, _, rfl⟩
  obtain ⟨n0, e0, hne⟩ := hcv
  have c1 := fun w => vcompare_any a b ha hb w
  have c2 := fun w => rvcompare_any a b ha hb w
  rw [hne] at c1 c2
  have C1 := Lib.hid c1
  have C2 := Lib.hid c2
  have HT := Lib.hid ht
  have HM := Lib.hid hm
  obtain ⟨k, n, s, t, m⟩ := a
  obtain ⟨k', n', s', t', m'⟩ := b
  clear c1 c2 ha hb ht hm hne
  go_enter Tryd.func4, Tryd.ntmps4
  go_wp2_with (first
    | (go_at_call 12; refine (C1.out _).mono ?_; rintro e V1 ⟨rfl, b1⟩; obtain ⟨hc, hf⟩ := bcell b1)
    | (go_at_call 13; refine (C2.out _).mono ?_; rintro e V2 ⟨rfl, b2⟩)
    | (go_at_call 7; refine (awake_V _ (HT.out.keep (((((Bel.refl _).alloc _).alloc _).trans b1).trans b2)) (HM.out.keep (((((Bel.refl _).alloc _).alloc _).trans b1).trans b2))).mono ?_; rintro e V0 ⟨rfl, b0⟩))
  go_ret
  exact ⟨rfl, (((((Bel.refl _).alloc _).alloc _).trans b1).trans b2).trans b0⟩
set_option maxRecDepth 100000 in
set_option maxHeartbeats 4000000 in
theorem law_Texts (v : Val) (hv : v.text.size ≤ 9223372036854775807) (w : World) (ht : Tab w) (hm : Mx w) : Calls Tryd.prog 5 #[v.val] w fun e w' => e = .returned (.bool true) ∧ Bel w w' := by
  have hcv : ∃ (x : ByteArray) (e : Int), vtxV v = .tuple #[.string x, .int .i64 e] := by
    unfold vtxV
    split
    · exact ⟨_, _, rfl⟩
    · exact ⟨_, _, rfl⟩
  obtain ⟨x0, e0, hne⟩ := hcv
  have c1 := fun w ht hm => vtext_any v hv w ht hm
  have c2 := fun w => rvtext_any v hv w
  rw [hne] at c1 c2
  have C1 := Lib.hid c1
  have C2 := Lib.hid c2
  have HT := Lib.hid ht
  have HM := Lib.hid hm
  obtain ⟨k, n, s, t, m⟩ := v
  clear c1 c2 hv ht hm hne
  go_enter Tryd.func5, Tryd.ntmps5
  go_wp2_with (first
    | (go_at_call 14; refine (C1.out _ (HT.out.keep ((Bel.refl _).alloc _)) (HM.out.keep ((Bel.refl _).alloc _))).mono ?_; rintro e V1 ⟨rfl, b1⟩; obtain ⟨hc, hf⟩ := bcell b1)
    | (go_at_call 15; refine (C2.out _).mono ?_; rintro e V2 ⟨rfl, b2⟩)
    | (go_at_call 7; refine (awake_V _ (HT.out.keep ((((Bel.refl _).alloc _).trans b1).trans b2)) (HM.out.keep ((((Bel.refl _).alloc _).trans b1).trans b2))).mono ?_; rintro e V0 ⟨rfl, b0⟩))
  go_ret
  exact ⟨rfl, ((((Bel.refl _).alloc _).trans b1).trans b2).trans b0⟩
end Go.Proofs.YtladmlnopbnlgaaDoor
