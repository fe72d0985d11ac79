import Derived.Test.YtladmlnopbnlgaaDoorVdh
namespace Go.Proofs.YtladmlnopbnlgaaDoor
set_option linter.unusedSimpArgs false
set_option linter.unusedVariables false
open Go.RowKit
attribute [local go_sem ↓] eql_val neq_val

/-! Values as texts. -/
theorem tabY {w : World} (h : Tab w) : Tab_Y w := h
theorem qt_same : ∀ l : List UInt8, (∀ c ∈ l, c ≠ 34 ∧ c ≠ 92) → qtL l = l
  | [], _ => rfl
  | c :: l, h => by
    show qtB c ++ qtL l = c :: l
    have h1 := h c (by simp)
    rw [qt_same l (fun x hx => h x (by simp [hx]))]
    unfold qtB
    rw [if_neg (by rintro (e | e); exact h1.1 e; exact h1.2 e)]
    rfl
theorem dgt_ne (n k : Nat) : dgt_Y n k ≠ 34 ∧ dgt_Y n k ≠ 92 := by
  have h : (dgt_Y n k).toNat = 48 + n / k % 10 := by
    unfold dgt_Y
    rw [UInt8.toNat_ofNat']
    omega
  refine ⟨fun e => ?_, fun e => ?_⟩
  · rw [e] at h
    have : (34 : UInt8).toNat = 34 := rfl
    omega
  · rw [e] at h
    have : (92 : UInt8).toNat = 92 := rfl
    omega
theorem dtx_quo (n : Int) : quoL (dtx n).data.toList = [34] ++ (dtx n).data.toList ++ [34] := by
  unfold quoL
  rw [qt_same]
  intro c hc
  have hc' : c ∈ [dgt_Y (dY n).toNat 1000, dgt_Y (dY n).toNat 100, dgt_Y (dY n).toNat 10, dgt_Y (dY n).toNat 1, 45, dgt_Y (dM n).toNat 10, dgt_Y (dM n).toNat 1, 45, dgt_Y (dD n).toNat 10, dgt_Y (dD n).toNat 1] := hc
  simp only [List.mem_cons, List.not_mem_nil, or_false] at hc'
  rcases hc' with rfl | rfl | rfl | rfl | rfl | rfl | rfl | rfl | rfl | rfl
  all_goals first | exact dgt_ne _ _ | decide
theorem dtx_size (n : Int) : (dtx n).size = 10 := rfl
noncomputable def vtx (v : Val) : ByteArray :=
  if v.kind = 1 then ⟨(txtL (decide (v.n < 0)) v.n.natAbs v.scale.toNat).toArray⟩
  else if v.kind = 2 then ⟨(quoL v.text.data.toList).toArray⟩
  else if v.kind = 3 then (if v.num = 1 then ⟨#[116, 114, 117, 101]⟩ else ⟨#[102, 97, 108, 115, 101]⟩)
  else if v.kind = 4 then ⟨([64] ++ quoL (dtx v.num).data.toList).toArray⟩
  else ⟨#[110, 117, 108, 108]⟩
theorem vtx3 (n s m : Int) (t : ByteArray) : vtx ⟨3, n, s, t, m⟩ = if m = 1 then ⟨#[116, 114, 117, 101]⟩ else ⟨#[102, 97, 108, 115, 101]⟩ := rfl
noncomputable def vtxV (v : Val) : Value := if vsnd v = true then .tuple #[.string (vtx v), .int .i64 0] else .tuple #[.string ⟨#[]⟩, .int .i64 2]
theorem textV_ok {n s : Int} (h : SndD n s) : textV n s = .tuple #[.string ⟨(txtL (decide (n < 0)) n.natAbs s.toNat).toArray⟩, .int .i64 0] := if_pos h
theorem textY_ok {n : Int} (h : 0 ≤ n ∧ n ≤ 3652058) : textV_Y n = .tuple #[.string (dtx n), .int .i64 0] := if_pos h
theorem vs_day {n s m : Int} {t : ByteArray} (h : vsnd ⟨4, n, s, t, m⟩ = true) : 0 ≤ m ∧ m ≤ 3652058 := by
  rw [vs4] at h
  simp only [Bool.and_eq_true, beq_iff_eq, decide_eq_true_eq] at h
  exact ⟨h.2.2.2.1, h.2.2.2.2⟩
set_option maxRecDepth 100000 in
set_option maxHeartbeats 4000000 in
theorem vtext_any (v : Val) (hv : v.text.size ≤ 9223372036854775807) (w : World) (ht : Tab w) (hm : Mx w) : Calls Tryd.prog 14 #[v.val] w fun e w' => e = .returned (vtxV v) ∧ Bel w w' := by
  have sn := fun w => vsound_any v hv w
  have SN := Lib.hid sn
  clear sn
  have HT := Lib.hid ht
  have HM := Lib.hid hm
  clear ht hm
  cases hs : vsnd v with
  | false =>
    have L := Lib.hid (show vtxV v = .tuple #[.string ⟨#[]⟩, .int .i64 2] from if_neg (by rw [hs]; decide))
    have HS := Lib.hid hs
    obtain ⟨k, n, s, t, m⟩ := v
    clear hs hv
    go_enter Tryd.func14, Tryd.ntmps14
    go_wp2_with (first
      | (go_at_call 8; refine (SN.out _).mono ?_; rintro e W1 ⟨rfl, hb1⟩; rw [HS.out]; obtain ⟨hc, hf⟩ := bcell hb1; have hz0 := Bel.lt1 hb1))
    go_ret2
    exact ⟨by (rw [L.out]) <;> rfl, ((Bel.refl _).alloc _).trans hb1⟩
  | true =>
    have L0 : vtxV v = .tuple #[.string (vtx v), .int .i64 0] := if_pos hs
    have HS := Lib.hid hs
    obtain ⟨k, n, s, t, m⟩ := v
    by_cases h1 : k = 1
    · subst h1
      have hx : vtx ⟨1, n, s, t, m⟩ = ⟨(txtL (decide (n < 0)) n.natAbs s.toNat).toArray⟩ := rfl
      rw [hx] at L0
      obtain ⟨q, hq⟩ : ∃ q : ByteArray, q = ⟨(txtL (decide (n < 0)) n.natAbs s.toNat).toArray⟩ := ⟨_, rfl⟩
      rw [← hq] at L0
      have hd := vs_dec hs
      have C := Lib.hid (show ∀ w, Tab w → Calls Tryd.prog 23 #[.agg #[.int .i64 n, .int .i64 s]] w fun e w' => e = .returned (.tuple #[.string q, .int .i64 0]) ∧ Bel w w' from fun w ht => by
        have h := text_any n s w ht
        rw [textV_ok hd, ← hq] at h
        exact h)
      have L := Lib.hid L0
      clear hx hq hd L0 hs hv
      go_enter Tryd.func14, Tryd.ntmps14
      go_wp2_with (first
        | (go_at_call 8; refine (SN.out _).mono ?_; rintro e W1 ⟨rfl, hb1⟩; rw [HS.out]; obtain ⟨hc, hf⟩ := bcell hb1; have hz0 := Bel.lt1 hb1)
        | (go_at_call 23; refine (C.out _ (HT.out.keep (((Bel.refl _).alloc _).trans hb1))).mono ?_; rintro e W2 ⟨rfl, hb2⟩))
      go_ret2
      exact ⟨by (rw [L.out]) <;> rfl, (((Bel.refl _).alloc _).trans hb1).trans hb2⟩
    · have k1 : (k == 1) = false := by rw [beq_eq_false_iff_ne]; exact h1
      by_cases h2 : k = 2
      · subst h2
        have hx : vtx ⟨2, n, s, t, m⟩ = ⟨(quoL t.data.toList).toArray⟩ := rfl
        rw [hx] at L0
        obtain ⟨q, hq⟩ : ∃ q : ByteArray, q = ⟨(quoL t.data.toList).toArray⟩ := ⟨_, rfl⟩
        rw [← hq] at L0
        have hd := (vs_text hs).2.2.2.1
        have C := Lib.hid (show ∀ w, Mx w → Calls Tryd.prog 24 #[.string t] w fun e w' => e = .returned (.string q) ∧ Bel w w' from fun w hm => by rw [hq]; exact quoted_any t hd w hm)
        have L := Lib.hid L0
        clear hx hq hd L0 hs hv h1 k1
        go_enter Tryd.func14, Tryd.ntmps14
        go_wp2_with (first
          | (go_at_call 8; refine (SN.out _).mono ?_; rintro e W1 ⟨rfl, hb1⟩; rw [HS.out]; obtain ⟨hc, hf⟩ := bcell hb1; have hz0 := Bel.lt1 hb1)
          | (go_at_call 24; refine (C.out _ (HM.out.keep (((Bel.refl _).alloc _).trans hb1))).mono ?_; rintro e W2 ⟨rfl, hb2⟩))
        go_ret2
        exact ⟨by (rw [L.out]) <;> rfl, (((Bel.refl _).alloc _).trans hb1).trans hb2⟩
      · have k2 : (k == 2) = false := by rw [beq_eq_false_iff_ne]; exact h2
        by_cases h3 : k = 3
        · subst h3
          by_cases hm1 : m = 1
          · subst hm1
            have L := Lib.hid (show vtxV ⟨3, n, s, t, 1⟩ = .tuple #[.string ⟨#[116, 114, 117, 101]⟩, .int .i64 0] from L0)
            clear L0 hs hv h1 h2 k1 k2
            go_enter Tryd.func14, Tryd.ntmps14
            go_wp2_with (first
              | (go_at_call 8; refine (SN.out _).mono ?_; rintro e W1 ⟨rfl, hb1⟩; rw [HS.out]; obtain ⟨hc, hf⟩ := bcell hb1; have hz0 := Bel.lt1 hb1))
            go_ret2
            exact ⟨by (rw [L.out]) <;> rfl, ((Bel.refl _).alloc _).trans hb1⟩
          · have L := Lib.hid (show vtxV ⟨3, n, s, t, m⟩ = .tuple #[.string ⟨#[102, 97, 108, 115, 101]⟩, .int .i64 0] by rw [L0, vtx3, if_neg hm1])
            have km : (m == 1) = false := by rw [beq_eq_false_iff_ne]; exact hm1
            clear L0 hs hv h1 h2 k1 k2 hm1
            go_enter Tryd.func14, Tryd.ntmps14
            go_wp2_with (first
              | (go_at_call 8; refine (SN.out _).mono ?_; rintro e W1 ⟨rfl, hb1⟩; rw [HS.out]; obtain ⟨hc, hf⟩ := bcell hb1; have hz0 := Bel.lt1 hb1))
            go_ret2
            exact ⟨by (rw [L.out]) <;> rfl, ((Bel.refl _).alloc _).trans hb1⟩
        · have k3 : (k == 3) = false := by rw [beq_eq_false_iff_ne]; exact h3
          by_cases h4 : k = 4
          · subst h4
            have hx : vtx ⟨4, n, s, t, m⟩ = ⟨([64] ++ quoL (dtx m).data.toList).toArray⟩ := rfl
            have hsz := dtx_size m
            have hqs : (quoL (dtx m).data.toList).length = 12 := by
              rw [dtx_quo]
              rfl
            have hdd := vs_day hs
            obtain ⟨d, hd⟩ : ∃ d, d = dtx m := ⟨_, rfl⟩
            rw [← hd] at hx hsz
            have C := Lib.hid (show ∀ w, Tab w → Calls Tryd.prog 25 #[.int .i64 m] w fun e w' => e = .returned (.tuple #[.string d, .int .i64 0]) ∧ Bel w w' from fun w ht => by
              have h := text_any_Y m w (tabY ht)
              rw [textY_ok hdd, ← hd] at h
              exact h)
            obtain ⟨q, hq⟩ : ∃ q : ByteArray, q = ⟨(quoL d.data.toList).toArray⟩ := ⟨_, rfl⟩
            have hqz : (q.size : Int) ≤ 12 := by
              rw [hq, bsize, hd, hqs]; decide
            have D := Lib.hid (show ∀ w, Mx w → Calls Tryd.prog 24 #[.string d] w fun e w' => e = .returned (.string q) ∧ Bel w w' from fun w hm => by rw [hq]; exact quoted_any d (by omega) w hm)
            have L := Lib.hid (show vtxV ⟨4, n, s, t, m⟩ = .tuple #[.string (⟨#[64]⟩ ++ q), .int .i64 0] by
              rw [L0, hx, hq]
              exact congrArg (fun z => Value.tuple #[.string z, .int .i64 0]) (app_b [64] _).symm)
            clear L0 hs hv h1 h2 h3 k1 k2 k3 hx hsz hqs hdd hd hq
            go_enter Tryd.func14, Tryd.ntmps14
            go_wp2_with (first
              | (go_at_call 8; refine (SN.out _).mono ?_; rintro e W1 ⟨rfl, hb1⟩; rw [HS.out]; obtain ⟨hc, hf⟩ := bcell hb1; have hz0 := Bel.lt1 hb1)
              | (go_at_call 25; refine (C.out _ (HT.out.keep (((Bel.refl _).alloc _).trans hb1))).mono ?_; rintro e W2 ⟨rfl, hb2⟩)
              | (go_at_call 24; refine (D.out _ (HM.out.keep ((((Bel.refl _).alloc _).trans hb1).trans hb2))).mono ?_; rintro e W3 ⟨rfl, hb3⟩))
            go_ret2
            exact ⟨by (rw [L.out]) <;> rfl, ((((Bel.refl _).alloc _).trans hb1).trans hb2).trans hb3⟩
          · have k4 : (k == 4) = false := by rw [beq_eq_false_iff_ne]; exact h4
            have L := Lib.hid (show vtxV ⟨k, n, s, t, m⟩ = .tuple #[.string ⟨#[110, 117, 108, 108]⟩, .int .i64 0] by rw [L0]; unfold vtx; rw [if_neg h1, if_neg h2, if_neg h3, if_neg h4])
            clear L0 hs hv h1 h2 h3 h4
            go_enter Tryd.func14, Tryd.ntmps14
            go_wp2_with (first
              | (go_at_call 8; refine (SN.out _).mono ?_; rintro e W1 ⟨rfl, hb1⟩; rw [HS.out]; obtain ⟨hc, hf⟩ := bcell hb1; have hz0 := Bel.lt1 hb1))
            go_ret2
            exact ⟨by (rw [L.out]) <;> rfl, ((Bel.refl _).alloc _).trans hb1⟩
set_option maxRecDepth 100000 in
set_option maxHeartbeats 4000000 in
theorem rvtext_any (v : Val) (hv : v.text.size ≤ 9223372036854775807) (w : World) : Calls Tryd.prog 15 #[v.val] w fun e w' => e = .returned (vtxV v) ∧ Bel w w' := by
  have sn := fun w => rvsound_any v hv w
  have SN := Lib.hid sn
  clear sn
  cases hs : vsnd v with
  | false =>
    have L := Lib.hid (show vtxV v = .tuple #[.string ⟨#[]⟩, .int .i64 2] from if_neg (by rw [hs]; decide))
    have HS := Lib.hid hs
    obtain ⟨k, n, s, t, m⟩ := v
    clear hs hv
    go_enter Tryd.func15, Tryd.ntmps15
    go_wp2_with (first
      | (go_at_call 9; refine (SN.out _).mono ?_; rintro e W1 ⟨rfl, hb1⟩; rw [HS.out]; obtain ⟨hc, hf⟩ := bcell hb1; have hz0 := Bel.lt1 hb1))
    go_ret2
    exact ⟨by (rw [L.out]) <;> rfl, ((Bel.refl _).alloc _).trans hb1⟩
  | true =>
    have L0 : vtxV v = .tuple #[.string (vtx v), .int .i64 0] := if_pos hs
    have HS := Lib.hid hs
    obtain ⟨k, n, s, t, m⟩ := v
    by_cases h1 : k = 1
    · subst h1
      have hx : vtx ⟨1, n, s, t, m⟩ = ⟨(txtL (decide (n < 0)) n.natAbs s.toNat).toArray⟩ := rfl
      rw [hx] at L0
      obtain ⟨q, hq⟩ : ∃ q : ByteArray, q = ⟨(txtL (decide (n < 0)) n.natAbs s.toNat).toArray⟩ := ⟨_, rfl⟩
      rw [← hq] at L0
      have hd := vs_dec hs
      have C := Lib.hid (show ∀ w, Calls Tryd.prog 26 #[.agg #[.int .i64 n, .int .i64 s]] w fun e w' => e = .returned (.tuple #[.string q, .int .i64 0]) ∧ Bel w w' from fun w => by
        have h := rtext_any n s w
        rw [textV_ok hd, ← hq] at h
        exact h)
      have L := Lib.hid L0
      clear hx hq hd L0 hs hv
      go_enter Tryd.func15, Tryd.ntmps15
      go_wp2_with (first
        | (go_at_call 9; refine (SN.out _).mono ?_; rintro e W1 ⟨rfl, hb1⟩; rw [HS.out]; obtain ⟨hc, hf⟩ := bcell hb1; have hz0 := Bel.lt1 hb1)
        | (go_at_call 26; refine (C.out _).mono ?_; rintro e W2 ⟨rfl, hb2⟩))
      go_ret2
      exact ⟨by (rw [L.out]) <;> rfl, (((Bel.refl _).alloc _).trans hb1).trans hb2⟩
    · have k1 : (k == 1) = false := by rw [beq_eq_false_iff_ne]; exact h1
      by_cases h2 : k = 2
      · subst h2
        have hx : vtx ⟨2, n, s, t, m⟩ = ⟨(quoL t.data.toList).toArray⟩ := rfl
        rw [hx] at L0
        obtain ⟨q, hq⟩ : ∃ q : ByteArray, q = ⟨(quoL t.data.toList).toArray⟩ := ⟨_, rfl⟩
        rw [← hq] at L0
        have hd := (vs_text hs).2.2.2.1
        have C := Lib.hid (show ∀ w, Calls Tryd.prog 27 #[.string t] w fun e w' => e = .returned (.string q) ∧ w' = w from fun w => by rw [hq]; exact rquoted_any t hd w)
        have L := Lib.hid L0
        clear hx hq hd L0 hs hv h1 k1
        go_enter Tryd.func15, Tryd.ntmps15
        go_wp2_with (first
          | (go_at_call 9; refine (SN.out _).mono ?_; rintro e W1 ⟨rfl, hb1⟩; rw [HS.out]; obtain ⟨hc, hf⟩ := bcell hb1; have hz0 := Bel.lt1 hb1)
          | (go_at_call 27; refine (C.out _).mono ?_; rintro e W2 ⟨rfl, rfl⟩))
        go_ret2
        exact ⟨by (rw [L.out]) <;> rfl, ((Bel.refl _).alloc _).trans hb1⟩
      · have k2 : (k == 2) = false := by rw [beq_eq_false_iff_ne]; exact h2
        by_cases h3 : k = 3
        · subst h3
          by_cases hm1 : m = 1
          · subst hm1
            have L := Lib.hid (show vtxV ⟨3, n, s, t, 1⟩ = .tuple #[.string ⟨#[116, 114, 117, 101]⟩, .int .i64 0] from L0)
            clear L0 hs hv h1 h2 k1 k2
            go_enter Tryd.func15, Tryd.ntmps15
            go_wp2_with (first
              | (go_at_call 9; refine (SN.out _).mono ?_; rintro e W1 ⟨rfl, hb1⟩; rw [HS.out]; obtain ⟨hc, hf⟩ := bcell hb1; have hz0 := Bel.lt1 hb1))
            go_ret2
            exact ⟨by (rw [L.out]) <;> rfl, ((Bel.refl _).alloc _).trans hb1⟩
          · have L := Lib.hid (show vtxV ⟨3, n, s, t, m⟩ = .tuple #[.string ⟨#[102, 97, 108, 115, 101]⟩, .int .i64 0] by rw [L0, vtx3, if_neg hm1])
            have km : (m == 1) = false := by rw [beq_eq_false_iff_ne]; exact hm1
            clear L0 hs hv h1 h2 k1 k2 hm1
            go_enter Tryd.func15, Tryd.ntmps15
            go_wp2_with (first
              | (go_at_call 9; refine (SN.out _).mono ?_; rintro e W1 ⟨rfl, hb1⟩; rw [HS.out]; obtain ⟨hc, hf⟩ := bcell hb1; have hz0 := Bel.lt1 hb1))
            go_ret2
            exact ⟨by (rw [L.out]) <;> rfl, ((Bel.refl _).alloc _).trans hb1⟩
        · have k3 : (k == 3) = false := by rw [beq_eq_false_iff_ne]; exact h3
          by_cases h4 : k = 4
          · subst h4
            have hx : vtx ⟨4, n, s, t, m⟩ = ⟨([64] ++ quoL (dtx m).data.toList).toArray⟩ := rfl
            have hsz := dtx_size m
            have hqs : (quoL (dtx m).data.toList).length = 12 := by
              rw [dtx_quo]
              rfl
            have hdd := vs_day hs
            obtain ⟨d, hd⟩ : ∃ d, d = dtx m := ⟨_, rfl⟩
            rw [← hd] at hx hsz
            have C := Lib.hid (show ∀ w, Calls Tryd.prog 28 #[.int .i64 m] w fun e w' => e = .returned (.tuple #[.string d, .int .i64 0]) ∧ Bel w w' from fun w => by
              have h := rtext_any_Y m w
              rw [textY_ok hdd, ← hd] at h
              exact h)
            have hdz : (d.size : Int) ≤ 10 := by omega
            have L := Lib.hid (show vtxV ⟨4, n, s, t, m⟩ = .tuple #[.string (⟨#[64, 34]⟩ ++ d ++ ⟨#[34]⟩), .int .i64 0] by
              rw [L0, hx, hd, dtx_quo]
              have h2 : ∀ b : ByteArray, b = ⟨b.data.toList.toArray⟩ := fun b => by obtain ⟨⟨l⟩⟩ := b; rfl
              conv => rhs; rw [h2 (dtx m)]
              exact congrArg (fun z => Value.tuple #[.string z, .int .i64 0]) (((congrArg (· ++ (⟨[34].toArray⟩ : ByteArray)) (app_b [64, 34] _)).trans (app_b _ [34])).trans (by simp)).symm)
            clear L0 hs hv h1 h2 h3 k1 k2 k3 hx hsz hqs hdd hd
            go_enter Tryd.func15, Tryd.ntmps15
            go_wp2_with (first
              | (go_at_call 9; refine (SN.out _).mono ?_; rintro e W1 ⟨rfl, hb1⟩; rw [HS.out]; obtain ⟨hc, hf⟩ := bcell hb1; have hz0 := Bel.lt1 hb1)
              | (go_at_call 28; refine (C.out _).mono ?_; rintro e W2 ⟨rfl, hb2⟩))
            go_ret2
            exact ⟨by (rw [L.out]) <;> rfl, (((Bel.refl _).alloc _).trans hb1).trans hb2⟩
          · have k4 : (k == 4) = false := by rw [beq_eq_false_iff_ne]; exact h4
            have L := Lib.hid (show vtxV ⟨k, n, s, t, m⟩ = .tuple #[.string ⟨#[110, 117, 108, 108]⟩, .int .i64 0] by rw [L0]; unfold vtx; rw [if_neg h1, if_neg h2, if_neg h3, if_neg h4])
            clear L0 hs hv h1 h2 h3 h4
            go_enter Tryd.func15, Tryd.ntmps15
            go_wp2_with (first
              | (go_at_call 9; refine (SN.out _).mono ?_; rintro e W1 ⟨rfl, hb1⟩; rw [HS.out]; obtain ⟨hc, hf⟩ := bcell hb1; have hz0 := Bel.lt1 hb1))
            go_ret2
            exact ⟨by (rw [L.out]) <;> rfl, ((Bel.refl _).alloc _).trans hb1⟩
end Go.Proofs.YtladmlnopbnlgaaDoor
