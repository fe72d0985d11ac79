import Derived.Test.YtladmlnopbnlgaaDoorVdc
namespace Go.Proofs.YtladmlnopbnlgaaDoor
set_option linter.unusedSimpArgs false
set_option linter.unusedVariables false
open Go.RowKit
attribute [local go_sem ↓] eql_val neq_val

/-! Values: the document's sound ones; whether one fits. -/
theorem bcell {W w1 : World} (hb : Bel W w1) : (∀ b o, b < W.heap.size → w1.cell? ⟨b, o, none⟩ = W.cell? ⟨b, o, none⟩) ∧ (∀ b o, b < W.heap.size → w1.frozen? ⟨b, o, none⟩ = W.frozen? ⟨b, o, none⟩) :=
  ⟨hb.cells, hb.frozens⟩
theorem empty_iff (t : ByteArray) : t.toList.isEmpty = true ↔ t = ⟨#[]⟩ := by
  rw [List.isEmpty_iff, ByteArray.toList_eq]
  constructor
  · intro h
    obtain ⟨⟨l⟩⟩ := t
    simp at h
    rw [h]
  · rintro rfl; rfl
theorem veq0 (k n s m : Int) (t : ByteArray) : veq ⟨k, n, s, t, m⟩ ⟨k, 0, 0, ⟨#[]⟩, 0⟩ = ((n == 0) && ((s == 0) && (t.toList.isEmpty && (m == 0)))) := by
  rw [Bool.eq_iff_iff, veq_iff]
  simp only [Val.mk.injEq, Bool.and_eq_true, beq_iff_eq, empty_iff, true_and]
theorem veq1 (k n s m : Int) (t : ByteArray) : veq ⟨k, n, s, t, m⟩ ⟨k, n, s, ⟨#[]⟩, 0⟩ = (t.toList.isEmpty && (m == 0)) := by
  rw [Bool.eq_iff_iff, veq_iff]
  simp only [Val.mk.injEq, Bool.and_eq_true, beq_iff_eq, empty_iff, true_and]
theorem veq2 (k n s m : Int) (t : ByteArray) : veq ⟨k, n, s, t, m⟩ ⟨k, 0, 0, t, 0⟩ = ((n == 0) && ((s == 0) && (m == 0))) := by
  rw [Bool.eq_iff_iff, veq_iff]
  simp only [Val.mk.injEq, Bool.and_eq_true, beq_iff_eq, true_and]
theorem veq3 (k n s m : Int) (t : ByteArray) : veq ⟨k, n, s, t, m⟩ ⟨k, 0, 0, ⟨#[]⟩, m⟩ = ((n == 0) && ((s == 0) && t.toList.isEmpty)) := by
  rw [Bool.eq_iff_iff, veq_iff]
  simp only [Val.mk.injEq, Bool.and_eq_true, beq_iff_eq, empty_iff, true_and, and_true]
theorem vs0 (n s m : Int) (t : ByteArray) : vsnd ⟨0, n, s, t, m⟩ = ((n == 0) && ((s == 0) && (t.toList.isEmpty && (m == 0)))) := by rw [vsnd0, veq0]
theorem vs1 (n s m : Int) (t : ByteArray) : vsnd ⟨1, n, s, t, m⟩ = (sndB n s && (t.toList.isEmpty && (m == 0))) := by rw [vsnd1, veq1, Bool.and_comm]
theorem vs2 (n s m : Int) (t : ByteArray) : vsnd ⟨2, n, s, t, m⟩ = ((n == 0) && ((s == 0) && ((m == 0) && (decide ((t.size : Int) ≤ 256) && goodB t)))) := by
  rw [vsnd2, veq2, show decide ((t.size : Int) ≤ 256) = decide (t.size ≤ 256) from decide_eq_decide.2 (by omega)]
  simp only [Bool.and_assoc]
theorem vs3 (n s m : Int) (t : ByteArray) : vsnd ⟨3, n, s, t, m⟩ = ((n == 0) && ((s == 0) && (t.toList.isEmpty && ((m == 0) || (m == 1))))) := by
  rw [vsnd3, veq3]
  simp only [Bool.and_assoc]
  rfl
theorem vs4 (n s m : Int) (t : ByteArray) : vsnd ⟨4, n, s, t, m⟩ = ((n == 0) && ((s == 0) && (t.toList.isEmpty && (decide (0 ≤ m) && decide (m ≤ 3652058))))) := by
  rw [vsnd4, veq3]
  simp only [Bool.and_assoc]
set_option maxRecDepth 100000 in
set_option maxHeartbeats 4000000 in
theorem rvsound_any (v : Val) (hv : v.text.size ≤ 9223372036854775807) (w : World) : Calls Tryd.prog 9 #[v.val] w fun e w' => e = .returned (.bool (vsnd v)) ∧ Bel w w' := by
  obtain ⟨k, n, s, t, m⟩ := v
  have hv : t.size ≤ 9223372036854775807 := hv
  have b0 : Bel w w := Bel.refl w
  rcases kinds k with rfl | rfl | rfl | rfl | rfl | hk
  · have LV := vs0 n s m t
    cases hn : (n == 0) with
    | false =>
      have L := Lib.hid (show vsnd ⟨0, n, s, t, m⟩ = false by (rw [LV, hn]) <;> rfl)
      clear LV
      go_enter Tryd.func9, Tryd.ntmps9
      go_wp2_with fail
      go_ret
      exact ⟨by (rw [L.out]) <;> rfl, (Bel.refl _).alloc _⟩
    | true =>
      cases hs : (s == 0) with
      | false =>
        have L := Lib.hid (show vsnd ⟨0, n, s, t, m⟩ = false by (rw [LV, hn, hs]) <;> rfl)
        clear LV
        go_enter Tryd.func9, Tryd.ntmps9
        go_wp2_with fail
        go_ret
        exact ⟨by (rw [L.out]) <;> rfl, (Bel.refl _).alloc _⟩
      | true =>
        cases ht : t.toList.isEmpty with
        | false =>
          have L := Lib.hid (show vsnd ⟨0, n, s, t, m⟩ = false by (rw [LV, hn, hs, ht]) <;> rfl)
          clear LV
          go_enter Tryd.func9, Tryd.ntmps9
          go_wp2_with fail
          go_ret
          exact ⟨by (rw [L.out]) <;> rfl, (Bel.refl _).alloc _⟩
        | true =>
          cases hm : (m == 0) with
          | false =>
            have L := Lib.hid (show vsnd ⟨0, n, s, t, m⟩ = false by (rw [LV, hn, hs, ht, hm]) <;> rfl)
            clear LV
            go_enter Tryd.func9, Tryd.ntmps9
            go_wp2_with fail
            go_ret
            exact ⟨by (rw [L.out]) <;> rfl, (Bel.refl _).alloc _⟩
          | true =>
            have L := Lib.hid (show vsnd ⟨0, n, s, t, m⟩ = true by (rw [LV, hn, hs, ht, hm]) <;> rfl)
            clear LV
            go_enter Tryd.func9, Tryd.ntmps9
            go_wp2_with fail
            go_ret
            exact ⟨by (rw [L.out]) <;> rfl, (Bel.refl _).alloc _⟩
  · have LV := vs1 n s m t
    have hnn : (n == 0) = true ∨ (n == 0) = false := by cases (n == 0) <;> simp
    have hss : (s == 0) = true ∨ (s == 0) = false := by cases (s == 0) <;> simp
    rcases hnn with hn | hn <;> rcases hss with hs | hs
    all_goals
     cases hd : sndB n s with
    | false =>
      have L := Lib.hid (show vsnd ⟨1, n, s, t, m⟩ = false by (rw [LV, hd]) <;> rfl)
      clear LV
      have HC := Lib.hid hd
      clear hd
      go_enter Tryd.func9, Tryd.ntmps9
      go_wp2_with (go_at_call 18; refine (rsound_any n s _).mono ?_; rintro e W1 ⟨rfl, hb1⟩; rw [HC.out]; obtain ⟨hc, hf⟩ := bcell hb1)
      go_ret
      exact ⟨by (rw [L.out]) <;> rfl, ((Bel.refl _).alloc _).trans hb1⟩
    | true =>
      cases ht : t.toList.isEmpty with
      | false =>
        have L := Lib.hid (show vsnd ⟨1, n, s, t, m⟩ = false by (rw [LV, hd, ht]) <;> rfl)
        clear LV
        have HC := Lib.hid hd
        clear hd
        go_enter Tryd.func9, Tryd.ntmps9
        go_wp2_with (go_at_call 18; refine (rsound_any n s _).mono ?_; rintro e W1 ⟨rfl, hb1⟩; rw [HC.out]; obtain ⟨hc, hf⟩ := bcell hb1)
        go_ret
        exact ⟨by (rw [L.out]) <;> rfl, ((Bel.refl _).alloc _).trans hb1⟩
      | true =>
        cases hm : (m == 0) with
        | false =>
          have L := Lib.hid (show vsnd ⟨1, n, s, t, m⟩ = false by (rw [LV, hd, ht, hm]) <;> rfl)
          clear LV
          have HC := Lib.hid hd
          clear hd
          go_enter Tryd.func9, Tryd.ntmps9
          go_wp2_with (go_at_call 18; refine (rsound_any n s _).mono ?_; rintro e W1 ⟨rfl, hb1⟩; rw [HC.out]; obtain ⟨hc, hf⟩ := bcell hb1)
          go_ret
          exact ⟨by (rw [L.out]) <;> rfl, ((Bel.refl _).alloc _).trans hb1⟩
        | true =>
          have L := Lib.hid (show vsnd ⟨1, n, s, t, m⟩ = true by (rw [LV, hd, ht, hm]) <;> rfl)
          clear LV
          have HC := Lib.hid hd
          clear hd
          go_enter Tryd.func9, Tryd.ntmps9
          go_wp2_with (go_at_call 18; refine (rsound_any n s _).mono ?_; rintro e W1 ⟨rfl, hb1⟩; rw [HC.out]; obtain ⟨hc, hf⟩ := bcell hb1)
          go_ret
          exact ⟨by (rw [L.out]) <;> rfl, ((Bel.refl _).alloc _).trans hb1⟩
  · have LV := vs2 n s m t
    cases hn : (n == 0) with
    | false =>
      have L := Lib.hid (show vsnd ⟨2, n, s, t, m⟩ = false by (rw [LV, hn]) <;> rfl)
      clear LV
      go_enter Tryd.func9, Tryd.ntmps9
      go_wp2_with fail
      go_ret
      exact ⟨by (rw [L.out]) <;> rfl, (Bel.refl _).alloc _⟩
    | true =>
      cases hs : (s == 0) with
      | false =>
        have L := Lib.hid (show vsnd ⟨2, n, s, t, m⟩ = false by (rw [LV, hn, hs]) <;> rfl)
        clear LV
        go_enter Tryd.func9, Tryd.ntmps9
        go_wp2_with fail
        go_ret
        exact ⟨by (rw [L.out]) <;> rfl, (Bel.refl _).alloc _⟩
      | true =>
        cases hm : (m == 0) with
        | false =>
          have L := Lib.hid (show vsnd ⟨2, n, s, t, m⟩ = false by (rw [LV, hn, hs, hm]) <;> rfl)
          clear LV
          go_enter Tryd.func9, Tryd.ntmps9
          go_wp2_with fail
          go_ret
          exact ⟨by (rw [L.out]) <;> rfl, (Bel.refl _).alloc _⟩
        | true =>
          cases hz : decide ((t.size : Int) ≤ 256) with
          | false =>
            have L := Lib.hid (show vsnd ⟨2, n, s, t, m⟩ = false by (rw [LV, hn, hs, hm, hz]) <;> rfl)
            clear LV
            go_enter Tryd.func9, Tryd.ntmps9
            go_wp2_with fail
            go_ret
            exact ⟨by (rw [L.out]) <;> rfl, (Bel.refl _).alloc _⟩
          | true =>
            cases hg : goodB t with
            | false =>
              have L := Lib.hid (show vsnd ⟨2, n, s, t, m⟩ = false by (rw [LV, hn, hs, hm, hz, hg]) <;> rfl)
              clear LV
              have HC := Lib.hid hg
              have HZ := Lib.hid (show t.size ≤ 256 by have h1 := of_decide_eq_true hz; omega)
              clear hg
              go_enter Tryd.func9, Tryd.ntmps9
              go_wp2_with (go_at_call 19; refine (rgood4_any t (by have := HZ.out; omega) _).mono ?_; rintro e W1 ⟨rfl, rfl⟩; rw [HC.out])
              go_ret
              exact ⟨by (rw [L.out]) <;> rfl, (Bel.refl _).alloc _⟩
            | true =>
              have L := Lib.hid (show vsnd ⟨2, n, s, t, m⟩ = true by (rw [LV, hn, hs, hm, hz, hg]) <;> rfl)
              clear LV
              have HC := Lib.hid hg
              have HZ := Lib.hid (show t.size ≤ 256 by have h1 := of_decide_eq_true hz; omega)
              clear hg
              go_enter Tryd.func9, Tryd.ntmps9
              go_wp2_with (go_at_call 19; refine (rgood4_any t (by have := HZ.out; omega) _).mono ?_; rintro e W1 ⟨rfl, rfl⟩; rw [HC.out])
              go_ret
              exact ⟨by (rw [L.out]) <;> rfl, (Bel.refl _).alloc _⟩
  · have LV := vs3 n s m t
    cases hn : (n == 0) with
    | false =>
      have L := Lib.hid (show vsnd ⟨3, n, s, t, m⟩ = false by (rw [LV, hn]) <;> rfl)
      clear LV
      go_enter Tryd.func9, Tryd.ntmps9
      go_wp2_with fail
      go_ret
      exact ⟨by (rw [L.out]) <;> rfl, (Bel.refl _).alloc _⟩
    | true =>
      cases hs : (s == 0) with
      | false =>
        have L := Lib.hid (show vsnd ⟨3, n, s, t, m⟩ = false by (rw [LV, hn, hs]) <;> rfl)
        clear LV
        go_enter Tryd.func9, Tryd.ntmps9
        go_wp2_with fail
        go_ret
        exact ⟨by (rw [L.out]) <;> rfl, (Bel.refl _).alloc _⟩
      | true =>
        cases ht : t.toList.isEmpty with
        | false =>
          have L := Lib.hid (show vsnd ⟨3, n, s, t, m⟩ = false by (rw [LV, hn, hs, ht]) <;> rfl)
          clear LV
          go_enter Tryd.func9, Tryd.ntmps9
          go_wp2_with fail
          go_ret
          exact ⟨by (rw [L.out]) <;> rfl, (Bel.refl _).alloc _⟩
        | true =>
          cases hm : (m == 0) with
          | true =>
            have L := Lib.hid (show vsnd ⟨3, n, s, t, m⟩ = true by (rw [LV, hn, hs, ht, hm]) <;> rfl)
            clear LV
            go_enter Tryd.func9, Tryd.ntmps9
            go_wp2_with fail
            go_ret
            exact ⟨by (rw [L.out]) <;> rfl, (Bel.refl _).alloc _⟩
          | false =>
            cases hm1 : (m == 1) with
            | true =>
              have L := Lib.hid (show vsnd ⟨3, n, s, t, m⟩ = true by (rw [LV, hn, hs, ht, hm, hm1]) <;> rfl)
              clear LV
              go_enter Tryd.func9, Tryd.ntmps9
              go_wp2_with fail
              go_ret
              exact ⟨by (rw [L.out]) <;> rfl, (Bel.refl _).alloc _⟩
            | false =>
              have L := Lib.hid (show vsnd ⟨3, n, s, t, m⟩ = false by (rw [LV, hn, hs, ht, hm, hm1]) <;> rfl)
              clear LV
              go_enter Tryd.func9, Tryd.ntmps9
              go_wp2_with fail
              go_ret
              exact ⟨by (rw [L.out]) <;> rfl, (Bel.refl _).alloc _⟩
  · have LV := vs4 n s m t
    cases hn : (n == 0) with
    | false =>
      have L := Lib.hid (show vsnd ⟨4, n, s, t, m⟩ = false by (rw [LV, hn]) <;> rfl)
      clear LV
      go_enter Tryd.func9, Tryd.ntmps9
      go_wp2_with fail
      go_ret
      exact ⟨by (rw [L.out]) <;> rfl, (Bel.refl _).alloc _⟩
    | true =>
      cases hs : (s == 0) with
      | false =>
        have L := Lib.hid (show vsnd ⟨4, n, s, t, m⟩ = false by (rw [LV, hn, hs]) <;> rfl)
        clear LV
        go_enter Tryd.func9, Tryd.ntmps9
        go_wp2_with fail
        go_ret
        exact ⟨by (rw [L.out]) <;> rfl, (Bel.refl _).alloc _⟩
      | true =>
        cases ht : t.toList.isEmpty with
        | false =>
          have L := Lib.hid (show vsnd ⟨4, n, s, t, m⟩ = false by (rw [LV, hn, hs, ht]) <;> rfl)
          clear LV
          go_enter Tryd.func9, Tryd.ntmps9
          go_wp2_with fail
          go_ret
          exact ⟨by (rw [L.out]) <;> rfl, (Bel.refl _).alloc _⟩
        | true =>
          cases hlo : decide (0 ≤ m) with
          | false =>
            have L := Lib.hid (show vsnd ⟨4, n, s, t, m⟩ = false by (rw [LV, hn, hs, ht, hlo]) <;> rfl)
            clear LV
            go_enter Tryd.func9, Tryd.ntmps9
            go_wp2_with fail
            go_ret
            exact ⟨by (rw [L.out]) <;> rfl, (Bel.refl _).alloc _⟩
          | true =>
            cases hhi : decide (m ≤ 3652058) with
            | false =>
              have L := Lib.hid (show vsnd ⟨4, n, s, t, m⟩ = false by (rw [LV, hn, hs, ht, hlo, hhi]) <;> rfl)
              clear LV
              go_enter Tryd.func9, Tryd.ntmps9
              go_wp2_with fail
              go_ret
              exact ⟨by (rw [L.out]) <;> rfl, (Bel.refl _).alloc _⟩
            | true =>
              have L := Lib.hid (show vsnd ⟨4, n, s, t, m⟩ = true by (rw [LV, hn, hs, ht, hlo, hhi]) <;> rfl)
              clear LV
              go_enter Tryd.func9, Tryd.ntmps9
              go_wp2_with fail
              go_ret
              exact ⟨by (rw [L.out]) <;> rfl, (Bel.refl _).alloc _⟩
  · have L := Lib.hid (vsnd5 k n s m t hk)
    have k0 : (k == 0) = false := by rw [beq_eq_false_iff_ne]; exact hk.1
    have k1 : (k == 1) = false := by rw [beq_eq_false_iff_ne]; exact hk.2.1
    have k2 : (k == 2) = false := by rw [beq_eq_false_iff_ne]; exact hk.2.2.1
    have k3 : (k == 3) = false := by rw [beq_eq_false_iff_ne]; exact hk.2.2.2.1
    have k4 : (k == 4) = false := by rw [beq_eq_false_iff_ne]; exact hk.2.2.2.2
    clear hk
    cases hn : (n == 0) with
    | false =>
      go_enter Tryd.func9, Tryd.ntmps9
      go_wp2_with fail
      go_ret
      exact ⟨by (rw [L.out]) <;> rfl, (Bel.refl _).alloc _⟩
    | true =>
      cases hs : (s == 0) with
      | false =>
        go_enter Tryd.func9, Tryd.ntmps9
        go_wp2_with fail
        go_ret
        exact ⟨by (rw [L.out]) <;> rfl, (Bel.refl _).alloc _⟩
      | true =>
        go_enter Tryd.func9, Tryd.ntmps9
        go_wp2_with fail
        go_ret
        exact ⟨by (rw [L.out]) <;> rfl, (Bel.refl _).alloc _⟩
def vfit (v : Val) (kind scale : Int) : Bool := vsnd v && ((v.kind == 0) || ((v.kind == kind) && (!(v.kind == 1) || decide (v.scale ≤ scale))))
set_option maxRecDepth 100000 in
set_option maxHeartbeats 4000000 in
theorem vfits_any (v : Val) (kind scale : Int) (hv : v.text.size ≤ 9223372036854775807) (w : World) : Calls Tryd.prog 10 #[v.val, .int .i64 kind, .int .i64 scale] w fun e w' => e = .returned (.bool (vfit v kind scale)) ∧ Bel w w' := by
  have hsn := fun w => vsound_any v (by omega) w
  have LV : vfit v kind scale = (vsnd v && ((v.kind == 0) || ((v.kind == kind) && (!(v.kind == 1) || decide (v.scale ≤ scale))))) := rfl
  obtain ⟨k, n, s, t, m⟩ := v
  simp only at LV
  have SN := Lib.hid hsn
  clear hsn
  cases hs : vsnd ⟨k, n, s, t, m⟩ with
  | false =>
    have L := Lib.hid (show vfit ⟨k, n, s, t, m⟩ kind scale = false by rw [LV, hs]; rfl)
    have HS := Lib.hid hs
    clear LV hs
    go_enter Tryd.func10, Tryd.ntmps10
    go_wp2_with (go_at_call 8; refine (SN.out _).mono ?_; rintro e W1 ⟨rfl, hb1⟩; rw [HS.out]; obtain ⟨hc, hf⟩ := bcell hb1)
    go_ret
    exact ⟨by (rw [L.out]) <;> rfl, ((Bel.refl _).alloc _).trans hb1⟩
  | true =>
    have HS := Lib.hid hs
    cases h0 : (k == 0) with
    | true =>
      have L := Lib.hid (show vfit ⟨k, n, s, t, m⟩ kind scale = true by rw [LV, hs, h0]; rfl)
      clear LV hs
      go_enter Tryd.func10, Tryd.ntmps10
      go_wp2_with (go_at_call 8; refine (SN.out _).mono ?_; rintro e W1 ⟨rfl, hb1⟩; rw [HS.out]; obtain ⟨hc, hf⟩ := bcell hb1)
      go_ret
      exact ⟨by (rw [L.out]) <;> rfl, ((Bel.refl _).alloc _).trans hb1⟩
    | false =>
      cases hk : (k == kind) with
      | false =>
        have L := Lib.hid (show vfit ⟨k, n, s, t, m⟩ kind scale = false by rw [LV, hs, h0, hk]; rfl)
        clear LV hs
        go_enter Tryd.func10, Tryd.ntmps10
        go_wp2_with (go_at_call 8; refine (SN.out _).mono ?_; rintro e W1 ⟨rfl, hb1⟩; rw [HS.out]; obtain ⟨hc, hf⟩ := bcell hb1)
        go_ret
        exact ⟨by (rw [L.out]) <;> rfl, ((Bel.refl _).alloc _).trans hb1⟩
      | true =>
        cases h1 : (k == 1) with
        | false =>
          have L := Lib.hid (show vfit ⟨k, n, s, t, m⟩ kind scale = true by rw [LV, hs, h0, hk, h1]; rfl)
          have h1' : (k != 1) = true := by rw [bne, h1]; rfl
          clear LV hs
          go_enter Tryd.func10, Tryd.ntmps10
          go_wp2_with (go_at_call 8; refine (SN.out _).mono ?_; rintro e W1 ⟨rfl, hb1⟩; rw [HS.out]; obtain ⟨hc, hf⟩ := bcell hb1)
          go_ret
          exact ⟨by (rw [L.out]) <;> rfl, ((Bel.refl _).alloc _).trans hb1⟩
        | true =>
          have h1' : (k != 1) = false := by rw [bne, h1]; rfl
          cases hsc : decide (s ≤ scale) with
          | false =>
            have L := Lib.hid (show vfit ⟨k, n, s, t, m⟩ kind scale = false by rw [LV, hs, h0, hk, h1, hsc]; rfl)
            clear LV hs
            go_enter Tryd.func10, Tryd.ntmps10
            go_wp2_with (go_at_call 8; refine (SN.out _).mono ?_; rintro e W1 ⟨rfl, hb1⟩; rw [HS.out]; obtain ⟨hc, hf⟩ := bcell hb1)
            go_ret
            exact ⟨by (rw [L.out]) <;> rfl, ((Bel.refl _).alloc _).trans hb1⟩
          | true =>
            have L := Lib.hid (show vfit ⟨k, n, s, t, m⟩ kind scale = true by rw [LV, hs, h0, hk, h1, hsc]; rfl)
            clear LV hs
            go_enter Tryd.func10, Tryd.ntmps10
            go_wp2_with (go_at_call 8; refine (SN.out _).mono ?_; rintro e W1 ⟨rfl, hb1⟩; rw [HS.out]; obtain ⟨hc, hf⟩ := bcell hb1)
            go_ret
            exact ⟨by (rw [L.out]) <;> rfl, ((Bel.refl _).alloc _).trans hb1⟩
set_option maxRecDepth 100000 in
set_option maxHeartbeats 4000000 in
theorem rvfits_any (v : Val) (kind scale : Int) (hv : v.text.size ≤ 9223372036854775807) (w : World) : Calls Tryd.prog 11 #[v.val, .int .i64 kind, .int .i64 scale] w fun e w' => e = .returned (.bool (vfit v kind scale)) ∧ Bel w w' := by
  have hsn := fun w => rvsound_any v (by omega) w
  have LV : vfit v kind scale = (vsnd v && ((v.kind == 0) || ((v.kind == kind) && (!(v.kind == 1) || decide (v.scale ≤ scale))))) := rfl
  obtain ⟨k, n, s, t, m⟩ := v
  simp only at LV
  have SN := Lib.hid hsn
  clear hsn
  cases hs : vsnd ⟨k, n, s, t, m⟩ with
  | false =>
    have L := Lib.hid (show vfit ⟨k, n, s, t, m⟩ kind scale = false by rw [LV, hs]; rfl)
    have HS := Lib.hid hs
    clear LV hs
    go_enter Tryd.func11, Tryd.ntmps11
    go_wp2_with (go_at_call 9; refine (SN.out _).mono ?_; rintro e W1 ⟨rfl, hb1⟩; rw [HS.out]; obtain ⟨hc, hf⟩ := bcell hb1)
    go_ret
    exact ⟨by (rw [L.out]) <;> rfl, ((Bel.refl _).alloc _).trans hb1⟩
  | true =>
    have HS := Lib.hid hs
    cases h0 : (k == 0) with
    | true =>
      have L := Lib.hid (show vfit ⟨k, n, s, t, m⟩ kind scale = true by rw [LV, hs, h0]; rfl)
      clear LV hs
      go_enter Tryd.func11, Tryd.ntmps11
      go_wp2_with (go_at_call 9; refine (SN.out _).mono ?_; rintro e W1 ⟨rfl, hb1⟩; rw [HS.out]; obtain ⟨hc, hf⟩ := bcell hb1)
      go_ret
      exact ⟨by (rw [L.out]) <;> rfl, ((Bel.refl _).alloc _).trans hb1⟩
    | false =>
      cases hk : (k == kind) with
      | false =>
        have L := Lib.hid (show vfit ⟨k, n, s, t, m⟩ kind scale = false by rw [LV, hs, h0, hk]; rfl)
        clear LV hs
        go_enter Tryd.func11, Tryd.ntmps11
        go_wp2_with (go_at_call 9; refine (SN.out _).mono ?_; rintro e W1 ⟨rfl, hb1⟩; rw [HS.out]; obtain ⟨hc, hf⟩ := bcell hb1)
        go_ret
        exact ⟨by (rw [L.out]) <;> rfl, ((Bel.refl _).alloc _).trans hb1⟩
      | true =>
        cases h1 : (k == 1) with
        | false =>
          have L := Lib.hid (show vfit ⟨k, n, s, t, m⟩ kind scale = true by rw [LV, hs, h0, hk, h1]; rfl)
          have h1' : (k != 1) = true := by rw [bne, h1]; rfl
          clear LV hs
          go_enter Tryd.func11, Tryd.ntmps11
          go_wp2_with (go_at_call 9; refine (SN.out _).mono ?_; rintro e W1 ⟨rfl, hb1⟩; rw [HS.out]; obtain ⟨hc, hf⟩ := bcell hb1)
          go_ret
          exact ⟨by (rw [L.out]) <;> rfl, ((Bel.refl _).alloc _).trans hb1⟩
        | true =>
          have h1' : (k != 1) = false := by rw [bne, h1]; rfl
          cases hsc : decide (s ≤ scale) with
          | false =>
            have L := Lib.hid (show vfit ⟨k, n, s, t, m⟩ kind scale = false by rw [LV, hs, h0, hk, h1, hsc]; rfl)
            clear LV hs
            go_enter Tryd.func11, Tryd.ntmps11
            go_wp2_with (go_at_call 9; refine (SN.out _).mono ?_; rintro e W1 ⟨rfl, hb1⟩; rw [HS.out]; obtain ⟨hc, hf⟩ := bcell hb1)
            go_ret
            exact ⟨by (rw [L.out]) <;> rfl, ((Bel.refl _).alloc _).trans hb1⟩
          | true =>
            have L := Lib.hid (show vfit ⟨k, n, s, t, m⟩ kind scale = true by rw [LV, hs, h0, hk, h1, hsc]; rfl)
            clear LV hs
            go_enter Tryd.func11, Tryd.ntmps11
            go_wp2_with (go_at_call 9; refine (SN.out _).mono ?_; rintro e W1 ⟨rfl, hb1⟩; rw [HS.out]; obtain ⟨hc, hf⟩ := bcell hb1)
            go_ret
            exact ⟨by (rw [L.out]) <;> rfl, ((Bel.refl _).alloc _).trans hb1⟩
end Go.Proofs.YtladmlnopbnlgaaDoor
