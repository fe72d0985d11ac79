import Derived.Test.YtofcjdbodhoacaaGreatDoorLxn
import Derived.Test.YtofcjdbodhoacaaGreatDoorLay
namespace Go.Proofs.YtofcjdbodhoacaaGreatDoor
set_option linter.unusedSimpArgs false
set_option linter.unusedVariables false
open Go.RowKit

/-! Tokens written. -/
noncomputable def wrT (t : Tok) : List UInt8 :=
  if t.kind = 1 then txtL (decide (t.dn < 0)) t.dn.natAbs t.ds.toNat
  else if t.kind = 2 then quoL t.text
  else if t.kind = 3 then 64 :: quoL (dtx t.day).data.toList
  else t.text
theorem txt_len (neg : Bool) (x s : Nat) (hx : x ≤ 999999999999) (hs : s ≤ 6) : (txtL neg x s).length ≤ 30 := by
  have h1 := dec_len_le 11 (x / P10 s) (Nat.lt_of_le_of_lt (Nat.div_le_self _ _) (by omega))
  unfold txtL
  by_cases h : s = 0
  · rw [if_pos h]
    cases neg <;> simp <;> omega
  · rw [if_neg h]
    have h2 := pad_len s (x % P10 s) (Nat.mod_lt _ (P10_pos s)) (by omega)
    cases neg <;> simp <;> omega
theorem snd_parts {t : Tok} (h : tsnd t = true) :
    (t.kind = 1 ∧ t.text = [] ∧ t.day = 0 ∧ SndD t.dn t.ds ∧ 0 ≤ t.dn) ∨ (t.kind = 2 ∧ t.dn = 0 ∧ t.ds = 0 ∧ t.day = 0 ∧ strOk t.text = true) ∨
    (t.kind = 3 ∧ t.text = [] ∧ t.dn = 0 ∧ t.ds = 0 ∧ 0 ≤ t.day ∧ t.day ≤ 3652058) ∨ (t.kind = 4 ∧ t.dn = 0 ∧ t.ds = 0 ∧ t.day = 0 ∧ nmOk t.text = true) ∨
    (t.kind = 5 ∧ t.dn = 0 ∧ t.ds = 0 ∧ t.day = 0 ∧ t.text ∈ signsL) := by
  obtain ⟨k, p, x, a, b, d⟩ := t
  have e0 : ∀ x : List UInt8, bytesOf x = (⟨#[]⟩ : ByteArray) → x = [] := fun x h => bytesOf_inj (b := []) h
  rcases kinds6 k with rfl | rfl | rfl | rfl | rfl | hk
  · rw [tsnd1, Bool.and_eq_true, teqv_iff, Bool.and_eq_true, decide_eq_true_eq] at h
    exact .inl ⟨rfl, e0 _ h.1.2.2.1, h.1.2.2.2.2.2, of_decide_eq_true h.2.1, h.2.2⟩
  · rw [tsnd2, Bool.and_eq_true, teqv_iff] at h
    exact .inr (.inl ⟨rfl, h.1.2.2.2.1, h.1.2.2.2.2.1, h.1.2.2.2.2.2, h.2⟩)
  · rw [tsnd3, Bool.and_eq_true, teqv_iff, decide_eq_true_eq] at h
    exact .inr (.inr (.inl ⟨rfl, e0 _ h.1.2.2.1, h.1.2.2.2.1, h.1.2.2.2.2.1, h.2.1, h.2.2⟩))
  · rw [tsnd4, Bool.and_eq_true, teqv_iff] at h
    exact .inr (.inr (.inr (.inl ⟨rfl, h.1.2.2.2.1, h.1.2.2.2.2.1, h.1.2.2.2.2.2, h.2⟩)))
  · rw [tsnd5, Bool.and_eq_true, teqv_iff, List.contains_iff_mem] at h
    exact .inr (.inr (.inr (.inr ⟨rfl, h.1.2.2.2.1, h.1.2.2.2.2.1, h.1.2.2.2.2.2, h.2⟩)))
  · rw [tsnd6 k p x a b d hk] at h
    cases h
theorem quo_len (x : List UInt8) : (quoL x).length ≤ 2 * x.length + 2 := by
  unfold quoL
  have := qt_len x
  simp only [List.length_append, List.length_cons, List.length_nil]
  omega
theorem sgn_len {x : List UInt8} (h : x ∈ signsL) : x.length ≤ 2 := by
  revert x
  decide
theorem str_len {x : List UInt8} (h : strOk x = true) : x.length ≤ 256 := by
  unfold strOk at h
  rw [Bool.and_eq_true, decide_eq_true_eq] at h
  exact h.1
theorem wr_len {t : Tok} (h : tsnd t = true) : (wrT t).length ≤ 1000 := by
  rcases snd_parts h with ⟨h1, h2, h3, h4, h5⟩ | ⟨h1, h2, h3, h4, h5⟩ | ⟨h1, h2, h3, h4, h5, h6⟩ | ⟨h1, h2, h3, h4, h5⟩ | ⟨h1, h2, h3, h4, h5⟩
  · unfold wrT
    rw [if_pos h1]
    obtain ⟨s1, s2, ⟨s3, s4⟩, _⟩ := h4
    have := txt_len (decide (t.dn < 0)) t.dn.natAbs t.ds.toNat (by omega) (by omega)
    omega
  · unfold wrT
    rw [if_neg (by rw [h1]; decide), if_pos h1]
    have := quo_len t.text
    have := str_len h5
    omega
  · unfold wrT
    rw [if_neg (by rw [h1]; decide), if_neg (by rw [h1]; decide), if_pos h1]
    have := quo_len (dtx t.day).data.toList
    have e : (dtx t.day).data.toList.length = 10 := rfl
    simp only [List.length_cons]
    omega
  · unfold wrT
    rw [if_neg (by rw [h1]; decide), if_neg (by rw [h1]; decide), if_neg (by rw [h1]; decide)]
    have := (nm_form h5).1
    omega
  · unfold wrT
    rw [if_neg (by rw [h1]; decide), if_neg (by rw [h1]; decide), if_neg (by rw [h1]; decide)]
    have := sgn_len h5
    omega
theorem vt_call (v : Val) (hv : v.text.size ≤ 9223372036854775807) (hs : vsnd v = true) (w : World) (ht : Tab w) (hm : Mx w) : Calls Tryz.prog 49 #[.agg #[.int .i64 v.kind, .int .i64 v.n, .int .i64 v.scale, .string v.text, .int .i64 v.num]] w fun e w' => e = .returned (.tuple #[.string (vtx v), .int .i64 0]) ∧ Bel w w' := by
  have h := vtext_any v hv w ht hm
  have e : vtxV v = .tuple #[.string (vtx v), .int .i64 0] := by unfold vtxV; rw [if_pos hs]
  rw [e] at h
  exact h
set_option maxRecDepth 100000 in
set_option maxHeartbeats 8000000 in
theorem xtext_any (t : Tok) (h : tsnd t = true) (w : World) (ht : Tab w) (hm : Mx w) : Calls Tryz.prog 26 #[.agg #[.int .i64 t.kind, .int .i64 t.pos, .string (bytesOf t.text), .int .i64 t.dn, .int .i64 t.ds, .int .i64 t.day]] w fun e w' => e = .returned (.string (bytesOf (wrT t))) ∧ Bel w w' := by
  have hp := snd_parts h
  have HT := Lib.hid ht
  have HM := Lib.hid hm
  obtain ⟨k, p, x, a, b, d⟩ := t
  simp only at hp
  clear h ht hm
  rcases hp with ⟨rfl, rfl, rfl, h4, h5⟩ | ⟨rfl, rfl, rfl, rfl, h5⟩ | ⟨rfl, rfl, rfl, rfl, h5, h6⟩ | ⟨rfl, rfl, rfl, rfl, h5⟩ | ⟨rfl, rfl, rfl, rfl, h5⟩
  · have CT := Lib.hid fun W (hW : Bel w W) => vt_call ⟨1, a, b, ⟨#[]⟩, 0⟩ (by show (⟨#[]⟩ : ByteArray).size ≤ _; decide) (by rw [vsnd1, (veq_iff _ _).2 rfl, Bool.true_and]; exact decide_eq_true h4) W (HT.out.keep hW) (HM.out.keep hW)
    simp only at CT
    have EW := Lib.hid (show vtx ⟨1, a, b, ⟨#[]⟩, 0⟩ = bytesOf (wrT ⟨1, p, [], a, b, 0⟩) from rfl)
    rw [EW.out] at CT
    generalize wrT ⟨1, p, [], a, b, 0⟩ = r at CT ⊢
    clear h4 h5 EW
    go_enter Tryz.func26, Tryz.ntmps26
    go_wp2_with (go_at_call 49; refine (CT.out _ (by (repeat (first | with_reducible exact Bel.refl _ | with_reducible refine Bel.setCell ?_ (by first | exact Nat.le_refl _ | (dsimp only; omega)) _ | with_reducible refine Bel.alloc ?_ _ | with_reducible refine Bel.drew ?_ | with_reducible assumption | with_reducible refine Bel.trans ?_ (by assumption))))).mono ?_; rintro e W1 ⟨rfl, hb1⟩)
    go_ret
    exact ⟨rfl, by first | (refine Bel.trans ?_ hb1; (repeat (first | with_reducible exact Bel.refl _ | with_reducible refine Bel.setCell ?_ (by first | exact Nat.le_refl _ | (dsimp only; omega)) _ | with_reducible refine Bel.alloc ?_ _ | with_reducible refine Bel.drew ?_ | with_reducible assumption | with_reducible refine Bel.trans ?_ (by assumption))))⟩
  · have CT := Lib.hid fun W (hW : Bel w W) => vt_call ⟨2, 0, 0, bytesOf x, 0⟩ (by show (bytesOf x).size ≤ _; rw [bytesOf_size]; have := str_len h5; omega) (by rw [vsnd2, (veq_iff _ _).2 rfl, Bool.true_and, bytesOf_size]; exact h5) W (HT.out.keep hW) (HM.out.keep hW)
    simp only at CT
    have EW := Lib.hid (show vtx ⟨2, 0, 0, bytesOf x, 0⟩ = bytesOf (wrT ⟨2, p, x, 0, 0, 0⟩) from rfl)
    rw [EW.out] at CT
    generalize wrT ⟨2, p, x, 0, 0, 0⟩ = r at CT ⊢
    clear h5 EW
    go_enter Tryz.func26, Tryz.ntmps26
    go_wp2_with (go_at_call 49; refine (CT.out _ (by (repeat (first | with_reducible exact Bel.refl _ | with_reducible refine Bel.setCell ?_ (by first | exact Nat.le_refl _ | (dsimp only; omega)) _ | with_reducible refine Bel.alloc ?_ _ | with_reducible refine Bel.drew ?_ | with_reducible assumption | with_reducible refine Bel.trans ?_ (by assumption))))).mono ?_; rintro e W1 ⟨rfl, hb1⟩)
    go_ret
    exact ⟨rfl, by first | (refine Bel.trans ?_ hb1; (repeat (first | with_reducible exact Bel.refl _ | with_reducible refine Bel.setCell ?_ (by first | exact Nat.le_refl _ | (dsimp only; omega)) _ | with_reducible refine Bel.alloc ?_ _ | with_reducible refine Bel.drew ?_ | with_reducible assumption | with_reducible refine Bel.trans ?_ (by assumption))))⟩
  · have CT := Lib.hid fun W (hW : Bel w W) => vt_call ⟨4, 0, 0, ⟨#[]⟩, d⟩ (by show (⟨#[]⟩ : ByteArray).size ≤ _; decide) (by rw [vsnd4, (veq_iff _ _).2 rfl, Bool.true_and, decide_eq_true h5, decide_eq_true h6]; rfl) W (HT.out.keep hW) (HM.out.keep hW)
    simp only at CT
    have EW := Lib.hid (show vtx ⟨4, 0, 0, ⟨#[]⟩, d⟩ = bytesOf (wrT ⟨3, p, [], 0, 0, d⟩) from rfl)
    rw [EW.out] at CT
    generalize wrT ⟨3, p, [], 0, 0, d⟩ = r at CT ⊢
    clear h5 h6 EW
    go_enter Tryz.func26, Tryz.ntmps26
    go_wp2_with (go_at_call 49; refine (CT.out _ (by (repeat (first | with_reducible exact Bel.refl _ | with_reducible refine Bel.setCell ?_ (by first | exact Nat.le_refl _ | (dsimp only; omega)) _ | with_reducible refine Bel.alloc ?_ _ | with_reducible refine Bel.drew ?_ | with_reducible assumption | with_reducible refine Bel.trans ?_ (by assumption))))).mono ?_; rintro e W1 ⟨rfl, hb1⟩)
    go_ret
    exact ⟨rfl, by first | (refine Bel.trans ?_ hb1; (repeat (first | with_reducible exact Bel.refl _ | with_reducible refine Bel.setCell ?_ (by first | exact Nat.le_refl _ | (dsimp only; omega)) _ | with_reducible refine Bel.alloc ?_ _ | with_reducible refine Bel.drew ?_ | with_reducible assumption | with_reducible refine Bel.trans ?_ (by assumption))))⟩
  · have EW := Lib.hid (show wrT ⟨4, p, x, 0, 0, 0⟩ = x from rfl)
    clear h5
    go_enter Tryz.func26, Tryz.ntmps26
    go_wp2_with fail
    go_ret
    exact ⟨by rw [EW.out] <;> rfl, by (repeat (first | with_reducible exact Bel.refl _ | with_reducible refine Bel.setCell ?_ (by first | exact Nat.le_refl _ | (dsimp only; omega)) _ | with_reducible refine Bel.alloc ?_ _ | with_reducible refine Bel.drew ?_ | with_reducible assumption | with_reducible refine Bel.trans ?_ (by assumption)))⟩
  · have EW := Lib.hid (show wrT ⟨5, p, x, 0, 0, 0⟩ = x from rfl)
    clear h5
    go_enter Tryz.func26, Tryz.ntmps26
    go_wp2_with fail
    go_ret
    exact ⟨by rw [EW.out] <;> rfl, by (repeat (first | with_reducible exact Bel.refl _ | with_reducible refine Bel.setCell ?_ (by first | exact Nat.le_refl _ | (dsimp only; omega)) _ | with_reducible refine Bel.alloc ?_ _ | with_reducible refine Bel.drew ?_ | with_reducible assumption | with_reducible refine Bel.trans ?_ (by assumption)))⟩
end Go.Proofs.YtofcjdbodhoacaaGreatDoor
