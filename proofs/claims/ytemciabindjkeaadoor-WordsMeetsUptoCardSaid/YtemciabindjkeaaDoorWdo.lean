import Derived.Test.YtemciabindjkeaaDoorWdn
namespace Go.Proofs.YtemciabindjkeaaDoor
set_option linter.unusedSimpArgs false
set_option linter.unusedVariables false
open Go.RowKit Go.Lib

/-! Words: the law's awake. -/
def bA : ByteArray := ⟨#[97]⟩
def bB : ByteArray := ⟨#[98]⟩
def bC : ByteArray := ⟨#[99]⟩
def bN : ByteArray := ⟨#[]⟩
def bAA : ByteArray := ⟨#[97, 97]⟩
theorem okA : okw bA = true := asn_ok 1 (by omega)
theorem okN : okw bN = true := asn_ok 0 (by omega)
theorem okB : okw bB = true := by
  unfold okw
  rw [plain_good bB (by intro b hb; simp [bB] at hb; subst hb; decide)]
  rfl
theorem okC : okw bC = true := by
  unfold okw
  rw [plain_good bC (by intro b hb; simp [bC] at hb; subst hb; decide)]
  rfl
theorem neAB : bA ≠ bB := by intro h; have := congrArg (fun x : ByteArray => x.data.toList) h; simp [bA, bB] at this
theorem neNA : bN ≠ bA := by intro h; have := congrArg (fun x : ByteArray => x.data.toList) h; simp [bA, bN] at this
theorem neNB : bN ≠ bB := by intro h; have := congrArg (fun x : ByteArray => x.data.toList) h; simp [bB, bN] at this
theorem neCA : bC ≠ bA := by intro h; have := congrArg (fun x : ByteArray => x.data.toList) h; simp [bA, bC] at this
theorem neCB : bC ≠ bB := by intro h; have := congrArg (fun x : ByteArray => x.data.toList) h; simp [bB, bC] at this
theorem kept1 : keptl okw [bB, bA, bB] = [bA, bB] := by
  refine srt_unique (keptl_srt _ _) ?_ fun s => ?_
  · refine List.Pairwise.cons (fun s hs => ?_) (srt_one _)
    rw [List.mem_singleton] at hs
    subst hs
    decide +kernel
  · rw [keptl_mem]
    simp only [List.mem_cons, List.not_mem_nil, or_false]
    constructor
    · rintro ⟨h | h | h, _⟩
      · exact .inr h
      · exact .inl h
      · exact .inr h
    · rintro (h | h)
      · exact ⟨.inr (.inl h), h ▸ okA⟩
      · exact ⟨.inl h, h ▸ okB⟩
theorem kept2 : keptl okw [bN, bA] = [bN, bA] := by
  refine keptl_self ?_ ?_
  · refine List.Pairwise.cons (fun s hs => ?_) (srt_one _)
    rw [List.mem_singleton] at hs
    subst hs
    decide +kernel
  · intro s hs
    simp only [List.mem_cons, List.not_mem_nil, or_false] at hs
    rcases hs with rfl | rfl
    · exact okN
    · exact okA
theorem pick1 (s : ByteArray) (x : Int) (h : PickOk true [bA, bB] s x) : s = bN ∧ x = 0 := by
  have hn : inl [bA, bB] (asn 0) = false := (inl_false _ _).2 (by
    simp only [List.mem_cons, List.not_mem_nil, or_false]
    rintro (h | h)
    · exact neNA h
    · exact neNB h)
  rcases h with ⟨h, _⟩ | ⟨h, _⟩ | ⟨_, hx, h⟩
  · cases h
  · cases h
  · refine ⟨?_, hx⟩
    rcases h with ⟨n, _, h2, _, h4⟩ | ⟨h1, _⟩
    · rcases Nat.eq_zero_or_pos n with rfl | h0
      · exact h2
      · rw [h4 0 h0] at hn; cases hn
    · rw [h1 0 (by omega)] at hn; cases hn
theorem pick2 (s : ByteArray) (x : Int) (h : PickOk true [bN, bA] s x) : s = bAA ∧ x = 0 := by
  have hn : inl [bN, bA] (asn 2) = false := (inl_false _ _).2 (by
    simp only [List.mem_cons, List.not_mem_nil, or_false]
    rintro (h | h)
    · exact absurd (asn_inj (n := 2) (m := 0) h) (by omega)
    · exact absurd (asn_inj (n := 2) (m := 1) h) (by omega))
  have h0 : inl [bN, bA] (asn 0) = true := (inl_iff _ _).2 (by show bN ∈ _; simp)
  have h1 : inl [bN, bA] (asn 1) = true := (inl_iff _ _).2 (by show bA ∈ _; simp)
  rcases h with ⟨h, _⟩ | ⟨h, _⟩ | ⟨_, hx, h⟩
  · cases h
  · cases h
  · refine ⟨?_, hx⟩
    rcases h with ⟨n, _, h2, h3, h4⟩ | ⟨h5, _⟩
    · by_cases e0 : n = 0
      · subst e0; rw [h0] at h3; cases h3
      · by_cases e1 : n = 1
        · subst e1; rw [h1] at h3; cases h3
        · by_cases e2 : n = 2
          · subst e2; exact h2
          · rw [h4 2 (by omega)] at hn; cases hn
    · rw [h5 2 (by omega)] at hn; cases hn
theorem hasC : hasw true [bA, bB] bC = true := by
  unfold hasw
  rw [okC, (inl_false [bA, bB] bC).2 (by
    simp only [List.mem_cons, List.not_mem_nil, or_false]
    rintro (h | h)
    · exact neCA h
    · exact neCB h)]
  rfl
theorem fits_lit (n : Nat) (l : List ByteArray) (h : (l.all fun s => decide (s.size ≤ 10)) = true) : ∀ s ∈ l, Fits s := fun s hs => by
  have := of_decide_eq_true (List.all_eq_true.1 h s hs)
  unfold Fits
  omega
set_option maxRecDepth 100000 in
set_option maxHeartbeats 4000000 in
theorem awake_any (w : World) (ht : Tab w) : Calls Tryd.prog 9 #[] w fun e w' => e = .returned (.bool true) ∧ Bel w w' := by
  have M1 := Lib.hid (show ∀ (W : World) (n : Nat), n = W.heap.size → Calls Tryd.prog 8 #[.bool true, .slice (some ⟨n, 0, none⟩) 3 3] (W.alloc (.cells #[.string ⟨#[98]⟩, .string ⟨#[97]⟩, .string ⟨#[98]⟩] 9)) fun e w' => ∃ A c, e = .returned (.agg #[.bool true, .slice A 2 c]) ∧ Strs w' A [bA, bB] ∧ Bel W w' from fun W n hn =>
    (make_any true [bB, bA, bB] (some ⟨n, 0, none⟩) 3 _ (strs_lit [bB, bA, bB] hn) (by simp) (fits_lit 0 _ (by decide))).mono fun e w' ⟨A, c, h1, h2, _, _, h5⟩ => by
      rw [kept1] at h1 h2
      exact ⟨A, c, h1, h2, ((Bel.refl W).alloc _).trans h5⟩)
  have M2 := Lib.hid (show ∀ (W : World) (n : Nat), n = W.heap.size → Calls Tryd.prog 8 #[.bool true, .slice (some ⟨n, 0, none⟩) 2 2] (W.alloc (.cells #[.string ⟨#[]⟩, .string ⟨#[97]⟩] 9)) fun e w' => ∃ A c, e = .returned (.agg #[.bool true, .slice A 2 c]) ∧ Strs w' A [bN, bA] ∧ Bel W w' from fun W n hn =>
    (make_any true [bN, bA] (some ⟨n, 0, none⟩) 2 _ (strs_lit [bN, bA] hn) (by simp) (fits_lit 0 _ (by decide))).mono fun e w' ⟨A, c, h1, h2, _, _, h5⟩ => by
      rw [kept2] at h1 h2
      exact ⟨A, c, h1, h2, ((Bel.refl W).alloc _).trans h5⟩)
  have M3 := Lib.hid (show ∀ (W : World), Calls Tryd.prog 8 #[.bool false, .slice none 0 0] W fun e w' => ∃ A c, e = .returned (.agg #[.bool false, .slice A 0 c]) ∧ Bel W w' from fun W =>
    (make_any false [] none 0 W Strs.nil (by simp) (by simp)).mono fun e w' ⟨A, c, h1, h2, _, _, h5⟩ => by
      rw [keptl_self (p := okw) srt_nil (by simp)] at h1
      exact ⟨A, c, h1, h5⟩)
  have P1 := Lib.hid (show ∀ (W : World) A c, Strs W A [bA, bB] → Tab W → Calls Tryd.prog 18 #[.agg #[.bool true, .slice A 2 c]] W fun e w' => e = .returned (.tuple #[.string ⟨#[]⟩, .int .i64 0]) ∧ Bel W w' from fun W A c hS hT =>
    (pick_any true [bA, bB] A c W hT hS (by simp) (fits_lit 0 _ (by decide))).mono fun e w' ⟨s, x, h1, h2, h3⟩ => by
      obtain ⟨rfl, rfl⟩ := pick1 s x h2
      exact ⟨h1, h3⟩)
  have P2 := Lib.hid (show ∀ (W : World) A c, Strs W A [bN, bA] → Tab W → Calls Tryd.prog 18 #[.agg #[.bool true, .slice A 2 c]] W fun e w' => e = .returned (.tuple #[.string ⟨#[97, 97]⟩, .int .i64 0]) ∧ Bel W w' from fun W A c hS hT =>
    (pick_any true [bN, bA] A c W hT hS (by simp) (fits_lit 0 _ (by decide))).mono fun e w' ⟨s, x, h1, h2, h3⟩ => by
      obtain ⟨rfl, rfl⟩ := pick2 s x h2
      exact ⟨h1, h3⟩)
  have H1 := Lib.hid (show ∀ (W : World) A c, Strs W A [bA, bB] → Calls Tryd.prog 14 #[.agg #[.bool true, .slice A 2 c], .string ⟨#[98]⟩] W fun e w' => e = .returned (.bool false) ∧ Bel W w' from fun W A c hS => by
    have h := has_any true [bA, bB] A c bB W hS (by simp) (by unfold Fits; decide)
    rw [show hasw true [bA, bB] bB = false by unfold hasw; rw [okB, (inl_iff [bA, bB] bB).2 (by simp)]; rfl] at h
    exact h)
  have H2 := Lib.hid (show ∀ (W : World) A c, Strs W A [bA, bB] → Calls Tryd.prog 14 #[.agg #[.bool true, .slice A 2 c], .string ⟨#[99]⟩] W fun e w' => e = .returned (.bool true) ∧ Bel W w' from fun W A c hS => by
    have h := has_any true [bA, bB] A c bC W hS (by simp) (by unfold Fits; decide)
    rw [hasC] at h
    exact h)
  have E1 := Lib.hid (show ∀ (W : World) A c, Calls Tryd.prog 11 #[.agg #[.bool false, .slice A 0 c]] W fun e w' => e = .returned (.bool true) ∧ Bel W w' from fun W A c =>
    empty_any false [] A c W Strs.nil (by simp) (by simp))
  have HT := Lib.hid ht
  clear ht
  go_enter Tryd.func9, Tryd.ntmps9
  go_upto_region 2 with (first
    | (go_at_call 8; with_reducible refine Calls.mono (M1.out _ _ rfl) ?_; rintro e W1 ⟨A1, c1, rfl, h1, hb1⟩; have S1 := Lib.hid h1; clear h1))
  refine under_name (w0 := W1) (by (repeat (first | with_reducible exact Bel.refl _ | with_reducible refine Bel.setCell ?_ (by first | exact Nat.le_refl _ | (dsimp only; omega)) _ | with_reducible refine Bel.alloc ?_ _ | with_reducible refine Bel.drew ?_ | with_reducible assumption | with_reducible refine Bel.trans ?_ (by assumption)))) fun W2 hc hf hz hb2 => ?_
  have k0 : W2.cell? ⟨W1.heap.size, 0, none⟩ = some (.bool true) := by simp [hc, go_sem]
  have k1 : W2.cell? ⟨W1.heap.size, 1, none⟩ = some (.slice A1 2 c1) := by simp [hc, go_sem]
  have z2 : W1.heap.size < W2.heap.size := by simp [hz]
  have hb := hb1.trans hb2
  have S2 := Lib.hid (S1.out.keep hb2)
  clear hc hf hz S1 hb1
  generalize W1.heap.size = B at k0 k1 z2 ⊢
  clear hb2
  go_upto_region 3 with (first
    | (go_at_call 18; with_reducible refine Calls.mono (P1.out _ _ _ S2.out (HT.out.keep hb)) ?_; rintro e W3 ⟨rfl, hb3⟩; have k0 := (hb3.cells _ _ z2).trans k0; have k1 := (hb3.cells _ _ z2).trans k1; have S2 := Lib.hid (S2.out.keep hb3); have z2 := Nat.lt_of_lt_of_le z2 hb3.size; have hb := hb.trans hb3; clear hb3))
  go_upto_region 4 with (first
    | (go_at_call 8; with_reducible refine Calls.mono (M2.out _ _ rfl) ?_; rintro e W4 ⟨A4, c4, rfl, h4, hb4⟩; have S4 := Lib.hid h4; have k0 := (hb4.cells _ _ z2).trans k0; have k1 := (hb4.cells _ _ z2).trans k1; have S2 := Lib.hid (S2.out.keep hb4); have z2 := Nat.lt_of_lt_of_le z2 hb4.size; have hb := hb.trans hb4; clear hb4 h4)
    | (go_at_call 18; with_reducible refine Calls.mono (P2.out _ _ _ S4.out (HT.out.keep hb)) ?_; rintro e W5 ⟨rfl, hb5⟩; have k0 := (hb5.cells _ _ z2).trans k0; have k1 := (hb5.cells _ _ z2).trans k1; have S2 := Lib.hid (S2.out.keep hb5); have z2 := Nat.lt_of_lt_of_le z2 hb5.size; have hb := hb.trans hb5; clear hb5))
  go_wp2_with (first
    | (go_at_call_of 14 (Value.string ⟨#[98]⟩); with_reducible refine Calls.mono (H1.out _ _ _ S2.out) ?_; rintro e W6 ⟨rfl, hb6⟩; have k0 := (hb6.cells _ _ z2).trans k0; have k1 := (hb6.cells _ _ z2).trans k1; have S2 := Lib.hid (S2.out.keep hb6); have z2 := Nat.lt_of_lt_of_le z2 hb6.size; have hb := hb.trans hb6; clear hb6)
    | (go_at_call_of 14 (Value.string ⟨#[99]⟩); with_reducible refine Calls.mono (H2.out _ _ _ S2.out) ?_; rintro e W7 ⟨rfl, hb7⟩; have k0 := (hb7.cells _ _ z2).trans k0; have k1 := (hb7.cells _ _ z2).trans k1; have S2 := Lib.hid (S2.out.keep hb7); have z2 := Nat.lt_of_lt_of_le z2 hb7.size; have hb := hb.trans hb7; clear hb7)
    | (go_at_call 8; with_reducible refine Calls.mono (M3.out _) ?_; rintro e W8 ⟨A8, c8, rfl, hb8⟩; have hb := hb.trans hb8; clear hb8)
    | (go_at_call 11; with_reducible refine Calls.mono (E1.out _ _ _) ?_; rintro e W9 ⟨rfl, hb9⟩; have hb := hb.trans hb9; clear hb9))
  go_ret
  exact ⟨rfl, hb⟩
end Go.Proofs.YtemciabindjkeaaDoor
