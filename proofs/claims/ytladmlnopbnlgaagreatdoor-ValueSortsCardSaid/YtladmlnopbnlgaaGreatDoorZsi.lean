import Derived.Test.YtladmlnopbnlgaaGreatDoorZsh
namespace Go.Proofs.YtladmlnopbnlgaaGreatDoor
set_option linter.unusedSimpArgs false
set_option linter.unusedVariables false
open Go.RowKit

/-! Values: the document's Sort, its plain words: a value is put where it belongs. -/
theorem srt_same {vs r : List Val} {x : Val} (h : SrtOf vs r) (hx : x ∈ r) : SrtOf (vs ++ [x]) r := by
  refine ⟨h.1, fun v => ?_⟩
  rw [h.2, List.mem_append, List.mem_singleton]
  constructor
  · exact .inl
  · rintro (g | rfl)
    · exact g
    · exact (h.2 v).1 hx
theorem srt_put {vs r : List Val} {x : Val} {a : Nat} (h : SrtOf vs r) (hlo : ∀ u ∈ r.take a, vcmp u x < 0) (hhi : ∀ u ∈ r.drop a, 0 < vcmp u x) (hs : ∀ v ∈ vs, vsnd v = true) (hx : vsnd x = true) : SrtOf (vs ++ [x]) ((r.take a ++ [x]) ++ r.drop a) := by
  have hsr : ∀ v ∈ r, vsnd v = true := fun v hv => hs v ((h.2 v).1 hv)
  have hp := h.1
  rw [← List.take_append_drop a r, List.pairwise_append] at hp
  refine ⟨?_, fun v => ?_⟩
  · rw [List.pairwise_append, List.pairwise_append]
    refine ⟨⟨hp.1, List.pairwise_singleton _ _, fun u hu y hy => ?_⟩, hp.2.1, fun u hu y hy => ?_⟩
    · rw [List.mem_singleton] at hy
      subst hy
      exact hlo u hu
    · rcases List.mem_append.1 hu with g | g
      · exact hp.2.2 u g y hy
      · rw [List.mem_singleton] at g
        subst g
        have := hhi y hy
        have := vcmp_anti u y
        omega
  · rw [List.mem_append, List.mem_append, List.mem_append, List.mem_singleton, ← h.2, ← List.take_append_drop a r, List.mem_append]
    constructor
    · rintro ((g | g) | g)
      · exact .inl (.inl (by simpa using g))
      · exact .inr g
      · exact .inl (.inr (by simpa using g))
    · rintro ((g | g) | g)
      · exact .inl (.inl (by simpa using g))
      · exact .inr (by simpa using g)
      · exact .inl (.inr g)
/-- After k of the row have been looked at: below a all are less than x, from a on none is; and whether one is x. -/
def SrtRel (r : List Val) (x : Val) (k a : Nat) (t : Bool) : Prop :=
  a ≤ k ∧ (∀ u ∈ r.take a, vcmp u x < 0) ∧ (∀ u ∈ (r.take k).drop a, ¬ vcmp u x < 0) ∧ (t = true ↔ ∃ u ∈ r.take k, vcmp u x = 0)
theorem srtRel_0 (r : List Val) (x : Val) : SrtRel r x 0 0 false := ⟨Nat.le_refl _, by simp, by simp, by simp⟩
theorem srtRel_step {vs r : List Val} {x u : Val} {k a : Nat} {t : Bool} (h : SrtOf vs r) (hs : ∀ v ∈ vs, vsnd v = true) (hx : vsnd x = true) (hr : SrtRel r x k a t) (hu : r[k]? = some u) : SrtRel r x (k + 1) (if vcmp u x < 0 then k + 1 else a) (t || vcmp u x == 0) := by
  obtain ⟨h1, h2, h3, h4⟩ := hr
  have hk : k < r.length := (List.getElem?_eq_some_iff.1 hu).1
  have et : r.take (k + 1) = r.take k ++ [u] := by rw [List.take_add_one, hu]; rfl
  have hsr : ∀ v ∈ r, vsnd v = true := fun v hv => hs v ((h.2 v).1 hv)
  have hlt : ∀ v ∈ r.take k, vcmp v u < 0 := by
    have hp := h.1
    rw [← List.take_append_drop (k + 1) r, et, List.pairwise_append, List.pairwise_append] at hp
    exact fun v hv => hp.1.2.2 v hv u (List.mem_singleton.2 rfl)
  have hm : ∀ v ∈ r.take k, v ∈ r := fun v hv => List.mem_of_mem_take hv
  have hur : u ∈ r := List.mem_of_getElem? hu
  have ht : ((t || vcmp u x == 0) = true ↔ ∃ v ∈ r.take (k + 1), vcmp v x = 0) := by
    rw [Bool.or_eq_true, h4, et, beq_iff_eq]
    constructor
    · rintro (⟨v, hv, e⟩ | e)
      · exact ⟨v, List.mem_append.2 (.inl hv), e⟩
      · exact ⟨u, List.mem_append.2 (.inr (List.mem_singleton.2 rfl)), e⟩
    · rintro ⟨v, hv, e⟩
      rcases List.mem_append.1 hv with g | g
      · exact .inl ⟨v, g, e⟩
      · rw [List.mem_singleton] at g
        subst g
        exact .inr e
  by_cases hc : vcmp u x < 0
  · rw [if_pos hc]
    refine ⟨Nat.le_refl _, fun v hv => ?_, fun v hv => ?_, ht⟩
    · rw [et] at hv
      rcases List.mem_append.1 hv with g | g
      · exact vcmp_lt_trans (hsr v (hm v g)) (hsr u hur) hx (hlt v g) hc
      · rw [List.mem_singleton] at g
        subst g
        exact hc
    · rw [List.drop_eq_nil_of_le (by simp; omega)] at hv
      cases hv
  · rw [if_neg hc]
    refine ⟨by omega, h2, fun v hv => ?_, ht⟩
    rw [et, List.drop_append_of_le_length (by simp; omega)] at hv
    rcases List.mem_append.1 hv with g | g
    · exact h3 v g
    · rw [List.mem_singleton] at g
      subst g
      exact hc
theorem srtRel_end {vs r : List Val} {x : Val} {a : Nat} {t : Bool} (h : SrtOf vs r) (hs : ∀ v ∈ vs, vsnd v = true) (hx : vsnd x = true) (hr : SrtRel r x r.length a t) : SrtOf (vs ++ [x]) (if t then r else (r.take a ++ [x]) ++ r.drop a) := by
  obtain ⟨h1, h2, h3, h4⟩ := hr
  rw [List.take_length] at h3 h4
  cases t with
  | true =>
    obtain ⟨u, hu, e⟩ := h4.1 rfl
    rw [if_pos rfl]
    have : u = x := (vcmp_zero (hs u ((h.2 u).1 hu)) hx).1 e
    subst this
    exact srt_same h hu
  | false =>
    rw [if_neg (by decide)]
    refine srt_put h h2 (fun u hu => ?_) hs hx
    have n1 := h3 u hu
    have n2 : vcmp u x ≠ 0 := fun e => by
      have := h4.2 ⟨u, List.mem_of_mem_drop hu, e⟩
      cases this
    omega
end Go.Proofs.YtladmlnopbnlgaaGreatDoor
