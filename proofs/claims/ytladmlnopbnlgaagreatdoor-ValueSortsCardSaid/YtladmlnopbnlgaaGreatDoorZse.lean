import Derived.Test.YtladmlnopbnlgaaGreatDoorZsc
import Derived.Test.YtladmlnopbnlgaaGreatDoorZsd
import Derived.Shelf.SlSortCmp.NoneTotal
namespace Go.Proofs.YtladmlnopbnlgaaGreatDoor
set_option linter.unusedSimpArgs false
set_option linter.unusedVariables false
open Go.RowKit Go.Lib Go.Sort

/-! Values: their order is one; a row in order, each once. -/
abbrev SV := { v : Val // vsnd v = true }
instance : Inhabited SV := ⟨⟨⟨0, 0, 0, ⟨#[]⟩, 0⟩, by decide +kernel⟩⟩
def encV (x : SV) : List Value := [.int .i64 x.1.kind, .int .i64 x.1.n, .int .i64 x.1.scale, .string x.1.text, .int .i64 x.1.num]
def cfV (x y : SV) : Int := vcmp x.1 y.1
theorem ltV (x y : SV) : ltOf cfV x y = decide (vcmp x.1 y.1 < 0) := rfl
theorem vcmp_lt_trans {a b c : Val} (ha : vsnd a = true) (hb : vsnd b = true) (hc : vsnd c = true) (h1 : vcmp a b < 0) (h2 : vcmp b c < 0) : vcmp a c < 0 := by
  have h3 := vcmp_trans (Int.le_of_lt h1) (Int.le_of_lt h2)
  rcases Int.lt_or_eq_of_le h3 with h | h
  · exact h
  · exfalso
    have e := (vcmp_zero ha hc).1 h
    subst e
    have := vcmp_anti a b
    omega
theorem vcmp_le_lt {a b c : Val} (ha : vsnd a = true) (hb : vsnd b = true) (hc : vsnd c = true) (h1 : vcmp a b ≤ 0) (h2 : vcmp b c < 0) : vcmp a c < 0 := by
  rcases Int.lt_or_eq_of_le h1 with h | h
  · exact vcmp_lt_trans ha hb hc h h2
  · rw [(vcmp_zero ha hb).1 h]; exact h2
theorem swoV : SWO (ltOf cfV) where
  irrefl x := by rw [ltV, (vcmp_zero x.2 x.2).2 rfl]; rfl
  trans x y z h1 h2 := by
    rw [ltV] at *
    exact decide_eq_true (vcmp_lt_trans x.2 y.2 z.2 (of_decide_eq_true h1) (of_decide_eq_true h2))
  ntrans x y z h1 h2 := by
    rw [ltV] at *
    have k1 := of_decide_eq_false h1
    have k2 := of_decide_eq_false h2
    have a1 := vcmp_anti x.1 y.1
    have a2 := vcmp_anti y.1 z.1
    have a3 := vcmp_anti x.1 z.1
    have := vcmp_trans (a := z.1) (b := y.1) (c := x.1) (by omega) (by omega)
    exact decide_eq_false (by omega)
theorem totV (x y : SV) (h1 : ltOf cfV x y = false) (h2 : ltOf cfV y x = false) : x = y := by
  rw [ltV] at h1 h2
  have k1 := of_decide_eq_false h1
  have k2 := of_decide_eq_false h2
  have := vcmp_anti x.1 y.1
  exact Subtype.ext ((vcmp_zero x.2 y.2).1 (by omega))
/-- A row in order, each of some values once. -/
def SrtOf (vs r : List Val) : Prop := r.Pairwise (fun a b => vcmp a b < 0) ∧ ∀ v, v ∈ r ↔ v ∈ vs
theorem srt_unique {vs r s : List Val} (hs : ∀ v ∈ vs, vsnd v = true) (h1 : SrtOf vs r) (h2 : SrtOf vs s) : r = s := by
  have ne : ∀ {l : List Val}, SrtOf vs l → l.Nodup := fun {l} h => by
    refine List.Pairwise.imp_of_mem ?_ h.1
    intro a b ha hb hlt e
    subst e
    have := (vcmp_zero (hs a ((h.2 a).1 ha)) (hs a ((h.2 a).1 ha))).2 rfl
    omega
  have hp : r.Perm s := (List.perm_ext_iff_of_nodup (ne h1) (ne h2)).2 fun v => (h1.2 v).trans (h2.2 v).symm
  refine hp.eq_of_pairwise (le := fun a b => vcmp a b < 0) ?_ h1.1 h2.1
  intro a b ha hb k1 k2
  have := vcmp_anti a b
  omega
theorem comp_srt (d : Array Val) (hs : ∀ j, j < d.size → vsnd d[j]! = true) (ho : ∀ j, j + 1 < d.size → vcmp d[j]! d[j + 1]! ≤ 0) : ∀ m, m ≤ d.size → (compactUpTo d m).Pairwise (fun a b => vcmp a b < 0) ∧ (∀ v, v ∈ compactUpTo d m ↔ ∃ j, j < m ∧ v = d[j]!) ∧ (∀ v ∈ compactUpTo d m, vcmp v d[m - 1]! ≤ 0)
  | 0, _ => ⟨by simp [compactUpTo], by simp [compactUpTo], by simp [compactUpTo]⟩
  | m + 1, h => by
    obtain ⟨i1, i2, i3⟩ := comp_srt d hs ho m (by omega)
    rw [compactUpTo_succ]
    by_cases hk : keeps d m = true
    · rw [if_pos hk]
      have hlt : ∀ v ∈ compactUpTo d m, vcmp v d[m]! < 0 := by
        intro v hv
        obtain ⟨j, hj, rfl⟩ := (i2 v).1 hv
        have hm : 0 < m := by omega
        have h1 := i3 _ hv
        have h2 := ho (m - 1) (by omega)
        rw [show m - 1 + 1 = m by omega] at h2
        have h3 : d[m]! ≠ d[m - 1]! := by
          have := of_decide_eq_true hk
          rcases this with h | h
          · omega
          · exact h
        have h4 : vcmp d[m - 1]! d[m]! < 0 := by
          rcases Int.lt_or_eq_of_le h2 with h | h
          · exact h
          · exact absurd ((vcmp_zero (hs _ (by omega)) (hs _ (by omega))).1 h).symm h3
        exact vcmp_le_lt (hs _ (by omega)) (hs _ (by omega)) (hs _ (by omega)) h1 h4
      refine ⟨?_, ?_, ?_⟩
      · rw [List.pairwise_append]
        refine ⟨i1, List.pairwise_singleton _ _, fun a ha b hb => ?_⟩
        rw [List.mem_singleton] at hb
        subst hb
        exact hlt a ha
      · intro v
        rw [List.mem_append, i2, List.mem_singleton]
        constructor
        · rintro (⟨j, hj, rfl⟩ | rfl)
          · exact ⟨j, by omega, rfl⟩
          · exact ⟨m, by omega, rfl⟩
        · rintro ⟨j, hj, rfl⟩
          by_cases e : j = m
          · subst e; exact .inr rfl
          · exact .inl ⟨j, by omega, rfl⟩
      · intro v hv
        rw [Nat.add_sub_cancel]
        rcases List.mem_append.1 hv with h | h
        · exact Int.le_of_lt (hlt v h)
        · rw [List.mem_singleton] at h
          subst h
          exact Int.le_of_eq ((vcmp_zero (hs _ (by omega)) (hs _ (by omega))).2 rfl)
    · rw [if_neg hk, List.append_nil]
      have hk' : m ≠ 0 ∧ d[m]! = d[m - 1]! := by
        have hn : ¬ (m = 0 ∨ d[m]! ≠ d[m - 1]!) := fun h => hk (decide_eq_true h)
        exact ⟨fun h => hn (.inl h), Classical.byContradiction fun h => hn (.inr h)⟩
      refine ⟨i1, ?_, ?_⟩
      · intro v
        rw [i2]
        constructor
        · rintro ⟨j, hj, rfl⟩; exact ⟨j, by omega, rfl⟩
        · rintro ⟨j, hj, rfl⟩
          by_cases e : j = m
          · subst e; exact ⟨j - 1, by omega, hk'.2⟩
          · exact ⟨j, by omega, rfl⟩
      · intro v hv
        rw [Nat.add_sub_cancel, hk'.2]
        exact i3 v hv
/-- The sort's list, compacted. -/
theorem sorted_srt (vs : List Val) (xs : List SV) (hx : xs.map Subtype.val = vs) (d : Array Val) (hd : d = ((xs.mergeSort fun x y => !(ltOf cfV) y x).map Subtype.val).toArray) : SrtOf vs (compactUpTo d d.size) := by
  have hle : ∀ x y : SV, (!(ltOf cfV) y x) = true ↔ vcmp x.1 y.1 ≤ 0 := by
    intro x y
    rw [ltV]
    have := vcmp_anti x.1 y.1
    simp
    omega
  have hp := List.mergeSort_perm xs (fun x y => !(ltOf cfV) y x)
  have hsrt := List.pairwise_mergeSort (le := fun x y => !(ltOf cfV) y x) (by
    intro a b c h1 h2
    exact (hle a c).2 (vcmp_trans ((hle a b).1 h1) ((hle b c).1 h2))) (by
    intro a b
    rw [Bool.or_eq_true, hle, hle]
    have := vcmp_anti a.1 b.1
    omega) xs
  obtain ⟨l, hl⟩ : ∃ l, l = xs.mergeSort fun x y => !(ltOf cfV) y x := ⟨_, rfl⟩
  rw [← hl] at hp hsrt hd
  subst hd
  have hsz : (l.map Subtype.val).toArray.size = l.length := by simp
  have hg : ∀ j (hj : j < l.length), (l.map Subtype.val).toArray[j]! = (l[j]).1 := by
    intro j hj
    rw [getElem!_pos _ j (by simpa using hj)]
    simp
  have h := comp_srt (l.map Subtype.val).toArray (fun j hj => by rw [hg j (by simpa using hj)]; exact (l[j]'(by simpa using hj)).2) (fun j hj => by
    have hj' : j + 1 < l.length := by simpa using hj
    rw [hg j (by omega), hg (j + 1) hj']
    have := (List.pairwise_iff_getElem.1 hsrt) j (j + 1) (by omega) hj' (by omega)
    exact (hle _ _).1 this) _ (Nat.le_refl _)
  refine ⟨h.1, fun v => ?_⟩
  rw [h.2.1, ← hx]
  have hm : ∀ v, v ∈ l.map Subtype.val ↔ v ∈ xs.map Subtype.val := fun v => by
    rw [List.mem_map, List.mem_map]
    constructor
    · rintro ⟨x, hx, rfl⟩; exact ⟨x, hp.mem_iff.1 hx, rfl⟩
    · rintro ⟨x, hx, rfl⟩; exact ⟨x, hp.mem_iff.2 hx, rfl⟩
  rw [← hm, List.mem_iff_getElem]
  constructor
  · rintro ⟨j, hj, rfl⟩
    have hj' : j < l.length := by simpa using hj
    exact ⟨j, by simpa using hj', by rw [hg j hj']; simp⟩
  · rintro ⟨j, hj, rfl⟩
    have hj' : j < l.length := by simpa using hj
    exact ⟨j, by simpa using hj', by rw [hg j hj']; simp⟩
theorem strong_grow {W w' : World} (h : Strong.Bel W w') : ∃ q os, w' = grow (W.drewN q) os := by
  refine ⟨w'.drawn - W.drawn, w'.heap.extract W.heap.size w'.heap.size, ?_⟩
  obtain ⟨hb, hd⟩ := h
  have e1 := hb.os
  have e2 := hb.tape
  have e3 := hb.output
  have e4 := hb.size
  have e5 := fun k hk => Below.block hb (k := k) hk
  obtain ⟨hp, tp, dr, o, out⟩ := w'
  simp only at e1 e2 e3 e4 hd
  subst e1 e2 e3
  unfold grow World.drewN
  simp only [World.mk.injEq, true_and, and_true]
  refine ⟨?_, by omega⟩
  apply Array.ext_getElem?
  intro i
  rw [Array.getElem?_append]
  split
  · exact e5 i ‹_›
  · simp only [Array.getElem?_extract]
    have h1 : W.heap.size + (i - W.heap.size) = i := by omega
    rw [h1]
    split
    · rfl
    · exact Array.getElem?_eq_none (by omega)
end Go.Proofs.YtladmlnopbnlgaaGreatDoor
