
import Derived.Test.YtpmmbcobjibpeaaGreatDoorSpn
namespace Go.Proofs.YtpmmbcobjibpeaaGreatDoor
set_option linter.unusedSimpArgs false
set_option linter.unusedVariables false
open Go.RowKit

/-! Spans: plain words. -/
def SMem (l : List Sp) (n : Int) : Prop := ∃ s ∈ l, s.1 ≤ n ∧ n ≤ s.2
theorem smem_nil (n : Int) : ¬ SMem [] n := by rintro ⟨s, h, _⟩; cases h
theorem smem_append (a b : List Sp) (n : Int) : SMem (a ++ b) n ↔ SMem a n ∨ SMem b n := by
  unfold SMem
  constructor
  · rintro ⟨s, h, g⟩
    rcases List.mem_append.1 h with h | h
    · exact .inl ⟨s, h, g⟩
    · exact .inr ⟨s, h, g⟩
  · rintro (⟨s, h, g⟩ | ⟨s, h, g⟩)
    · exact ⟨s, List.mem_append.2 (.inl h), g⟩
    · exact ⟨s, List.mem_append.2 (.inr h), g⟩
theorem smem_one (s : Sp) (n : Int) : SMem [s] n ↔ s.1 ≤ n ∧ n ≤ s.2 := by simp [SMem]
theorem smem_cons (s : Sp) (l : List Sp) (n : Int) : SMem (s :: l) n ↔ (s.1 ≤ n ∧ n ≤ s.2) ∨ SMem l n := by
  rw [show s :: l = [s] ++ l from rfl, smem_append, smem_one]
/-- In order. -/
def Ord (l : List Sp) : Prop := l.Pairwise (fun a b => a.2 + 1 < b.1) ∧ ∀ s ∈ l, s.1 ≤ s.2
theorem ord_nil : Ord [] := ⟨List.Pairwise.nil, by simp⟩
theorem ord_snoc {l : List Sp} {s : Sp} (h : Ord l) (hs : s.1 ≤ s.2) (hl : ∀ t ∈ l, t.2 + 1 < s.1) : Ord (l ++ [s]) := by
  refine ⟨List.pairwise_append.2 ⟨h.1, List.pairwise_singleton _ _, fun t ht u hu => ?_⟩, fun t ht => ?_⟩
  · rw [List.mem_singleton] at hu; subst hu; exact hl t ht
  · rcases List.mem_append.1 ht with g | g
    · exact h.2 t g
    · rw [List.mem_singleton] at g; subst g; exact hs
theorem ord_left {l r : List Sp} (h : Ord (l ++ r)) : Ord l := ⟨(List.pairwise_append.1 h.1).1, fun s hs => h.2 s (List.mem_append.2 (.inl hs))⟩
theorem ord_last {l : List Sp} {s : Sp} (h : Ord (l ++ [s])) : Ord l ∧ s.1 ≤ s.2 ∧ ∀ t ∈ l, t.2 + 1 < s.1 :=
  ⟨ord_left h, h.2 s (by simp), fun t ht => (List.pairwise_append.1 h.1).2.2 t ht s (by simp)⟩
theorem ord_cons {l : List Sp} {s : Sp} (h : Ord (s :: l)) : Ord l ∧ s.1 ≤ s.2 ∧ ∀ t ∈ l, s.2 + 1 < t.1 := by
  obtain ⟨h1, h2⟩ := h
  rw [List.pairwise_cons] at h1
  exact ⟨⟨h1.2, fun t ht => h2 t (List.mem_cons_of_mem _ ht)⟩, h2 s (List.mem_cons_self ..), h1.1⟩
theorem ord_empty {l : List Sp} (h : Ord l) (hn : ∀ n, ¬ SMem l n) : l = [] := by
  cases l with
  | nil => rfl
  | cons s l => exact absurd ⟨s, List.mem_cons_self .., Int.le_refl _, h.2 s (List.mem_cons_self ..)⟩ (hn s.1)
theorem ord_unique : ∀ {l m : List Sp}, Ord l → Ord m → (∀ n, SMem l n ↔ SMem m n) → l = m
  | [], m, _, hm, h => (ord_empty hm fun n g => smem_nil n ((h n).2 g)).symm
  | s :: l, [], hl, _, h => ord_empty hl fun n g => smem_nil n ((h n).1 g)
  | s :: l, t :: m, hl, hm, h => by
    obtain ⟨l1, l2, l3⟩ := ord_cons hl
    obtain ⟨m1, m2, m3⟩ := ord_cons hm
    have low : ∀ {x : Sp} {k : List Sp}, Ord k → (∀ t ∈ k, x.2 + 1 < t.1) → ∀ n, SMem k n → x.2 + 1 < n := by
      intro x k hk h n hn
      obtain ⟨u, hu, g1, _⟩ := hn
      have := h u hu
      omega
    have e1 : s.1 = t.1 := by
      have a := (h s.1).1 ((smem_cons ..).2 (.inl ⟨Int.le_refl _, l2⟩))
      have b := (h t.1).2 ((smem_cons ..).2 (.inl ⟨Int.le_refl _, m2⟩))
      rcases (smem_cons ..).1 a with a | a
      · rcases (smem_cons ..).1 b with b | b
        · omega
        · have := low l1 l3 _ b; omega
      · have := low m1 m3 _ a
        rcases (smem_cons ..).1 b with b | b
        · omega
        · have := low l1 l3 _ b; omega
    have e2 : s.2 = t.2 := by
      rcases Int.lt_trichotomy s.2 t.2 with g | g | g
      · have a := (h (s.2 + 1)).2 ((smem_cons ..).2 (.inl ⟨by omega, by omega⟩))
        rcases (smem_cons ..).1 a with a | a
        · omega
        · have := low l1 l3 _ a; omega
      · exact g
      · have a := (h (t.2 + 1)).1 ((smem_cons ..).2 (.inl ⟨by omega, by omega⟩))
        rcases (smem_cons ..).1 a with a | a
        · omega
        · have := low m1 m3 _ a; omega
    have e : s = t := Prod.ext e1 e2
    subst e
    rw [ord_unique l1 m1 fun n => ?_]
    have hn := h n
    rw [smem_cons, smem_cons] at hn
    constructor
    · intro g
      rcases hn.1 (.inr g) with g' | g'
      · have := low l1 l3 _ g; omega
      · exact g'
    · intro g
      rcases hn.2 (.inr g) with g' | g'
      · have := low m1 m3 _ g; omega
      · exact g'
/-- Neighbours. -/
theorem ord_next {l : List Sp} (h : Ord l) {i : Nat} {s t : Sp} (hs : l[i]? = some s) (ht : l[i + 1]? = some t) : s.2 + 1 < t.1 := by
  obtain ⟨h1, e1⟩ := List.getElem?_eq_some_iff.1 hs
  obtain ⟨h2, e2⟩ := List.getElem?_eq_some_iff.1 ht
  have := List.pairwise_iff_getElem.1 h.1 i (i + 1) h1 h2 (by omega)
  rw [e1, e2] at this
  exact this
theorem ord_lt {l : List Sp} (h : Ord l) {i j : Nat} {s t : Sp} (hij : i < j) (hs : l[i]? = some s) (ht : l[j]? = some t) : s.2 + 1 < t.1 := by
  obtain ⟨h1, e1⟩ := List.getElem?_eq_some_iff.1 hs
  obtain ⟨h2, e2⟩ := List.getElem?_eq_some_iff.1 ht
  have := List.pairwise_iff_getElem.1 h.1 i j h1 h2 hij
  rw [e1, e2] at this
  exact this

/-! Join: what holds behind some of the sorted spans. -/
def JInv (pre out : List Sp) : Prop := Ord out ∧ (∀ n, SMem out n ↔ SMem pre n) ∧ (∀ t ∈ out, (∃ p ∈ pre, t.1 = p.1) ∧ ∃ p ∈ pre, t.2 = p.2) ∧ out.length ≤ pre.length
theorem jinv_0 : JInv [] [] := ⟨ord_nil, fun _ => Iff.rfl, by simp, Nat.le_refl _⟩
theorem jinv_empty {pre out : List Sp} {s : Sp} (h : JInv pre out) (hs : s.2 < s.1) : JInv (pre ++ [s]) out := by
  obtain ⟨h1, h2, h3, h4⟩ := h
  refine ⟨h1, fun n => ?_, fun t ht => ?_, by simp; omega⟩
  · rw [smem_append, smem_one, h2]
    constructor
    · exact .inl
    · rintro (g | g)
      · exact g
      · omega
  · obtain ⟨⟨p, hp, e⟩, q, hq, f⟩ := h3 t ht
    exact ⟨⟨p, List.mem_append.2 (.inl hp), e⟩, q, List.mem_append.2 (.inl hq), f⟩
theorem jinv_new {pre out : List Sp} {s : Sp} (h : JInv pre out) (hs : s.1 ≤ s.2) (hl : ∀ t ∈ out, t.2 + 1 < s.1) : JInv (pre ++ [s]) (out ++ [s]) := by
  obtain ⟨h1, h2, h3, h4⟩ := h
  refine ⟨ord_snoc h1 hs hl, fun n => ?_, fun t ht => ?_, by simp; omega⟩
  · rw [smem_append, smem_append, h2]
  · rcases List.mem_append.1 ht with g | g
    · obtain ⟨⟨p, hp, e⟩, q, hq, f⟩ := h3 t g
      exact ⟨⟨p, List.mem_append.2 (.inl hp), e⟩, q, List.mem_append.2 (.inl hq), f⟩
    · rw [List.mem_singleton] at g
      subst g
      exact ⟨⟨t, by simp, rfl⟩, t, by simp, rfl⟩
theorem jinv_far {pre out : List Sp} {t s : Sp} (h : JInv pre (out ++ [t])) (hs : s.1 ≤ s.2) (hl : t.2 + 1 < s.1) : JInv (pre ++ [s]) (out ++ [t] ++ [s]) := by
  refine jinv_new h hs fun u hu => ?_
  obtain ⟨o1, o2, o3⟩ := ord_last h.1
  rcases List.mem_append.1 hu with g | g
  · have := o3 u g
    omega
  · rw [List.mem_singleton] at g
    subst g
    exact hl
theorem jinv_join {pre out : List Sp} {t s : Sp} (h : JInv pre (out ++ [t])) (hp : ∀ p ∈ pre, p.1 ≤ s.1) (hl : s.1 ≤ t.2 + 1) : JInv (pre ++ [s]) (out ++ [(t.1, if t.2 < s.2 then s.2 else t.2)]) := by
  obtain ⟨h1, h2, h3, h4⟩ := h
  obtain ⟨o1, o2, o3⟩ := ord_last h1
  have ht := h3 t (by simp)
  have hle : t.1 ≤ s.1 := by
    obtain ⟨⟨p, hp', e⟩, _⟩ := ht
    have := hp p hp'
    omega
  refine ⟨ord_snoc o1 (by dsimp only; split <;> omega) (fun u hu => by dsimp only; exact o3 u hu), fun n => ?_, fun u hu => ?_, by simp at h4 ⊢; omega⟩
  · have := h2 n
    rw [smem_append, smem_one] at this
    rw [smem_append, smem_one, smem_append, smem_one, ← this]
    dsimp only
    constructor
    · rintro (g | g)
      · exact .inl (.inl g)
      · by_cases c : n ≤ t.2
        · exact .inl (.inr ⟨g.1, c⟩)
        · refine .inr ⟨by omega, ?_⟩
          have := g.2
          split at this <;> omega
    · rintro ((g | g) | g)
      · exact .inl g
      · exact .inr ⟨g.1, by split <;> omega⟩
      · exact .inr ⟨by omega, by split <;> omega⟩
  · rcases List.mem_append.1 hu with g | g
    · obtain ⟨⟨p, hp, e⟩, q, hq, f⟩ := h3 u (List.mem_append.2 (.inl g))
      exact ⟨⟨p, List.mem_append.2 (.inl hp), e⟩, q, List.mem_append.2 (.inl hq), f⟩
    · rw [List.mem_singleton] at g
      subst g
      obtain ⟨⟨p, hp, e⟩, q, hq, f⟩ := ht
      refine ⟨⟨p, List.mem_append.2 (.inl hp), e⟩, ?_⟩
      dsimp only
      split
      · exact ⟨s, by simp, rfl⟩
      · exact ⟨q, List.mem_append.2 (.inl hq), f⟩

/-! Meet: behind i of a, and used of b for the next one. -/
def MInv (a b : List Sp) (i u : Nat) (out : List Sp) : Prop :=
  Ord out ∧ (∀ n, SMem out n ↔ SMem (a.take i) n ∧ SMem b n) ∧ (∀ t ∈ out, ∃ p ∈ a.take i, t.2 ≤ p.2) ∧ (∀ q ∈ b.take u, ∃ p ∈ a.take i, q.2 ≤ p.2) ∧ (∀ t ∈ out, (∃ p ∈ a ++ b, t.1 = p.1) ∧ ∃ p ∈ a ++ b, t.2 = p.2) ∧ out.length ≤ i + u
def MIn (a b : List Sp) (i : Nat) (s : Sp) (u : Nat) (out : List Sp) : Prop :=
  Ord out ∧ (∀ n, SMem out n ↔ (SMem (a.take i) n ∧ SMem b n) ∨ ((s.1 ≤ n ∧ n ≤ s.2) ∧ SMem (b.take u) n)) ∧
    (∀ t ∈ out, (∃ p ∈ a.take i, t.2 ≤ p.2) ∨ (t.2 ≤ s.2 ∧ ∃ q ∈ b.take u, t.2 ≤ q.2)) ∧ (∀ q ∈ b.take u, q.2 ≤ s.2) ∧ (∀ t ∈ out, (∃ p ∈ a ++ b, t.1 = p.1) ∧ ∃ p ∈ a ++ b, t.2 = p.2) ∧ out.length ≤ i + u
theorem take_snoc {α : Type} {l : List α} {i : Nat} {s : α} (h : l[i]? = some s) : l.take (i + 1) = l.take i ++ [s] := by rw [List.take_add_one, h]; rfl
theorem mem_take_get {α : Type} {l : List α} {i : Nat} {x : α} (h : x ∈ l.take i) : ∃ j, j < i ∧ l[j]? = some x := by
  obtain ⟨j, hj, e⟩ := List.getElem_of_mem h
  rw [List.getElem_take] at e
  rw [List.length_take] at hj
  exact ⟨j, by omega, List.getElem?_eq_some_iff.2 ⟨by omega, e⟩⟩
theorem ord_before {a : List Sp} (h : Ord a) {i : Nat} {s p : Sp} (hs : a[i]? = some s) (hp : p ∈ a.take i) : p.2 + 1 < s.1 := by
  obtain ⟨j, hj, e⟩ := mem_take_get hp
  exact ord_lt h hj e hs
theorem minv_0 (a b : List Sp) : MInv a b 0 0 [] := ⟨ord_nil, fun n => by simp [SMem], by simp, by simp, by simp, Nat.le_refl _⟩
theorem min_start {a b : List Sp} {i u : Nat} {s : Sp} {out : List Sp} (ha : Ord a) (hs : a[i]? = some s) (h : MInv a b i u out) : MIn a b i s u out := by
  obtain ⟨h1, h2, h3, h4, h5, h6⟩ := h
  have hb : ∀ q ∈ b.take u, q.2 + 1 < s.1 := fun q hq => by
    obtain ⟨p, hp, e⟩ := h4 q hq
    have := ord_before ha hs hp
    omega
  have hs' := ha.2 s (List.mem_of_getElem? hs)
  refine ⟨h1, fun n => ?_, fun t ht => .inl (h3 t ht), fun q hq => by have := hb q hq; omega, h5, h6⟩
  rw [h2]
  constructor
  · exact .inl
  · rintro (g | ⟨g, q, hq, g1, g2⟩)
    · exact g
    · have := hb q hq; omega
theorem min_none {a b : List Sp} {i u : Nat} {s q : Sp} {out : List Sp} (hq : b[u]? = some q) (hqs : q.2 ≤ s.2) (he : ∀ n, ¬ ((s.1 ≤ n ∧ n ≤ s.2) ∧ (q.1 ≤ n ∧ n ≤ q.2))) (h : MIn a b i s u out) : MIn a b i s (u + 1) out := by
  obtain ⟨h1, h2, h3, h4, h5, h6⟩ := h
  refine ⟨h1, fun n => ?_, fun t ht => ?_, fun p hp => ?_, h5, by omega⟩
  · rw [h2, take_snoc hq, smem_append, smem_one]
    constructor
    · rintro (g | g)
      · exact .inl g
      · exact .inr ⟨g.1, .inl g.2⟩
    · rintro (g | ⟨g, g' | g'⟩)
      · exact .inl g
      · exact .inr ⟨g, g'⟩
      · exact absurd ⟨g, g'⟩ (he n)
  · rcases h3 t ht with g | ⟨g, p, hp, e⟩
    · exact .inl g
    · exact .inr ⟨g, p, by rw [take_snoc hq]; exact List.mem_append.2 (.inl hp), e⟩
  · rw [take_snoc hq] at hp
    rcases List.mem_append.1 hp with g | g
    · exact h4 p g
    · rw [List.mem_singleton] at g; subst g; exact hqs
/-- The part that both have is put behind. -/
theorem min_put {a b : List Sp} {i u : Nat} {s q r : Sp} {out : List Sp} (ha : Ord a) (hb : Ord b) (hs : a[i]? = some s) (hq : b[u]? = some q) (hr1 : r.1 = if s.1 < q.1 then q.1 else s.1) (hr2 : r.2 = if q.2 < s.2 then q.2 else s.2) (hr : r.1 ≤ r.2) (h : MIn a b i s u out) :
    Ord (out ++ [r]) ∧ (∀ n, SMem (out ++ [r]) n ↔ (SMem (a.take i) n ∧ SMem b n) ∨ ((s.1 ≤ n ∧ n ≤ s.2) ∧ SMem (b.take (u + 1)) n)) ∧
    (∀ t ∈ out ++ [r], (∃ p ∈ a.take i, t.2 ≤ p.2) ∨ (t.2 ≤ s.2 ∧ ∃ q ∈ b.take (u + 1), t.2 ≤ q.2)) ∧ (∀ t ∈ out ++ [r], (∃ p ∈ a ++ b, t.1 = p.1) ∧ ∃ p ∈ a ++ b, t.2 = p.2) ∧ (out ++ [r]).length ≤ i + (u + 1) := by
  obtain ⟨h1, h2, h3, h4, h5, h6⟩ := h
  have hm : s ∈ a := List.mem_of_getElem? hs
  have hqm : q ∈ b := List.mem_of_getElem? hq
  refine ⟨ord_snoc h1 hr fun t ht => ?_, fun n => ?_, fun t ht => ?_, fun t ht => ?_, by simp; omega⟩
  · rcases h3 t ht with ⟨p, hp, e⟩ | ⟨_, p, hp, e⟩
    · have := ord_before ha hs hp
      rw [hr1]; split <;> omega
    · have := ord_before hb hq hp
      rw [hr1]; split <;> omega
  · rw [smem_append, smem_one, h2, take_snoc hq, smem_append, smem_one, hr1, hr2]
    constructor
    · rintro ((g | g) | g)
      · exact .inl g
      · exact .inr ⟨g.1, .inl g.2⟩
      · refine .inr ?_
        obtain ⟨g1, g2⟩ := g
        have : (s.1 ≤ n ∧ q.1 ≤ n) := by split at g1 <;> omega
        have : (n ≤ s.2 ∧ n ≤ q.2) := by split at g2 <;> omega
        exact ⟨⟨by omega, by omega⟩, .inr ⟨by omega, by omega⟩⟩
    · rintro (g | ⟨g, g' | g'⟩)
      · exact .inl (.inl g)
      · exact .inl (.inr ⟨g, g'⟩)
      · exact .inr ⟨by split <;> omega, by split <;> omega⟩
  · rcases List.mem_append.1 ht with g | g
    · rcases h3 t g with g | ⟨g, p, hp, e⟩
      · exact .inl g
      · exact .inr ⟨g, p, by rw [take_snoc hq]; exact List.mem_append.2 (.inl hp), e⟩
    · rw [List.mem_singleton] at g
      subst g
      exact .inr ⟨by rw [hr2]; split <;> omega, q, by rw [take_snoc hq]; simp, by rw [hr2]; split <;> omega⟩
  · rcases List.mem_append.1 ht with g | g
    · exact h5 t g
    · rw [List.mem_singleton] at g
      subst g
      refine ⟨?_, ?_⟩
      · rw [hr1]
        split
        · exact ⟨q, List.mem_append.2 (.inr hqm), rfl⟩
        · exact ⟨s, List.mem_append.2 (.inl hm), rfl⟩
      · rw [hr2]
        split
        · exact ⟨q, List.mem_append.2 (.inr hqm), rfl⟩
        · exact ⟨s, List.mem_append.2 (.inl hm), rfl⟩
theorem min_some {a b : List Sp} {i u : Nat} {s q r : Sp} {out : List Sp} (ha : Ord a) (hb : Ord b) (hs : a[i]? = some s) (hq : b[u]? = some q) (hqs : q.2 ≤ s.2) (hr1 : r.1 = if s.1 < q.1 then q.1 else s.1) (hr2 : r.2 = if q.2 < s.2 then q.2 else s.2) (hr : r.1 ≤ r.2) (h : MIn a b i s u out) : MIn a b i s (u + 1) (out ++ [r]) := by
  obtain ⟨p1, p2, p3, p4, p5⟩ := min_put ha hb hs hq hr1 hr2 hr h
  refine ⟨p1, p2, p3, fun p hp => ?_, p4, p5⟩
  rw [take_snoc hq] at hp
  rcases List.mem_append.1 hp with g | g
  · exact h.2.2.2.1 p g
  · rw [List.mem_singleton] at g; subst g; exact hqs
/-- All of b has been looked at. -/
theorem min_end {a b : List Sp} {i : Nat} {s : Sp} {out : List Sp} (hs : a[i]? = some s) (h : MIn a b i s b.length out) : MInv a b (i + 1) b.length out := by
  obtain ⟨h1, h2, h3, h4, h5, h6⟩ := h
  rw [List.take_length] at h2 h3 h4
  have hin : s ∈ a.take (i + 1) := by rw [take_snoc hs]; simp
  have up : ∀ {p}, p ∈ a.take i → p ∈ a.take (i + 1) := fun hp => by rw [take_snoc hs]; exact List.mem_append.2 (.inl hp)
  refine ⟨h1, fun n => ?_, fun t ht => ?_, fun q hq => ⟨s, hin, h4 q (by rwa [List.take_length] at hq)⟩, h5, by omega⟩
  · rw [h2, take_snoc hs, smem_append, smem_one]
    constructor
    · rintro (g | g)
      · exact ⟨.inl g.1, g.2⟩
      · exact ⟨.inr g.1, g.2⟩
    · rintro ⟨g | g, g'⟩
      · exact .inl ⟨g, g'⟩
      · exact .inr ⟨g, g'⟩
  · rcases h3 t ht with ⟨p, hp, e⟩ | ⟨g, _⟩
    · exact ⟨p, up hp, e⟩
    · exact ⟨s, hin, g⟩
theorem after_none {b : List Sp} {u : Nat} {s q : Sp} (hb : Ord b) (hq : b[u]? = some q) (hqs : s.2 ≤ q.2) {n : Int} (hn : n ≤ s.2) (h : SMem b n) : SMem (b.take (u + 1)) n := by
  obtain ⟨p, hp, g1, g2⟩ := h
  obtain ⟨j, hj, e⟩ := List.getElem_of_mem hp
  have ej : b[j]? = some p := List.getElem?_eq_some_iff.2 ⟨hj, e⟩
  by_cases c : j ≤ u
  · exact ⟨p, List.mem_of_getElem? (l := b.take (u + 1)) (i := j) (by rw [List.getElem?_take, if_pos (by omega)]; exact ej), g1, g2⟩
  · have := ord_lt hb (by omega : u < j) hq ej
    omega
theorem smem_take {b : List Sp} {u : Nat} {n : Int} (h : SMem (b.take u) n) : SMem b n := by
  obtain ⟨p, hp, g⟩ := h
  exact ⟨p, List.mem_of_mem_take hp, g⟩
/-- The span of b reaches further: the next one. -/
theorem min_next_none {a b : List Sp} {i u : Nat} {s q : Sp} {out : List Sp} (hb : Ord b) (hs : a[i]? = some s) (hq : b[u]? = some q) (hqs : s.2 ≤ q.2) (he : ∀ n, ¬ ((s.1 ≤ n ∧ n ≤ s.2) ∧ (q.1 ≤ n ∧ n ≤ q.2))) (h : MIn a b i s u out) : MInv a b (i + 1) u out := by
  obtain ⟨h1, h2, h3, h4, h5, h6⟩ := h
  have hin : s ∈ a.take (i + 1) := by rw [take_snoc hs]; simp
  have up : ∀ {p}, p ∈ a.take i → p ∈ a.take (i + 1) := fun hp => by rw [take_snoc hs]; exact List.mem_append.2 (.inl hp)
  refine ⟨h1, fun n => ?_, fun t ht => ?_, fun q hq => ⟨s, hin, h4 q hq⟩, h5, by omega⟩
  · rw [h2, take_snoc hs, smem_append, smem_one]
    constructor
    · rintro (g | g)
      · exact ⟨.inl g.1, g.2⟩
      · exact ⟨.inr g.1, smem_take g.2⟩
    · rintro ⟨g | g, g'⟩
      · exact .inl ⟨g, g'⟩
      · have := after_none hb hq hqs g.2 g'
        rw [take_snoc hq, smem_append, smem_one] at this
        rcases this with x | x
        · exact .inr ⟨g, x⟩
        · exact absurd ⟨g, x⟩ (he n)
  · rcases h3 t ht with ⟨p, hp, e⟩ | ⟨g, _⟩
    · exact ⟨p, up hp, e⟩
    · exact ⟨s, hin, g⟩
theorem min_next_some {a b : List Sp} {i u : Nat} {s q r : Sp} {out : List Sp} (ha : Ord a) (hb : Ord b) (hs : a[i]? = some s) (hq : b[u]? = some q) (hqs : s.2 ≤ q.2) (hr1 : r.1 = if s.1 < q.1 then q.1 else s.1) (hr2 : r.2 = if q.2 < s.2 then q.2 else s.2) (hr : r.1 ≤ r.2) (h : MIn a b i s u out) : MInv a b (i + 1) u (out ++ [r]) := by
  obtain ⟨p1, p2, p3, p4, p5⟩ := min_put ha hb hs hq hr1 hr2 hr h
  obtain ⟨h1, h2, h3, h4, h5, h6⟩ := h
  have hin : s ∈ a.take (i + 1) := by rw [take_snoc hs]; simp
  have up : ∀ {p}, p ∈ a.take i → p ∈ a.take (i + 1) := fun hp => by rw [take_snoc hs]; exact List.mem_append.2 (.inl hp)
  refine ⟨p1, fun n => ?_, fun t ht => ?_, fun q hq => ⟨s, hin, h4 q hq⟩, p4, by omega⟩
  · rw [p2, take_snoc hs, smem_append, smem_one]
    constructor
    · rintro (g | g)
      · exact ⟨.inl g.1, g.2⟩
      · exact ⟨.inr g.1, smem_take g.2⟩
    · rintro ⟨g | g, g'⟩
      · exact .inl ⟨g, g'⟩
      · exact .inr ⟨g, after_none hb hq hqs g.2 g'⟩
  · rcases p3 t ht with ⟨p, hp, e⟩ | ⟨g, _⟩
    · exact ⟨p, up hp, e⟩
    · exact ⟨s, hin, g⟩

/-! Without. -/
def WInv (a b : List Sp) (i u : Nat) (out : List Sp) : Prop :=
  Ord out ∧ (∀ n, SMem out n ↔ SMem (a.take i) n ∧ ¬ SMem b n) ∧ (∀ t ∈ out, ∃ p ∈ a.take i, t.2 ≤ p.2) ∧ (∀ q ∈ b.take u, ∃ p ∈ a.take i, q.2 ≤ p.2) ∧ (∀ t ∈ out, -9223372036854775808 ≤ t.1 ∧ t.2 ≤ 9223372036854775807) ∧ out.length ≤ i + u
/-- lo: from where on the span is still there. -/
def WIn (a b : List Sp) (i : Nat) (s : Sp) (lo : Int) (u : Nat) (out : List Sp) : Prop :=
  Ord out ∧ s.1 ≤ lo ∧ lo ≤ s.2 ∧ (∀ n, SMem out n ↔ (SMem (a.take i) n ∧ ¬ SMem b n) ∨ ((s.1 ≤ n ∧ n < lo) ∧ ¬ SMem b n)) ∧
    (∀ t ∈ out, t.2 + 1 < lo) ∧ (∀ q ∈ b.take u, q.2 < lo) ∧ (∀ t ∈ out, -9223372036854775808 ≤ t.1 ∧ t.2 ≤ 9223372036854775807) ∧ out.length ≤ i + u
theorem winv_0 (a b : List Sp) : WInv a b 0 0 [] := ⟨ord_nil, fun n => by simp [SMem], by simp, by simp, by simp, Nat.le_refl _⟩
theorem win_start {a b : List Sp} {i u : Nat} {s : Sp} {out : List Sp} (ha : Ord a) (hs : a[i]? = some s) (h : WInv a b i u out) : WIn a b i s s.1 u out := by
  obtain ⟨h1, h2, h3, h4, h5, h6⟩ := h
  refine ⟨h1, Int.le_refl _, ha.2 s (List.mem_of_getElem? hs), fun n => ?_, fun t ht => ?_, fun q hq => ?_, h5, h6⟩
  · rw [h2]
    constructor
    · exact .inl
    · rintro (g | g)
      · exact g
      · omega
  · obtain ⟨p, hp, e⟩ := h3 t ht
    have := ord_before ha hs hp
    omega
  · obtain ⟨p, hp, e⟩ := h4 q hq
    have := ord_before ha hs hp
    omega
/-- A number below the next span of b, and not below lo, is not in b. -/
theorem win_gap {b : List Sp} {u : Nat} {q : Sp} {lo n : Int} (hb : Ord b) (hq : b[u]? = some q) (h : ∀ q ∈ b.take u, q.2 < lo) (h1 : lo ≤ n) (h2 : n < q.1) : ¬ SMem b n := by
  rintro ⟨p, hp, g1, g2⟩
  obtain ⟨j, hj, e⟩ := List.getElem_of_mem hp
  have ej : b[j]? = some p := List.getElem?_eq_some_iff.2 ⟨hj, e⟩
  rcases Nat.lt_trichotomy j u with c | c | c
  · have := h p (List.mem_of_getElem? (by rw [List.getElem?_take, if_pos c]; exact ej))
    omega
  · subst c
    rw [hq] at ej
    cases ej
    omega
  · have := ord_lt hb c hq ej
    have := hb.2 q (List.mem_of_getElem? hq)
    omega
theorem win_after {b : List Sp} {u : Nat} {lo n : Int} (hb : b.length ≤ u) (h : ∀ q ∈ b.take u, q.2 < lo) (h1 : lo ≤ n) : ¬ SMem b n := by
  rintro ⟨p, hp, g1, g2⟩
  rw [List.take_of_length_le hb] at h
  have := h p hp
  omega
/-- What is ahead of the next span of b stays. -/
theorem win_put {a b : List Sp} {i u : Nat} {s q : Sp} {lo : Int} {out : List Sp} (hb : Ord b) (hs : Rng s) (hqr : Rng q) (hq : b[u]? = some q) (hc : lo < q.1) (hqs : q.1 ≤ s.2) (h : WIn a b i s lo u out) :
    Ord (out ++ [(lo, q.1 - 1)]) ∧ (∀ n, SMem (out ++ [(lo, q.1 - 1)]) n ↔ (SMem (a.take i) n ∧ ¬ SMem b n) ∨ ((s.1 ≤ n ∧ n < q.1) ∧ ¬ SMem b n)) ∧ (∀ t ∈ out ++ [(lo, q.1 - 1)], t.2 + 1 < q.2 + 1 ∧ t.2 < s.2) ∧
      (∀ t ∈ out ++ [(lo, q.1 - 1)], -9223372036854775808 ≤ t.1 ∧ t.2 ≤ 9223372036854775807) ∧ (out ++ [(lo, q.1 - 1)]).length ≤ i + u + 1 := by
  obtain ⟨h1, l1, l2, h2, h3, h4, h5, h6⟩ := h
  have hq2 := hb.2 q (List.mem_of_getElem? hq)
  obtain ⟨r1, r2, r3, r4⟩ := hs
  obtain ⟨r5, r6, r7, r8⟩ := hqr
  refine ⟨ord_snoc h1 (by dsimp only; omega) h3, fun n => ?_, fun t ht => ?_, fun t ht => ?_, by simp; omega⟩
  · rw [smem_append, smem_one, h2]
    dsimp only
    constructor
    · rintro ((g | g) | g)
      · exact .inl g
      · exact .inr ⟨⟨by omega, by omega⟩, g.2⟩
      · exact .inr ⟨⟨by omega, by omega⟩, win_gap hb hq h4 g.1 (by omega)⟩
    · rintro (g | g)
      · exact .inl (.inl g)
      · by_cases c : n < lo
        · exact .inl (.inr ⟨⟨g.1.1, c⟩, g.2⟩)
        · exact .inr ⟨by omega, by omega⟩
  · rcases List.mem_append.1 ht with g | g
    · have := h3 t g
      omega
    · rw [List.mem_singleton] at g
      subst g
      dsimp only
      omega
  · rcases List.mem_append.1 ht with g | g
    · exact h5 t g
    · rw [List.mem_singleton] at g
      subst g
      dsimp only
      omega
theorem win_next_put {a b : List Sp} {i u : Nat} {s q : Sp} {lo : Int} {out : List Sp} (ha : Ord a) (hb : Ord b) (hsr : Rng s) (hqr : Rng q) (hs : a[i]? = some s) (hq : b[u]? = some q) (hc : lo < q.1) (hqs : q.1 ≤ s.2) (hh : s.2 ≤ q.2) (h : WIn a b i s lo u out) : WInv a b (i + 1) u (out ++ [(lo, q.1 - 1)]) := by
  obtain ⟨p1, p2, p3, p4, p5⟩ := win_put hb hsr hqr hq hc hqs h
  obtain ⟨h1, l1, l2, h2, h3, h4, h5, h6⟩ := h
  have hin : s ∈ a.take (i + 1) := by rw [take_snoc hs]; simp
  refine ⟨p1, fun n => ?_, fun t ht => ⟨s, hin, by have := (p3 t ht).2; omega⟩, fun q hq => ⟨s, hin, by have := h4 q hq; omega⟩, p4, by omega⟩
  rw [p2, take_snoc hs, smem_append, smem_one]
  constructor
  · rintro (g | g)
    · exact ⟨.inl g.1, g.2⟩
    · exact ⟨.inr ⟨by omega, by omega⟩, g.2⟩
  · rintro ⟨g | g, g'⟩
    · exact .inl ⟨g, g'⟩
    · refine .inr ⟨⟨g.1, ?_⟩, g'⟩
      by_cases c : n < q.1
      · exact c
      · exact absurd ⟨q, List.mem_of_getElem? hq, by omega, by omega⟩ g'
theorem win_next_skip {a b : List Sp} {i u : Nat} {s q : Sp} {lo : Int} {out : List Sp} (hs : a[i]? = some s) (hq : b[u]? = some q) (hc : ¬ lo < q.1) (hh : s.2 ≤ q.2) (h : WIn a b i s lo u out) : WInv a b (i + 1) u out := by
  obtain ⟨h1, l1, l2, h2, h3, h4, h5, h6⟩ := h
  have hin : s ∈ a.take (i + 1) := by rw [take_snoc hs]; simp
  refine ⟨h1, fun n => ?_, fun t ht => ⟨s, hin, by have := h3 t ht; omega⟩, fun q hq => ⟨s, hin, by have := h4 q hq; omega⟩, h5, by omega⟩
  rw [h2, take_snoc hs, smem_append, smem_one]
  constructor
  · rintro (g | g)
    · exact ⟨.inl g.1, g.2⟩
    · exact ⟨.inr ⟨by omega, by omega⟩, g.2⟩
  · rintro ⟨g | g, g'⟩
    · exact .inl ⟨g, g'⟩
    · refine .inr ⟨⟨g.1, ?_⟩, g'⟩
      by_cases c : n < lo
      · exact c
      · exact absurd ⟨q, List.mem_of_getElem? hq, by omega, by omega⟩ g'
theorem win_on_put {a b : List Sp} {i u : Nat} {s q : Sp} {lo : Int} {out : List Sp} (hb : Ord b) (hsr : Rng s) (hqr : Rng q) (hq : b[u]? = some q) (hc : lo < q.1) (hqs : q.1 ≤ s.2) (hh : q.2 < s.2) (h : WIn a b i s lo u out) : WIn a b i s (q.2 + 1) (u + 1) (out ++ [(lo, q.1 - 1)]) := by
  obtain ⟨p1, p2, p3, p4, p5⟩ := win_put hb hsr hqr hq hc hqs h
  obtain ⟨h1, l1, l2, h2, h3, h4, h5, h6⟩ := h
  have hq2 := hb.2 q (List.mem_of_getElem? hq)
  refine ⟨p1, by omega, by omega, fun n => ?_, fun t ht => (p3 t ht).1, fun p hp => ?_, p4, by omega⟩
  · rw [p2]
    constructor
    · rintro (g | g)
      · exact .inl g
      · exact .inr ⟨⟨by omega, by omega⟩, g.2⟩
    · rintro (g | g)
      · exact .inl g
      · refine .inr ⟨⟨g.1.1, ?_⟩, g.2⟩
        by_cases c : n < q.1
        · exact c
        · exact absurd ⟨q, List.mem_of_getElem? hq, by omega, by omega⟩ g.2
  · rw [take_snoc hq] at hp
    rcases List.mem_append.1 hp with g | g
    · have := h4 p g; omega
    · rw [List.mem_singleton] at g; subst g; omega
theorem win_on_skip {a b : List Sp} {i u : Nat} {s q : Sp} {lo lo' : Int} {out : List Sp} (hq : b[u]? = some q) (hc : ¬ lo < q.1) (hh : q.2 < s.2) (hl : lo' = if lo < q.2 + 1 then q.2 + 1 else lo) (h : WIn a b i s lo u out) : WIn a b i s lo' (u + 1) out := by
  obtain ⟨h1, l1, l2, h2, h3, h4, h5, h6⟩ := h
  have hle : lo ≤ lo' ∧ q.2 + 1 ≤ lo' := by rw [hl]; split <;> omega
  refine ⟨h1, by omega, by rw [hl]; split <;> omega, fun n => ?_, fun t ht => by have := h3 t ht; omega, fun p hp => ?_, h5, by omega⟩
  · rw [h2]
    constructor
    · rintro (g | g)
      · exact .inl g
      · exact .inr ⟨⟨by omega, by omega⟩, g.2⟩
    · rintro (g | g)
      · exact .inl g
      · refine .inr ⟨⟨g.1.1, ?_⟩, g.2⟩
        by_cases c : n < lo
        · exact c
        · refine absurd ⟨q, List.mem_of_getElem? hq, by omega, ?_⟩ g.2
          have := g.1.2
          rw [hl] at this
          split at this <;> omega
  · rw [take_snoc hq] at hp
    rcases List.mem_append.1 hp with g | g
    · have := h4 p g; omega
    · rw [List.mem_singleton] at g; subst g; omega
/-- The rest of the span stays. -/
theorem win_end {a b : List Sp} {i u : Nat} {s : Sp} {lo : Int} {out : List Sp} (hb : Ord b) (hsr : Rng s) (hs : a[i]? = some s) (hq : b.length ≤ u ∨ ∃ q, b[u]? = some q ∧ s.2 < q.1) (h : WIn a b i s lo u out) : WInv a b (i + 1) u (out ++ [(lo, s.2)]) := by
  obtain ⟨h1, l1, l2, h2, h3, h4, h5, h6⟩ := h
  have hin : s ∈ a.take (i + 1) := by rw [take_snoc hs]; simp
  obtain ⟨r1, r2, r3, r4⟩ := hsr
  have no : ∀ n, lo ≤ n → n ≤ s.2 → ¬ SMem b n := fun n g1 g2 => by
    rcases hq with hq | ⟨q, hq, e⟩
    · exact win_after hq h4 g1
    · exact win_gap hb hq h4 g1 (by omega)
  refine ⟨ord_snoc h1 (by dsimp only; omega) h3, fun n => ?_, fun t ht => ⟨s, hin, ?_⟩, fun q hq => ⟨s, hin, by have := h4 q hq; omega⟩, fun t ht => ?_, by simp; omega⟩
  · rw [smem_append, smem_one, h2, take_snoc hs, smem_append, smem_one]
    dsimp only
    constructor
    · rintro ((g | g) | g)
      · exact ⟨.inl g.1, g.2⟩
      · exact ⟨.inr ⟨by omega, by omega⟩, g.2⟩
      · exact ⟨.inr ⟨by omega, by omega⟩, no n g.1 g.2⟩
    · rintro ⟨g | g, g'⟩
      · exact .inl (.inl ⟨g, g'⟩)
      · by_cases c : n < lo
        · exact .inl (.inr ⟨⟨g.1, c⟩, g'⟩)
        · exact .inr ⟨by omega, g.2⟩
  · rcases List.mem_append.1 ht with g | g
    · have := h3 t g; omega
    · rw [List.mem_singleton] at g; subst g; exact Int.le_refl _
  · rcases List.mem_append.1 ht with g | g
    · exact h5 t g
    · rw [List.mem_singleton] at g; subst g; dsimp only; omega
end Go.Proofs.YtpmmbcobjibpeaaGreatDoor
