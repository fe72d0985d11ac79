import Derived.Test.YtinbhhcppiamjaaKit
namespace Go.Proofs.Ytinbhhcppiamjaa
set_option linter.unusedSimpArgs false
set_option linter.unusedVariables false
/-! Graphs: plain words. -/
/-- i may stand next: it does not stand yet, and all that it needs does. -/
def ready (g : Nat → List Nat) (os : List Nat) (i : Nat) : Bool := !os.contains i && (g i).all fun k => os.contains k
def nxt (g : Nat → List Nat) (N : Nat) (os : List Nat) : Option Nat := (List.range N).find? (ready g os)
/-- The first ones in order, as many as can be. -/
def ord (g : Nat → List Nat) (N : Nat) : Nat → List Nat
  | 0 => []
  | k + 1 => match nxt g N (ord g N k) with
    | none => ord g N k
    | some i => ord g N k ++ [i]
/-- The first that does not stand. -/
def fst0 (N : Nat) (os : List Nat) : Nat := ((List.range N).find? fun i => !os.contains i).getD 0
/-- What things need, by however many steps. -/
inductive Reach (g : Nat → List Nat) (n : Nat) : Nat → Prop
  | one {k : Nat} : k ∈ g n → Reach g n k
  | more {i k : Nat} : Reach g n i → k ∈ g i → Reach g n k
open Classical in
noncomputable def above (g : Nat → List Nat) (N n : Nat) : List Nat := (List.range N).filter fun i => decide (Reach g n i)

section
variable {g : Nat → List Nat} {N : Nat}
theorem sub_len : ∀ {l1 l2 : List Nat}, l1.Nodup → (∀ x ∈ l1, x ∈ l2) → l1.length ≤ l2.length
  | [], _, _, _ => Nat.zero_le _
  | a :: t, l2, h, hs => by
    have h1 := List.nodup_cons.1 h
    have ha := hs a (List.mem_cons_self ..)
    have := sub_len (l1 := t) (l2 := l2.erase a) h1.2 fun x hx => (List.mem_erase_of_ne (fun e => h1.1 (by rw [← e]; exact hx))).2 (hs x (List.mem_cons_of_mem _ hx))
    rw [List.length_erase_of_mem ha] at this
    have := List.length_pos_of_mem ha
    simp only [List.length_cons]
    omega
theorem nodup_le {l : List Nat} (h : l.Nodup) (hl : ∀ x ∈ l, x < N) : l.length ≤ N := by
  have := sub_len (l2 := List.range N) h fun x hx => List.mem_range.2 (hl x hx)
  simpa using this
theorem nodup_full {l : List Nat} (h : l.Nodup) (hl : ∀ x ∈ l, x < N) (hN : l.length = N) {x : Nat} (hx : x < N) : x ∈ l := by
  rcases Classical.em (x ∈ l) with h1 | h1
  · exact h1
  · have := nodup_le (N := N) (l := x :: l) (List.nodup_cons.2 ⟨h1, h⟩) (fun y hy => by
      rcases List.mem_cons.1 hy with rfl | hy
      · exact hx
      · exact hl y hy)
    simp at this
    omega
theorem full_len {l : List Nat} (h : ∀ x, x < N → x ∈ l) : N ≤ l.length := by
  have := sub_len (l1 := List.range N) (l2 := l) List.nodup_range fun x hx => h x (List.mem_range.1 hx)
  simpa using this
theorem ready_iff {os : List Nat} {i : Nat} : ready g os i = true ↔ i ∉ os ∧ ∀ k ∈ g i, k ∈ os := by
  simp [ready]
theorem nxt_some {os : List Nat} {i : Nat} (h : nxt g N os = some i) : i < N ∧ i ∉ os ∧ ∀ k ∈ g i, k ∈ os := by
  have h1 := List.find?_some h
  have h2 := List.mem_of_find?_eq_some h
  exact ⟨List.mem_range.1 h2, ready_iff.1 h1⟩
theorem nxt_none {os : List Nat} (h : nxt g N os = none) {i : Nat} (hi : i < N) (ho : i ∉ os) : ∃ k ∈ g i, k ∉ os := by
  have h1 := List.find?_eq_none.1 h i (List.mem_range.2 hi)
  rw [ready_iff] at h1
  rcases Classical.em (∃ k ∈ g i, k ∉ os) with h2 | h2
  · exact h2
  · exact absurd ⟨ho, fun k hk => Classical.byContradiction fun hn => h2 ⟨k, hk, hn⟩⟩ h1
/-- nxt is the least that is ready. -/
theorem find_least {p : Nat → Bool} {N i : Nat} (hi : i < N) (hp : p i = true) (hm : ∀ j, j < i → p j = false) : (List.range N).find? p = some i := by
  rw [List.find?_range_eq_some]
  exact ⟨hp, List.mem_range.2 hi, fun j hj => by simp [hm j hj]⟩
theorem find_least' {p : Nat → Bool} {N i : Nat} (h : (List.range N).find? p = some i) : i < N ∧ p i = true ∧ ∀ j, j < i → p j = false := by
  rw [List.find?_range_eq_some] at h
  exact ⟨List.mem_range.1 h.2.1, h.1, fun j hj => by have := h.2.2 j hj; simpa using this⟩
theorem find_no {p : Nat → Bool} {N : Nat} : (List.range N).find? p = none ↔ ∀ j, j < N → p j = false := by
  rw [List.find?_eq_none]
  constructor
  · intro h j hj
    have := h j (List.mem_range.2 hj)
    simpa using this
  · intro h j hj
    rw [h j (List.mem_range.1 hj)]
    simp
theorem ord_succ_some {k i : Nat} (h : nxt g N (ord g N k) = some i) : ord g N (k + 1) = ord g N k ++ [i] := by
  rw [ord, h]
theorem ord_succ_none {k : Nat} (h : nxt g N (ord g N k) = none) : ord g N (k + 1) = ord g N k := by
  rw [ord, h]
theorem ord_stop {k : Nat} (h : nxt g N (ord g N k) = none) : ∀ m, ord g N (k + m) = ord g N k
  | 0 => rfl
  | m + 1 => by
    have ih := ord_stop h m
    have : ord g N (k + m + 1) = ord g N (k + m) := ord_succ_none (by rw [ih]; exact h)
    rw [← Nat.add_assoc, this, ih]
theorem ord_ok : ∀ k, (ord g N k).Nodup ∧ (∀ x ∈ ord g N k, x < N) ∧ (ord g N k).length ≤ k
  | 0 => by simp [ord]
  | k + 1 => by
    obtain ⟨h1, h2, h3⟩ := ord_ok k
    cases h : nxt g N (ord g N k) with
    | none => rw [ord_succ_none h]; exact ⟨h1, h2, by omega⟩
    | some i =>
      obtain ⟨a, b, _⟩ := nxt_some h
      rw [ord_succ_some h]
      refine ⟨List.nodup_append.2 ⟨h1, by simp, fun x hx y hy e => ?_⟩, fun x hx => ?_, by simp; omega⟩
      · simp at hy
        exact b (hy ▸ e ▸ hx)
      · rcases List.mem_append.1 hx with hx | hx
        · exact h2 x hx
        · simp at hx
          omega
/-- While none has been missed, k stand after k rounds. -/
theorem ord_len {k : Nat} (h : ∀ j, j < k → nxt g N (ord g N j) ≠ none) : (ord g N k).length = k := by
  induction k with
  | zero => rfl
  | succ k ih =>
    cases hn : nxt g N (ord g N k) with
    | none => exact absurd hn (h k (by omega))
    | some i => rw [ord_succ_some hn, List.length_append, ih (fun j hj => h j (by omega))]; rfl
/-- Where the loop ends. -/
theorem ord_end_none {k : Nat} (hk : k ≤ N) (h : nxt g N (ord g N k) = none) : ord g N N = ord g N k := by
  have := ord_stop h (N - k)
  rwa [show k + (N - k) = N by omega] at this
theorem ord_closed : ∀ k, ∀ i ∈ ord g N k, (∀ x ∈ g i, x ∈ ord g N k) ∧ ¬ Reach g i i
  | 0 => by simp [ord]
  | k + 1 => by
    intro i hi
    have ih := ord_closed k
    cases h : nxt g N (ord g N k) with
    | none => rw [ord_succ_none h] at hi ⊢; exact ih i hi
    | some j =>
      rw [ord_succ_some h] at hi ⊢
      obtain ⟨_, hj, hg⟩ := nxt_some h
      rcases List.mem_append.1 hi with hi | hi
      · exact ⟨fun x hx => List.mem_append.2 (.inl ((ih i hi).1 x hx)), (ih i hi).2⟩
      · obtain rfl : i = j := by simpa using hi
        refine ⟨fun x hx => List.mem_append.2 (.inl (hg x hx)), fun hr => hj ?_⟩
        have : ∀ x, Reach g i x → x ∈ ord g N k := by
          intro x hx
          induction hx with
          | one hk => exact hg _ hk
          | more _ hk ih2 => exact (ih _ ih2).1 _ hk
        exact this i hr
/-- The m-th thing's needs stand ahead of it. -/
theorem ord_ahead : ∀ k m i, (ord g N k)[m]? = some i → ∀ x ∈ g i, x ∈ (ord g N k).take m
  | 0, m, i, h => by simp [ord] at h
  | k + 1, m, i, h => by
    intro x hx
    cases hn : nxt g N (ord g N k) with
    | none => rw [ord_succ_none hn] at h ⊢; exact ord_ahead k m i h x hx
    | some j =>
      rw [ord_succ_some hn] at h ⊢
      obtain ⟨_, _, hg⟩ := nxt_some hn
      by_cases hm : m < (ord g N k).length
      · rw [List.getElem?_append_left hm] at h
        rw [List.take_append_of_le_length (by omega)]
        exact ord_ahead k m i h x hx
      · rw [List.getElem?_append_right (by omega)] at h
        have h0 : m - (ord g N k).length = 0 := by
          rcases Nat.eq_zero_or_pos (m - (ord g N k).length) with h0 | h0
          · exact h0
          · rw [List.getElem?_eq_none (by simp; omega)] at h
            cases h
        rw [h0] at h
        simp at h
        subst h
        have : m = (ord g N k).length := by omega
        subst this
        rw [List.take_left' rfl]
        exact hg x hx
theorem fst_lt {os : List Nat} (h : ∃ i, i < N ∧ i ∉ os) : fst0 N os < N ∧ fst0 N os ∉ os ∧ ∀ j, j < fst0 N os → j ∈ os := by
  unfold fst0
  cases hf : (List.range N).find? fun i => !os.contains i with
  | none =>
    obtain ⟨i, hi, ho⟩ := h
    have := find_no.1 hf i hi
    simp [ho] at this
  | some i =>
    obtain ⟨h1, h2, h3⟩ := find_least' hf
    refine ⟨h1, by simpa using h2, fun j hj => ?_⟩
    have := h3 j hj
    simpa using this
theorem miss {os : List Nat} (h1 : os.Nodup) (h2 : ∀ x ∈ os, x < N) (h : os.length < N) : ∃ i, i < N ∧ i ∉ os := by
  apply Classical.byContradiction
  intro hn
  have := full_len (N := N) (l := os) fun x hx => Classical.byContradiction fun ho => hn ⟨x, hx, ho⟩
  omega
theorem reach_lt (hg : ∀ i, ∀ k ∈ g i, k < N) {n x : Nat} (h : Reach g n x) : x < N := by
  cases h with
  | one h => exact hg _ _ h
  | more _ h => exact hg _ _ h
theorem reach_trans {a b c : Nat} (h : Reach g a b) (k : Reach g b c) : Reach g a c := by
  induction k with
  | one h1 => exact h.more h1
  | more _ h1 ih => exact ih.more h1
/-- Some can't be ordered just if one is above itself. -/
theorem round_iff (hg : ∀ i, ∀ k ∈ g i, k < N) : (ord g N N).length < N ↔ ∃ i, i < N ∧ Reach g i i := by
  constructor
  · intro h
    obtain ⟨o1, o2, _⟩ := ord_ok (g := g) (N := N) N
    obtain ⟨i0, hi0, ho0⟩ := miss o1 o2 h
    -- the loop has stopped
    have hstop : nxt g N (ord g N N) = none := by
      have : ∃ j, j < N ∧ nxt g N (ord g N j) = none := by
        apply Classical.byContradiction
        intro hn
        have := ord_len (g := g) (N := N) (k := N) fun j hj e => hn ⟨j, hj, e⟩
        omega
      obtain ⟨j, hj, e⟩ := this
      rw [ord_end_none (by omega) e]
      exact e
    have hstep : ∀ i, ∃ k, i < N → i ∉ ord g N N → k ∈ g i ∧ k ∉ ord g N N := by
      intro i
      by_cases hi : i < N ∧ i ∉ ord g N N
      · obtain ⟨k, h1, h2⟩ := nxt_none hstop hi.1 hi.2
        exact ⟨k, fun _ _ => ⟨h1, h2⟩⟩
      · exact ⟨0, fun a b => absurd ⟨a, b⟩ hi⟩
    obtain ⟨f, hf⟩ : ∃ f : Nat → Nat, ∀ i, i < N → i ∉ ord g N N → f i ∈ g i ∧ f i ∉ ord g N N := ⟨fun i => Classical.choose (hstep i), fun i => Classical.choose_spec (hstep i)⟩
    obtain ⟨s, hs0, hs1⟩ : ∃ s : Nat → Nat, s 0 = i0 ∧ ∀ k, s (k + 1) = f (s k) := ⟨fun k => Nat.rec i0 (fun _ x => f x) k, rfl, fun _ => rfl⟩
    have hs : ∀ k, s k < N ∧ s k ∉ ord g N N := by
      intro k
      induction k with
      | zero => rw [hs0]; exact ⟨hi0, ho0⟩
      | succ k ih =>
        have := hf _ ih.1 ih.2
        rw [hs1]
        exact ⟨hg _ _ this.1, this.2⟩
    have hr : ∀ a m, Reach g (s a) (s (a + m + 1)) := by
      intro a m
      induction m with
      | zero => rw [Nat.add_zero, hs1]; exact .one (hf _ (hs a).1 (hs a).2).1
      | succ m ih => rw [show a + (m + 1) + 1 = (a + m + 1) + 1 from rfl, hs1 (a + m + 1)]; exact ih.more (hf _ (hs _).1 (hs _).2).1
    apply Classical.byContradiction
    intro hn
    have hnd : ((List.range (N + 1)).map s).Nodup := by
      unfold List.Nodup
      rw [List.pairwise_map]
      refine List.pairwise_lt_range.imp ?_
      intro a b hab e
      have := hr a (b - a - 1)
      rw [show a + (b - a - 1) + 1 = b by omega, ← e] at this
      exact hn ⟨s a, (hs a).1, this⟩
    have := nodup_le (N := N) hnd (fun x hx => by
      obtain ⟨k, _, rfl⟩ := List.mem_map.1 hx
      exact (hs k).1)
    simp at this
    omega
  · rintro ⟨i, hi, hr⟩
    apply Classical.byContradiction
    intro hn
    obtain ⟨o1, o2, o3⟩ := ord_ok (g := g) (N := N) N
    have := nodup_full o1 o2 (by omega) hi
    exact (ord_closed N i this).2 hr
/-- What is closed, and holds nothing else, is what is above. -/
theorem above_eq {n : Nat} {p : Nat → Bool} (hs : ∀ x, x < N → p x = true → Reach g n x) (h0 : ∀ k ∈ g n, p k = true) (h1 : ∀ i, i < N → p i = true → ∀ k ∈ g i, p k = true) (hg : ∀ i, ∀ k ∈ g i, k < N) :
    above g N n = (List.range N).filter p := by
  unfold above
  refine List.filter_congr fun x hx => ?_
  rw [Bool.eq_iff_iff]
  simp only [decide_eq_true_eq]
  constructor
  · intro h
    clear hx
    induction h with
    | one h => exact h0 _ h
    | more h2 h ih => exact h1 _ (reach_lt hg h2) ih _ h
  · exact hs x (List.mem_range.1 hx)
theorem mem_above {n x : Nat} : x ∈ above g N n ↔ x < N ∧ Reach g n x := by
  simp [above]
/-- Lists in order, each once, with the same members, are one. -/
theorem rising_ext : ∀ {a b : List Nat}, a.Pairwise (· < ·) → b.Pairwise (· < ·) → (∀ x, x ∈ a ↔ x ∈ b) → a = b
  | [], [], _, _, _ => rfl
  | [], y :: b, _, _, h => by have := (h y).2 (List.mem_cons_self ..); simp at this
  | x :: a, [], _, _, h => by have := (h x).1 (List.mem_cons_self ..); simp at this
  | x :: a, y :: b, ha, hb, h => by
    obtain ⟨ha1, ha2⟩ := List.pairwise_cons.1 ha
    obtain ⟨hb1, hb2⟩ := List.pairwise_cons.1 hb
    have hxy : x = y := by
      rcases List.mem_cons.1 ((h x).1 (List.mem_cons_self ..)) with e | e
      · exact e
      · rcases List.mem_cons.1 ((h y).2 (List.mem_cons_self ..)) with e2 | e2
        · exact e2.symm
        · have := hb1 x e; have := ha1 y e2; omega
    subst hxy
    rw [rising_ext ha2 hb2 fun z => ?_]
    have hz := h z
    simp only [List.mem_cons] at hz
    constructor
    · intro hza
      rcases hz.1 (.inr hza) with e | e
      · have := ha1 z hza; omega
      · exact e
    · intro hzb
      rcases hz.2 (.inr hzb) with e | e
      · have := hb1 z hzb; omega
      · exact e
theorem rising_filter (p : Nat → Bool) : ((List.range N).filter p).Pairwise (· < ·) := List.pairwise_lt_range.sublist List.filter_sublist
end

/-! Names. -/
def idx (l : List ByteArray) (s : ByteArray) : Option Nat := l.findIdx? fun x => decide (x = s)
/-- The number of a name, or less than none. -/
def idxI (l : List ByteArray) (s : ByteArray) : Int := match idx l s with | some k => (k : Int) | none => -1
theorem idx_some {l : List ByteArray} {s : ByteArray} {k : Nat} (h : idx l s = some k) : k < l.length ∧ l[k]? = some s := by
  unfold idx at h
  rw [List.findIdx?_eq_some_iff_getElem] at h
  obtain ⟨h1, h2, _⟩ := h
  exact ⟨h1, by rw [List.getElem?_eq_getElem h1]; simpa using h2⟩
theorem idx_first {l : List ByteArray} {s : ByteArray} {k : Nat} (h : l[k]? = some s) (hn : ∀ j, j < k → l[j]? ≠ some s) : idx l s = some k := by
  unfold idx
  obtain ⟨h1, h2⟩ := List.getElem?_eq_some_iff.1 h
  rw [List.findIdx?_eq_some_iff_getElem]
  refine ⟨h1, by simpa using h2, fun j hj => ?_⟩
  have := hn j hj
  rw [List.getElem?_eq_getElem (by omega)] at this
  simpa using this
theorem idx_none {l : List ByteArray} {s : ByteArray} : idx l s = none ↔ ∀ j : Nat, l[j]? ≠ some s := by
  unfold idx
  rw [List.findIdx?_eq_none_iff]
  constructor
  · intro h j e
    have := h s (List.mem_of_getElem? e)
    simp at this
  · intro h x hx
    obtain ⟨j, hj⟩ := List.getElem?_of_mem hx
    have := h j
    rw [hj] at this
    simpa using this
theorem idx_ahead {l : List ByteArray} {s : ByteArray} {k : Nat} (h : idx l s = some k) : ∀ j, j < k → l[j]? ≠ some s := by
  unfold idx at h
  rw [List.findIdx?_eq_some_iff_getElem] at h
  obtain ⟨h1, _, h3⟩ := h
  intro j hj e
  have := h3 j hj
  rw [List.getElem?_eq_getElem (by omega)] at e
  simp at e this
  exact this e


theorem idx_snoc (l : List ByteArray) (x s : ByteArray) : idx (l ++ [x]) s = match idx l s with | some j => some j | none => if s = x then some l.length else none := by
  cases h : idx l s with
  | some j =>
    obtain ⟨h1, h2⟩ := idx_some h
    refine idx_first (by rw [List.getElem?_append_left h1]; exact h2) fun i hi => ?_
    rw [List.getElem?_append_left (by omega)]
    exact idx_ahead h i hi
  | none =>
    have hn := idx_none.1 h
    by_cases e : s = x
    · subst e
      simp only [if_true]
      refine idx_first (by simp) fun i hi => ?_
      rw [List.getElem?_append_left hi]
      exact hn i
    · simp only [if_neg e]
      rw [idx_none]
      intro j hj
      by_cases hl : j < l.length
      · rw [List.getElem?_append_left hl] at hj; exact hn j hj
      · rw [List.getElem?_append_right (by omega)] at hj
        have : j - l.length = 0 := by
          rcases Nat.eq_zero_or_pos (j - l.length) with h0 | h0
          · exact h0
          · rw [List.getElem?_eq_none (by simp; omega)] at hj; cases hj
        rw [this] at hj
        simp at hj
        exact e hj.symm
/-- The first k names by their numbers. -/
def nameM (l : List ByteArray) (k : Nat) : ByteArray → Option Int := fun s => (idx (l.take k) s).map fun j : Nat => (j : Int)
theorem nameM_0 (l : List ByteArray) : nameM l 0 = fun _ => none := by
  funext s
  unfold nameM idx
  simp
theorem nameM_succ {l : List ByteArray} {k : Nat} {x : ByteArray} (h : l[k]? = some x) (hn : idx (l.take k) x = none) : nameM l (k + 1) = fun y => if y = x then some (k : Int) else nameM l k y := by
  have hk := (List.getElem?_eq_some_iff.1 h).1
  funext s
  unfold nameM
  rw [List.take_add_one, h]
  simp only [Option.toList]
  rw [idx_snoc]
  by_cases e : s = x
  · subst e
    rw [hn]
    simp
    omega
  · rw [if_neg e]
    cases idx (l.take k) s with
    | none => simp [e]
    | some j => simp [e]
/-- Does the k-th name stand ahead of it too? -/
def twice (l : List ByteArray) (k : Nat) : Bool := match l[k]? with | some x => (idx (l.take k) x).isSome | none => false
def dup (l : List ByteArray) : Option Nat := (List.range l.length).find? (twice l)
def lost (l : List ByteArray) (ns : List (List ByteArray)) (i : Nat) : Bool := match ns[i]? with | some m => m.any fun s => (idx l s).isNone | none => false
def bad (l : List ByteArray) (ns : List (List ByteArray)) : Option Nat := (List.range l.length).find? (lost l ns)
/-- What is wrong, but for cycles. -/
def chk (l : List ByteArray) (ns : List (List ByteArray)) : Int × Int :=
  if l.length ≠ ns.length ∨ 4096 < l.length then (0, 1) else
    match dup l with
    | some i => ((i : Int), 7)
    | none => match bad l ns with
      | some i => ((i : Int), 12)
      | none => (0, 0)
theorem chk_len {l : List ByteArray} {ns : List (List ByteArray)} (h : l.length ≠ ns.length ∨ 4096 < l.length) : chk l ns = (0, 1) := if_pos h
theorem chk_dup {l : List ByteArray} {ns : List (List ByteArray)} {k : Nat} (h1 : l.length = ns.length) (h2 : l.length ≤ 4096) (hk : k < l.length) (ht : twice l k = true) (hn : ∀ j, j < k → twice l j = false) : chk l ns = ((k : Int), 7) := by
  have hd : dup l = some k := find_least hk ht hn
  rw [chk, if_neg (by omega), hd]
theorem chk_bad {l : List ByteArray} {ns : List (List ByteArray)} {k : Nat} (h1 : l.length = ns.length) (h2 : l.length ≤ 4096) (hn : ∀ j, j < l.length → twice l j = false) (hk : k < l.length) (ht : lost l ns k = true) (hb : ∀ j, j < k → lost l ns j = false) : chk l ns = ((k : Int), 12) := by
  have hd : dup l = none := find_no.2 hn
  have hd2 : bad l ns = some k := find_least hk ht hb
  rw [chk, if_neg (by omega), hd, hd2]
theorem chk_ok {l : List ByteArray} {ns : List (List ByteArray)} (h1 : l.length = ns.length) (h2 : l.length ≤ 4096) (hn : ∀ j, j < l.length → twice l j = false) (hb : ∀ j, j < l.length → lost l ns j = false) : chk l ns = (0, 0) := by
  have hd : dup l = none := find_no.2 hn
  have hd2 : bad l ns = none := find_no.2 hb
  rw [chk, if_neg (by omega), hd, hd2]
/-- Nothing is wrong: then .. -/
theorem chk_zero {l : List ByteArray} {ns : List (List ByteArray)} (h : (chk l ns).2 = 0) : l.length = ns.length ∧ l.length ≤ 4096 ∧ (∀ j, j < l.length → twice l j = false) ∧ ∀ j, j < l.length → lost l ns j = false := by
  unfold chk at h
  split at h
  · cases h
  · rename_i hl
    cases hd : dup l with
    | some i => rw [hd] at h; cases h
    | none =>
      cases hb : bad l ns with
      | some i => rw [hd, hb] at h; cases h
      | none => exact ⟨by omega, by omega, find_no.1 hd, find_no.1 hb⟩
theorem chk_zero1 {l : List ByteArray} {ns : List (List ByteArray)} (h : (chk l ns).2 = 0) : (chk l ns).1 = 0 := by
  obtain ⟨h1, h2, h3, h4⟩ := chk_zero h
  rw [chk_ok h1 h2 h3 h4]
theorem chk_code (l : List ByteArray) (ns : List (List ByteArray)) : (chk l ns).2 = 0 ∨ (chk l ns).2 = 1 ∨ (chk l ns).2 = 7 ∨ (chk l ns).2 = 12 := by
  unfold chk
  split
  · exact .inr (.inl rfl)
  · cases dup l with
    | some i => exact .inr (.inr (.inl rfl))
    | none =>
      cases bad l ns with
      | some i => exact .inr (.inr (.inr rfl))
      | none => exact .inl rfl
theorem idx_take {l : List ByteArray} {x : ByteArray} {k j : Nat} (h : idx l x = some j) (hk : j < k) : idx (l.take k) x = some j := by
  obtain ⟨h1, h2⟩ := idx_some h
  refine idx_first (by rw [List.getElem?_take_of_lt hk]; exact h2) fun i hi => ?_
  rw [List.getElem?_take_of_lt (by omega)]
  exact idx_ahead h i hi
theorem idx_of_take {l : List ByteArray} {x : ByteArray} {k j : Nat} (h : idx (l.take k) x = some j) : idx l x = some j ∧ j < k := by
  obtain ⟨h1, h2⟩ := idx_some h
  have hjk : j < k := by simp at h1; omega
  rw [List.getElem?_take_of_lt hjk] at h2
  refine ⟨idx_first h2 fun i hi => ?_, hjk⟩
  have := idx_ahead h i hi
  rwa [List.getElem?_take_of_lt (by omega)] at this
/-- The document's test: the name's number is less. -/
theorem twice_iff {l : List ByteArray} {k : Nat} {x : ByteArray} (h : l[k]? = some x) : twice l k = true ↔ idxI l x < k := by
  have hk := (List.getElem?_eq_some_iff.1 h).1
  obtain ⟨j, hj, hjk⟩ : ∃ j, idx l x = some j ∧ j ≤ k := by
    cases hi : idx l x with
    | none => exact absurd h (idx_none.1 hi k)
    | some j =>
      refine ⟨j, rfl, Nat.le_of_not_lt fun hlt => idx_ahead hi k hlt h⟩
  unfold twice idxI
  rw [h, hj]
  simp only
  constructor
  · intro hs
    obtain ⟨i, hi⟩ := Option.isSome_iff_exists.1 hs
    obtain ⟨h1, h2⟩ := idx_of_take hi
    rw [hj] at h1
    cases h1
    omega
  · intro hlt
    rw [idx_take hj (by omega)]
    rfl
/-- Names that stand once have their own numbers. -/
theorem idx_at {l : List ByteArray} (hn : ∀ j, j < l.length → twice l j = false) {k : Nat} {x : ByteArray} (h : l[k]? = some x) : idx l x = some k := by
  have hk := (List.getElem?_eq_some_iff.1 h).1
  cases hi : idx l x with
  | none => exact absurd h (idx_none.1 hi k)
  | some j =>
    have hle : j ≤ k := Nat.le_of_not_lt fun hlt => idx_ahead hi k hlt h
    rcases Nat.lt_or_ge j k with hlt | hge
    · have := hn k hk
      unfold twice at this
      rw [h] at this
      simp only [idx_take hi hlt] at this
      cases this
    · congr 1; omega
/-- What the i-th needs, by numbers. -/
def gr (l : List ByteArray) (ns : List (List ByteArray)) (i : Nat) : List Nat := (List.range l.length).filter fun k => (ns.getD i []).any fun s => decide (idx l s = some k)
theorem mem_gr {l : List ByteArray} {ns : List (List ByteArray)} {i k : Nat} : k ∈ gr l ns i ↔ ∃ s ∈ ns.getD i [], idx l s = some k := by
  unfold gr
  rw [List.mem_filter, List.mem_range, List.any_eq_true]
  constructor
  · rintro ⟨_, s, hs, h⟩
    exact ⟨s, hs, by simpa using h⟩
  · rintro ⟨s, hs, h⟩
    exact ⟨(idx_some h).1, s, hs, by simpa using h⟩
theorem gr_lt {l : List ByteArray} {ns : List (List ByteArray)} : ∀ i, ∀ k ∈ gr l ns i, k < l.length := fun i k h => by
  obtain ⟨s, _, h⟩ := mem_gr.1 h
  exact (idx_some h).1
/-- The order, or which one is wrong. -/
def ordOut (l : List ByteArray) (ns : List (List ByteArray)) : List Nat × Int × Int :=
  if (chk l ns).2 ≠ 0 then ([], (chk l ns).1, (chk l ns).2) else
    if (ord (gr l ns) l.length l.length).length = l.length then (ord (gr l ns) l.length l.length, 0, 0) else ([], (fst0 l.length (ord (gr l ns) l.length l.length) : Int), 13)
/-- What the n-th needs, however far. -/
noncomputable def aboveOut (l : List ByteArray) (ns : List (List ByteArray)) (n : Int) : List Nat × Int :=
  if (chk l ns).2 ≠ 0 then ([], (chk l ns).2) else
    if n < 0 ∨ (l.length : Int) ≤ n then ([], 1) else (above (gr l ns) l.length n.toNat, 0)

/-! The loops' words. -/
/-- x is the least from lo on with p, or -1. -/
def Lst (p : Nat → Bool) (n lo : Nat) (x : Int) : Prop :=
  (x = -1 ∧ ∀ j, lo ≤ j → j < n → p j = false) ∨ ∃ m : Nat, x = m ∧ lo ≤ m ∧ m < n ∧ p m = true ∧ ∀ j, lo ≤ j → j < m → p j = false
theorem Lst.start (p : Nat → Bool) (n : Nat) : Lst p n n (-1) := .inl ⟨rfl, fun j h1 h2 => by omega⟩
theorem Lst.hit {p : Nat → Bool} {n lo : Nat} {x : Int} (hlt : lo < n) (hp : p lo = true) : Lst p n lo (lo : Int) :=
  .inr ⟨lo, rfl, Nat.le_refl _, hlt, hp, fun j h1 h2 => by omega⟩
theorem Lst.miss {p : Nat → Bool} {n lo : Nat} {x : Int} (h : Lst p n (lo + 1) x) (hp : p lo = false) : Lst p n lo x := by
  have key : ∀ j, lo ≤ j → ¬ lo + 1 ≤ j → p j = false := fun j h1 h2 => by
    have : j = lo := by omega
    rw [this]; exact hp
  rcases h with ⟨rfl, h⟩ | ⟨m, rfl, h1, h2, h3, h4⟩
  · exact .inl ⟨rfl, fun j h1 h2 => if hj : lo + 1 ≤ j then h j hj h2 else key j h1 hj⟩
  · exact .inr ⟨m, rfl, by omega, h2, h3, fun j h5 h6 => if hj : lo + 1 ≤ j then h4 j hj h6 else key j h5 hj⟩
theorem Lst.ends {p : Nat → Bool} {n : Nat} {x : Int} (h : Lst p n 0 x) : (x = -1 ∧ (List.range n).find? p = none) ∨ ∃ m : Nat, x = m ∧ m < n ∧ (List.range n).find? p = some m := by
  rcases h with ⟨rfl, h⟩ | ⟨m, rfl, _, h2, h3, h4⟩
  · exact .inl ⟨rfl, find_no.2 fun j hj => h j (Nat.zero_le _) hj⟩
  · exact .inr ⟨m, rfl, h2, find_least h2 h3 fun j hj => h4 j (Nat.zero_le _) hj⟩
theorem nxt_lst {g : Nat → List Nat} {n : Nat} {os : List Nat} {x : Int} (h : Lst (ready g os) n 0 x) : (x = -1 ∧ nxt g n os = none) ∨ ∃ m : Nat, x = m ∧ m < n ∧ nxt g n os = some m := h.ends
theorem fst_lst {n : Nat} {os : List Nat} {x : Int} (h : Lst (fun i => !os.contains i) n 0 x) (hex : ∃ i, i < n ∧ i ∉ os) : x = (fst0 n os : Int) := by
  rcases h.ends with ⟨_, h⟩ | ⟨m, rfl, _, h⟩
  · obtain ⟨i, hi, ho⟩ := hex
    have := find_no.1 h i hi
    simp [ho] at this
  · unfold fst0; rw [h]; rfl

/-- Those ahead of i that need k. -/
def users (g : Nat → List Nat) (i k : Nat) : List Nat := (List.range i).filter fun j => (g j).contains k
theorem users_succ (g : Nat → List Nat) (i k : Nat) : users g (i + 1) k = users g i k ++ if (g i).contains k then [i] else [] := by
  unfold users
  rw [List.range_succ, List.filter_append]
  simp [List.filter_cons]
theorem users_lt {g : Nat → List Nat} {i k j : Nat} (h : j ∈ users g i k) : j < i ∧ k ∈ g j := by
  simpa [users] using h
theorem users_nodup (g : Nat → List Nat) (i k : Nat) : (users g i k).Nodup := List.nodup_range.sublist List.filter_sublist
/-- How much of what i needs does not stand. -/
def waits (g : Nat → List Nat) (os : List Nat) (i : Nat) : Nat := ((g i).filter fun k => !os.contains k).length
theorem waits_nil (g : Nat → List Nat) (i : Nat) : waits g [] i = (g i).length := by
  unfold waits
  rw [List.filter_eq_self.2 (fun k _ => by simp)]
theorem waits_zero {g : Nat → List Nat} {os : List Nat} {i : Nat} : waits g os i = 0 ↔ ∀ k ∈ g i, k ∈ os := by
  unfold waits
  rw [List.length_eq_zero_iff, List.filter_eq_nil_iff]
  simp
theorem count_split : ∀ (l : List Nat) (os : List Nat) (m : Nat), l.Nodup → m ∉ os → (l.filter fun k => !(os ++ [m]).contains k).length + (if l.contains m then 1 else 0) = (l.filter fun k => !os.contains k).length
  | [], os, m, _, _ => rfl
  | a :: l, os, m, h, hm => by
    have h1 := List.nodup_cons.1 h
    have ih := count_split l os m h1.2 hm
    by_cases e : a = m
    · subst e
      have hl : l.contains a = false := by simpa using h1.1
      rw [hl] at ih
      simp only [List.filter_cons]
      have c1 : (os ++ [a]).contains a = true := by simp
      have c2 : os.contains a = false := by simpa using hm
      have c3 : (a :: l).contains a = true := by simp
      rw [c1, c2, c3]
      simp only [Bool.not_true, Bool.false_eq_true, if_false, Bool.not_false, if_true, List.length_cons] at ih ⊢
      omega
    · have c1 : (os ++ [m]).contains a = os.contains a := by simp [e]
      have c3 : (a :: l).contains m = l.contains m := by
        rw [Bool.eq_iff_iff]
        simp [Ne.symm e]
      simp only [List.filter_cons]
      rw [c1, c3]
      cases os.contains a
      · simp only [Bool.not_false, if_true, List.length_cons]; omega
      · simpa using ih
theorem waits_snoc {g : Nat → List Nat} {os : List Nat} {m : Nat} (hn : ∀ i, (g i).Nodup) (hm : m ∉ os) (i : Nat) : waits g (os ++ [m]) i + (if (g i).contains m then 1 else 0) = waits g os i := count_split _ _ _ (hn i) hm
theorem gr_nodup (l : List ByteArray) (ns : List (List ByteArray)) (i : Nat) : (gr l ns i).Nodup := List.nodup_range.sublist List.filter_sublist
/-- What waits, and for how much. -/
def leftM (g : Nat → List Nat) (n : Nat) (os : List Nat) : Int → Option Int := fun x => if 0 ≤ x ∧ x < n ∧ x.toNat ∉ os then some (waits g os x.toNat : Int) else none
theorem leftM_some {g : Nat → List Nat} {n : Nat} {os : List Nat} {x c : Int} (h : leftM g n os x = some c) : ∃ i : Nat, x = i ∧ i < n ∧ i ∉ os ∧ c = (waits g os i : Int) := by
  unfold leftM at h
  split at h
  · rename_i h1
    refine ⟨x.toNat, by omega, by omega, h1.2.2, ?_⟩
    cases h; rfl
  · cases h
theorem leftM_at {g : Nat → List Nat} {n : Nat} {os : List Nat} {i : Nat} (hi : i < n) (ho : i ∉ os) : leftM g n os (i : Int) = some (waits g os i : Int) := by
  unfold leftM
  rw [if_pos ⟨by omega, by omega, by simpa using ho⟩]
  simp
/-- While the first ones are written in. -/
def leftI (g : Nat → List Nat) (i : Nat) : Int → Option Int := fun x => if 0 ≤ x ∧ x < i then some ((g x.toNat).length : Int) else none
theorem leftI_0 (g : Nat → List Nat) : leftI g 0 = fun _ => none := by
  funext x; unfold leftI; rw [if_neg (by omega)]
theorem leftI_succ (g : Nat → List Nat) (i : Nat) : (fun y : Int => if y = (i : Int) then some ((g i).length : Int) else leftI g i y) = leftI g (i + 1) := by
  funext y
  unfold leftI
  by_cases e : y = (i : Int)
  · subst e
    rw [if_pos rfl, if_pos (by omega)]
    simp
  · rw [if_neg e]
    by_cases h : 0 ≤ y ∧ y < i
    · rw [if_pos h, if_pos (by omega)]
    · rw [if_neg h, if_neg (by omega)]
theorem leftI_end (g : Nat → List Nat) (n : Nat) : leftI g n = leftM g n [] := by
  funext x
  unfold leftI leftM
  by_cases h : 0 ≤ x ∧ x < n
  · rw [if_pos h, if_pos ⟨h.1, h.2, by simp⟩, waits_nil]
  · rw [if_neg h, if_neg (fun h2 => h ⟨h2.1, h2.2.1⟩)]
/-- While those that wait for m are told: t of them have been. -/
def leftT (g : Nat → List Nat) (n : Nat) (os : List Nat) (m t : Nat) : Int → Option Int := fun x =>
  if 0 ≤ x ∧ x < n ∧ x.toNat ∉ os ++ [m] then some ((waits g os x.toNat : Int) - bif ((users g n m).take t).contains x.toNat then 1 else 0) else none
theorem leftT_0 {g : Nat → List Nat} {n : Nat} {os : List Nat} {m : Nat} : (fun y : Int => if y = (m : Int) then none else leftM g n os y) = leftT g n os m 0 := by
  funext y
  unfold leftM leftT
  by_cases e : y = (m : Int)
  · subst e
    rw [if_pos rfl, if_neg (by simp)]
  · rw [if_neg e]
    by_cases h : 0 ≤ y ∧ y < n ∧ y.toNat ∉ os
    · have h2 : y.toNat ∉ os ++ [m] := by
        simp only [List.mem_append, List.mem_singleton, not_or]
        exact ⟨h.2.2, by omega⟩
      rw [if_pos h, if_pos ⟨h.1, h.2.1, h2⟩]
      simp
    · rw [if_neg h, if_neg fun h2 => h ⟨h2.1, h2.2.1, fun h3 => h2.2.2 (List.mem_append.2 (.inl h3))⟩]
theorem leftT_end {g : Nat → List Nat} {n : Nat} {os : List Nat} {m : Nat} (hn : ∀ i, (g i).Nodup) (hm : m ∉ os) : leftT g n os m (users g n m).length = leftM g n (os ++ [m]) := by
  funext y
  unfold leftM leftT
  by_cases h : 0 ≤ y ∧ y < n ∧ y.toNat ∉ os ++ [m]
  · rw [if_pos h, if_pos h]
    have h1 := waits_snoc hn hm y.toNat
    rw [List.take_length]
    have hu : (users g n m).contains y.toNat = (g y.toNat).contains m := by
      rw [Bool.eq_iff_iff]
      simp only [List.contains_iff_mem, users, List.mem_filter, List.mem_range]
      exact ⟨fun h2 => h2.2, fun h2 => ⟨by omega, h2⟩⟩
    rw [hu]
    congr 1
    cases hc : (g y.toNat).contains m
    · rw [hc] at h1
      simp only [Bool.false_eq_true, if_false, cond_false] at h1 ⊢; omega
    · rw [hc] at h1
      simp only [if_true, cond_true] at h1 ⊢; omega
  · rw [if_neg h, if_neg h]
theorem leftT_succ {g : Nat → List Nat} {n : Nat} {os : List Nat} {m t u : Nat} (hu : (users g n m)[t]? = some u) (ho : u ∉ os ++ [m]) :
    leftT g n os m t (u : Int) = some ((waits g os u : Int)) ∧ (fun y : Int => if y = (u : Int) then some ((waits g os u : Int) - 1) else leftT g n os m t y) = leftT g n os m (t + 1) := by
  have hmem : u ∈ users g n m := List.mem_of_getElem? hu
  have hlt := (users_lt hmem).1
  have hnd := users_nodup g n m
  have hnt : ((users g n m).take t).contains u = false := by
    rw [Bool.eq_false_iff]
    intro hc
    simp only [List.contains_iff_mem] at hc
    obtain ⟨j, hj⟩ := List.getElem?_of_mem hc
    have hjt : j < t := by
      have := (List.getElem?_eq_some_iff.1 hj).1
      simp at this
      omega
    rw [List.getElem?_take_of_lt hjt] at hj
    obtain ⟨a1, a2⟩ := List.getElem?_eq_some_iff.1 hj
    obtain ⟨b1, b2⟩ := List.getElem?_eq_some_iff.1 hu
    have := (List.nodup_iff_pairwise_ne.1 hnd)
    have h3 := List.pairwise_iff_getElem.1 this j t a1 b1 hjt
    exact h3 (a2.trans b2.symm)
  have htk : (users g n m).take (t + 1) = (users g n m).take t ++ [u] := by rw [List.take_add_one, hu]; rfl
  constructor
  · unfold leftT
    rw [if_pos ⟨by omega, by omega, by simpa using ho⟩]
    simp only [Int.toNat_natCast]
    rw [hnt]
    simp
  · funext y
    unfold leftT
    rw [htk]
    by_cases e : y = (u : Int)
    · subst e
      rw [if_pos rfl, if_pos ⟨by omega, by omega, by simpa using ho⟩]
      simp
    · rw [if_neg e]
      by_cases h : 0 ≤ y ∧ y < n ∧ y.toNat ∉ os ++ [m]
      · rw [if_pos h, if_pos h]
        have : ((users g n m).take t ++ [u]).contains y.toNat = ((users g n m).take t).contains y.toNat := by
          rw [Bool.eq_iff_iff]
          simp only [List.contains_iff_mem, List.mem_append, List.mem_singleton]
          exact ⟨fun h2 => h2.resolve_right (by omega), .inl⟩
        rw [this]
      · rw [if_neg h, if_neg h]

/-! What is found on the way up. -/
def cnt (n : Nat) (p : Nat → Bool) : Nat := ((List.range n).filter p).length
theorem cnt_le (n : Nat) (p : Nat → Bool) : cnt n p ≤ n := by
  unfold cnt
  have := List.length_filter_le p (List.range n)
  simpa using this
theorem cnt_set {n x : Nat} {p : Nat → Bool} (hx : x < n) (hp : p x = false) : cnt n (fun i => if i = x then true else p i) = cnt n p + 1 := by
  unfold cnt
  induction n with
  | zero => omega
  | succ n ih =>
    rw [List.range_succ, List.filter_append, List.filter_append, List.length_append, List.length_append]
    by_cases e : x = n
    · subst e
      have h1 : (List.range x).filter (fun i => if i = x then true else p i) = (List.range x).filter p := List.filter_congr fun i hi => by
        have := List.mem_range.1 hi
        rw [if_neg (by omega)]
      rw [h1]
      simp [List.filter_cons, hp]
    · rw [ih (by omega)]
      have : ([n].filter fun i => if i = x then true else p i) = [n].filter p := List.filter_congr fun i hi => by
        simp only [List.mem_singleton] at hi
        rw [if_neg (by omega)]
      rw [this]
      omega
theorem cnt_same {n x : Nat} {p : Nat → Bool} (hp : p x = true) : (fun i => if i = x then true else p i) = p := by
  funext i
  by_cases e : i = x
  · subst e; rw [if_pos rfl, hp]
  · rw [if_neg e]
/-- What the names so far stand for. -/
def onceM (l m : List ByteArray) (i t : Nat) : Int → Option Int := fun x => if 0 ≤ x ∧ ((m.take t).any fun s => decide (idx l s = some x.toNat)) = true then some (i : Int) else none
theorem onceM_0 (l m : List ByteArray) (i : Nat) : onceM l m i 0 = fun _ => none := by
  funext x; unfold onceM; rw [if_neg (by simp)]
theorem onceM_succ {l m : List ByteArray} {i t k : Nat} {s : ByteArray} (hs : m[t]? = some s) (hk : idx l s = some k) : (fun y : Int => if y = (k : Int) then some (i : Int) else onceM l m i t y) = onceM l m i (t + 1) := by
  funext y
  unfold onceM
  rw [List.take_add_one, hs, List.any_append]
  by_cases e : y = (k : Int)
  · subst e
    rw [if_pos rfl, if_pos ⟨by omega, by simp [hk]⟩]
  · rw [if_neg e]
    by_cases h0 : 0 ≤ y
    · have hne : (decide (idx l s = some y.toNat)) = false := by
        rw [hk]
        simp only [Option.some.injEq, decide_eq_false_iff_not]
        omega
      simp only [Option.toList, List.any_cons, List.any_nil, Bool.or_false, hne]
    · rw [if_neg fun h => h0 h.1, if_neg fun h => h0 h.1]
theorem onceM_end {l : List ByteArray} {ns : List (List ByteArray)} {i : Nat} (x : Int) : (onceM l (ns.getD i []) i (ns.getD i []).length x).isSome = true ↔ ∃ k ∈ gr l ns i, x = (k : Int) := by
  unfold onceM
  rw [List.take_length]
  constructor
  · intro h
    split at h
    · rename_i h1
      obtain ⟨s, hs, hd⟩ := List.any_eq_true.1 h1.2
      exact ⟨x.toNat, mem_gr.2 ⟨s, hs, by simpa using hd⟩, by omega⟩
    · cases h
  · rintro ⟨k, hk, rfl⟩
    obtain ⟨s, hs, hd⟩ := mem_gr.1 hk
    rw [if_pos ⟨by omega, List.any_eq_true.2 ⟨s, hs, by simpa using hd⟩⟩]
    rfl
theorem rising_extI : ∀ {a b : List Int}, a.Pairwise (· < ·) → b.Pairwise (· < ·) → (∀ x, x ∈ a ↔ x ∈ b) → a = b
  | [], [], _, _, _ => rfl
  | [], y :: b, _, _, h => by have := (h y).2 (List.mem_cons_self ..); simp at this
  | x :: a, [], _, _, h => by have := (h x).1 (List.mem_cons_self ..); simp at this
  | x :: a, y :: b, ha, hb, h => by
    obtain ⟨ha1, ha2⟩ := List.pairwise_cons.1 ha
    obtain ⟨hb1, hb2⟩ := List.pairwise_cons.1 hb
    have hxy : x = y := by
      rcases List.mem_cons.1 ((h x).1 (List.mem_cons_self ..)) with e | e
      · exact e
      · rcases List.mem_cons.1 ((h y).2 (List.mem_cons_self ..)) with e2 | e2
        · exact e2.symm
        · have := hb1 x e; have := ha1 y e2; omega
    subst hxy
    rw [rising_extI ha2 hb2 fun z => ?_]
    have hz := h z
    simp only [List.mem_cons] at hz
    constructor
    · intro hza
      rcases hz.1 (.inr hza) with e | e
      · have := ha1 z hza; omega
      · exact e
    · intro hzb
      rcases hz.2 (.inr hzb) with e | e
      · have := hb1 z hzb; omega
      · exact e
/-- Numbers that were gathered in whatever order, put in order. -/
theorem sort_nats {zs : List Int} {L : List Nat} (hz : zs.Nodup) (hL : L.Pairwise (· < ·)) (h : ∀ x, x ∈ zs ↔ ∃ k ∈ L, x = (k : Int)) : zs.mergeSort (fun x y => decide (x ≤ y)) = L.map (fun k : Nat => (k : Int)) := by
  have hp := List.mergeSort_perm zs (fun x y => decide (x ≤ y))
  have hs := List.pairwise_mergeSort (le := fun x y : Int => decide (x ≤ y)) (fun a b c h1 h2 => by simp at *; omega) (fun a b => by simp; omega) zs
  have hn : (zs.mergeSort fun x y => decide (x ≤ y)).Nodup := hp.nodup_iff.2 hz
  refine rising_extI ?_ ?_ fun x => ?_
  · have h2 := List.nodup_iff_pairwise_ne.1 hn
    exact hs.imp₂ (fun a b h1 h2 => by simp at h1; omega) h2
  · rw [List.pairwise_map]
    exact hL.imp fun h => by omega
  · rw [hp.mem_iff, h]
    simp [List.mem_map, eq_comm]
end Go.Proofs.Ytinbhhcppiamjaa
