import Derived.Test.YthfkbonbgdioaaaGreatDoorOpn
import Derived.Test.YthfkbonbgdioaaaGreatDoorOwn
import Derived.Test.YthfkbonbgdioaaaGreatDoorUni
import Derived.Lib.SlicesCompact
import Derived.Sort.Walk0
import Derived.Sort.EncStr
namespace Go.Proofs.YthfkbonbgdioaaaGreatDoor
set_option linter.unusedSimpArgs false
set_option linter.unusedVariables false
open Go.RowKit Go.Lib

/-! Rows of strings: handed in, and of the call's own. -/
def strs (xs : List ByteArray) : List Value := xs.map .string
theorem strs_one (xs : List ByteArray) : ∀ u ∈ strs xs, u.oneCell' = true := by
  intro u hu
  simp only [strs, List.mem_map] at hu
  obtain ⟨_, _, rfl⟩ := hu
  rfl
theorem infoT : (Tryz.prog.info? 9).map (fun i => (i.zero, i.size, i.bytes)) = some (some (.string ⟨#[]⟩), 1, 16) := by kernel_rfl
theorem infoT' : ∃ i0, Tryz.prog.info? 9 = some i0 ∧ i0.zero = some (.string ⟨#[]⟩) ∧ i0.size = 1 ∧ i0.bytes = 16 := by
  have h := infoT
  cases hi : Tryz.prog.info? 9 with
  | none => rw [hi] at h; cases h
  | some i =>
    rw [hi] at h
    simp only [Option.map_some, Option.some.injEq, Prod.mk.injEq] at h
    exact ⟨i, rfl, h.1, h.2.1, h.2.2⟩
def OwnT (w : World) (B : Nat) (v : Value) (xs : List ByteArray) : Prop := w.ownsRow B 9 1 v xs.length (strs xs)
theorem OwnT.keep {w w' : World} {B : Nat} {v : Value} {xs : List ByteArray} (h : OwnT w B v xs) (hb : Bel w w') : OwnT w' B v xs := own_keep h hb
theorem OwnT.lt {w : World} {B : Nat} {v : Value} {xs : List ByteArray} (h : OwnT w B v xs) : ∀ k, v.ownBlock = some k → B ≤ k ∧ k < w.heap.size := World.ownsRow.lt h
theorem OwnT.nil (w : World) (B : Nat) : OwnT w B (.slice none 0 0) [] := ⟨rfl, .inl ⟨rfl, rfl⟩⟩
/-- The strings that lie at an address. -/
def Strs (w : World) (A : Option Addr) (xs : List ByteArray) : Prop := Row w A (strs xs)
theorem Strs.keep {w w' : World} {A : Option Addr} {xs : List ByteArray} (h : Strs w A xs) (hb : Bel w w') : Strs w' A xs := Row.keep h hb
theorem Strs.nil {w : World} {A : Option Addr} : Strs w A [] := fun h => absurd h (by simp [strs])
theorem Strs.blk {w : World} {A : Option Addr} {xs : List ByteArray} (h : Strs w A xs) (h0 : 0 < xs.length) : ∃ b off, A = some ⟨b, off, none⟩ ∧ b < w.heap.size ∧ ∀ i x, xs[i]? = some x → w.cell? ⟨b, off + i, none⟩ = some (.string x) := by
  obtain ⟨b, off, e, hl, hc⟩ := h (by simpa [strs] using h0)
  exact ⟨b, off, e, hl, fun i x hx => hc i _ (by simp [strs, hx])⟩
theorem OwnT.strs {w : World} {B : Nat} {v : Value} {xs : List ByteArray} (h : OwnT w B v xs) : ∃ A c, v = .slice A xs.length c ∧ Strs w A xs ∧ (A = none → c = 0) := by
  obtain ⟨A, c, e, hr, h1, _⟩ := own_row h
  exact ⟨A, c, e, hr, h1⟩
theorem app_strs {w0 w : World} {v : Value} {xs ys : List ByteArray} {A : Option Addr} {m c : Nat} (hb : Bel w0 w) (h : OwnT w w0.heap.size v xs) (hy : Strs w A ys) (hm : ys.length = m) (hA : A = none → c = 0) (hn : (xs.length + ys.length) * 16 ≤ 140737488355328) (ty : TypeId) :
    ∃ v' w', (Builtin.append_ #[39, 39] ty #[v, .slice A m c]).run Tryz.prog w = .ok v' w' ∧ (OwnT w' w0.heap.size v' (xs ++ ys) ∧ Bel w0 w') := by
  subst hm
  obtain ⟨i0, hi, hz0, hz1, hz2⟩ := infoT'
  obtain ⟨v', w', hr, h1, h2, h3⟩ := run_app (P := Tryz.prog) w w0.heap.size 39 ty 9 i0 _ 1 16 Tryz.underlying39 hi hz0 hz1 hz2 rfl (by omega) h (m := ys.length) (c := c) hy (show (Go.Proofs.YthfkbonbgdioaaaGreatDoor.strs ys).length = ys.length * 1 by simp [Go.Proofs.YthfkbonbgdioaaaGreatDoor.strs]) hA (strs_one ys) (by simp only [maxLen]; omega) (by omega) hb.size
  refine ⟨v', w', hr, ?_, h2.bel hb fun k hk => (h.lt k hk).1⟩
  unfold OwnT
  rw [List.length_append]
  simpa [Go.Proofs.YthfkbonbgdioaaaGreatDoor.strs] using h1
theorem strs_lit {w : World} {n : Nat} (xs : List ByteArray) (hn : n = w.heap.size) : Strs (w.alloc (.cells (Go.Proofs.YthfkbonbgdioaaaGreatDoor.strs xs).toArray 9)) (some ⟨n, 0, none⟩) xs := fun _ => by
  subst hn
  refine ⟨_, 0, rfl, by simp, fun j u hu => ?_⟩
  have hadd : (0 + j) = j := by omega
  rw [hadd, cell_of_row _ w.heap.size j _ _ _ (heap_alloc_new w _)]
  simpa using hu
theorem OwnT.lit {w0 w : World} {n : Nat} (xs : List ByteArray) (hb : Bel w0 w) (hn : n = w.heap.size) (hl : xs.length ≤ maxLen) : OwnT (w.alloc (.cells (Go.Proofs.YthfkbonbgdioaaaGreatDoor.strs xs).toArray 9)) w0.heap.size (.slice (some ⟨n, 0, none⟩) xs.length xs.length) xs := by
  subst hn
  have := World.ownsRow_lit (base := w0.heap.size) (e := 9) (size := 1) w (Go.Proofs.YthfkbonbgdioaaaGreatDoor.strs xs).toArray xs.length hb.size hl (by simp [Go.Proofs.YthfkbonbgdioaaaGreatDoor.strs])
  simpa [OwnT] using this
/-- A row of the call's own, as the library's sort reads it. -/
theorem OwnT.holds {w : World} {B : Nat} {v : Value} {xs : List ByteArray} (h : OwnT w B v xs) (hv : xs ≠ []) :
    ∃ g cap, v = .slice (some ⟨g, 0, none⟩) xs.length cap ∧ B ≤ g ∧ g < w.heap.size ∧ xs.length ≤ cap ∧ cap ≤ maxLen ∧ ∀ i x, xs[i]? = some x → w.cell? ⟨g, 0 + i, none⟩ = some (.string x) ∧ w.frozen? ⟨g, 0 + i, none⟩ = false := by
  have h' : w.ownsRow B 9 1 v xs.length (Go.Proofs.YthfkbonbgdioaaaGreatDoor.strs xs) := h
  rcases h.2 with ⟨e0, e1⟩ | ⟨g, cap, cur, rfl, hb, hg, hn, hm, hs, ht⟩
  · exact absurd (List.eq_nil_of_length_eq_zero e1) hv
  · have hlt : g < w.heap.size := by
      rcases Nat.lt_or_ge g w.heap.size with h' | h'
      · exact h'
      · rw [Array.getElem?_eq_none h'] at hg; cases hg
    refine ⟨g, cap, rfl, hb, hlt, hn, hm, fun i x hx => ?_⟩
    have hc := h'.cells (g := g) rfl i (.string x) (by simp [Go.Proofs.YthfkbonbgdioaaaGreatDoor.strs, hx])
    rw [Go.WideShapes.add_plain] at hc
    exact ⟨hc, by simp [World.frozen?, hg]⟩
/-! Words: plain words on lists of strings. -/
def sless (a b : ByteArray) : Bool := Op.bytesLess a.toList b.toList
theorem sless_lt (a b : ByteArray) : sless a b = decide (a.toList < b.toList) := bytesLess_eq _ _
theorem sless_irr (a : ByteArray) : sless a a = false := by
  rw [sless_lt, decide_eq_false_iff_not]
  exact List.lt_irrefl _
theorem sless_trans {a b c : ByteArray} (h : sless a b = true) (k : sless b c = true) : sless a c = true := by
  rw [sless_lt, decide_eq_true_eq] at *
  exact List.lt_trans h k
theorem sless_tri {a b : ByteArray} (h : sless a b = false) (k : sless b a = false) : a = b := by
  rw [sless_lt, decide_eq_false_iff_not] at *
  exact (toList_inj a b).1 (List.le_antisymm (List.not_lt.1 k) (List.not_lt.1 h))
theorem sless_asy {a b : ByteArray} (h : sless a b = true) : sless b a = false := by
  cases k : sless b a with
  | false => rfl
  | true => have := sless_trans h k; rw [sless_irr] at this; exact this.symm
/-- In order, each once. -/
def Srt (l : List ByteArray) : Prop := l.Pairwise (fun a b => sless a b = true)
theorem srt_nil : Srt [] := List.Pairwise.nil
theorem srt_one (s : ByteArray) : Srt [s] := List.pairwise_singleton _ _
theorem srt_empty {l : List ByteArray} (h : ∀ s, s ∉ l) : l = [] := List.eq_nil_iff_forall_not_mem.2 h
theorem srt_unique : ∀ {l m : List ByteArray}, Srt l → Srt m → (∀ s, s ∈ l ↔ s ∈ m) → l = m
  | [], m, _, _, h => (srt_empty fun s g => by simpa using (h s).2 g).symm
  | s :: l, [], _, _, h => absurd ((h s).1 (List.mem_cons_self ..)) (by simp)
  | s :: l, t :: m, hl, hm, h => by
    have hl' := List.pairwise_cons.1 hl
    have hm' := List.pairwise_cons.1 hm
    have e : s = t := by
      rcases List.mem_cons.1 ((h s).1 (List.mem_cons_self ..)) with e | a
      · exact e
      · rcases List.mem_cons.1 ((h t).2 (List.mem_cons_self ..)) with e | b
        · exact e.symm
        · have h1 := hm'.1 s a
          have h2 := hl'.1 t b
          rw [sless_asy h1] at h2
          cases h2
    subst e
    have key : ∀ {k k' : List ByteArray}, (∀ u ∈ k, sless s u = true) → (∀ u, u ∈ s :: k ↔ u ∈ s :: k') → ∀ u, u ∈ k → u ∈ k' := by
      intro k k' hk hh u hu
      rcases List.mem_cons.1 ((hh u).1 (List.mem_cons_of_mem _ hu)) with e | e
      · subst e
        have := hk _ hu
        rw [sless_irr] at this
        cases this
      · exact e
    rw [srt_unique hl'.2 hm'.2 fun u => ⟨key hl'.1 h u, key hm'.1 (fun u => (h u).symm) u⟩]
/-- Sorted and then made compact. -/
theorem comp_mem {d : Array (List UInt8)} (y : List UInt8) : ∀ m, m ≤ d.size → (y ∈ compactUpTo d m ↔ ∃ j, j < m ∧ d[j]! = y) := by
  intro m
  induction m with
  | zero => intro _; simp [compactUpTo]
  | succ m ih =>
    intro hm
    rw [compactUpTo_succ, List.mem_append, ih (by omega)]
    constructor
    · rintro (⟨j, hj, e⟩ | h)
      · exact ⟨j, by omega, e⟩
      · by_cases k : keeps d m = true
        · rw [if_pos k, List.mem_singleton] at h
          exact ⟨m, by omega, h.symm⟩
        · rw [if_neg k] at h; cases h
    · rintro ⟨j, hj, e⟩
      by_cases hj' : j < m
      · exact .inl ⟨j, hj', e⟩
      · obtain rfl : j = m := by omega
        by_cases k : keeps d j = true
        · exact .inr (by rw [if_pos k, e]; simp)
        · left
          simp [keeps] at k
          exact ⟨j - 1, by omega, by rw [← k.2, e]⟩
theorem comp_srt {d : Array (List UInt8)} (hs : ∀ i j, i < j → j < d.size → d[i]! ≤ d[j]!) : ∀ m, m ≤ d.size → (compactUpTo d m).Pairwise (· < ·) := by
  intro m
  induction m with
  | zero => intro _; simp [compactUpTo]
  | succ m ih =>
    intro hm
    rw [compactUpTo_succ]
    refine List.pairwise_append.2 ⟨ih (by omega), ?_, ?_⟩
    · split <;> simp
    · intro x hx y hy
      obtain ⟨j, hj, e⟩ := (comp_mem x m (by omega)).1 hx
      by_cases k : keeps d m = true
      · rw [if_pos k, List.mem_singleton] at hy
        subst hy
        simp [keeps] at k
        have h1 : d[j]! ≤ d[m - 1]! := by
          by_cases e1 : j = m - 1
          · subst e1; exact List.le_refl _
          · exact hs j (m - 1) (by omega) (by omega)
        have h2 := hs (m - 1) m (by omega) (by omega)
        rw [e] at h1
        have h3 : x ≤ d[m]! := List.le_trans h1 h2
        rcases k with k | k
        · omega
        · refine Decidable.byContradiction fun hn => k (List.le_antisymm (List.not_lt.1 fun h => ?_) h2)
          exact hn (List.lt_of_le_of_lt h1 h)
      · rw [if_neg k] at hy; cases hy
/-- The strings of a list, as bytes; and back. -/
def bys (l : List ByteArray) : List (List UInt8) := l.map (·.toList)
def unb (l : List (List UInt8)) : List ByteArray := l.map fun x => ⟨x.toArray⟩
theorem toList_mk (x : List UInt8) : (⟨x.toArray⟩ : ByteArray).toList = x := by rw [ByteArray.toList_eq]
theorem mk_toList (s : ByteArray) : (⟨s.toList.toArray⟩ : ByteArray) = s := (toList_inj _ _).1 (toList_mk _)
theorem mem_unb (s : ByteArray) (l : List (List UInt8)) : s ∈ unb l ↔ s.toList ∈ l := by
  unfold unb
  rw [List.mem_map]
  constructor
  · rintro ⟨x, hx, rfl⟩; rwa [toList_mk]
  · exact fun h => ⟨_, h, mk_toList s⟩
theorem mem_bys (s : ByteArray) (l : List ByteArray) : s.toList ∈ bys l ↔ s ∈ l := by
  unfold bys
  rw [List.mem_map]
  constructor
  · rintro ⟨x, hx, e⟩; rw [(toList_inj _ _).1 e] at hx; exact hx
  · exact fun h => ⟨s, h, rfl⟩
/-- Sorted, made compact: in order, with the same strings. -/
def sortc (l : List ByteArray) : List ByteArray := unb (compact ((bys l).mergeSort fun x y => decide (x ≤ y)))
theorem sortc_mem (l : List ByteArray) (s : ByteArray) : s ∈ sortc l ↔ s ∈ l := by
  unfold sortc
  rw [mem_unb]
  unfold compact
  rw [comp_mem _ _ (by simp)]
  rw [← mem_bys, ← List.mem_mergeSort (le := fun x y => decide (x ≤ y))]
  generalize (bys l).mergeSort _ = k
  constructor
  · rintro ⟨j, hj, e⟩
    rw [← e, getElem!_pos k.toArray j (by simpa using hj)]
    simp
  · intro h
    obtain ⟨j, hj, e⟩ := List.getElem_of_mem h
    exact ⟨j, hj, by rw [getElem!_pos k.toArray j (by simpa using hj)]; simpa using e⟩
theorem sorted_bys (l : List ByteArray) : ((bys l).mergeSort fun x y => decide (x ≤ y)).Pairwise (· ≤ ·) := by
  have := List.pairwise_mergeSort (le := fun x y : List UInt8 => decide (x ≤ y)) (fun a b c h k => by
    simp only [decide_eq_true_eq] at *; exact List.le_trans h k) (fun a b => by
    simp only [Bool.or_eq_true, decide_eq_true_eq]; exact List.le_total a b) (bys l)
  simpa using this
theorem sortc_srt (l : List ByteArray) : Srt (sortc l) := by
  unfold sortc Srt unb compact
  rw [List.pairwise_map]
  have hp := sorted_bys l
  generalize (bys l).mergeSort _ = k at hp
  have := comp_srt (d := k.toArray) (fun i j hij hj => by
    have hj' : j < k.length := by simpa using hj
    rw [getElem!_pos k.toArray j hj, getElem!_pos k.toArray i (by omega)]
    simp only [List.getElem_toArray]
    exact List.pairwise_iff_getElem.1 hp i j (by omega) hj' hij) k.length (by simp)
  refine this.imp fun {a b} h => ?_
  rw [sless_lt, toList_mk, toList_mk]
  exact decide_eq_true h
theorem compact_le (k : List (List UInt8)) : (compact k).length ≤ k.length := by
  unfold compact compactUpTo
  rw [List.length_map]
  exact Nat.le_trans (List.length_filter_le _ _) (by simp)
theorem sortc_len (l : List ByteArray) : (sortc l).length ≤ l.length := by
  unfold sortc unb
  rw [List.length_map]
  exact Nat.le_trans (compact_le _) (by simp [bys])
/-- What is wanted of a list, in order. -/
def keptl (p : ByteArray → Bool) (l : List ByteArray) : List ByteArray := sortc (l.filter p)
theorem keptl_mem (p : ByteArray → Bool) (l : List ByteArray) (s : ByteArray) : s ∈ keptl p l ↔ s ∈ l ∧ p s = true := by
  unfold keptl; rw [sortc_mem, List.mem_filter]
theorem keptl_srt (p : ByteArray → Bool) (l : List ByteArray) : Srt (keptl p l) := sortc_srt _
theorem keptl_len (p : ByteArray → Bool) (l : List ByteArray) : (keptl p l).length ≤ l.length := Nat.le_trans (sortc_len _) (List.length_filter_le _ _)
theorem keptl_self {p : ByteArray → Bool} {l : List ByteArray} (h : Srt l) (hp : ∀ s ∈ l, p s = true) : keptl p l = l :=
  srt_unique (keptl_srt _ _) h fun s => by rw [keptl_mem]; exact ⟨fun h => h.1, fun h => ⟨h, hp s h⟩⟩
theorem keptl_eq {p q : ByteArray → Bool} {l m : List ByteArray} (h : ∀ s, (s ∈ l ∧ p s = true) ↔ (s ∈ m ∧ q s = true)) : keptl p l = keptl q m :=
  srt_unique (keptl_srt _ _) (keptl_srt _ _) fun s => by rw [keptl_mem, keptl_mem]; exact h s
/-- The first one of a list in order is the least. -/
theorem srt_first {s : ByteArray} {l : List ByteArray} (h : Srt (s :: l)) : ∀ t ∈ s :: l, sless t s = false := by
  intro t ht
  rcases List.mem_cons.1 ht with rfl | ht
  · exact sless_irr _
  · exact sless_asy ((List.pairwise_cons.1 h).1 t ht)
/-- Of more than there are places one is not there. -/
theorem hole0 (f : Nat → List UInt8) : ∀ (n : Nat) (l : List (List UInt8)), (∀ i j, i < n → j < n → f i = f j → i = j) → (∀ i, i < n → f i ∈ l) → n ≤ l.length := by
  intro n
  induction n with
  | zero => intro l _ _; omega
  | succ n ih =>
    intro l hi hm
    have h1 := hm n (by omega)
    have h2 := ih (l.erase (f n)) (fun i j a b e => hi i j (by omega) (by omega) e) (fun i hi' => (List.mem_erase_of_ne (fun e => by
      have := hi i n (by omega) (by omega) e; omega)).2 (hm i (by omega)))
    rw [List.length_erase_of_mem h1] at h2
    have := List.length_pos_of_mem h1
    omega
theorem hole (f : Nat → ByteArray) (n : Nat) (l : List ByteArray) (hi : ∀ i j, i < n → j < n → f i = f j → i = j) (hm : ∀ i, i < n → f i ∈ l) : n ≤ l.length := by
  have := hole0 (fun i => (f i).toList) n (bys l) (fun i j a b e => hi i j a b ((toList_inj _ _).1 e)) (fun i h => (mem_bys _ _).2 (hm i h))
  simpa [bys] using this
def inl (l : List ByteArray) (x : ByteArray) : Bool := l.any fun y => decide (y = x)
theorem inl_iff (l : List ByteArray) (x : ByteArray) : inl l x = true ↔ x ∈ l := by
  unfold inl
  rw [List.any_eq_true]
  constructor
  · rintro ⟨y, h, e⟩; rw [← of_decide_eq_true e]; exact h
  · exact fun h => ⟨x, h, by simp⟩
theorem inl_false (l : List ByteArray) (x : ByteArray) : inl l x = false ↔ x ∉ l := by
  rw [← inl_iff]; simp
/-- Search in a list in order. -/
theorem bs_mem (l : List ByteArray) (Sx : Nat → ByteArray) (x : ByteArray) (h : Srt l) (hS : ∀ j (hj : j < l.length), Sx j = l[j]) (I : Nat)
    (h1 : ∀ t, t < I → sless (Sx t) x = true) (h2 : ∀ t, I ≤ t → t < l.length → sless (Sx t) x = false) : decide (I < l.length ∧ Sx I = x) = inl l x := by
  rw [Bool.eq_iff_iff, decide_eq_true_eq, inl_iff]
  constructor
  · rintro ⟨a, b⟩; rw [← b, hS I a]; exact List.getElem_mem _
  · intro hx
    obtain ⟨j, hj, e⟩ := List.getElem_of_mem hx
    have a : I ≤ j := Nat.le_of_not_lt fun hlt => by
      have := h1 j hlt
      rw [hS j hj, e, sless_irr] at this
      cases this
    by_cases e1 : I = j
    · subst e1; exact ⟨hj, by rw [hS I hj, e]⟩
    · have h3 := h2 I (Nat.le_refl _) (by omega)
      have h4 := List.pairwise_iff_getElem.1 h I j (by omega) hj (by omega)
      rw [hS I (by omega)] at h3
      rw [e, h3] at h4
      cases h4
end Go.Proofs.YthfkbonbgdioaaaGreatDoor
