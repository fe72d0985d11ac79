import Derived.Test.YtinbhhcppiamjaaGrm
import Derived.Test.YtinbhhcppiamjaaOpn
import Derived.Deep.OwnRows
import Derived.Sort.OwnSortedInts
namespace Go.Proofs.Ytinbhhcppiamjaa
set_option linter.unusedSimpArgs false
set_option linter.unusedVariables false
open Go.RowKit Go.Lib
/-! Rows of numbers, rows of values: handed in, and of the call's own. -/
def nums (xs : List Int) : List Value := xs.map fun x => .int .i64 x
theorem nums_one (xs : List Int) : ∀ u ∈ nums xs, u.oneCell' = true := by
  intro u hu
  simp only [nums, List.mem_map] at hu
  obtain ⟨_, _, rfl⟩ := hu
  rfl
theorem infoI : (Try.prog.info? 3).map (fun i => (i.zero, i.size, i.bytes)) = some (some (.int .i64 0), 1, 8) := by kernel_rfl
theorem infoI' : ∃ i0, Try.prog.info? 3 = some i0 ∧ i0.zero = some (.int .i64 0) ∧ i0.size = 1 ∧ i0.bytes = 8 := by
  have h := infoI
  cases hi : Try.prog.info? 3 with
  | none => rw [hi] at h; cases h
  | some i =>
    rw [hi] at h
    simp only [Option.map_some, Option.some.injEq, Prod.mk.injEq] at h
    exact ⟨i, rfl, h.1, h.2.1, h.2.2⟩
def OwnI (w : World) (B : Nat) (v : Value) (xs : List Int) : Prop := w.ownsRow B 3 1 v xs.length (nums xs)
theorem OwnI.keep {w w' : World} {B : Nat} {v : Value} {xs : List Int} (h : OwnI w B v xs) (hb : Bel w w') : OwnI w' B v xs := own_keep h hb
theorem OwnI.lt {w : World} {B : Nat} {v : Value} {xs : List Int} (h : OwnI w B v xs) : ∀ k, v.ownBlock = some k → B ≤ k ∧ k < w.heap.size := World.ownsRow.lt h
/-- The numbers that lie at an address. -/
def Ints (w : World) (A : Option Addr) (xs : List Int) : Prop := Row w A (nums xs)
theorem Ints.at {w : World} {b off : Nat} {xs : List Int} (h : Ints w (some ⟨b, off, none⟩) xs) {i : Nat} {x : Int} (hx : xs[i]? = some x) : w.cell? ⟨b, off + i, none⟩ = some (.int .i64 x) := by
  obtain ⟨b', off', e, _, hc⟩ := h (by have := (List.getElem?_eq_some_iff.1 hx).1; simp [nums]; omega)
  cases e
  exact hc i _ (by simp [nums, hx])
theorem OwnI.ints {w : World} {B : Nat} {v : Value} {xs : List Int} (h : OwnI w B v xs) : ∃ A c, v = .slice A xs.length c ∧ Ints w A xs ∧ (xs = [] ∨ ∃ g, A = some ⟨g, 0, none⟩ ∧ B ≤ g ∧ g < w.heap.size) := by
  obtain ⟨A, c, e, hr, _, h2⟩ := own_row h
  refine ⟨A, c, e, hr, ?_⟩
  rcases h2 with h2 | h2
  · exact .inl (by simpa [nums] using h2)
  · exact .inr h2
theorem app_ints {w0 W w : World} {v : Value} {xs ys : List Int} {A : Option Addr} {m c : Nat} (h0 : Bel w0 W) (hW : Bel W w) (h : OwnI W w0.heap.size v xs) (hy : Ints w A ys) (hm : ys.length = m) (hA : A = none → c = 0) (hn : xs.length + ys.length ≤ 2097152) (ty : TypeId) :
    ∃ v' w', (Builtin.append_ #[26, 26] ty #[v, .slice A m c]).run Try.prog w = .ok v' w' ∧ (OwnI w' w0.heap.size v' (xs ++ ys) ∧ Bel w0 w' ∧ (∀ k o, k < W.heap.size → v.ownBlock ≠ some k → w'.cell? ⟨k, o, none⟩ = W.cell? ⟨k, o, none⟩) ∧ (∀ k, k < W.heap.size → v.ownBlock ≠ some k → v'.ownBlock ≠ some k) ∧ W.heap.size ≤ w'.heap.size) := by
  subst hm
  obtain ⟨i0, hi, hz0, hz1, hz2⟩ := infoI'
  have hb := h0.trans hW
  obtain ⟨v', w', hr, h1, h2, h3⟩ := run_app (P := Try.prog) w w0.heap.size 26 ty 3 i0 _ 1 8 Try.underlying26 hi hz0 hz1 hz2 rfl (by omega) (h.keep hW) (m := ys.length) (c := c) hy (show (nums ys).length = ys.length * 1 by simp [nums]) hA (nums_one ys) (by simp only [maxLen]; omega) (by omega) hb.size
  refine ⟨v', w', hr, ?_, h2.bel hb fun k hk => (h.lt k hk).1, fun k o hk hne => ?_, fun k hk hne => ?_, Nat.le_trans hW.size h2.size⟩
  · unfold OwnI
    rw [List.length_append]
    simpa [nums] using h1
  · have hk' := Nat.lt_of_lt_of_le hk hW.size
    exact (World.cell?_of_block (h2.block k hk' (fun e => hne e.symm))).trans (hW.cells k o hk)
  · rcases h3 with h3 | h3
    · rw [h3]; exact hne
    · rw [h3]
      intro e
      have := hW.size
      cases e
      omega
theorem ints_lit {w : World} {n : Nat} (xs : List Int) (hn : n = w.heap.size) : Ints (w.alloc (.cells (nums xs).toArray 3)) (some ⟨n, 0, none⟩) xs := fun _ => by
  subst hn
  refine ⟨_, 0, rfl, by simp, fun j u hu => ?_⟩
  have hadd : (0 + j) = j := by omega
  rw [hadd, cell_of_row _ w.heap.size j _ _ _ (heap_alloc_new w _)]
  simpa using hu
theorem OwnI.lit {w0 w : World} {n : Nat} (xs : List Int) (hb : Bel w0 w) (hn : n = w.heap.size) (hl : xs.length ≤ maxLen) : OwnI (w.alloc (.cells (nums xs).toArray 3)) w0.heap.size (.slice (some ⟨n, 0, none⟩) xs.length xs.length) xs := by
  subst hn
  have := World.ownsRow_lit (base := w0.heap.size) (e := 3) (size := 1) w (nums xs).toArray xs.length hb.size hl (by simp [nums])
  simpa [OwnI] using this
/-! Rows of strings: handed in, and of the call's own. -/
def strs (xs : List ByteArray) : List Value := xs.map .string
theorem strs_one (xs : List ByteArray) : ∀ u ∈ strs xs, u.oneCell' = true := by
  intro u hu
  simp only [strs, List.mem_map] at hu
  obtain ⟨_, _, rfl⟩ := hu
  rfl
theorem infoT : (Try.prog.info? 9).map (fun i => (i.zero, i.size, i.bytes)) = some (some (.string ⟨#[]⟩), 1, 16) := by kernel_rfl
theorem infoT' : ∃ i0, Try.prog.info? 9 = some i0 ∧ i0.zero = some (.string ⟨#[]⟩) ∧ i0.size = 1 ∧ i0.bytes = 16 := by
  have h := infoT
  cases hi : Try.prog.info? 9 with
  | none => rw [hi] at h; cases h
  | some i =>
    rw [hi] at h
    simp only [Option.map_some, Option.some.injEq, Prod.mk.injEq] at h
    exact ⟨i, rfl, h.1, h.2.1, h.2.2⟩
def OwnT (w : World) (B : Nat) (v : Value) (xs : List ByteArray) : Prop := w.ownsRow B 9 1 v xs.length (strs xs)
theorem OwnT.keep {w w' : World} {B : Nat} {v : Value} {xs : List ByteArray} (h : OwnT w B v xs) (hb : Bel w w') : OwnT w' B v xs := own_keep h hb
theorem OwnT.lt {w : World} {B : Nat} {v : Value} {xs : List ByteArray} (h : OwnT w B v xs) : ∀ k, v.ownBlock = some k → B ≤ k ∧ k < w.heap.size := World.ownsRow.lt h
theorem OwnT.nil (w : World) (B : Nat) : OwnT w B (.slice none 0 0) [] := ⟨rfl, .inl ⟨rfl, rfl⟩⟩
/-- The strings that lie at an address. -/
def Strs (w : World) (A : Option Addr) (xs : List ByteArray) : Prop := Row w A (strs xs)
theorem Strs.keep {w w' : World} {A : Option Addr} {xs : List ByteArray} (h : Strs w A xs) (hb : Bel w w') : Strs w' A xs := Row.keep h hb
theorem Strs.nil {w : World} {A : Option Addr} : Strs w A [] := fun h => absurd h (by simp [strs])
theorem Strs.blk {w : World} {A : Option Addr} {xs : List ByteArray} (h : Strs w A xs) (h0 : 0 < xs.length) : ∃ b off, A = some ⟨b, off, none⟩ ∧ b < w.heap.size ∧ ∀ i x, xs[i]? = some x → w.cell? ⟨b, off + i, none⟩ = some (.string x) := by
  obtain ⟨b, off, e, hl, hc⟩ := h (by simpa [strs] using h0)
  exact ⟨b, off, e, hl, fun i x hx => hc i _ (by simp [strs, hx])⟩
theorem OwnT.strs {w : World} {B : Nat} {v : Value} {xs : List ByteArray} (h : OwnT w B v xs) : ∃ A c, v = .slice A xs.length c ∧ Strs w A xs ∧ (A = none → c = 0) := by
  obtain ⟨A, c, e, hr, h1, _⟩ := own_row h
  exact ⟨A, c, e, hr, h1⟩
theorem app_strs {w0 w : World} {v : Value} {xs ys : List ByteArray} {A : Option Addr} {m c : Nat} (hb : Bel w0 w) (h : OwnT w w0.heap.size v xs) (hy : Strs w A ys) (hm : ys.length = m) (hA : A = none → c = 0) (hn : (xs.length + ys.length) * 16 ≤ 140737488355328) (ty : TypeId) :
    ∃ v' w', (Builtin.append_ #[22, 22] ty #[v, .slice A m c]).run Try.prog w = .ok v' w' ∧ (OwnT w' w0.heap.size v' (xs ++ ys) ∧ Bel w0 w') := by
  subst hm
  obtain ⟨i0, hi, hz0, hz1, hz2⟩ := infoT'
  obtain ⟨v', w', hr, h1, h2, h3⟩ := run_app (P := Try.prog) w w0.heap.size 22 ty 9 i0 _ 1 16 Try.underlying22 hi hz0 hz1 hz2 rfl (by omega) h (m := ys.length) (c := c) hy (show (Go.Proofs.Ytinbhhcppiamjaa.strs ys).length = ys.length * 1 by simp [Go.Proofs.Ytinbhhcppiamjaa.strs]) hA (strs_one ys) (by simp only [maxLen]; omega) (by omega) hb.size
  refine ⟨v', w', hr, ?_, h2.bel hb fun k hk => (h.lt k hk).1⟩
  unfold OwnT
  rw [List.length_append]
  simpa [Go.Proofs.Ytinbhhcppiamjaa.strs] using h1
theorem strs_lit {w : World} {n : Nat} (xs : List ByteArray) (hn : n = w.heap.size) : Strs (w.alloc (.cells (Go.Proofs.Ytinbhhcppiamjaa.strs xs).toArray 9)) (some ⟨n, 0, none⟩) xs := fun _ => by
  subst hn
  refine ⟨_, 0, rfl, by simp, fun j u hu => ?_⟩
  have hadd : (0 + j) = j := by omega
  rw [hadd, cell_of_row _ w.heap.size j _ _ _ (heap_alloc_new w _)]
  simpa using hu
theorem OwnT.lit {w0 w : World} {n : Nat} (xs : List ByteArray) (hb : Bel w0 w) (hn : n = w.heap.size) (hl : xs.length ≤ maxLen) : OwnT (w.alloc (.cells (Go.Proofs.Ytinbhhcppiamjaa.strs xs).toArray 9)) w0.heap.size (.slice (some ⟨n, 0, none⟩) xs.length xs.length) xs := by
  subst hn
  have := World.ownsRow_lit (base := w0.heap.size) (e := 9) (size := 1) w (Go.Proofs.Ytinbhhcppiamjaa.strs xs).toArray xs.length hb.size hl (by simp [Go.Proofs.Ytinbhhcppiamjaa.strs])
  simpa [OwnT] using this
/-- A string that a machine can hold. -/
def Fits (s : ByteArray) : Prop := s.size ≤ 9223372036854775807
/-! Blocks of the call's own. -/
/-- A block of n cells. -/
def VRow (w : World) (b n : Nat) (f : Nat → Value) : Prop := b < w.heap.size ∧ ∀ i, i < n → w.cell? ⟨b, i, none⟩ = some (f i) ∧ w.frozen? ⟨b, i, none⟩ = false
def vset {α : Type} (f : Nat → α) (k : Nat) (v : α) : Nat → α := fun i => if i = k then v else f i
theorem vset_at {α : Type} (f : Nat → α) (k : Nat) (v : α) : vset f k v k = v := if_pos rfl
theorem vset_ne {α : Type} (f : Nat → α) (k : Nat) (v : α) (i : Nat) (h : i ≠ k) : vset f k v i = f i := if_neg h
theorem VRow.kept {w w' : World} {b n : Nat} {f : Nat → Value} {row : Option Nat} (h : VRow w b n f) (hg : w.grownBy w' row) (hne : some b ≠ row) : VRow w' b n f :=
  ⟨Nat.lt_of_lt_of_le h.1 hg.size, fun i hi => by
    have e := hg.block b h.1 hne
    exact ⟨(World.cell?_of_block e).trans (h.2 i hi).1, (World.frozen?_of_block e).trans (h.2 i hi).2⟩⟩
theorem VRow.keep {w w' : World} {b n : Nat} {f : Nat → Value} (h : VRow w b n f) (hb : Bel w w') : VRow w' b n f := h.kept (bel_grown hb) (by simp)
theorem VRow.ext {w : World} {b n : Nat} {f g : Nat → Value} (h : VRow w b n f) (hfg : ∀ i, i < n → f i = g i) : VRow w b n g :=
  ⟨h.1, fun i hi => by rw [← hfg i hi]; exact h.2 i hi⟩
theorem VRow.put {w : World} {b n : Nat} {f : Nat → Value} (h : VRow w b n f) (k : Nat) (v : Value) (hk : k < n) : VRow (w.setCell ⟨b, k, none⟩ v) b n (vset f k v) := by
  refine ⟨by have := h.1; simpa using this, fun i hi => ?_⟩
  obtain ⟨h1, h2⟩ := h.2 i hi
  obtain ⟨h3, h4⟩ := h.2 k hk
  by_cases he : i = k
  · subst he
    rw [vset_at]
    exact ⟨by simp [go_sem, h1], by simp [go_sem, h2]⟩
  · rw [vset_ne _ _ _ _ he]
    have he' : ¬ k = i := fun h => he h.symm
    exact ⟨by simp [go_sem, h1, he, he'], by simp [go_sem, h2, he, he']⟩
theorem VRow.made (w : World) (z : Value) (n : Nat) (t : TypeId) : VRow (w.alloc (.cells (madeCells #[z] n) t)) w.heap.size n (fun _ => z) := by
  have h := World.rowIs_made w z n t
  exact ⟨h.lt, fun i hi => ⟨h.cell hi, h.frozen i⟩⟩

theorem grownBy_setV (w : World) (b i : Nat) (v : Value) : w.grownBy (w.setCell ⟨b, i, none⟩ v) (some b) :=
  ⟨rfl, rfl, rfl, by simp, fun j _ hj => by
    have : b ≠ j := fun e => hj (by rw [e])
    simp [World.setCell, Array.getElem?_modify, this]⟩
/-! A row of rows of numbers. -/
def Grp (w : World) (b n : Nat) (E : TypeId) (f : Nat → Value) (L : Nat → List Int) : Prop :=
  VRow w b n f ∧ ∀ j, j < n → w.ownsRow (b + 1) E 1 (f j) (L j).length (nums (L j)) ∧ ∀ i, i < n → i ≠ j → (f j).ownBlock = none ∨ (f j).ownBlock ≠ (f i).ownBlock
section
variable {w w' : World} {b n : Nat} {E : TypeId} {f : Nat → Value} {L : Nat → List Int}
theorem Grp.kept {row : Option Nat} (h : Grp w b n E f L) (hg : w.grownBy w' row) (hb : some b ≠ row) (hr : ∀ j, j < n → (f j).ownBlock = none ∨ (f j).ownBlock ≠ row) : Grp w' b n E f L :=
  ⟨h.1.kept hg hb, fun j hj => ⟨(h.2 j hj).1.kept hg (hr j hj), (h.2 j hj).2⟩⟩
theorem Grp.keep (h : Grp w b n E f L) (hb : Bel w w') : Grp w' b n E f L := h.kept (bel_grown hb) (by simp) fun j _ => by
  cases hv : (f j).ownBlock with
  | none => exact .inl rfl
  | some k => exact .inr (by simp)
theorem Grp.lt (h : Grp w b n E f L) {j k : Nat} (hj : j < n) (hk : (f j).ownBlock = some k) : b < k ∧ k < w.heap.size := by
  have := World.ownsRow.lt (h.2 j hj).1 k hk
  exact ⟨by omega, this.2⟩
/-- What turns another block of the call's own, one below the row's or a map's, leaves the rows. -/
theorem Grp.far {k : Nat} (h : Grp w b n E f L) (hg : w.grownBy w' (some k)) (hb : b ≠ k) (hk : ∀ j, j < n → (f j).ownBlock ≠ some k) : Grp w' b n E f L :=
  h.kept hg (by simpa using hb) fun j hj => .inr (hk j hj)
theorem Grp.ext {L' : Nat → List Int} (h : Grp w b n E f L) (hL : ∀ j, j < n → L j = L' j) : Grp w b n E f L' :=
  ⟨h.1, fun j hj => by rw [← hL j hj]; exact h.2 j hj⟩
/-- The j-th row has been replaced. -/
theorem Grp.app {j : Nat} {v : Value} {l : List Int} (h : Grp w b n E f L) (hj : j < n) (hg : w.grownBy w' (f j).ownBlock) (ho : w'.ownsRow (b + 1) E 1 v l.length (nums l)) (hat : v.ownBlock = (f j).ownBlock ∨ v.ownBlock = some w.heap.size) :
    Grp (w'.setCell ⟨b, j, none⟩ v) b n E (vset f j v) (vset L j l) := by
  have hb0 : some b ≠ (f j).ownBlock := fun e => by have := h.lt hj e.symm; omega
  have hv : w'.grownBy (w'.setCell ⟨b, j, none⟩ v) (some b) := grownBy_setV w' b j v
  have far : ∀ {u : Value} {l : List Int}, w'.ownsRow (b + 1) E 1 u l.length (nums l) → u.ownBlock = none ∨ u.ownBlock ≠ some b := fun {u l} ho => by
    cases hu : u.ownBlock with
    | none => exact .inl rfl
    | some k =>
      have := World.ownsRow.lt ho k hu
      exact .inr (by simp; omega)
  have apart : ∀ i, i < n → i ≠ j → ((f i).ownBlock = none ∨ (f i).ownBlock ≠ v.ownBlock) ∧ (v.ownBlock = none ∨ v.ownBlock ≠ (f i).ownBlock) := by
    intro i hi hne
    have h1 := (h.2 i hi).2 j hj (Ne.symm hne)
    cases hu : (f i).ownBlock with
    | none =>
      refine ⟨.inl rfl, ?_⟩
      cases hvo : v.ownBlock with
      | none => exact .inl rfl
      | some k => exact .inr (by simp)
    | some k =>
      have hlt := h.lt hi hu
      rw [hu] at h1
      have hne2 : (some k : Option Nat) ≠ v.ownBlock := by
        rcases hat with e | e
        · rw [e]; exact h1.resolve_left (by simp)
        · rw [e]; simp; omega
      exact ⟨.inr hne2, .inr fun e => hne2 e.symm⟩
  refine ⟨(h.1.kept hg hb0).put j v hj, fun i hi => ?_⟩
  by_cases e : i = j
  · subst e
    rw [vset_at, vset_at]
    refine ⟨ho.kept hv (far ho), fun k hk hne => ?_⟩
    rw [vset_ne _ _ _ _ hne]
    exact (apart k hk hne).2
  · rw [vset_ne _ _ _ _ e, vset_ne _ _ _ _ e]
    have hk := (h.2 i hi).1.kept hg ((h.2 i hi).2 j hj (Ne.symm e))
    refine ⟨hk.kept hv (far hk), fun k hk hne => ?_⟩
    by_cases e2 : k = j
    · subst e2
      rw [vset_at]
      exact (apart i hi e).1
    · rw [vset_ne _ _ _ _ e2]
      exact (h.2 i hi).2 k hk hne
/-- The j-th row's numbers have been put in order, or the like, in their place. -/
theorem Grp.turned {j : Nat} {l : List Int} (h : Grp w b n E f L) (hj : j < n) (hg : w.grownBy w' (f j).ownBlock) (ho : w'.ownsRow (b + 1) E 1 (f j) l.length (nums l)) :
    Grp w' b n E f (vset L j l) := by
  have hb0 : some b ≠ (f j).ownBlock := fun e => by have := h.lt hj e.symm; omega
  refine ⟨h.1.kept hg hb0, fun i hi => ?_⟩
  by_cases e : i = j
  · subst e
    rw [vset_at]
    exact ⟨ho, (h.2 i hi).2⟩
  · rw [vset_ne _ _ _ _ e]
    exact ⟨(h.2 i hi).1.kept hg ((h.2 i hi).2 j hj (Ne.symm e)), (h.2 i hi).2⟩
theorem Grp.made (w : World) (n : Nat) (t E : TypeId) : Grp (w.alloc (.cells (madeCells #[.slice none 0 0] n) t)) w.heap.size n E (fun _ => .slice none 0 0) (fun _ => []) :=
  ⟨VRow.made w _ n t, fun j _ => ⟨⟨rfl, .inl ⟨rfl, rfl⟩⟩, fun i _ _ => .inl rfl⟩⟩
end
end Go.Proofs.Ytinbhhcppiamjaa
