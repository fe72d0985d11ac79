import Derived.Test.YtobdokeklcdpoaaDoorMko
namespace Go.Proofs.YtobdokeklcdpoaaDoor
set_option linter.unusedSimpArgs false
set_option linter.unusedVariables false
open Go.RowKit

/-! MkRows of marks that the call owns. -/
def attCells (a : List UInt8 × List UInt8) : List Value := [.string (bytesOf a.1), .string (bytesOf a.2)]
def atsCells (l : List (List UInt8 × List UInt8)) : List Value := l.flatMap attCells
def mkHead (m : Mk) (A : Option Addr) (c : Nat) : List Value := [.int .i64 m.kind, .int .i64 m.pos, .string (bytesOf m.name), .slice A m.attrs.length c, .string (bytesOf m.text)]
theorem atsCells_len (l : List (List UInt8 × List UInt8)) : (atsCells l).length = 2 * l.length := by
  induction l with
  | nil => rfl
  | cons a l ih => unfold atsCells at ih ⊢; rw [List.flatMap_cons, List.length_append, ih]; simp [attCells]; omega
/-- The cells of marks whose attributes lie from a block on, and not in block E. -/
def MCells (w : World) (B : Nat) (E : Option Nat) : List Mk → List Value → Prop
  | [], xs => xs = []
  | m :: ms, xs => ∃ A c ys, xs = mkHead m A c ++ ys ∧ Row w A (atsCells m.attrs) ∧ (∀ a, A = some a → B ≤ a.block ∧ a.block < w.heap.size ∧ E ≠ some a.block) ∧ MCells w B E ms ys
theorem MCells.len {w : World} {B : Nat} {E : Option Nat} : ∀ {ms : List Mk} {xs : List Value}, MCells w B E ms xs → xs.length = ms.length * 5
  | [], xs, h => by rw [show xs = [] from h]; rfl
  | m :: ms, xs, h => by
    obtain ⟨A, c, ys, rfl, _, _, h4⟩ := h
    rw [List.length_append, h4.len, List.length_cons, Nat.add_mul]
    show 5 + _ = _
    omega
theorem MCells.move {w w' : World} {B : Nat} {E E' row : Option Nat} (hb : BelBut w w' row) (hr : ∀ b, B ≤ b → b < w.heap.size → E ≠ some b → row ≠ some b ∧ E' ≠ some b) : ∀ {ms : List Mk} {xs : List Value}, MCells w B E ms xs → MCells w' B E' ms xs
  | [], xs, h => h
  | m :: ms, xs, h => by
    obtain ⟨A, c, ys, rfl, h2, h3, h4⟩ := h
    refine ⟨A, c, ys, rfl, hb.row h2 (fun k a hk ha e => ?_), fun a ha => ?_, h4.move hb hr⟩
    · obtain ⟨q1, q2, q3⟩ := h3 a ha
      exact (hr _ q1 q2 q3).1 (by rw [hk, e])
    · obtain ⟨q1, q2, q3⟩ := h3 a ha
      exact ⟨q1, Nat.lt_of_lt_of_le q2 (but_size hb), (hr _ q1 q2 q3).2⟩
theorem MCells.snoc {w : World} {B : Nat} {E : Option Nat} {m : Mk} {A : Option Addr} {c : Nat} (h2 : Row w A (atsCells m.attrs)) (h3 : ∀ a, A = some a → B ≤ a.block ∧ a.block < w.heap.size ∧ E ≠ some a.block) : ∀ {ms : List Mk} {xs : List Value}, MCells w B E ms xs → MCells w B E (ms ++ [m]) (xs ++ mkHead m A c)
  | [], xs, h => by
    rw [show xs = [] from h]
    exact ⟨A, c, [], by simp, h2, h3, rfl⟩
  | n :: ms, xs, h => by
    obtain ⟨A', c', ys, rfl, k2, k3, k4⟩ := h
    exact ⟨A', c', ys ++ mkHead m A c, by simp, k2, k3, k4.snoc h2 h3⟩
/-- Marks that the call owns, from a block on. -/
def MkRows (w : World) (B : Nat) (v : Value) (ms : List Mk) : Prop := ∃ xs, w.ownsRow B 31 5 v ms.length xs ∧ MCells w B v.ownBlock ms xs
theorem MkRows.but {w w' : World} {B : Nat} {v : Value} {ms : List Mk} {row : Option Nat} (h : MkRows w B v ms) (hb : BelBut w w' row) (hr : ∀ b, row = some b → b < B) : MkRows w' B v ms := by
  obtain ⟨xs, h1, h2⟩ := h
  have hl := World.ownsRow.lt h1
  refine ⟨xs, h1.kept hb ?_, h2.move hb (fun b hB _ hE => ⟨fun e => ?_, hE⟩)⟩
  · cases hv : v.ownBlock with
    | none => exact .inl rfl
    | some k =>
      right
      intro e
      have := hr k e.symm
      have := (hl k hv).1
      omega
  · have := hr b e
    omega
theorem MkRows.keep {w w' : World} {B : Nat} {v : Value} {ms : List Mk} (h : MkRows w B v ms) (hb : Bel w w') : MkRows w' B v ms := h.but (bel_but hb none) (fun b e => by cases e)
theorem MkRows.nil (w : World) (B : Nat) : MkRows w B (.slice none 0 0) [] := ⟨[], World.ownsRow_nil w B _ _, rfl⟩
theorem MkRows.val {w : World} {B : Nat} {v : Value} {ms : List Mk} (h : MkRows w B v ms) : ∃ A c, v = .slice A ms.length c := by
  obtain ⟨xs, h1, _⟩ := h
  obtain ⟨A, c, e, _⟩ := own_row h1
  exact ⟨A, c, e⟩
theorem infoMk : (Tryd.prog.info? 31).map (fun i => (i.zero, i.size, i.bytes)) = some (some (.agg #[.int .i64 0, .int .i64 0, .string ⟨#[]⟩, .slice none 0 0, .string ⟨#[]⟩]), 5, 72) := by kernel_rfl
theorem infoMk' : ∃ i0, Tryd.prog.info? 31 = some i0 ∧ i0.zero = some (.agg #[.int .i64 0, .int .i64 0, .string ⟨#[]⟩, .slice none 0 0, .string ⟨#[]⟩]) ∧ i0.size = 5 ∧ i0.bytes = 72 := by
  obtain ⟨i0, h1, h2⟩ := Option.map_eq_some_iff.1 infoMk
  simp only [Prod.mk.injEq] at h2
  exact ⟨i0, h1, h2.1, h2.2.1, h2.2.2⟩
theorem mkHead_one (m : Mk) (A : Option Addr) (c : Nat) : ∀ u ∈ mkHead m A c, u.oneCell' = true := by
  intro u hu
  simp only [mkHead, List.mem_cons, List.not_mem_nil, or_false] at hu
  rcases hu with rfl | rfl | rfl | rfl | rfl <;> rfl
theorem lit_row (w : World) (xs : List Value) (t : TypeId) : Row (w.alloc (.cells xs.toArray t)) (some ⟨w.heap.size, 0, none⟩) xs := fun _ => by
  refine ⟨w.heap.size, 0, rfl, by simp, fun j u hu => ?_⟩
  have hadd : (0 + j) = j := by omega
  rw [hadd, Lib.cell_of_heap (heap_alloc_new w _)]
  simpa using hu
/-- A mark is put behind those that the call owns. -/
theorem app_mark {w : World} {B : Nat} {v : Value} {ms : List Mk} (h : MkRows w B v ms) (hB : B ≤ w.heap.size) (hlen : ms.length ≤ 65536) (m : Mk) (A : Option Addr) (c : Nat) (h2 : Row w A (atsCells m.attrs)) (h3 : ∀ a, A = some a → B ≤ a.block ∧ a.block < w.heap.size ∧ v.ownBlock ≠ some a.block) (ty : TypeId) :
    ∃ v' w', (Builtin.append_ #[22, 22] ty #[v, .slice (some ⟨w.heap.size, 0, none⟩) 1 1]).run Tryd.prog (w.alloc (.cells (mkHead m A c).toArray 31)) = .ok v' w' ∧
      (MkRows w' B v' (ms ++ [m]) ∧ BelBut w w' v.ownBlock) := by
  obtain ⟨xs, h1, hm⟩ := h
  obtain ⟨i0, hi, hz0, hz1, hz2⟩ := infoMk'
  have hl := World.ownsRow.lt h1
  have ho := own_keep h1 ((Bel.refl w).alloc (.cells (mkHead m A c).toArray 31))
  obtain ⟨v', w', hr, k1, k2, k3⟩ := run_app (P := Tryd.prog) _ B 22 ty 31 i0 _ 5 72 Tryd.underlying22 hi hz0 hz1 hz2 rfl (by omega) ho (m := 1) (c := 1) (lit_row w (mkHead m A c) _) rfl (by simp) (mkHead_one m A c) (by simp only [maxLen]; omega) (by omega) (by simp; omega)
  have hb : BelBut w w' v.ownBlock := but_trans (bel_but ((Bel.refl w).alloc _) _) k2
  refine ⟨v', w', hr, ⟨xs ++ mkHead m A c, by rw [List.length_append]; exact k1, ?_⟩, hb⟩
  have e1 : ∀ b, b < w.heap.size → v.ownBlock ≠ some b → v'.ownBlock ≠ some b := by
    intro b hb1 hb2 e
    rcases k3 with k3 | k3
    · exact hb2 (by rw [← k3]; exact e)
    · rw [k3] at e
      simp at e
      omega
  refine MCells.snoc (hb.row h2 (fun k a hk ha e => (h3 a ha).2.2 (by rw [hk, e]))) (fun a ha => ?_) (hm.move hb fun b _ hb1 hb2 => ⟨hb2, e1 b hb1 hb2⟩)
  obtain ⟨q1, q2, q3⟩ := h3 a ha
  exact ⟨q1, Nat.lt_of_lt_of_le q2 (but_size hb), e1 _ q2 q3⟩
/-- The reader: its record, and the marks so far. -/
def St (w : World) (B : Nat) (s : ByteArray) (p : Nat) (ms : List Mk) (q e : Int) : Prop := ∃ v, Rec w B s p v q e ∧ MkRows w (B + 1) v ms
theorem St.keep {w w' : World} {B p : Nat} {s : ByteArray} {ms : List Mk} {q e : Int} (h : St w B s p ms q e) (hb : Bel w w') : St w' B s p ms q e := by
  obtain ⟨v, h1, h2⟩ := h
  exact ⟨v, h1.keep hb, h2.keep hb⟩
theorem MkRows.light {w w' : World} {B : Nat} {v : Value} {ms : List Mk} (h : MkRows w (B + 1) v ms) (hb : BelBut w w' (some B)) : MkRows w' (B + 1) v ms := h.but hb (fun b e => by cases e; omega)
end Go.Proofs.YtobdokeklcdpoaaDoor
