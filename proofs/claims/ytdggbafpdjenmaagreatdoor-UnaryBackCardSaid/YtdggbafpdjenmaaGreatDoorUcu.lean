import Derived.Test.YtdggbafpdjenmaaGreatDoorUcm
namespace Go.Proofs.YtdggbafpdjenmaaGreatDoor
set_option linter.unusedSimpArgs false
set_option linter.unusedVariables false
open Go.RowKit
/-! Rows of tests that the call owns. -/
def tstCells (t : Tst) : List Value := [.int .i64 t.kind, .int .i64 t.low.kind, .int .i64 t.low.n, .int .i64 t.low.scale, .string t.low.text, .int .i64 t.low.num, .int .i64 t.high.kind, .int .i64 t.high.n, .int .i64 t.high.scale, .string t.high.text, .int .i64 t.high.num, .bool t.ol, .bool t.oh]
def tssCells (l : List Tst) : List Value := l.flatMap tstCells
theorem tssCells_len (l : List Tst) : (tssCells l).length = 13 * l.length := by
  induction l with
  | nil => rfl
  | cons a l ih => unfold tssCells at ih ⊢; rw [List.flatMap_cons, List.length_append, ih]; simp [tstCells]; omega
theorem tssCells_app (a b : List Tst) : tssCells (a ++ b) = tssCells a ++ tssCells b := by simp [tssCells]
theorem tss_at : ∀ (l : List Tst) (j i : Nat) (x : Tst) (u : Value), l[j]? = some x → (tstCells x)[i]? = some u → (tssCells l)[j * 13 + i]? = some u
  | [], j, i, x, u, h, _ => by simp at h
  | y :: l, 0, i, x, u, h, hu => by
    obtain rfl : y = x := by simpa using h
    unfold tssCells
    rw [List.flatMap_cons, Nat.zero_mul, Nat.zero_add, List.getElem?_append_left (List.getElem?_eq_some_iff.1 hu).1]
    exact hu
  | y :: l, j + 1, i, x, u, h, hu => by
    unfold tssCells
    rw [List.flatMap_cons, List.getElem?_append_right (by simp [tstCells]; omega)]
    rw [show (j + 1) * 13 + i - (tstCells y).length = j * 13 + i by simp [tstCells]; omega]
    exact tss_at l j i x u h hu
theorem tsts_row {w : World} {A : Option Addr} {l : List Tst} (h : Row w A (tssCells l)) : Tsts w A l := fun h0 => by
  obtain ⟨b, off, hA, hlt, hc⟩ := h (by rw [tssCells_len]; omega)
  refine ⟨b, off, hA, hlt, fun i t ht => ?_⟩
  have g := fun k u hu => hc _ u (tss_at l i k t u ht hu)
  refine ⟨?_, ?_, ?_, ?_, ?_, ?_, ?_, ?_, ?_, ?_, ?_, ?_, ?_⟩
  · exact g 0 _ rfl
  · exact g 1 _ rfl
  · exact g 2 _ rfl
  · exact g 3 _ rfl
  · exact g 4 _ rfl
  · exact g 5 _ rfl
  · exact g 6 _ rfl
  · exact g 7 _ rfl
  · exact g 8 _ rfl
  · exact g 9 _ rfl
  · exact g 10 _ rfl
  · exact g 11 _ rfl
  · exact g 12 _ rfl
/-- Tests that the call owns, from a block on. -/
def TsRows (w : World) (B : Nat) (v : Value) (l : List Tst) : Prop := w.ownsRow B 40 13 v l.length (tssCells l)
theorem TsRows.keep {w w' : World} {B : Nat} {v : Value} {l : List Tst} (h : TsRows w B v l) (hb : Bel w w') : TsRows w' B v l := own_keep h hb
theorem TsRows.nil (w : World) (B : Nat) : TsRows w B (.slice none 0 0) [] := World.ownsRow_nil w B _ _
theorem TsRows.val {w : World} {B : Nat} {v : Value} {l : List Tst} (h : TsRows w B v l) : ∃ A c, v = .slice A l.length c ∧ Tsts w A l ∧ (A = none → c = 0) := by
  obtain ⟨A, c, e, h2, h3, _⟩ := own_row h
  exact ⟨A, c, e, tsts_row h2, h3⟩
theorem TsRows.but {w w' : World} {B b : Nat} {v : Value} {l : List Tst} (h : TsRows w B v l) (hb : But b w w') (hbB : b < B) : TsRows w' B v l := by
  have h9 := h
  obtain ⟨h1, h2⟩ := h9
  refine World.ownsRow.kept h (row := some b) ⟨hb.os, hb.tape, hb.output, hb.size, fun k hk hne => hb.block k hk (fun e => hne (by rw [e]))⟩ ?_
  rcases h2 with ⟨rfl, _⟩ | ⟨g, cap, cur, rfl, hg, _⟩
  · exact .inl rfl
  · refine .inr ?_
    simp only [Value.ownBlock, ne_eq, Option.some.injEq]
    omega
theorem but_belB {b : Nat} {w0 w1 w2 : World} {v : Value} {l : List Tst} {B : Nat} (h0 : But b w0 w1) (hM : TsRows w1 B v l) (hB : w0.heap.size ≤ B) (h : BelBut w1 w2 v.ownBlock) : But b w0 w2 :=
  ⟨h.os.trans h0.os, h.tape.trans h0.tape, h.output.trans h0.output, Nat.le_trans h0.size h.size, fun k hk hkb => (h.block k (Nat.lt_of_lt_of_le hk h0.size) (fun e => by
    have := (World.ownsRow.lt hM k e.symm).1
    omega)).trans (h0.block k hk hkb)⟩
/-- What lies in a block that the row doesn't own. -/
theorem own_ne {w : World} {B N : Nat} {v : Value} {l : List Tst} (hM : TsRows w B v l) (hN : N < B) : v.ownBlock ≠ some N := fun e => by
  have := (World.ownsRow.lt hM N e).1
  omega
theorem belbut_but {w1 w2 : World} {v : Value} {g : Nat} (h : BelBut w1 w2 v.ownBlock) (he : v.ownBlock = some g ∨ v.ownBlock = none) : But g w1 w2 :=
  ⟨h.os, h.tape, h.output, h.size, fun k hk hkb => h.block k hk (fun e => by
    rcases he with he | he
    · rw [he] at e; exact hkb (Option.some.inj e)
    · rw [he] at e; cases e)⟩
theorem Tryz.underTests : Tryz.prog.underlying 22 = some (.slice 40) := by kernel_rfl
theorem infoTs : (Tryz.prog.info? 40).map (fun i => (i.zero, i.size, i.bytes)) = some (some (.agg #[.int .i64 0, .int .i64 0, .int .i64 0, .int .i64 0, .string ⟨#[]⟩, .int .i64 0, .int .i64 0, .int .i64 0, .int .i64 0, .string ⟨#[]⟩, .int .i64 0, .bool false, .bool false]), 13, 112) := by kernel_rfl
theorem infoTs' : ∃ i0, Tryz.prog.info? 40 = some i0 ∧ i0.zero = some (.agg #[.int .i64 0, .int .i64 0, .int .i64 0, .int .i64 0, .string ⟨#[]⟩, .int .i64 0, .int .i64 0, .int .i64 0, .int .i64 0, .string ⟨#[]⟩, .int .i64 0, .bool false, .bool false]) ∧ i0.size = 13 ∧ i0.bytes = 112 := by
  obtain ⟨i0, h1, h2⟩ := Option.map_eq_some_iff.1 infoTs
  simp only [Prod.mk.injEq] at h2
  exact ⟨i0, h1, h2.1, h2.2.1, h2.2.2⟩
theorem tstCells_one (t : Tst) : ∀ u ∈ tstCells t, u.oneCell' = true := by
  intro u hu
  simp only [tstCells, List.mem_cons, List.not_mem_nil, or_false] at hu
  rcases hu with rfl | rfl | rfl | rfl | rfl | rfl | rfl | rfl | rfl | rfl | rfl | rfl | rfl <;> rfl
/-- A test is put behind those that the call owns. -/
theorem app_tst {w : World} {B : Nat} {v : Value} {l : List Tst} (h : TsRows w B v l) (hB : B ≤ w.heap.size) (hlen : l.length ≤ 1000000) (t : Tst) (ty : TypeId) :
    ∃ v' w', (Builtin.append_ #[22, 22] ty #[v, .slice (some ⟨w.heap.size, 0, none⟩) 1 1]).run Tryz.prog (w.alloc (.cells #[.int .i64 t.kind, .int .i64 t.low.kind, .int .i64 t.low.n, .int .i64 t.low.scale, .string t.low.text, .int .i64 t.low.num, .int .i64 t.high.kind, .int .i64 t.high.n, .int .i64 t.high.scale, .string t.high.text, .int .i64 t.high.num, .bool t.ol, .bool t.oh] 40)) = .ok v' w' ∧
      (TsRows w' B v' (l ++ [t]) ∧ BelBut w w' v.ownBlock) := by
  obtain ⟨i0, hi, hz0, hz1, hz2⟩ := infoTs'
  have ho := own_keep h ((Bel.refl w).alloc (.cells (tstCells t).toArray 40))
  obtain ⟨v', w', hr, k1, k2, k3⟩ := run_app (P := Tryz.prog) _ B 22 ty 40 i0 _ 13 112 Tryz.underTests hi hz0 hz1 hz2 rfl (by omega) ho (m := 1) (c := 1) (lit_row w (tstCells t) _) rfl (by simp) (tstCells_one t) (by simp only [maxLen]; omega) (by omega) (by simp; omega)
  refine ⟨v', w', hr, ?_, World.grownBy.trans ⟨((Bel.refl w).alloc _).os, ((Bel.refl w).alloc _).tape, ((Bel.refl w).alloc _).output, Below.size ((Bel.refl w).alloc _), fun k hk _ => ((Bel.refl w).alloc _).block k hk⟩ k2⟩
  unfold TsRows
  rw [List.length_append, tssCells_app]
  exact k1
end Go.Proofs.YtdggbafpdjenmaaGreatDoor
