import Derived.Test.YtemciabindjkeaaDoorWdr
namespace Go.Proofs.YtemciabindjkeaaDoor
set_option linter.unusedSimpArgs false
set_option linter.unusedVariables false
open Go.RowKit Go.Lib

/-! A region that draws its order and makes memory: each order by itself, the world under a name behind each step. -/
section
variable {P : Program} {ops : Array Oper} {Q : Exit → Act → World → Prop} {K : Act → World → Prop} {a : Act} {w : World}
theorem wpOp_value {i : Nat} {o : Oper} {v : Value} {w' : World} (hi : ops[i]? = some o) (hw : Region.wanted o (yielded ops a.tmps) = true) (hx : (execOp a.eval o).run P w = .ok (.value v) w') (h : K (a.put o.dst v) w') : wpOp P ops Q i K a w := by
  unfold wpOp
  rw [hi]
  simp only [hw, if_true]
  left
  unfold Oper.wp
  rw [hx]
  exact h
theorem wpOp_skip {i : Nat} {o : Oper} {w' : World} (hi : ops[i]? = some o) (hw : Region.wanted o (yielded ops a.tmps) = true) (hx : (execOp a.eval o).run P w = .ok .skip w') (h : K (a.put o.dst undef) w') : wpOp P ops Q i K a w := by
  unfold wpOp
  rw [hi]
  simp only [hw, if_true]
  left
  unfold Oper.wp
  rw [hx]
  exact h
theorem wpOp_enter {i : Nat} {o : Oper} {f : FuncId} {args : Array Value} {R : Value → World → Prop} (hi : ops[i]? = some o) (hw : Region.wanted o (yielded ops a.tmps) = true) (hx : (execOp a.eval o).run P w = .ok (.enter f args) w)
    (hc : Calls P f args w fun e w' => ∃ v, e = .returned v ∧ R v w') (h : ∀ v w', R v w' → K (a.put o.dst v) w') : wpOp P ops Q i K a w := by
  unfold wpOp
  rw [hi]
  simp only [hw, if_true]
  left
  unfold Oper.wp
  rw [hx]
  show Oper.upon P o a K Q _
  refine Calls.mono hc ?_
  rintro e w' ⟨v, rfl, hR⟩
  exact h v w' hR
end
def FreeW (W : World) (B : Nat) : Prop := B < W.heap.size ∧ W.cell? ⟨B, 0, none⟩ = some (.bool false) ∧ W.cell? ⟨B, 1, none⟩ = some (.slice none 0 0) ∧ W.frozen? ⟨B, 0, none⟩ = false ∧ W.frozen? ⟨B, 1, none⟩ = false
theorem FreeW.keep {W W' : World} {B : Nat} (h : FreeW W B) (hb : Bel W W') : FreeW W' B :=
  ⟨Nat.lt_of_lt_of_le h.1 hb.size, (hb.cells _ _ h.1).trans h.2.1, (hb.cells _ _ h.1).trans h.2.2.1, (hb.frozens _ _ h.1).trans h.2.2.2.1, (hb.frozens _ _ h.1).trans h.2.2.2.2⟩
theorem FreeW.new (W : World) : FreeW (W.alloc (.cells #[.bool false, .slice none 0 0] 24)) W.heap.size := by
  refine ⟨by simp, ?_, ?_, ?_, ?_⟩ <;> simp [go_sem]
/-- The strings lie in another block. -/
def Apart (A : Option Addr) (r : List ByteArray) (B : Nat) : Prop := r = [] ∨ ∃ g, A = some ⟨g, 0, none⟩ ∧ g ≠ B
def Own1 (A : Option Addr) (r : List ByteArray) : Prop := r = [] ∨ ∃ g, A = some ⟨g, 0, none⟩
theorem apart_old {A : Option Addr} {r : List ByteArray} {B n : Nat} (h : r = [] ∨ ∃ g, A = some ⟨g, 0, none⟩ ∧ n ≤ g) (hB : B < n) : Apart A r B := by
  rcases h with h | ⟨g, h, h2⟩
  · exact .inl h
  · exact .inr ⟨g, h, by omega⟩
theorem own1_of {A : Option Addr} {r : List ByteArray} {n : Nat} (h : r = [] ∨ ∃ g, A = some ⟨g, 0, none⟩ ∧ n ≤ g) : Own1 A r := by
  rcases h with h | ⟨g, h, _⟩
  · exact .inl h
  · exact .inr ⟨g, h⟩
theorem apart_new {W : World} {A : Option Addr} {r : List ByteArray} (hS : Strs W A r) (h : Own1 A r) : Apart A r W.heap.size := by
  rcases h with h | ⟨g, rfl⟩
  · exact .inl h
  · rcases Nat.eq_zero_or_pos r.length with h0 | h0
    · exact .inl (List.eq_nil_of_length_eq_zero h0)
    · obtain ⟨b, off, e, h1, _⟩ := hS.blk h0
      cases e
      exact .inr ⟨_, rfl, by omega⟩
/-- The world behind the store of a set. -/
def putW (W : World) (B : Nat) (all : Bool) (v : Value) : World := (W.setCell ⟨B, 0, none⟩ (.bool all)).setCell ⟨B, 1, none⟩ v
theorem putW_size (W : World) (B : Nat) (all : Bool) (v : Value) : (putW W B all v).heap.size = W.heap.size := by simp [putW]
theorem putW_cell (W : World) (B : Nat) (all : Bool) (v : Value) (k o : Nat) (h : k ≠ B) : (putW W B all v).cell? ⟨k, o, none⟩ = W.cell? ⟨k, o, none⟩ := by
  have h' : ¬ B = k := fun e => h e.symm
  simp [putW, go_sem, h, h']
theorem putW_frozen (W : World) (B : Nat) (all : Bool) (v : Value) (p : Addr) : (putW W B all v).frozen? p = W.frozen? p := by simp [putW, go_sem]
theorem putW_at {W : World} {B n c : Nat} {A : Option Addr} (all : Bool) (h : FreeW W B) : WAt (putW W B all (.slice A n c)) B all A n c := by
  obtain ⟨h0, h1, h2, h3, h4⟩ := h
  refine ⟨by rw [putW_size]; exact h0, ?_, ?_⟩ <;> simp [putW, go_sem, h1, h2]
theorem putW_bel {W0 W : World} {B : Nat} {all : Bool} {v : Value} (hb : Bel W0 W) (hB : W0.heap.size ≤ B) : Bel W0 (putW W B all v) := (hb.setCell hB _).setCell hB _
theorem Strs.putW {W : World} {A : Option Addr} {r : List ByteArray} {B : Nat} {all : Bool} {v : Value} (h : Strs W A r) (hA : Apart A r B) : Strs (putW W B all v) A r := by
  rcases hA with rfl | ⟨g, rfl, hg⟩
  · exact Strs.nil
  · intro h0
    obtain ⟨b, off, e, h1, h2⟩ := h h0
    cases e
    exact ⟨g, 0, rfl, by rw [putW_size]; exact h1, fun j u hu => (putW_cell W B all v g _ hg).trans (h2 j u hu)⟩
theorem FreeW.putW {W : World} {B B' : Nat} {all : Bool} {v : Value} (h : FreeW W B') (hB : B' ≠ B) : FreeW (putW W B all v) B' :=
  ⟨by rw [putW_size]; exact h.1, (putW_cell W B all v _ _ hB).trans h.2.1, (putW_cell W B all v _ _ hB).trans h.2.2.1, (putW_frozen ..).trans h.2.2.2.1, (putW_frozen ..).trans h.2.2.2.2⟩
theorem WAt.putW {W : World} {B B' n c : Nat} {p : Bool} {A : Option Addr} {all : Bool} {v : Value} (h : WAt W B' p A n c) (hB : B' ≠ B) : WAt (putW W B all v) B' p A n c :=
  ⟨by rw [putW_size]; exact h.1, (putW_cell W B all v _ _ hB).trans h.2.1, (putW_cell W B all v _ _ hB).trans h.2.2⟩
end Go.Proofs.YtemciabindjkeaaDoor
