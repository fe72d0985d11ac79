import Derived.Test.YtobdokeklcdpoaaDoorMkn
import Derived.Deep.CutBlock
import Derived.Deep.DeepCutAuto
namespace Go.Proofs.YtobdokeklcdpoaaDoor
set_option linter.unusedSimpArgs false
set_option linter.unusedVariables false
open Go.RowKit

/-! The reader's record; rows of marks. -/
theorem bel_but {w w' : World} (h : Bel w w') (row : Option Nat) : BelBut w w' row := ⟨h.os, h.tape, h.output, Below.size h, fun k hk _ => h.block k hk⟩
theorem but_trans {a b c : World} {row : Option Nat} (h : BelBut a b row) (k : BelBut b c row) : BelBut a c row := World.grownBy.trans h k
theorem but_size {a b : World} {row : Option Nat} (h : BelBut a b row) : a.heap.size ≤ b.heap.size := h.size
theorem but_set (w : World) (B i : Nat) (x : Value) : BelBut w (w.setCell ⟨B, i, none⟩ x) (some B) :=
  ⟨rfl, rfl, rfl, by simp [World.setCell], fun k _ hne => Below.heap_setCell w _ x k (fun e => hne (by rw [e]))⟩
theorem but_below {a b : World} {B : Nat} (h : BelBut a b (some B)) (hB : B ≤ a.heap.size) : Below B a b :=
  ⟨h.os, h.tape, h.output, h.size, fun k hk => h.block k (by omega) (fun e => by cases e; omega)⟩
def Rec (w : World) (B : Nat) (s : ByteArray) (p : Nat) (v : Value) (q e : Int) : Prop :=
  B < w.heap.size ∧ (w.cell? ⟨B, 0, none⟩ = some (.string s) ∧ w.cell? ⟨B, 1, none⟩ = some (.int .i64 p) ∧ w.cell? ⟨B, 2, none⟩ = some v ∧ w.cell? ⟨B, 3, none⟩ = some (.int .i64 q) ∧ w.cell? ⟨B, 4, none⟩ = some (.int .i64 e)) ∧
    (w.frozen? ⟨B, 0, none⟩ = false ∧ w.frozen? ⟨B, 1, none⟩ = false ∧ w.frozen? ⟨B, 2, none⟩ = false ∧ w.frozen? ⟨B, 3, none⟩ = false ∧ w.frozen? ⟨B, 4, none⟩ = false)
section
variable {w w' : World} {B p : Nat} {s : ByteArray} {v : Value} {q e : Int}
theorem Rec.but {row : Option Nat} (h : Rec w B s p v q e) (hb : BelBut w w' row) (hr : row ≠ some B) : Rec w' B s p v q e := by
  obtain ⟨h0, ⟨a0, a1, a2, a3, a4⟩, ⟨f0, f1, f2, f3, f4⟩⟩ := h
  have hne : some B ≠ row := fun e => hr e.symm
  have c := fun i => World.grownBy.cell_far hb ⟨B, i, none⟩ h0 hne
  have f := fun i => World.grownBy.frozen_far hb ⟨B, i, none⟩ h0 hne
  have hs := but_size hb
  refine ⟨by omega, ⟨?_, ?_, ?_, ?_, ?_⟩, ⟨?_, ?_, ?_, ?_, ?_⟩⟩
  all_goals first | (rw [c]; assumption) | (rw [f]; assumption)
theorem Rec.keep (h : Rec w B s p v q e) (hb : Bel w w') : Rec w' B s p v q e := h.but (bel_but hb none) (by simp)
theorem Rec.set1 (h : Rec w B s p v q e) (x : Int) (p' : Nat) (hx : x = p') : Rec (w.setCell ⟨B, 1, none⟩ (.int .i64 x)) B s p' v q e := by
  subst hx
  obtain ⟨h0, ⟨a0, a1, a2, a3, a4⟩, ⟨f0, f1, f2, f3, f4⟩⟩ := h
  refine ⟨by simpa [World.setCell] using h0, ⟨?_, ?_, ?_, ?_, ?_⟩, ⟨?_, ?_, ?_, ?_, ?_⟩⟩
  all_goals simp [go_sem, a0, a1, a2, a3, a4, f0, f1, f2, f3, f4]
theorem Rec.set2 (h : Rec w B s p v q e) (x : Value) : Rec (w.setCell ⟨B, 2, none⟩ x) B s p x q e := by
  obtain ⟨h0, ⟨a0, a1, a2, a3, a4⟩, ⟨f0, f1, f2, f3, f4⟩⟩ := h
  refine ⟨by simpa [World.setCell] using h0, ⟨?_, ?_, ?_, ?_, ?_⟩, ⟨?_, ?_, ?_, ?_, ?_⟩⟩
  all_goals simp [go_sem, a0, a1, a2, a3, a4, f0, f1, f2, f3, f4]
theorem Rec.set34 (h : Rec w B s p v q e) (x y : Int) : Rec ((w.setCell ⟨B, 3, none⟩ (.int .i64 x)).setCell ⟨B, 4, none⟩ (.int .i64 y)) B s p v x y := by
  obtain ⟨h0, ⟨a0, a1, a2, a3, a4⟩, ⟨f0, f1, f2, f3, f4⟩⟩ := h
  refine ⟨by simpa [World.setCell] using h0, ⟨?_, ?_, ?_, ?_, ?_⟩, ⟨?_, ?_, ?_, ?_, ?_⟩⟩
  all_goals simp [go_sem, a0, a1, a2, a3, a4, f0, f1, f2, f3, f4]
end
/-- The variable that the library's search asks. -/
def Mx (w : World) : Prop := ∃ m : Int, w.cell? ⟨0, 0, none⟩ = some (.int .i64 m)
theorem mx_lt {w : World} (h : Mx w) : 0 < w.heap.size := by
  obtain ⟨m, hm⟩ := h
  rcases Nat.lt_or_ge 0 w.heap.size with h | h
  · exact h
  · rw [World.cell?] at hm
    simp [Array.getElem?_eq_none h] at hm
theorem Mx.but {w w' : World} {row : Option Nat} (h : Mx w) (hb : BelBut w w' row) (hr : row ≠ some 0) : Mx w' := by
  have hl := mx_lt h
  obtain ⟨m, hm⟩ := h
  exact ⟨m, by rw [World.grownBy.cell_far hb ⟨_, 0, none⟩ hl (fun e => hr e.symm)]; exact hm⟩
theorem Mx.keep {w w' : World} (h : Mx w) (hb : Bel w w') : Mx w' := h.but (bel_but hb none) (by simp)
def preB (s : ByteArray) (p : Nat) (t : ByteArray) : Bool := t.data.toList.isPrefixOf (s.data.toList.drop p)
end Go.Proofs.YtobdokeklcdpoaaDoor
