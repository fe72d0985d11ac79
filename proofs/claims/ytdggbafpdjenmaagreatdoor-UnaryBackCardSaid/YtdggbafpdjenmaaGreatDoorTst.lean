
import Derived.Test.YtdggbafpdjenmaaGreatDoorVal
import Derived.Test.YtdggbafpdjenmaaGreatDoorUni
namespace Go.Proofs.YtdggbafpdjenmaaGreatDoor
set_option linter.unusedSimpArgs false
set_option linter.unusedVariables false
open Go.ChangeShapes Go.WideShapes Go.ChangeAt Go.RowKit Go.Deep

/-! Tests, as data. -/
structure Tst where
  kind : Int
  low : Val
  high : Val
  ol : Bool
  oh : Bool
deriving DecidableEq
abbrev Tst.val (t : Tst) : Value := .agg #[.int .i64 t.kind, .int .i64 t.low.kind, .int .i64 t.low.n, .int .i64 t.low.scale, .string t.low.text, .int .i64 t.low.num, .int .i64 t.high.kind, .int .i64 t.high.n, .int .i64 t.high.scale, .string t.high.text, .int .i64 t.high.num, .bool t.ol, .bool t.oh]
def teq (x y : Tst) : Bool := decide (x = y)
theorem teq_iff (x y : Tst) : teq x y = true ↔ x = y := by simp [teq]
abbrev TstAt (w : World) (b o : Nat) (t : Tst) : Prop := w.cell? ⟨b, o, none⟩ = some (.int .i64 t.kind) ∧ w.cell? ⟨b, o + 1, none⟩ = some (.int .i64 t.low.kind) ∧ w.cell? ⟨b, o + 2, none⟩ = some (.int .i64 t.low.n) ∧ w.cell? ⟨b, o + 3, none⟩ = some (.int .i64 t.low.scale) ∧ w.cell? ⟨b, o + 4, none⟩ = some (.string t.low.text) ∧ w.cell? ⟨b, o + 5, none⟩ = some (.int .i64 t.low.num) ∧ w.cell? ⟨b, o + 6, none⟩ = some (.int .i64 t.high.kind) ∧ w.cell? ⟨b, o + 7, none⟩ = some (.int .i64 t.high.n) ∧ w.cell? ⟨b, o + 8, none⟩ = some (.int .i64 t.high.scale) ∧ w.cell? ⟨b, o + 9, none⟩ = some (.string t.high.text) ∧ w.cell? ⟨b, o + 10, none⟩ = some (.int .i64 t.high.num) ∧ w.cell? ⟨b, o + 11, none⟩ = some (.bool t.ol) ∧ w.cell? ⟨b, o + 12, none⟩ = some (.bool t.oh)
theorem TstAt.keep {w w' : World} {b o : Nat} {t : Tst} (h : TstAt w b o t) (hb : Bel w w') (hlt : b < w.heap.size) : TstAt w' b o t := by
  simp only [TstAt, hb.cells _ _ hlt]
  exact h
/-- A slice of tests reads as a list. -/
def Tsts (w : World) (A : Option Addr) (l : List Tst) : Prop :=
  0 < l.length → ∃ b off, A = some ⟨b, off, none⟩ ∧ b < w.heap.size ∧ ∀ i t, l[i]? = some t → TstAt w b (off + i * 13) t
theorem Tsts.keep {w w' : World} {A : Option Addr} {l : List Tst} (h : Tsts w A l) (hb : Bel w w') : Tsts w' A l := fun h0 => by
  obtain ⟨b, off, hA, hlt, hc⟩ := h h0
  exact ⟨b, off, hA, Nat.lt_of_lt_of_le hlt hb.size, fun i v hv => (hc i v hv).keep hb hlt⟩
end Go.Proofs.YtdggbafpdjenmaaGreatDoor
