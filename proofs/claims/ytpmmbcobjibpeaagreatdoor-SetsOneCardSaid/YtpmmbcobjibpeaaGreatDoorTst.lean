
import Derived.Test.YtpmmbcobjibpeaaGreatDoorVal
import Derived.Test.YtpmmbcobjibpeaaGreatDoorUni
namespace Go.Proofs.YtpmmbcobjibpeaaGreatDoor
set_option linter.unusedSimpArgs false
set_option linter.unusedVariables false
open Go.ChangeShapes Go.WideShapes Go.ChangeAt Go.RowKit Go.Deep

/-! Tests, as data. -/
structure Tst where
  kind : Int
  low : Val
  high : Val
  ol : Bool
  oh : Bool
deriving DecidableEq
abbrev Tst.val (t : Tst) : Value := .agg #[.int .i64 t.kind, .int .i64 t.low.kind, .int .i64 t.low.n, .int .i64 t.low.scale, .string t.low.text, .int .i64 t.low.num, .int .i64 t.high.kind, .int .i64 t.high.n, .int .i64 t.high.scale, .string t.high.text, .int .i64 t.high.num, .bool t.ol, .bool t.oh]
def teq (x y : Tst) : Bool := decide (x = y)
theorem teq_iff (x y : Tst) : teq x y = true ↔ x = y := by simp [teq]
abbrev TstAt (w : World) (b o : Nat) (t : Tst) : Prop := w.cell? ⟨b, o, none⟩ = some (.int .i64 t.kind) ∧ w.cell? ⟨b, o + 1, none⟩ = some (.int .i64 t.low.kind) ∧ w.cell? ⟨b, o + 2, none⟩ = some (.int .i64 t.low.n) ∧ w.cell? ⟨b, o + 3, none⟩ = some (.int .i64 t.low.scale) ∧ w.cell? ⟨b, o + 4, none⟩ = some (.string t.low.text) ∧ w.cell? ⟨b, o + 5, none⟩ = some (.int .i64 t.low.num) ∧ w.cell? ⟨b, o + 6, none⟩ = some (.int .i64 t.high.kind) ∧ w.cell? ⟨b, o + 7, none⟩ = some (.int .i64 t.high.n) ∧ w.cell? ⟨b, o + 8, none⟩ = some (.int .i64 t.high.scale) ∧ w.cell? ⟨b, o + 9, none⟩ = some (.string t.high.text) ∧ w.cell? ⟨b, o + 10, none⟩ = some (.int .i64 t.high.num) ∧ w.cell? ⟨b, o + 11, none⟩ = some (.bool t.ol) ∧ w.cell? ⟨b, o + 12, none⟩ = some (.bool t.oh)
theorem TstAt.keep {w w' : World} {b o : Nat} {t : Tst} (h : TstAt w b o t) (hb : Bel w w') (hlt : b < w.heap.size) : TstAt w' b o t := by
  simp only [TstAt, hb.cells _ _ hlt]
  exact h
/-- A slice of tests reads as a list. -/
def Tsts (w : World) (A : Option Addr) (l : List Tst) : Prop :=
  0 < l.length → ∃ b off, A = some ⟨b, off, none⟩ ∧ b < w.heap.size ∧ ∀ i t, l[i]? = some t → TstAt w b (off + i * 13) t
theorem Tsts.keep {w w' : World} {A : Option Addr} {l : List Tst} (h : Tsts w A l) (hb : Bel w w') : Tsts w' A l := fun h0 => by
  obtain ⟨b, off, hA, hlt, hc⟩ := h h0
  exact ⟨b, off, hA, Nat.lt_of_lt_of_le hlt hb.size, fun i v hv => (hc i v hv).keep hb hlt⟩
theorem cellsT : Tryz.prog.cellsOf 59 = 13 := by kernel_rfl
theorem cellsB : Tryz.prog.cellsOf 4 = 1 := by kernel_rfl
structure Tst.Ok (t : Tst) : Prop where
  kind : In64 t.kind
  low : t.low.Ok
  high : t.high.Ok
set_option maxRecDepth 100000
section
variable {H : Type} {enc : TypeId × Value → H} {w : World} {base : Nat} {spare : Nat → Bool} {held : Bool} {fuel : Nat}
theorem trod_test {cs : List Value} {x : DataW H × List MemPlace} (h : DataW.trod enc Tryz.prog w base spare held fuel 59 cs = some x) :
    ∃ t : Tst, cs = [.int .i64 t.kind, .int .i64 t.low.kind, .int .i64 t.low.n, .int .i64 t.low.scale, .string t.low.text, .int .i64 t.low.num, .int .i64 t.high.kind, .int .i64 t.high.n, .int .i64 t.high.scale, .string t.high.text, .int .i64 t.high.num, .bool t.ol, .bool t.oh] ∧ t.Ok := by
  obtain ⟨xs, m, _, _, hl, hxs, hf⟩ := DataW.trod_struct (fs := Tryz.prog.fieldsOf 59) (by kernel_rfl) h
  have hz : (Tryz.prog.fieldsOf 59).size = 5 := by kernel_rfl
  rw [cellsT] at hl
  rw [hz] at hxs
  match cs, hl, xs, hxs with
  | [c0, c1, c2, c3, c4, c5, c6, c7, c8, c9, c10, c11, c12], _, [x0, x1, x2, x3, x4], _ =>
    obtain ⟨f0, g0, t0, o0⟩ := field_at (fs := Tryz.prog.fieldsOf 59) (i := 0) (t := 3) (o := 0) (by kernel_rfl)
    obtain ⟨f1, g1, t1, o1⟩ := field_at (fs := Tryz.prog.fieldsOf 59) (i := 1) (t := 30) (o := 1) (by kernel_rfl)
    obtain ⟨f2, g2, t2, o2⟩ := field_at (fs := Tryz.prog.fieldsOf 59) (i := 2) (t := 30) (o := 6) (by kernel_rfl)
    obtain ⟨f3, g3, t3, o3⟩ := field_at (fs := Tryz.prog.fieldsOf 59) (i := 3) (t := 4) (o := 11) (by kernel_rfl)
    obtain ⟨f4, g4, t4, o4⟩ := field_at (fs := Tryz.prog.fieldsOf 59) (i := 4) (t := 4) (o := 12) (by kernel_rfl)
    have e0 := hf 0 f0 g0
    have e1 := hf 1 f1 g1
    have e2 := hf 2 f2 g2
    have e3 := hf 3 f3 g3
    have e4 := hf 4 f4 g4
    rw [t0, o0, cells3] at e0
    rw [t1, o1, cells27] at e1
    rw [t2, o2, cells27] at e2
    rw [t3, o3, cellsB] at e3
    rw [t4, o4, cellsB] at e4
    obtain ⟨n0, k0, _, w0⟩ := DataW.trod_int Tryz.underlying3 e0
    obtain ⟨n1, k1, w1⟩ := trod_val e1
    obtain ⟨n2, k2, w2⟩ := trod_val e2
    obtain ⟨n3, k3, _⟩ := DataW.trod_bool Tryz.underlying4 e3
    obtain ⟨n4, k4, _⟩ := DataW.trod_bool Tryz.underlying4 e4
    simp at k0 k1 k2 k3 k4
    obtain ⟨rfl, rfl, rfl, rfl, rfl⟩ := k1
    obtain ⟨rfl, rfl, rfl, rfl, rfl⟩ := k2
    subst k0 k3 k4
    exact ⟨⟨n0, n1, n2, n3, n4⟩, rfl, in64_of w0, w1, w2⟩
end
end Go.Proofs.YtpmmbcobjibpeaaGreatDoor
