import Derived.Test.YtjckpkamhdbcnaaGreatDoorKeh
import Derived.Test.YtjckpkamhdbcnaaGreatDoorOpn
import Derived.Test.YtjckpkamhdbcnaaGreatDoorCab
namespace Go.Proofs.YtjckpkamhdbcnaaGreatDoor
set_option linter.unusedSimpArgs false
set_option linter.unusedVariables false
open Go.ChangeShapes Go.WideShapes Go.ChangeAt Go.RowKit Go.Deep
/-! Expressions handed in. -/
theorem cells3 : Tryz.prog.cellsOf 3 = 1 := by kernel_rfl
theorem cells9 : Tryz.prog.cellsOf 9 = 1 := by kernel_rfl
theorem cells25 : Tryz.prog.cellsOf 23 = 2 := by kernel_rfl
theorem cells27 : Tryz.prog.cellsOf 25 = 5 := by kernel_rfl
structure Val.Ok (v : Val) : Prop where
  kind : In64 v.kind
  n : In64 v.n
  scale : In64 v.scale
  text : v.text.size ≤ maxLen
  num : In64 v.num
set_option maxRecDepth 100000
section
variable {H : Type} {enc : TypeId × Value → H} {w : World} {base : Nat} {spare : Nat → Bool} {held : Bool} {fuel : Nat}

theorem trod_dec {cs : List Value} {x : DataW H × List MemPlace} (h : DataW.trod enc Tryz.prog w base spare held fuel 23 cs = some x) :
    ∃ n s : Int, cs = [.int .i64 n, .int .i64 s] ∧ In64 n ∧ In64 s := by
  obtain ⟨xs, m, _, _, hl, hxs, hf⟩ := DataW.trod_struct (fs := Tryz.prog.fieldsOf 23) (by kernel_rfl) h
  have hz : (Tryz.prog.fieldsOf 23).size = 2 := by kernel_rfl
  rw [cells25] at hl
  rw [hz] at hxs
  match cs, hl, xs, hxs with
  | [c0, c1], _, [x0, x1], _ =>
    obtain ⟨f0, g0, t0, o0⟩ := field_at (fs := Tryz.prog.fieldsOf 23) (i := 0) (t := 3) (o := 0) (by kernel_rfl)
    obtain ⟨f1, g1, t1, o1⟩ := field_at (fs := Tryz.prog.fieldsOf 23) (i := 1) (t := 3) (o := 1) (by kernel_rfl)
    have e0 := hf 0 f0 g0
    have e1 := hf 1 f1 g1
    rw [t0, o0, cells3] at e0
    rw [t1, o1, cells3] at e1
    obtain ⟨n0, k0, _, w0⟩ := DataW.trod_int Tryz.underlying3 e0
    obtain ⟨n1, k1, _, w1⟩ := DataW.trod_int Tryz.underlying3 e1
    simp at k0 k1
    subst k0 k1
    exact ⟨n0, n1, rfl, in64_of w0, in64_of w1⟩

theorem trod_val {cs : List Value} {x : DataW H × List MemPlace} (h : DataW.trod enc Tryz.prog w base spare held fuel 25 cs = some x) :
    ∃ v : Val, cs = [.int .i64 v.kind, .int .i64 v.n, .int .i64 v.scale, .string v.text, .int .i64 v.num] ∧ v.Ok := by
  obtain ⟨xs, m, _, _, hl, hxs, hf⟩ := DataW.trod_struct (fs := Tryz.prog.fieldsOf 25) (by kernel_rfl) h
  have hz : (Tryz.prog.fieldsOf 25).size = 4 := by kernel_rfl
  rw [cells27] at hl
  rw [hz] at hxs
  match cs, hl, xs, hxs with
  | [c0, c1, c2, c3, c4], _, [x0, x1, x2, x3], _ =>
    obtain ⟨f0, g0, t0, o0⟩ := field_at (fs := Tryz.prog.fieldsOf 25) (i := 0) (t := 3) (o := 0) (by kernel_rfl)
    obtain ⟨f1, g1, t1, o1⟩ := field_at (fs := Tryz.prog.fieldsOf 25) (i := 1) (t := 23) (o := 1) (by kernel_rfl)
    obtain ⟨f2, g2, t2, o2⟩ := field_at (fs := Tryz.prog.fieldsOf 25) (i := 2) (t := 9) (o := 3) (by kernel_rfl)
    obtain ⟨f3, g3, t3, o3⟩ := field_at (fs := Tryz.prog.fieldsOf 25) (i := 3) (t := 3) (o := 4) (by kernel_rfl)
    have e0 := hf 0 f0 g0
    have e1 := hf 1 f1 g1
    have e2 := hf 2 f2 g2
    have e3 := hf 3 f3 g3
    rw [t0, o0, cells3] at e0
    rw [t1, o1, cells25] at e1
    rw [t2, o2, cells9] at e2
    rw [t3, o3, cells3] at e3
    obtain ⟨n0, k0, _, w0⟩ := DataW.trod_int Tryz.underlying3 e0
    obtain ⟨n1, s1, k1, w1, w1'⟩ := trod_dec e1
    obtain ⟨s2, k2, _, w2⟩ := DataW.trod_string Tryz.underlying9 e2
    obtain ⟨n3, k3, _, w3⟩ := DataW.trod_int Tryz.underlying3 e3
    simp at k0 k1 k2 k3
    obtain ⟨rfl, rfl⟩ := k1
    subst k0 k2 k3
    exact ⟨⟨n0, n1, s1, s2, n3⟩, rfl, in64_of w0, w1, w1', w2, in64_of w3⟩
end
mutual
def lnX : Ex → Prop
  | .mk _ v nm ks => ks.length ≤ 9223372036854775807 ∧ lnL ks
def lnL : List Ex → Prop
  | [] => True
  | x :: t => lnX x ∧ lnL t
end
section
variable {H : Type} {enc : TypeId × Value → H} {w : World} {base : Nat} {spare : Nat → Bool} {held : Bool}
end
end Go.Proofs.YtjckpkamhdbcnaaGreatDoor
namespace Go.Proofs.YtjckpkamhdbcnaaGreatDoor
set_option linter.unusedSimpArgs false
set_option linter.unusedVariables false
open Go.ChangeShapes Go.WideShapes Go.ChangeAt Go.RowKit Go.Deep
set_option maxRecDepth 100000
section
variable {H : Type} {enc : TypeId × Value → H} {w : World} {base : Nat} {spare : Nat → Bool} {held : Bool} {fuel : Nat}
theorem open_val {r : Reach} {v : Value} {d : DataW H} {p : List MemPlace} (hv : Value.okWide Tryz.prog w r base 25 v) (h : DataW.Trod enc Tryz.prog w 0 spare held 25 v d p) : ∃ x : Val, v = x.val ∧ x.Ok := by
  obtain ⟨cs, rfl, hsz⟩ := okWide_struct (fs := Tryz.prog.fieldsOf 25) (by kernel_rfl) hv
  obtain ⟨n, hn⟩ := h
  obtain ⟨x, hx, hok⟩ := trod_val hn
  refine ⟨x, ?_, hok⟩
  simp only [Value.cells] at hx
  obtain ⟨l⟩ := cs
  simp only at hx
  rw [hx]
end
end Go.Proofs.YtjckpkamhdbcnaaGreatDoor
