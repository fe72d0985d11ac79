import Derived.Test.YtjckpkamhdbcnaaGreatDoorRows
import Derived.WalkKit
import Derived.WalkSpells
import Derived.ProofKit
import Derived.Outline
import Derived.Below
import Derived.Deep.RegionHeld3
import Derived.Lib.Hide
namespace Go.Proofs.YtjckpkamhdbcnaaGreatDoor
set_option linter.unusedSimpArgs false
set_option linter.unusedVariables false
open Go.RowKit
theorem toList_inj (a b : ByteArray) : a.toList = b.toList ↔ a = b := by
 constructor
 ·intro h
  rw [ByteArray.toList_eq, ByteArray.toList_eq] at h
  obtain ⟨⟨x⟩⟩ := a
  obtain ⟨⟨y⟩⟩ := b
  simp_all
 ·rintro rfl; rfl
/-- All that was there in the world w is as it was. -/
def Bel (w w' : World) : Prop := Below w.heap.size w w'
theorem Bel.refl (w : World) : Bel w w := Below.refl _ _
theorem Bel.size {w w' : World} (h : Bel w w') : w.heap.size ≤ w'.heap.size := Below.size h
theorem Bel.trans {a b c : World} (h : Bel a b) (k : Bel b c) : Bel a c := Below.trans h (Below.mono k h.size)
theorem Bel.drew {a b : World} (h : Bel a b) : Bel a b.drew := Below.drew h
theorem Bel.alloc {a b : World} (h : Bel a b) (o : Obj) : Bel a (b.alloc o) := Below.alloc h h.size o
theorem Bel.setCell {a b : World} (h : Bel a b) {p : Addr} (hp : a.heap.size ≤ p.block) (u : Value) : Bel a (b.setCell p u) := Below.setCell h hp u
theorem Bel.cell {a b : World} (h : Bel a b) {p : Addr} (hp : p.block < a.heap.size) : b.cell? p = a.cell? p := Below.cell h hp
theorem Bel.cells {a b : World} (h : Bel a b) : ∀ k o, k < a.heap.size → b.cell? ⟨k, o, none⟩ = a.cell? ⟨k, o, none⟩ := fun k o hk => Below.cell h (p := ⟨k, o, none⟩) hk
theorem Bel.frozens {a b : World} (h : Bel a b) : ∀ k o, k < a.heap.size → b.frozen? ⟨k, o, none⟩ = a.frozen? ⟨k, o, none⟩ := fun k o hk => Below.frozen h (p := ⟨k, o, none⟩) hk
theorem Bel.lt1 {w w1 : World} {o : Obj} (h : Bel (w.alloc o) w1) : w.heap.size < w1.heap.size := by have := h.size; simp at this; omega
theorem Bel.lt2 {w w1 : World} {o o' : Obj} (h : Bel ((w.alloc o).alloc o') w1) : w.heap.size < w1.heap.size ∧ w.heap.size + 1 < w1.heap.size := by have := h.size; simp at this; omega
theorem Bel.lt3 {w w1 : World} {o o' o'' : Obj} (h : Bel (((w.alloc o).alloc o').alloc o'') w1) : w.heap.size < w1.heap.size ∧ w.heap.size + 1 < w1.heap.size ∧ w.heap.size + 2 < w1.heap.size := by have := h.size; simp at this; omega
/-- The world under a name; what it holds is known. -/
theorem under_name {P : Program} {c : Code} {Q : Exit → Act → World → Prop} {a : Act} {w0 w : World} (hb : Bel w0 w)
  (h : ∀ W, (∀ p, W.cell? p = w.cell? p) → (∀ p, W.frozen? p = w.frozen? p) → W.heap.size = w.heap.size → Bel w0 W → c.wp P Q a W) : c.wp P Q a w :=
 h w (fun _ => rfl) (fun _ => rfl) rfl hb
/-- The same, where the walk stands at a call. -/
theorem under_call {P : Program} {f : FuncId} {args : Array Value} {Q : Ending → World → Prop} {w0 w : World} (hb : Bel w0 w)
  (h : ∀ W, (∀ p, W.cell? p = w.cell? p) → (∀ p, W.frozen? p = w.frozen? p) → W.heap.size = w.heap.size → Bel w0 W → Calls P f args W Q) : Calls P f args w Q :=
 h w (fun _ => rfl) (fun _ => rfl) rfl hb
/-- What stays as it was since the world W. -/
def Kept (W w' : World) : Prop := Bel W w' ∧ (∀ b o, b < W.heap.size → w'.cell? ⟨b, o, none⟩ = W.cell? ⟨b, o, none⟩) ∧ (∀ b o, b < W.heap.size → w'.frozen? ⟨b, o, none⟩ = W.frozen? ⟨b, o, none⟩)
theorem keep0 {W : World} : Bel W W.drew ∧ (∀ b o, b < W.heap.size → W.drew.cell? ⟨b, o, none⟩ = W.cell? ⟨b, o, none⟩) :=
 ⟨(Bel.refl _).drew, fun _ _ _ => rfl⟩
theorem keep1 {W w1 w2 : World} (h : Bel W w1 ∧ (∀ b o, b < W.heap.size → w1.cell? ⟨b, o, none⟩ = W.cell? ⟨b, o, none⟩)) (hb : Bel w1 w2) :
  Bel W w2 ∧ (∀ b o, b < W.heap.size → w2.cell? ⟨b, o, none⟩ = W.cell? ⟨b, o, none⟩) :=
 have k : Bel W w2 := h.1.trans hb
 ⟨k, k.cells⟩
end Go.Proofs.YtjckpkamhdbcnaaGreatDoor
