import Derived.Test.YtobdokeklcdpoaaDoorMkt
import Derived.Test.YtobdokeklcdpoaaDoorLay
namespace Go.Proofs.YtobdokeklcdpoaaDoor
set_option linter.unusedSimpArgs false
set_option linter.unusedVariables false
open Go.RowKit

/-! The reader: attributes. -/
/-- A mark that is being made. -/
def MR (w : World) (M : Nat) (k x : Int) (nm : List UInt8) (va : Value) : Prop :=
  M < w.heap.size ∧ (w.cell? ⟨M, 0, none⟩ = some (.int .i64 k) ∧ w.cell? ⟨M, 1, none⟩ = some (.int .i64 x) ∧ w.cell? ⟨M, 2, none⟩ = some (.string (bytesOf nm)) ∧ w.cell? ⟨M, 3, none⟩ = some va ∧ w.cell? ⟨M, 4, none⟩ = some (.string ⟨#[]⟩)) ∧
    (w.frozen? ⟨M, 0, none⟩ = false ∧ w.frozen? ⟨M, 1, none⟩ = false ∧ w.frozen? ⟨M, 2, none⟩ = false ∧ w.frozen? ⟨M, 3, none⟩ = false ∧ w.frozen? ⟨M, 4, none⟩ = false)
section
variable {w w' : World} {M : Nat} {k x : Int} {nm : List UInt8} {va : Value}
theorem MR.but {row : Option Nat} (h : MR w M k x nm va) (hb : BelBut w w' row) (hr : row ≠ some M) : MR w' M k x nm va := by
  obtain ⟨h0, ⟨a0, a1, a2, a3, a4⟩, ⟨f0, f1, f2, f3, f4⟩⟩ := h
  have hne : some M ≠ row := fun e => hr e.symm
  have c := fun i => World.grownBy.cell_far hb ⟨M, i, none⟩ h0 hne
  have f := fun i => World.grownBy.frozen_far hb ⟨M, i, none⟩ h0 hne
  have hs := but_size hb
  refine ⟨by omega, ⟨?_, ?_, ?_, ?_, ?_⟩, ⟨?_, ?_, ?_, ?_, ?_⟩⟩
  all_goals first | (rw [c]; assumption) | (rw [f]; assumption)
theorem MR.keep (h : MR w M k x nm va) (hb : Bel w w') : MR w' M k x nm va := h.but (bel_but hb none) (by simp)
theorem MR.set0 (h : MR w M k x nm va) (y : Int) : MR (w.setCell ⟨M, 0, none⟩ (.int .i64 y)) M y x nm va := by
  obtain ⟨h0, ⟨a0, a1, a2, a3, a4⟩, ⟨f0, f1, f2, f3, f4⟩⟩ := h
  refine ⟨by simpa [World.setCell] using h0, ⟨?_, ?_, ?_, ?_, ?_⟩, ⟨?_, ?_, ?_, ?_, ?_⟩⟩
  all_goals simp [go_sem, a0, a1, a2, a3, a4, f0, f1, f2, f3, f4]
theorem MR.set3 (h : MR w M k x nm va) (y : Value) : MR (w.setCell ⟨M, 3, none⟩ y) M k x nm y := by
  obtain ⟨h0, ⟨a0, a1, a2, a3, a4⟩, ⟨f0, f1, f2, f3, f4⟩⟩ := h
  refine ⟨by simpa [World.setCell] using h0, ⟨?_, ?_, ?_, ?_, ?_⟩, ⟨?_, ?_, ?_, ?_, ?_⟩⟩
  all_goals simp [go_sem, a0, a1, a2, a3, a4, f0, f1, f2, f3, f4]
end
theorem list_eq (x y : List UInt8) : ((bytesOf x).toList == (bytesOf y).toList) = (x == y) := by
  rw [ByteArray.toList_eq, ByteArray.toList_eq]
  rfl
theorem attr1_any (x y nm : List UInt8) (N : Nat) (w : World) (hN : N < w.heap.size) (hc : w.cell? ⟨N, 0, none⟩ = some (.string (bytesOf nm))) :
    Calls Tryd.prog 60 #[.agg #[.string (bytesOf x), .string (bytesOf y)], .pointer (some ⟨N, 0, none⟩)] w fun e w' => e = .returned (.bool (x == nm)) ∧ Bel w w' := by
  have E := Lib.hid (list_eq x nm)
  go_enter Tryd.func60, Tryd.ntmps60
  go_wp2_with fail
  go_ret
  refine ⟨by rw [← E.out] <;> rfl, ?_⟩
  (repeat (first | with_reducible exact Bel.refl _ | with_reducible refine Bel.setCell ?_ (by first | exact Nat.le_refl _ | (dsimp only; omega)) _ | with_reducible refine Bel.alloc ?_ _ | with_reducible refine Bel.drew ?_ | with_reducible assumption | with_reducible refine Bel.trans ?_ (by assumption)))
def encA (a : List UInt8 × List UInt8) : List Value := attCells a
instance : Inhabited (List UInt8 × List UInt8) := ⟨([], [])⟩
theorem idxA_nil (A : Option Addr) (c : Nat) (fv : Value) (w : World) : Calls Tryd.prog 69 #[.slice A 0 c, fv] w fun e w' => e = .returned (.int .i64 (-1)) ∧ w' = w := by
  go_enter Tryd.func69, Tryd.ntmps69
  go_wp2
  refine wp_loop_rounds 1 ?_
  rw [rounds_succ]
  go_wp2
  go_ret
  exact ⟨rfl, rfl⟩
theorem contA_nil (A : Option Addr) (c : Nat) (fv : Value) (w : World) : Calls Tryd.prog 59 #[.slice A 0 c, fv] w fun e w' => e = .returned (.bool false) ∧ w' = w := by
  have I := Lib.hid fun w => idxA_nil A c fv w
  go_enter Tryd.func59, Tryd.ntmps59
  go_wp2_with (go_at_call 69; refine (I.out _).mono ?_; rintro e w' ⟨rfl, rfl⟩)
  go_ret
  exact ⟨rfl, rfl⟩
theorem flat_at {α : Type} (f : α → List Value) (n : Nat) (hf : ∀ x, (f x).length = n) : ∀ (l : List α) (j i : Nat) (x : α) (u : Value), l[j]? = some x → (f x)[i]? = some u → (l.flatMap f)[j * n + i]? = some u
  | [], j, i, x, u, h, _ => by simp at h
  | y :: l, 0, i, x, u, h, hu => by
    obtain rfl : y = x := by simpa using h
    rw [List.flatMap_cons, Nat.zero_mul, Nat.zero_add, List.getElem?_append_left (by
      have := (List.getElem?_eq_some_iff.1 hu).1
      exact this)]
    exact hu
  | y :: l, j + 1, i, x, u, h, hu => by
    rw [List.flatMap_cons, List.getElem?_append_right (by rw [hf, Nat.add_mul]; omega), hf]
    rw [show (j + 1) * n + i - n = j * n + i by rw [Nat.add_mul]; omega]
    exact flat_at f n hf l j i x u h hu
theorem contA_any (l : List (List UInt8 × List UInt8)) (nm : List UInt8) (A : Option Addr) (c N : Nat) (w : World) (hr : Row w A (atsCells l)) (hl : l.length ≤ 65536) (hN : N < w.heap.size) (hc : w.cell? ⟨N, 0, none⟩ = some (.string (bytesOf nm))) :
    Calls Tryd.prog 59 #[.slice A l.length c, .func (.func 60) #[] #[.pointer (some ⟨N, 0, none⟩)]] w fun e w' => e = .returned (.bool (l.any fun a => a.1 == nm)) ∧ Bel w w' := by
  by_cases h0 : l = []
  · subst h0
    exact (contA_nil A c _ w).mono fun e w' ⟨h1, h2⟩ => ⟨h1, h2 ▸ Bel.refl _⟩
  · have hp := List.length_pos_iff.2 h0
    obtain ⟨b, off, rfl, hb, hat⟩ := hr (by rw [atsCells_len]; omega)
    have eg : ∀ args w, (callFunc 60 args).run Tryd.prog w = .ok (.enter 60 args) w := enters_of Tryd.func60 (by kernel_rfl) rfl
    have k := AnyQ.slices_ContainsFunc Tryd.contA 2 Tryd.isAgg48 Tryd.sizeOf48 encA (fun _ => rfl) (fun a => a.1 == nm) 60 #[.pointer (some ⟨N, 0, none⟩)] eg b off l.length c l w
      (fun W x hW => (attr1_any x.1 x.2 nm N W (Nat.lt_of_lt_of_le hN (Bel.size hW)) (by rw [Bel.cells hW _ _ hN]; exact hc)).mono fun e w' ⟨he, hb'⟩ => ⟨he, Bel.trans hW hb'⟩)
      (by omega) (by omega) hb (fun j hj i v hv => by
        have h1 := flat_at attCells 2 (fun _ => rfl) l j i l[j]! v (by rw [getElem!_pos l j hj]; exact List.getElem?_eq_getElem hj) hv
        have h2 := hat (j * 2 + i) v h1
        rwa [show off + (j * 2 + i) = off + j * 2 + i by omega] at h2)
    rw [List.take_length] at k
    exact k
end Go.Proofs.YtobdokeklcdpoaaDoor
