import Derived.Test.YtcknjhgolajclaaDoorDeb
namespace Go.Proofs.YtcknjhgolajclaaDoor
set_option linter.unusedSimpArgs false
set_option linter.unusedVariables false
open Go.RowKit

/-! Deci: the wide numbers. -/
abbrev Ar6 (w : World) (b : Nat) (x : Bool) (h l r o : Nat) (s : Int) : Prop :=
  b < w.heap.size ∧ w.cell? ⟨b, 0, none⟩ = some (.bool x) ∧ w.cell? ⟨b, 1, none⟩ = some (.int .u64 h) ∧ w.cell? ⟨b, 2, none⟩ = some (.int .u64 l) ∧
  w.cell? ⟨b, 3, none⟩ = some (.int .u64 r) ∧ w.cell? ⟨b, 4, none⟩ = some (.int .u64 o) ∧ w.cell? ⟨b, 5, none⟩ = some (.int .i64 s)
abbrev Fr6 (w : World) (b : Nat) : Prop := w.frozen? ⟨b, 0, none⟩ = false ∧ w.frozen? ⟨b, 1, none⟩ = false ∧ w.frozen? ⟨b, 2, none⟩ = false ∧
  w.frozen? ⟨b, 3, none⟩ = false ∧ w.frozen? ⟨b, 4, none⟩ = false ∧ w.frozen? ⟨b, 5, none⟩ = false
abbrev Sl6 (w : World) (b : Nat) (x : Bool) (h l r o : Nat) (s : Int) : Prop := Ar6 w b x h l r o s ∧ Fr6 w b
theorem Sl6.keep {w w' : World} {b : Nat} {x : Bool} {h l r o : Nat} {s : Int} (k : Sl6 w b x h l r o s) (hb : Bel w w') : Sl6 w' b x h l r o s := by
  obtain ⟨⟨h0, h1, h2, h3, h4, h5, h6⟩, hf⟩ := k
  refine ⟨⟨Nat.lt_of_lt_of_le h0 hb.size, (hb.cells _ _ h0).trans h1, (hb.cells _ _ h0).trans h2, (hb.cells _ _ h0).trans h3, (hb.cells _ _ h0).trans h4, (hb.cells _ _ h0).trans h5, (hb.cells _ _ h0).trans h6⟩, ?_⟩
  simp only [Fr6, hb.frozens _ _ h0]
  exact hf
abbrev Fr2 (w : World) (b : Nat) : Prop := w.frozen? ⟨b, 0, none⟩ = false ∧ w.frozen? ⟨b, 1, none⟩ = false
abbrev Sl2 (w : World) (b : Nat) (x y : Int) : Prop := Arr2 w b x y ∧ Fr2 w b
theorem Sl2.keep {w w' : World} {b : Nat} {x y : Int} (k : Sl2 w b x y) (hb : Bel w w') : Sl2 w' b x y := by
  refine ⟨k.1.keep hb, ?_⟩
  simp only [Fr2, hb.frozens _ _ k.1.1]
  exact k.2

theorem conv_u64 (n : Int) : IntKind.u64.wrap n = n % 18446744073709551616 := by rw [IntKind.wrap_u64]
theorem ret_u64 {a b : Int} (h : a = b) : Ending.returned (.int .u64 a) = Ending.returned (.int .u64 b) := by rw [h]
theorem size_any (n : Int) (hn : In64 n) (w : World) : Calls Tryd.prog 48 #[.int .i64 n] w fun e w' => e = .returned (.int .u64 (n.natAbs : Int)) ∧ Bel w w' := by
  obtain ⟨h0, h1⟩ := hn
  by_cases h : n < 0
  · go_enter Tryd.func48, Tryd.ntmps48
    go_wp2
    go_ret
    exact ⟨ret_u64 (by rw [conv_u64, conv_u64]; omega), Bel.refl _⟩
  · go_enter Tryd.func48, Tryd.ntmps48
    go_wp2
    go_ret
    exact ⟨ret_u64 (by omega), Bel.refl _⟩

abbrev wideV (neg : Bool) (hi lo rest of : Nat) (s : Int) : Value := .agg #[.bool neg, .int .u64 hi, .int .u64 lo, .int .u64 rest, .int .u64 of, .int .i64 s]
set_option maxHeartbeats 400000 in
theorem wideOf_any (n s : Int) (hn : In64 n) (w : World) : Calls Tryd.prog 29 #[.int .i64 n, .int .i64 s] w fun e w' => e = .returned (wideV (decide (n < 0)) 0 n.natAbs 0 1 s) ∧ Bel w w' := by
  go_enter Tryd.func29, Tryd.ntmps29
  go_wp2_with fail
  refine under_call ((Bel.refl w).alloc _) fun W hc hf hz hb => ?_
  have hw : Sl6 W w.heap.size false 0 0 0 0 0 := by simp [Sl6, Ar6, Fr6, hz, hc, hf, go_sem]
  clear hc hf hz
  go_wp2_with (go_at_call 48; refine (size_any n hn _).mono ?_; rintro e W1 ⟨rfl, hb1⟩; replace hw := hw.keep hb1; replace hb := hb.trans hb1; clear hb1)
  refine bodyPost_ret (by simp [results, Tryd.results29, go_sem, hw]; try rfl) rfl ⟨rfl, ?_⟩
  exact (((((hb.setCell (by simp) _).setCell (by simp) _).setCell (by simp) _).setCell (by simp) _).setCell (by simp) _).setCell (by simp) _
end Go.Proofs.YtcknjhgolajclaaDoor
