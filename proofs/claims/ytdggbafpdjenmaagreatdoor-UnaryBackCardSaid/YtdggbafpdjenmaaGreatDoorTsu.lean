
import Derived.Test.YtdggbafpdjenmaaGreatDoorTst
namespace Go.Proofs.YtdggbafpdjenmaaGreatDoor
set_option linter.unusedSimpArgs false
set_option linter.unusedVariables false
open Go.ChangeShapes Go.WideShapes Go.ChangeAt Go.RowKit Go.Deep
theorem ite_b {w : World} {p : Prop} [Decidable p] (c : Bool) : (if p then Result.ok (Value.bool c) w else Result.ok (Value.bool false) w) = Result.ok (Value.bool (decide p && c)) w := by
  by_cases h : p <;> simp [h]
theorem eql_tst (k a0 a1 a2 a4 b0 b1 b2 b4 k' a0' a1' a2' a4' b0' b1' b2' b4' : Int) (a3 b3 a3' b3' : ByteArray) (x y x' y' : Bool) (w : World) :
    (binOp .eql 40 (.agg #[.int .i64 k, .int .i64 a0, .int .i64 a1, .int .i64 a2, .string a3, .int .i64 a4, .int .i64 b0, .int .i64 b1, .int .i64 b2, .string b3, .int .i64 b4, .bool x, .bool y]) (.agg #[.int .i64 k', .int .i64 a0', .int .i64 a1', .int .i64 a2', .string a3', .int .i64 a4', .int .i64 b0', .int .i64 b1', .int .i64 b2', .string b3', .int .i64 b4', .bool x', .bool y'])).run Tryz.prog w = .ok (.bool (teq ⟨k, ⟨a0, a1, a2, a3, a4⟩, ⟨b0, b1, b2, b3, b4⟩, x, y⟩ ⟨k', ⟨a0', a1', a2', a3', a4'⟩, ⟨b0', b1', b2', b3', b4'⟩, x', y'⟩)) w := by
  go_simp
  simp only [ite_b]
  congr 2
  rw [Bool.eq_iff_iff, teq_iff]
  simp [toList_inj, and_assoc]
theorem neq_tst (k a0 a1 a2 a4 b0 b1 b2 b4 k' a0' a1' a2' a4' b0' b1' b2' b4' : Int) (a3 b3 a3' b3' : ByteArray) (x y x' y' : Bool) (w : World) :
    (binOp .neq 40 (.agg #[.int .i64 k, .int .i64 a0, .int .i64 a1, .int .i64 a2, .string a3, .int .i64 a4, .int .i64 b0, .int .i64 b1, .int .i64 b2, .string b3, .int .i64 b4, .bool x, .bool y]) (.agg #[.int .i64 k', .int .i64 a0', .int .i64 a1', .int .i64 a2', .string a3', .int .i64 a4', .int .i64 b0', .int .i64 b1', .int .i64 b2', .string b3', .int .i64 b4', .bool x', .bool y'])).run Tryz.prog w = .ok (.bool (!teq ⟨k, ⟨a0, a1, a2, a3, a4⟩, ⟨b0, b1, b2, b3, b4⟩, x, y⟩ ⟨k', ⟨a0', a1', a2', a3', a4'⟩, ⟨b0', b1', b2', b3', b4'⟩, x', y'⟩)) w := by
  have h := eql_tst k a0 a1 a2 a4 b0 b1 b2 b4 k' a0' a1' a2' a4' b0' b1' b2' b4' a3 b3 a3' b3' x y x' y' w
  rw [run_eql_struct] at h
  rw [run_neq_struct]
  generalize (Op.equalIn 10000 40 _ _).run Tryz.prog w = r at h ⊢
  cases r with
  | ok x w1 =>
    simp only [Result.andThen_ok, Result.ok.injEq, Value.bool.injEq] at h ⊢
    simp [h]
  | halt x w1 => simp [Result.andThen] at h
end Go.Proofs.YtdggbafpdjenmaaGreatDoor
