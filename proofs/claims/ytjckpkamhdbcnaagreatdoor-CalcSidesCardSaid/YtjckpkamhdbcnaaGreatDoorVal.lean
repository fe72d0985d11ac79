import Derived.Test.YtjckpkamhdbcnaaGreatDoorOpn
import Derived.Test.YtjckpkamhdbcnaaGreatDoorOwn
namespace Go.Proofs.YtjckpkamhdbcnaaGreatDoor
set_option linter.unusedSimpArgs false
set_option linter.unusedVariables false
open Go.ChangeShapes Go.WideShapes Go.ChangeAt Go.RowKit Go.Deep
/-- A value of package api, as data. -/
structure Val where
 kind : Int
 n : Int
 scale : Int
 text : ByteArray
 num : Int
deriving DecidableEq
abbrev Val.val (v : Val) : Value := .agg #[.int .i64 v.kind, .int .i64 v.n, .int .i64 v.scale, .string v.text, .int .i64 v.num]
/-- Two values are one. -/
def veq (x y : Val) : Bool := decide (x = y)
theorem veq_iff (x y : Val) : veq x y = true ↔ x = y := by simp [veq]
theorem ite5 {w : World} {p1 p2 p3 p4 p5 : Prop} [Decidable p1] [Decidable p2] [Decidable p3] [Decidable p4] [Decidable p5] {b : Bool} (h : b = true ↔ p1 ∧ p2 ∧ p3 ∧ p4 ∧ p5) :
  (if p1 then if p2 then if p3 then if p4 then if p5 then Result.ok (Value.bool true) w else Result.ok (Value.bool false) w else Result.ok (Value.bool false) w else Result.ok (Value.bool false) w else Result.ok (Value.bool false) w else Result.ok (Value.bool false) w) = Result.ok (Value.bool b) w := by
 cases b
 ·simp only [Bool.false_eq_true, false_iff] at h
  repeat' split
  all_goals first | rfl | exact absurd ⟨‹_›, ‹_›, ‹_›, ‹_›, ‹_›⟩ h
 ·have := h.1 rfl
  simp [this]
theorem eql_val (a b c e a' b' c' e' : Int) (d d' : ByteArray) (w : World) :
  (binOp .eql 25 (.agg #[.int .i64 a, .int .i64 b, .int .i64 c, .string d, .int .i64 e]) (.agg #[.int .i64 a', .int .i64 b', .int .i64 c', .string d', .int .i64 e'])).run Tryz.prog w = .ok (.bool (veq ⟨a, b, c, d, e⟩ ⟨a', b', c', d', e'⟩)) w := by
 go_simp
 exact ite5 (by rw [veq_iff, toList_inj]; simp)
theorem neq_val (a b c e a' b' c' e' : Int) (d d' : ByteArray) (w : World) :
  (binOp .neq 25 (.agg #[.int .i64 a, .int .i64 b, .int .i64 c, .string d, .int .i64 e]) (.agg #[.int .i64 a', .int .i64 b', .int .i64 c', .string d', .int .i64 e'])).run Tryz.prog w = .ok (.bool (!veq ⟨a, b, c, d, e⟩ ⟨a', b', c', d', e'⟩)) w := by
 have h := eql_val a b c e a' b' c' e' d d' w
 rw [run_eql_struct] at h
 rw [run_neq_struct]
 generalize (Op.equalIn 10000 25 _ _).run Tryz.prog w = r at h ⊢
 cases r with
 | ok x w1 =>
  simp only [Result.andThen_ok, Result.ok.injEq, Value.bool.injEq] at h ⊢
  simp [h]
 | halt x w1 => simp [Result.andThen] at h
end Go.Proofs.YtjckpkamhdbcnaaGreatDoor
