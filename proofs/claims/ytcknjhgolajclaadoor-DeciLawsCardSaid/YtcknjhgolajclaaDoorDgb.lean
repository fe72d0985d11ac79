import Derived.Test.YtcknjhgolajclaaDoorDga
import Derived.Test.YtcknjhgolajclaaDoorDen
namespace Go.Proofs.YtcknjhgolajclaaDoor
set_option linter.unusedSimpArgs false
set_option linter.unusedVariables false
open Go.RowKit

/-! Deci: sums, products and quotients. -/
theorem addV_comm (n s m t : Int) : addV n s m t = addV m t n s := by
  unfold addV
  rw [Int.add_comm (unt n s)]
  by_cases h : SndD n s ∧ SndD m t
  · rw [if_pos h, if_pos ⟨h.2, h.1⟩]
  · rw [if_neg h, if_neg fun hh => h ⟨hh.2, hh.1⟩]
theorem mulV_comm (n s m t : Int) : mulV n s m t = mulV m t n s := by
  unfold mulV
  rw [Int.add_comm s, Nat.mul_comm n.natAbs, show (decide (n < 0) != decide (m < 0)) = (decide (m < 0) != decide (n < 0)) by cases decide (n < 0) <;> cases decide (m < 0) <;> rfl]
  by_cases h : SndD n s ∧ SndD m t
  · rw [if_pos (c := SndD n s ∧ SndD m t) h, if_pos (c := SndD m t ∧ SndD n s) ⟨h.2, h.1⟩]
  · rw [if_neg (c := SndD n s ∧ SndD m t) h, if_neg (c := SndD m t ∧ SndD n s) fun hh => h ⟨hh.2, hh.1⟩]
theorem sgn_add (x y z : Int) : sgn (x + z) (y + z) = sgn x y := by
  unfold sgn
  by_cases h1 : x < y
  · rw [if_pos h1, if_pos (by omega)]
  · rw [if_neg h1, if_neg (by omega)]
    by_cases h2 : y < x
    · rw [if_pos h2, if_pos (by omega)]
    · rw [if_neg h2, if_neg (by omega)]
/-- A sum with something greater is greater. -/
theorem cmp_add {n s m t c d x y z u : Int} (h1 : addV n s m t = .tuple #[decA x y, .int .i64 0]) (h2 : addV c d m t = .tuple #[decA z u, .int .i64 0]) : cmpV x y z u = cmpV n s c d := by
  obtain ⟨a1, a2, a3, a4⟩ := addV_inv h1
  obtain ⟨b1, b2, b3, b4⟩ := addV_inv h2
  unfold cmpV
  rw [if_pos ⟨a1, b1⟩, if_pos ⟨a3, b3⟩, a2, b2, sgn_add]
/-- A quotient of a product by a whole factor. -/
theorem mulV_k {n s k : Int} (h : SndD n s) (hk : SndD k 0) : mulV n s k 0 = errV 3 ∨ ∃ a b, mulV n s k 0 = .tuple #[decA a b, .int .i64 0] := by
  unfold mulV
  rw [if_pos ⟨h, hk⟩, if_pos (by have := h.2.1; omega)]
  exact decV_cases ..
theorem div_mul {n s k a b : Int} (h : SndD n s) (hk : SndD k 0) (hk0 : k ≠ 0) (hm : mulV n s k 0 = .tuple #[decA a b, .int .i64 0]) : divV a b k 0 = .tuple #[decA n s, .int .i64 0] := by
  have hh := h
  obtain ⟨s0, s6, -, -⟩ := h
  unfold mulV at hm
  rw [if_pos ⟨hh, hk⟩, if_pos (by omega), Int.add_zero] at hm
  obtain ⟨h1, h2, h3, h4, -⟩ := decV_inv (by omega) hm
  have h1' := h1
  obtain ⟨b0, b6, -, -⟩ := h1
  unfold divV
  rw [if_pos ⟨h1', hk⟩, if_neg hk0]
  have key : heven (a.natAbs * P10 ((0 : Int) + 6).toNat) (k.natAbs * P10 b.toNat) = n.natAbs * P10 (6 - s).toNat := by
    have e1 : P10 ((0 : Int) + 6).toNat = P10 (s.toNat - b.toNat) * (P10 b.toNat * P10 (6 - s).toNat) := by
      rw [← P10_add, ← P10_add, show ((0 : Int) + 6).toNat = s.toNat - b.toNat + (b.toNat + (6 - s).toNat) by omega]
    rw [e1, ← Nat.mul_assoc, h2, show n.natAbs * k.natAbs * (P10 b.toNat * P10 (6 - s).toNat) = n.natAbs * P10 (6 - s).toNat * (k.natAbs * P10 b.toNat) by
      simp only [Nat.mul_assoc, Nat.mul_left_comm, Nat.mul_comm]]
    exact heven_exact _ _ (Nat.mul_pos (by omega) (P10_pos _))
  rw [key]
  refine decV_six _ _ _ hh fun h0 => ?_
  have ha : a ≠ 0 := by
    rintro rfl
    have : n.natAbs * k.natAbs = 0 := by rw [← h2]; simp
    rcases Nat.mul_eq_zero.1 this with h | h <;> omega
  have hx := h4 ha
  rw [← hx]
  cases decide (n < 0) <;> cases decide (k < 0) <;> rfl
end Go.Proofs.YtcknjhgolajclaaDoor
