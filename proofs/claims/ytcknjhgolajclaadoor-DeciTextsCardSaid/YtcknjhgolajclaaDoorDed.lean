namespace Go.Proofs.YtcknjhgolajclaaDoor
set_option linter.unusedSimpArgs false
set_option linter.unusedVariables false
/-! The division of 128 bits by 64, in two digits of 32 bits. -/
section
theorem dv_test {y1 y0 u c q r : Nat} (hq : q * y1 + r = u) : (q * (y1 * 4294967296 + y0) > u * 4294967296 + c) ↔ (q * y0 > 4294967296 * r + c) := by
  subst hq
  rw [Nat.mul_add, ← Nat.mul_assoc]
  omega
theorem dv_over {y u c q : Nat} (hy : 0 < y) : ((u * 4294967296 + c) / y < q) ↔ q * y > u * 4294967296 + c := by
  rw [Nat.div_lt_iff_lt_mul hy]
theorem dv_lt {y u c : Nat} (hu : u < y) (hc : c < 4294967296) : (u * 4294967296 + c) / y < 4294967296 := by
  rw [Nat.div_lt_iff_lt_mul (by omega), Nat.mul_comm 4294967296 y]
  have := Nat.mul_le_mul_right 4294967296 (show u + 1 ≤ y from hu)
  rw [Nat.add_mul] at this
  omega
/-- What is known of a digit that is guessed: it is not too small, and at most one above the base. -/
structure Guess (y1 y0 u c q r : Nat) : Prop where
  sum : q * y1 + r = u
  ge : (u * 4294967296 + c) / (y1 * 4294967296 + y0) ≤ q
  le : q ≤ 4294967297
  lo : r < 4294967296
theorem guess_0 {y1 y0 u c : Nat} (h1 : 2147483648 ≤ y1) (h1' : y1 < 4294967296) (h0 : y0 < 4294967296) (hu : u < y1 * 4294967296 + y0) (hc : c < 4294967296) : Guess y1 y0 u c (u / y1) (u % y1) := by
  have hs := Nat.div_add_mod u y1
  have hm := Nat.mod_lt u (show 0 < y1 by omega)
  refine ⟨by rw [Nat.mul_comm]; omega, ?_, ?_, by omega⟩
  · refine Nat.le_of_not_lt fun h => ?_
    have h2 : u / y1 + 1 ≤ (u * 4294967296 + c) / (y1 * 4294967296 + y0) := h
    rw [Nat.le_div_iff_mul_le (by omega)] at h2
    have h3 : u < (u / y1 + 1) * y1 := by rw [Nat.add_mul, Nat.mul_comm]; omega
    have h4 : (u / y1 + 1) * (y1 * 4294967296) = (u / y1 + 1) * y1 * 4294967296 := by rw [Nat.mul_assoc]
    rw [Nat.mul_add, h4] at h2
    have h5 := Nat.mul_le_mul_right 4294967296 (show u + 1 ≤ (u / y1 + 1) * y1 from h3)
    rw [Nat.add_mul] at h5
    omega
  · have : u / y1 < 4294967298 := by
      rw [Nat.div_lt_iff_lt_mul (by omega)]
      omega
    omega
theorem guess_test {y1 y0 u c q r : Nat} (h1 : 2147483648 ≤ y1) (g : Guess y1 y0 u c q r) :
    ((u * 4294967296 + c) / (y1 * 4294967296 + y0) < q) ↔ q * y0 > 4294967296 * r + c := by
  rw [dv_over (by omega), dv_test g.sum]
theorem guess_big {y1 y0 u c q r : Nat} (h1 : 2147483648 ≤ y1) (hu : u < y1 * 4294967296 + y0) (hc : c < 4294967296) (g : Guess y1 y0 u c q r) (h : 4294967296 ≤ q) :
    (u * 4294967296 + c) / (y1 * 4294967296 + y0) < q := Nat.lt_of_lt_of_le (dv_lt hu hc) h
theorem guess_done {y1 y0 u c q r : Nat} (g : Guess y1 y0 u c q r) (h : ¬ (u * 4294967296 + c) / (y1 * 4294967296 + y0) < q) : q = (u * 4294967296 + c) / (y1 * 4294967296 + y0) := by
  have := g.ge
  exact Nat.le_antisymm (Nat.le_of_not_lt h) this
theorem guess_dec {y1 y0 u c q r : Nat} (h1 : 2147483648 ≤ y1) (h0 : y0 < 4294967296) (g : Guess y1 y0 u c q r) (h : (u * 4294967296 + c) / (y1 * 4294967296 + y0) < q) :
    (q - 1) * y1 + (r + y1) = u ∧ 1 ≤ q ∧ (r + y1 < 4294967296 → Guess y1 y0 u c (q - 1) (r + y1)) ∧ (4294967296 ≤ r + y1 → q - 1 = (u * 4294967296 + c) / (y1 * 4294967296 + y0)) := by
  have hq : 1 ≤ q := Nat.lt_of_le_of_lt (Nat.zero_le _) h
  have hs : (q - 1) * y1 + (r + y1) = u := by
    have := g.sum
    obtain ⟨p, rfl⟩ : ∃ p, q = p + 1 := ⟨q - 1, by omega⟩
    rw [Nat.add_mul] at this
    rw [Nat.add_sub_cancel]
    omega
  refine ⟨hs, hq, fun hl => ⟨hs, Nat.le_sub_one_of_lt h, by have := g.le; omega, hl⟩, fun hl => ?_⟩
  by_cases hlt : (u * 4294967296 + c) / (y1 * 4294967296 + y0) < q - 1
  · rw [dv_over (by omega), dv_test hs] at hlt
    have := g.le
    have h2 : (q - 1) * y0 ≤ 4294967296 * y0 := Nat.mul_le_mul_right _ (by omega)
    have h3 : 4294967296 * y0 ≤ 4294967296 * 4294967295 := Nat.mul_le_mul_left _ (by omega)
    omega
  · omega
/-- What is left, reckoned modulo 2^64. -/
theorem rest_mod {y u c q R : Nat} (h : q * y + R = u * 4294967296 + c) (hR : R < 18446744073709551616) :
    (((u * 4294967296 % 18446744073709551616 + c) % 18446744073709551616 : Nat) - ((q * y % 18446744073709551616 : Nat)) : Int) % 18446744073709551616 = (R : Int) := by
  omega
/-- The number, moved up so that its divisor's top bit is set. -/
theorem shl_top {hi lo s : Nat} (hs : s ≤ 63) (hlo : lo < 18446744073709551616) :
    (hi * 18446744073709551616 + lo) * 2 ^ s = (hi * 2 ^ s + lo / 2 ^ (64 - s)) * 18446744073709551616 + lo * 2 ^ s % 18446744073709551616 := by
  have h : 18446744073709551616 = 2 ^ s * 2 ^ (64 - s) := by rw [← Nat.pow_add, show s + (64 - s) = 64 by omega]
  have h2 : lo * 2 ^ s / 18446744073709551616 = lo / 2 ^ (64 - s) := by
    rw [h, Nat.mul_comm lo, Nat.mul_div_mul_left _ _ (Nat.pow_pos (by omega))]
  have h3 := Nat.div_add_mod (lo * 2 ^ s) 18446744073709551616
  rw [h2] at h3
  rw [Nat.add_mul, Nat.add_mul, Nat.mul_right_comm hi]
  omega
theorem long_two {X a b y : Nat} (hy : 0 < y) (h : X = a * 18446744073709551616 + b) (ha : a < y) :
    let c1 := b / 4294967296; let c0 := b % 4294967296
    let q1 := (a * 4294967296 + c1) / y; let r1 := (a * 4294967296 + c1) % y
    let q0 := (r1 * 4294967296 + c0) / y; let r0 := (r1 * 4294967296 + c0) % y
    X / y = q1 * 4294967296 + q0 ∧ X % y = r0 := by
  intro c1 c0 q1 r1 q0 r0
  have e1 : y * q1 + r1 = a * 4294967296 + c1 := Nat.div_add_mod _ _
  have e0 : y * q0 + r0 = r1 * 4294967296 + c0 := Nat.div_add_mod _ _
  have hr : r0 < y := Nat.mod_lt _ hy
  have hX : X = y * (q1 * 4294967296 + q0) + r0 := by
    rw [h, Nat.mul_add, ← Nat.mul_assoc]
    have hb : 4294967296 * c1 + c0 = b := Nat.div_add_mod b 4294967296
    clear_value c1 c0 q1 r1 q0 r0
    omega
  constructor
  · rw [hX, Nat.mul_add_div hy, Nat.div_eq_of_lt hr, Nat.add_zero]
  · rw [hX, Nat.mul_add_mod, Nat.mod_eq_of_lt hr]
end
end Go.Proofs.YtcknjhgolajclaaDoor
