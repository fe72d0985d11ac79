import Derived.Test.YtcknjhgolajclaaDoorDfc
namespace Go.Proofs.YtcknjhgolajclaaDoor
set_option linter.unusedSimpArgs false
set_option linter.unusedVariables false
open Go.RowKit

/-! Deci: products and quotients by digits, plainly. -/
def above (f : Nat → Nat) (k : Nat) : Nat → Nat := fun i => if k ≤ i then f i else 0
theorem above_upd (f : Nat → Nat) (k i : Nat) : upd (above f (k + 1)) k (f k) i = above f k i := by
  unfold upd above
  by_cases h : i = k
  · subst h; rw [if_pos rfl, if_pos (by omega)]
  · rw [if_neg h]
    by_cases h2 : k ≤ i
    · rw [if_pos (by omega), if_pos h2]
    · rw [if_neg (by omega), if_neg h2]
theorem dg_one (q i : Nat) (h : q % 10 = 0) : upd (dg q) 0 1 i = dg (q + 1) i := by
  unfold upd
  by_cases hi : i = 0
  · subst hi; rw [if_pos rfl, dg_first]; omega
  · rw [if_neg hi]
    obtain ⟨j, rfl⟩ : ∃ j, i = j + 1 := ⟨i - 1, by omega⟩
    have h1 := dg_shift q 1 j
    have h2 := dg_shift (q + 1) 1 j
    rw [Nat.add_comm 1 j] at h1 h2
    rw [← h1, ← h2, Nat.pow_one]
    congr 1
    omega
/-- The quotient with a digit that tells whether something is left. -/
def sticky (N b : Nat) : Nat := if 0 < N % b ∧ N / b % 10 = 0 then N / b + 1 else N / b
theorem rnd_sticky (x b s t : Nat) (hb : 0 < b) (hs : s ≤ 6) (ht : t ≤ 6) : rnd (sticky (x * 10 ^ 20) b) (20 + s - t) = heven (x * P10 (t + 6)) (b * P10 s) := by
  have h1 := heven_sticky (x * 10 ^ 20) b (14 + s - t) hb (by omega)
  unfold rnd
  rw [if_pos (by omega), show 20 + s - t - 6 = 14 + s - t by omega]
  have h2 := heven_mul (x * P10 (t + 6)) (b * P10 s) (10 ^ (14 - t)) (p10 _)
  have e1 : x * P10 (t + 6) * 10 ^ (14 - t) = x * 10 ^ 20 := by
    unfold P10
    rw [Nat.mul_assoc, ← Nat.pow_add, show t + 6 + (14 - t) = 20 by omega]
  have e2 : b * P10 s * 10 ^ (14 - t) = b * 10 ^ (14 + s - t) := by
    unfold P10
    rw [Nat.mul_assoc, ← Nat.pow_add, show s + (14 - t) = 14 + s - t by omega]
  rw [e1, e2] at h2
  exact h1.trans h2
theorem sticky_lt {N b : Nat} (h : N < 10 ^ 32) : sticky N b < 10 ^ 50 := by
  have := Nat.div_le_self N b
  unfold sticky
  split <;> omega
theorem dg_lift (x i : Nat) : dg (x * 10 ^ 20) i = if 20 ≤ i then dg x (i - 20) else 0 := by
  by_cases h : 20 ≤ i
  · rw [if_pos h]
    have := dg_up x 20 (i - 20)
    rwa [show i - 20 + 20 = i by omega] at this
  · rw [if_neg h]; exact dg_low x 20 i (by omega)
/-- One more product of two digits. -/
theorem mul_step {f : Nat → Nat} {X Y i k : Nat} (hi : i < 12) (hk : k < 12) (h : tv f 0 60 = X % 10 ^ i * Y + dg X i * 10 ^ i * (Y % 10 ^ k)) :
    tv (upd f (i + k) (f (i + k) + dg X i * dg Y k)) 0 60 = X % 10 ^ i * Y + dg X i * 10 ^ i * (Y % 10 ^ (k + 1)) := by
  have e : dg X i * dg Y k * 10 ^ (i + k - 0) = dg X i * 10 ^ i * (10 ^ k * dg Y k) := by
    rw [Nat.sub_zero, Nat.pow_add]
    generalize 10 ^ i = p
    generalize 10 ^ k = q
    generalize dg X i = a
    generalize dg Y k = b
    rw [Nat.mul_assoc, Nat.mul_assoc, Nat.mul_left_comm b p q, Nat.mul_comm b q]
  rw [tv_upd_add 60 f 0 (i + k) _ (by omega) (by omega), h, mod_succ Y k, e, Nat.mul_add, Nat.add_assoc]
theorem mul_row {f : Nat → Nat} {X Y i : Nat} (hY : Y < 10 ^ 12) (h : tv f 0 60 = X % 10 ^ i * Y + dg X i * 10 ^ i * (Y % 10 ^ 12)) : tv f 0 60 = X % 10 ^ (i + 1) * Y := by
  rw [h, mod_succ X i, Nat.mod_eq_of_lt hY, Nat.add_mul, Nat.mul_comm (dg X i)]
/-- The bounds of the cells. -/
def MB (f : Nat → Nat) (i k : Nat) : Prop := (∀ j, f j ≤ 81 * (i + 1)) ∧ ∀ j, i + k ≤ j → f j ≤ 81 * i
theorem MB.start {f : Nat → Nat} {i : Nat} (h : ∀ j, f j ≤ 81 * i) : MB f i 0 := ⟨fun j => by have := h j; omega, fun j _ => h j⟩
theorem MB.step {f : Nat → Nat} {i k d : Nat} (h : MB f i k) (hd : d ≤ 81) : MB (upd f (i + k) (f (i + k) + d)) i (k + 1) := by
  constructor
  · intro j
    unfold upd
    by_cases hj : j = i + k
    · rw [if_pos hj]; have := h.2 (i + k) (by omega); omega
    · rw [if_neg hj]; exact h.1 j
  · intro j hj
    rw [upd_ne _ _ _ _ (by omega)]
    exact h.2 j (by omega)
/-- A carry. -/
def CB (f : Nat → Nat) (P i : Nat) : Prop := (∀ j, j < i → f j = dg P j) ∧ tv f i (60 - i) = P / 10 ^ i ∧ f i ≤ 1080 ∧ ∀ j, i < j → f j ≤ 972
theorem CB.start {f : Nat → Nat} {P : Nat} (h : tv f 0 60 = P) (hf : ∀ j, f j ≤ 972) : CB f P 0 :=
  ⟨fun j hj => by omega, by simpa using h, by have := hf 0; omega, fun j _ => hf j⟩
theorem CB.step {f : Nat → Nat} {P i : Nat} (h : CB f P i) (hi : i < 59) : CB (upd (upd f (i + 1) (f (i + 1) + f i / 10)) i (f i % 10)) P (i + 1) := by
  obtain ⟨h1, h2, h3, h4⟩ := h
  rw [show 60 - i = (59 - i) + 1 by omega, tv] at h2
  have h5 : f i % 10 = dg P i := by rw [dg]; omega
  refine ⟨fun j hj => ?_, ?_, ?_, fun j hj => ?_⟩
  · by_cases hji : j = i
    · subst hji; rw [upd_at]; exact h5
    · rw [upd_ne _ _ _ _ hji, upd_ne _ _ _ _ (by omega)]; exact h1 j (by omega)
  · rw [tv_upd_out _ _ _ _ _ (by omega), show 60 - (i + 1) = 59 - i by omega, tv_upd_add (59 - i) f (i + 1) (i + 1) _ (by omega) (by omega), div_succ, ← h2]
    simp; omega
  · rw [upd_ne _ _ _ _ (by omega), upd_at]; have := h4 (i + 1) (by omega); omega
  · rw [upd_ne _ _ _ _ (by omega), upd_ne _ _ _ _ (by omega)]; exact h4 j (by omega)
theorem CB.done {f : Nat → Nat} {P : Nat} (h : CB f P 59) (hP : P < 10 ^ 50) : ∀ j, j < 60 → f j = dg P j := by
  intro j hj
  by_cases h9 : j < 59
  · exact h.1 j h9
  · obtain rfl : j = 59 := by omega
    have h2 := h.2.1
    have e : P / 10 ^ 59 = 0 := Nat.div_eq_of_lt (by omega)
    rw [e] at h2
    simp only [tv] at h2
    rw [dg, e]; omega
theorem rnd_mul {x y s t : Nat} : rnd (x * y) (s + t) = if s + t ≤ 6 then x * y else heven (x * y) (P10 (s + t - 6)) := by
  unfold rnd P10
  by_cases h : s + t ≤ 6
  · rw [if_neg (by omega), if_pos h]
  · rw [if_pos (by omega), if_neg h]
theorem mul_lt50 {x y : Nat} (hx : x ≤ 999999999999) (hy : y ≤ 999999999999) : x * y < 10 ^ 50 := by
  have := Nat.mul_le_mul hx hy
  omega
end Go.Proofs.YtcknjhgolajclaaDoor
