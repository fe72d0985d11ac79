namespace Go.Proofs.YtcknjhgolajclaaDoor
set_option linter.unusedSimpArgs false
set_option linter.unusedVariables false
/-! Deci: plain functions on numbers. -/
def small (n : Int) : Prop := -999999999999 ≤ n ∧ n ≤ 999999999999
instance (n : Int) : Decidable (small n) := inferInstanceAs (Decidable (_ ∧ _))
def SndD (n s : Int) : Prop := 0 ≤ s ∧ s ≤ 6 ∧ small n ∧ (s = 0 ∨ n % 10 ≠ 0)
instance (n s : Int) : Decidable (SndD n s) := inferInstanceAs (Decidable (_ ∧ _))
def trim (m : Nat) : Nat → Nat × Nat
  | 0 => (m, 0)
  | s + 1 => if m % 10 = 0 then trim (m / 10) s else (m, s + 1)
theorem trim_le (s : Nat) : ∀ m, (trim m s).1 ≤ m ∧ (trim m s).2 ≤ s := by
  induction s with
  | zero => intro m; simp [trim]
  | succ k ih =>
    intro m
    unfold trim
    split
    · have := ih (m / 10); have := Nat.div_le_self m 10; omega
    · simp
theorem trim_val (s : Nat) : ∀ m, (trim m s).1 * 10 ^ (s - (trim m s).2) = m := by
  induction s with
  | zero => intro m; simp [trim]
  | succ k ih =>
    intro m
    unfold trim
    split
    · have h1 := ih (m / 10)
      have h2 := (trim_le k (m / 10)).2
      rw [show k + 1 - (trim (m / 10) k).2 = (k - (trim (m / 10) k).2) + 1 by omega, Nat.pow_succ, ← Nat.mul_assoc, h1]
      omega
    · simp
theorem trim_snd (s : Nat) : ∀ m, (trim m s).2 = 0 ∨ (trim m s).1 % 10 ≠ 0 := by
  induction s with
  | zero => intro m; simp [trim]
  | succ k ih =>
    intro m
    unfold trim
    split
    · exact ih _
    · right; assumption
theorem trim_stop (m s : Nat) (h : m % 10 ≠ 0) : trim m s = (m, s) := by
  cases s with
  | zero => rfl
  | succ k => unfold trim; rw [if_neg h]
theorem trim_step (m s : Nat) (h : m % 10 = 0) : trim m (s + 1) = trim (m / 10) s := by
  rw [trim]; rw [if_pos h]
/-- Trimming is of the value alone. -/
theorem trim_up (s k m : Nat) : trim (m * 10 ^ k) (s + k) = trim m s := by
  induction k with
  | zero => simp
  | succ j ih =>
    rw [← Nat.add_assoc, Nat.pow_succ, ← Nat.mul_assoc, trim_step _ _ (by omega), Nat.mul_div_cancel _ (by omega), ih]
/-- Half to the even neighbour. -/
def heven (m d : Nat) : Nat := if d < 2 * (m % d) ∨ (2 * (m % d) = d ∧ m / d % 2 = 1) then m / d + 1 else m / d
theorem heven_one (m : Nat) : heven m 1 = m := by simp [heven, Nat.mod_one]
theorem heven_le (m d : Nat) : heven m d ≤ m / d + 1 := by unfold heven; split <;> omega
theorem heven_mul (m d k : Nat) (hk : 0 < k) : heven (m * k) (d * k) = heven m d := by
  unfold heven
  rw [Nat.mul_mod_mul_right, Nat.mul_div_mul_right _ _ hk]
  have h1 : (d * k < 2 * (m % d * k)) ↔ (d < 2 * (m % d)) := by
    rw [← Nat.mul_assoc]; exact Nat.mul_lt_mul_right hk
  have h2 : (2 * (m % d * k) = d * k) ↔ (2 * (m % d) = d) := by
    rw [← Nat.mul_assoc]
    constructor
    · exact fun h => Nat.eq_of_mul_eq_mul_right hk h
    · intro h; rw [h]
  simp only [h1, h2]
/-- A digit that tells that something is left. -/
theorem heven_sticky (N b k : Nat) (hb : 0 < b) (hk : 2 ≤ k) :
    heven (let q := N / b; if 0 < N % b ∧ q % 10 = 0 then q + 1 else q) (10 ^ k) = heven N (b * 10 ^ k) := by
  obtain ⟨j, rfl⟩ : ∃ j, k = j + 2 := ⟨k - 2, by omega⟩
  have hp : 10 ^ (j + 2) = 100 * 10 ^ j := by rw [Nat.pow_add]; omega
  have hP : 0 < 10 ^ j := Nat.pow_pos (by omega)
  generalize hD : 10 ^ (j + 2) = D at *
  have hD100 : D = 100 * 10 ^ j := hp
  generalize 10 ^ j = P at *
  have hNb := Nat.div_add_mod N b
  generalize hq : N / b = q at *
  have hr : N % b < b := Nat.mod_lt _ hb
  generalize hr' : N % b = r at *
  have hqd := Nat.div_add_mod q D
  have hqm : q % D < D := Nat.mod_lt _ (by omega)
  generalize hx : q / D = x at *
  generalize hy : q % D = y at *
  -- N = b*D*x + (b*y + r)
  have hN : N = (b * D) * x + (b * y + r) := by
    rw [← hNb, ← hqd, Nat.mul_add, Nat.mul_assoc]; omega
  have hlt : b * y + r < b * D := by
    have : b * y + b ≤ b * D := by rw [← Nat.mul_succ]; exact Nat.mul_le_mul_left _ hqm
    omega
  have hdiv : N / (b * D) = x := by
    rw [hN, Nat.mul_add_div (Nat.mul_pos hb (by omega)), Nat.div_eq_of_lt hlt]; rfl
  have hmod : N % (b * D) = b * y + r := by
    rw [hN, Nat.mul_add_mod, Nat.mod_eq_of_lt hlt]
  have hy10 : q % 10 = y % 10 := by
    rw [← hqd, hD100, show 100 * P * x = 10 * (10 * P * x) by simp only [Nat.mul_assoc]; omega, Nat.mul_add_mod]
  have key : ∀ y', (y' = if 0 < r ∧ y % 10 = 0 then y + 1 else y) →
      ((D < 2 * y' ↔ b * D < 2 * (b * y + r)) ∧ (2 * y' = D ↔ 2 * (b * y + r) = b * D) ∧ y' < D) := by
    intro y' hy'
    have e2 : D % 20 = 0 := by omega
    by_cases hr0 : r = 0
    · have : y' = y := by rw [hy', if_neg (by omega)]
      subst this
      rw [hr0, Nat.add_zero, ← Nat.mul_assoc, Nat.mul_comm 2 b, Nat.mul_assoc]
      refine ⟨(Nat.mul_lt_mul_left hb).symm, ⟨fun h => by rw [h], fun h => Nat.eq_of_mul_eq_mul_left hb h⟩, hqm⟩
    · have hh : 2 * (b * y + r) = b * (2 * y) + 2 * r := by rw [Nat.mul_add, ← Nat.mul_assoc, ← Nat.mul_assoc, Nat.mul_comm 2 b]
      rw [hh]
      -- D is even: 2y+1 never equals it
      have c1 : D ≤ 2 * y → b * D ≤ b * (2 * y) := fun h => Nat.mul_le_mul_left _ h
      have c2 : 2 * y + 2 ≤ D → b * (2 * y) + 2 * b ≤ b * D := fun h => by
        have := Nat.mul_le_mul_left b h
        rw [Nat.mul_add] at this; omega
      have hd2 : D % 2 = 0 := by omega
      by_cases hyd : D ≤ 2 * y
      · have := c1 hyd
        by_cases h0 : y % 10 = 0
        · have : y' = y + 1 := by rw [hy', if_pos ⟨by omega, h0⟩]
          subst this
          omega
        · have : y' = y := by rw [hy', if_neg (fun h => h0 h.2)]
          subst this
          omega
      · have := c2 (by omega)
        by_cases h0 : y % 10 = 0
        · have : y' = y + 1 := by rw [hy', if_pos ⟨by omega, h0⟩]
          subst this
          omega
        · have : y' = y := by rw [hy', if_neg (fun h => h0 h.2)]
          subst this
          omega
  have hk := key _ rfl
  have hq' : (if 0 < r ∧ q % 10 = 0 then q + 1 else q) = D * x + (if 0 < r ∧ y % 10 = 0 then y + 1 else y) := by
    rw [hy10]; split <;> omega
  simp only
  rw [hq']
  generalize (if 0 < r ∧ y % 10 = 0 then y + 1 else y) = y' at *
  unfold heven
  rw [Nat.mul_add_mod, Nat.mod_eq_of_lt hk.2.2, Nat.mul_add_div (by omega), Nat.div_eq_of_lt hk.2.2, Nat.add_zero, hdiv, hmod]
  simp only [hk.1, hk.2.1]
/-! Digits. -/
def dg (m i : Nat) : Nat := m / 10 ^ i % 10
theorem dg_lt (m i : Nat) : dg m i < 10 := Nat.mod_lt _ (by omega)
theorem p10 (i : Nat) : 0 < 10 ^ i := Nat.pow_pos (by omega)
theorem div_succ (m i : Nat) : m / 10 ^ (i + 1) = m / 10 ^ i / 10 := by rw [Nat.pow_succ, Nat.div_div_eq_div_mul]
theorem div_split (m i : Nat) : m / 10 ^ i = 10 * (m / 10 ^ (i + 1)) + dg m i := by rw [div_succ, dg]; omega
theorem mod_succ (m i : Nat) : m % 10 ^ (i + 1) = m % 10 ^ i + 10 ^ i * dg m i := by rw [Nat.pow_succ, Nat.mod_mul, dg]
theorem dg_zero (i : Nat) : dg 0 i = 0 := by simp [dg]
theorem dg_small (m i : Nat) (h : m < 10) (hi : 0 < i) : dg m i = 0 := by
  obtain ⟨j, rfl⟩ : ∃ j, i = j + 1 := ⟨i - 1, by omega⟩
  have : m / 10 ^ (j + 1) = 0 := Nat.div_eq_of_lt (by have := p10 j; rw [Nat.pow_succ]; omega)
  rw [dg, this]
theorem dg_first (m : Nat) : dg m 0 = m % 10 := by simp [dg]
theorem dg_shift (m k i : Nat) : dg (m / 10 ^ k) i = dg m (k + i) := by rw [dg, dg, Nat.div_div_eq_div_mul, Nat.pow_add]
theorem dg_up (m k i : Nat) : dg (m * 10 ^ k) (i + k) = dg m i := by
  rw [dg, dg, Nat.pow_add, Nat.mul_div_mul_right _ _ (p10 k)]
theorem dg_low (m k i : Nat) (h : i < k) : dg (m * 10 ^ k) i = 0 := by
  obtain ⟨j, rfl⟩ : ∃ j, k = j + 1 + i := ⟨k - i - 1, by omega⟩
  rw [dg, Nat.pow_add, ← Nat.mul_assoc, Nat.mul_div_cancel _ (p10 i), Nat.pow_succ, ← Nat.mul_assoc]
  omega
theorem dg_big (m i : Nat) (h : m < 10 ^ i) : dg m i = 0 := by rw [dg, Nat.div_eq_of_lt h]

/-- What is carried into a place of a sum. -/
def car (x y i : Nat) : Nat := (x % 10 ^ i + y % 10 ^ i) / 10 ^ i
theorem car_0 (x y : Nat) : car x y 0 = 0 := by simp [car, Nat.mod_one]
theorem car_le (x y i : Nat) : car x y i ≤ 1 := by
  have h1 := Nat.mod_lt x (p10 i)
  have h2 := Nat.mod_lt y (p10 i)
  unfold car
  have : (x % 10 ^ i + y % 10 ^ i) / 10 ^ i < 2 := by rw [Nat.div_lt_iff_lt_mul (p10 i)]; omega
  omega
theorem car_sum (x y i : Nat) : (x + y) / 10 ^ i = x / 10 ^ i + y / 10 ^ i + car x y i := by
  have h1 := Nat.div_add_mod x (10 ^ i)
  have h2 := Nat.div_add_mod y (10 ^ i)
  unfold car
  generalize hP : 10 ^ i = P at *
  have hp : 0 < P := hP ▸ p10 i
  have h : x + y = P * (x / P + y / P) + (x % P + y % P) := by rw [Nat.mul_add]; omega
  conv => lhs; rw [h]
  rw [Nat.mul_add_div hp]
theorem plus_digit (x y i : Nat) : (dg x i + dg y i + car x y i) % 10 = dg (x + y) i := by
  unfold dg
  rw [car_sum]
  omega
theorem plus_carry (x y i : Nat) : (dg x i + dg y i + car x y i) / 10 = car x y (i + 1) := by
  have h1 := car_sum x y i
  have h2 := car_sum x y (i + 1)
  rw [div_succ, div_succ, div_succ] at h2
  unfold dg
  omega
/-- What is borrowed from a place of a difference. -/
def bor (x y i : Nat) : Nat := if x % 10 ^ i < y % 10 ^ i then 1 else 0
theorem bor_0 (x y : Nat) : bor x y 0 = 0 := by simp [bor, Nat.mod_one]
theorem bor_le (x y i : Nat) : bor x y i ≤ 1 := by unfold bor; split <;> omega
theorem bor_dif (x y i : Nat) (h : y ≤ x) : (x - y) / 10 ^ i + y / 10 ^ i + bor x y i = x / 10 ^ i := by
  have h1 := Nat.div_add_mod x (10 ^ i)
  have h2 := Nat.div_add_mod y (10 ^ i)
  have h3 := Nat.mod_lt x (p10 i)
  have h4 := Nat.mod_lt y (p10 i)
  have h5 := Nat.div_le_div_right (c := 10 ^ i) h
  unfold bor
  generalize hP : 10 ^ i = P at *
  have hp : 0 < P := hP ▸ p10 i
  by_cases hl : x % P < y % P
  · rw [if_pos hl]
    have h6 : y / P < x / P := by
      rcases Nat.lt_or_ge (y / P) (x / P) with h6 | h6
      · exact h6
      · have := Nat.mul_le_mul_left P h6; omega
    have h7 : x - y = P * (x / P - y / P - 1) + (P + x % P - y % P) := by
      rw [Nat.mul_sub, Nat.mul_sub]
      have := Nat.mul_le_mul_left P (show y / P + 1 ≤ x / P from h6)
      rw [Nat.mul_add] at this
      omega
    rw [h7, Nat.mul_add_div hp, Nat.div_eq_of_lt (show P + x % P - y % P < P by omega)]
    omega
  · rw [if_neg hl]
    have h7 : x - y = P * (x / P - y / P) + (x % P - y % P) := by
      rw [Nat.mul_sub]
      have := Nat.mul_le_mul_left P h5
      omega
    rw [h7, Nat.mul_add_div hp, Nat.div_eq_of_lt (show x % P - y % P < P by omega)]
    omega
theorem minus_digit (x y i : Nat) (h : y ≤ x) : (if dg x i < dg y i + bor x y i then dg x i + 10 - dg y i - bor x y i else dg x i - dg y i - bor x y i) = dg (x - y) i := by
  have h1 := bor_dif x y i h
  have h2 := bor_le x y i
  unfold dg
  split <;> omega
theorem minus_borrow (x y i : Nat) (h : y ≤ x) : (if dg x i < dg y i + bor x y i then 1 else 0) = bor x y (i + 1) := by
  have h1 := bor_dif x y i h
  have h2 := bor_dif x y (i + 1) h
  rw [div_succ, div_succ, div_succ] at h2
  have h3 := bor_le x y i
  have h4 := bor_le x y (i + 1)
  unfold dg
  split <;> omega
/-- The first digit that is another one tells. -/
theorem less_digit (x y i : Nat) (h : x / 10 ^ (i + 1) = y / 10 ^ (i + 1)) (hd : dg x i ≠ dg y i) : (x < y ↔ dg x i < dg y i) := by
  have h1 := div_split x i
  have h2 := div_split y i
  constructor
  · intro hl
    have := Nat.div_le_div_right (c := 10 ^ i) (Nat.le_of_lt hl)
    omega
  · intro hl
    rcases Nat.lt_or_ge x y with h3 | h3
    · exact h3
    · have := Nat.div_le_div_right (c := 10 ^ i) h3
      omega
theorem less_step (x y i : Nat) (h : x / 10 ^ (i + 1) = y / 10 ^ (i + 1)) (hd : dg x i = dg y i) : x / 10 ^ i = y / 10 ^ i := by
  rw [div_split x i, div_split y i, h, hd]

/-- What cells come to from one on. -/
def tv (f : Nat → Nat) (i : Nat) : Nat → Nat
  | 0 => 0
  | n + 1 => f i + 10 * tv f (i + 1) n
def upd (f : Nat → Nat) (p v : Nat) : Nat → Nat := fun j => if j = p then v else f j
theorem upd_at (f : Nat → Nat) (p v : Nat) : upd f p v p = v := by simp [upd]
theorem upd_ne (f : Nat → Nat) (p v j : Nat) (h : j ≠ p) : upd f p v j = f j := by simp [upd, h]
theorem tv_upd_out (n : Nat) : ∀ (f : Nat → Nat) (i p v : Nat), p < i → tv (upd f p v) i n = tv f i n := by
  induction n with
  | zero => intros; rfl
  | succ n ih => intro f i p v h; rw [tv, tv, ih f (i + 1) p v (by omega), upd_ne _ _ _ _ (by omega)]
theorem tv_upd_add (n : Nat) : ∀ (f : Nat → Nat) (i p d : Nat), i ≤ p → p < i + n → tv (upd f p (f p + d)) i n = tv f i n + d * 10 ^ (p - i) := by
  induction n with
  | zero => intro f i p d h1 h2; omega
  | succ n ih =>
    intro f i p d h1 h2
    rw [tv, tv]
    by_cases h : p = i
    · subst h
      rw [upd_at, tv_upd_out _ _ _ _ _ (by omega)]
      simp; omega
    · rw [upd_ne _ _ _ _ (by omega), ih f (i + 1) p d (by omega) (by omega)]
      have : 10 ^ (p - i) = 10 * 10 ^ (p - (i + 1)) := by rw [show p - i = (p - (i + 1)) + 1 by omega, Nat.pow_succ, Nat.mul_comm]
      rw [this, Nat.mul_add, ← Nat.mul_assoc 10 d, Nat.mul_comm 10 d, Nat.mul_assoc]
      omega
theorem tv_zero (n : Nat) : ∀ (i : Nat), tv (fun _ => 0) i n = 0 := by
  induction n with
  | zero => intro i; rfl
  | succ n ih => intro i; rw [tv, ih]
theorem tv_ext (n : Nat) : ∀ (f g : Nat → Nat) (i : Nat), (∀ j, i ≤ j → j < i + n → f j = g j) → tv f i n = tv g i n := by
  induction n with
  | zero => intros; rfl
  | succ n ih => intro f g i h; rw [tv, tv, h i (by omega) (by omega), ih f g (i + 1) (fun j h1 h2 => h j (by omega) (by omega))]
theorem tv_dg (n : Nat) : ∀ (m i : Nat), m < 10 ^ (i + n) → tv (dg m) i n = m / 10 ^ i := by
  induction n with
  | zero => intro m i h; rw [tv, Nat.div_eq_of_lt (by simpa using h)]
  | succ n ih =>
    intro m i h
    rw [tv, ih m (i + 1) (by rw [show i + 1 + n = i + (n + 1) by omega]; exact h), div_split m i]
    omega
/-- Long division, a digit a round. -/
theorem long_step (N b i : Nat) (hb : 0 < b) : N / 10 ^ (i + 1) % b * 10 + dg N i < 10 * b ∧ (N / 10 ^ (i + 1) % b * 10 + dg N i) / b = dg (N / b) i ∧ (N / 10 ^ (i + 1) % b * 10 + dg N i) % b = N / 10 ^ i % b := by
  have hr : N / 10 ^ (i + 1) % b < b := Nat.mod_lt _ hb
  have hd := dg_lt N i
  have hs := div_split N i
  have hq := Nat.div_add_mod (N / 10 ^ (i + 1)) b
  generalize hM : N / 10 ^ (i + 1) = M at *
  have hX : N / 10 ^ i = b * (10 * (M / b)) + (M % b * 10 + dg N i) := by
    rw [hs, ← Nat.mul_assoc, Nat.mul_comm b 10, Nat.mul_assoc]; omega
  have hlt : M % b * 10 + dg N i < 10 * b := by omega
  refine ⟨hlt, ?_, ?_⟩
  · have h1 : N / b / 10 ^ i = N / 10 ^ i / b := by rw [Nat.div_div_eq_div_mul, Nat.div_div_eq_div_mul, Nat.mul_comm]
    show _ = N / b / 10 ^ i % 10
    rw [h1, hX, Nat.mul_add_div hb]
    have hx : (M % b * 10 + dg N i) / b < 10 := by rw [Nat.div_lt_iff_lt_mul hb]; exact hlt
    rw [Nat.mul_add_mod, Nat.mod_eq_of_lt hx]
  · rw [hX, Nat.mul_add_mod]
/-- Rounding by digits. -/
theorem round_digits (V k : Nat) (hk : 0 < k) :
    V / 10 ^ k + (if 5 < dg V (k - 1) ∨ (dg V (k - 1) = 5 ∧ (0 < V % 10 ^ (k - 1) ∨ dg V k % 2 = 1)) then 1 else 0) = heven V (10 ^ k) := by
  obtain ⟨j, rfl⟩ : ∃ j, k = j + 1 := ⟨k - 1, by omega⟩
  rw [Nat.add_sub_cancel]
  have h1 := mod_succ V j
  have hp := p10 j
  have hm := Nat.mod_lt V hp
  have hpp : 10 ^ (j + 1) = 10 * 10 ^ j := by rw [Nat.pow_succ, Nat.mul_comm]
  have hd := dg_lt V j
  have hodd : dg V (j + 1) % 2 = V / 10 ^ (j + 1) % 2 := by rw [dg]; omega
  unfold heven
  rw [h1, hodd]
  generalize V / 10 ^ (j + 1) = q at *
  rw [hpp]
  generalize hP : 10 ^ j = P at *
  generalize V % P = r at *
  generalize dg V j = d at *
  have hc : (5 < d ∨ (d = 5 ∧ (0 < r ∨ q % 2 = 1))) ↔ (10 * P < 2 * (r + P * d) ∨ (2 * (r + P * d) = 10 * P ∧ q % 2 = 1)) := by
    have : d = 0 ∨ d = 1 ∨ d = 2 ∨ d = 3 ∨ d = 4 ∨ d = 5 ∨ d = 6 ∨ d = 7 ∨ d = 8 ∨ d = 9 := by omega
    rcases this with rfl | rfl | rfl | rfl | rfl | rfl | rfl | rfl | rfl | rfl <;> omega
  by_cases h : 5 < d ∨ (d = 5 ∧ (0 < r ∨ q % 2 = 1))
  · rw [if_pos h, if_pos (hc.1 h)]
  · rw [if_neg h, if_neg (fun h' => h (hc.2 h'))]; rfl

def P10 (k : Nat) : Nat := 10 ^ k
theorem P10_0 : P10 0 = 1 := rfl
theorem P10_s (k : Nat) : P10 (k + 1) = P10 k * 10 := Nat.pow_succ ..
theorem P10_pos (k : Nat) : 0 < P10 k := p10 k
theorem P10_le {a b : Nat} (h : a ≤ b) : P10 a ≤ P10 b := Nat.pow_le_pow_right (by omega) h
theorem P10_18 {k : Nat} (h : k ≤ 18) : P10 k ≤ 1000000000000000000 := P10_le h
theorem P10_6 {k : Nat} (h : k ≤ 6) : P10 k ≤ 1000000 := P10_le h
theorem P10_12 {k : Nat} (h : k ≤ 12) : P10 k ≤ 1000000000000 := P10_le h
theorem P10_add (a b : Nat) : P10 (a + b) = P10 a * P10 b := Nat.pow_add ..
end Go.Proofs.YtcknjhgolajclaaDoor
