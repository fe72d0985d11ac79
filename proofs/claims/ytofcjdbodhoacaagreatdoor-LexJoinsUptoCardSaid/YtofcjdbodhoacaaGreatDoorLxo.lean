import Derived.Test.YtofcjdbodhoacaaGreatDoorKit
import Derived.Test.YtofcjdbodhoacaaGreatDoorRow
import Derived.Test.YtofcjdbodhoacaaGreatDoorOpn
import Derived.Test.YtofcjdbodhoacaaGreatDoorOwn
import Derived.Test.YtofcjdbodhoacaaGreatDoorUni
import Derived.Test.YtofcjdbodhoacaaGreatDoorShelf
import Derived.Deep.LoopGhost
import Derived.Deep.CutBlock
import Derived.Deep.DeepCutAuto
import Derived.Lib.AtoiErrMem
import Derived.Deep.OwnRows
import Derived.Deep.QuietTactic
import Derived.BigQuiet
import Derived.Deep.RegionHeld3
import Derived.Lib.SlBytesRow
import Derived.Laws.RangeAny
import Derived.Lib.OthersKept
namespace Go.Proofs.YtofcjdbodhoacaaGreatDoor
set_option linter.unusedSimpArgs false
set_option linter.unusedVariables false
/-! Merged out of the texts of the layers below: only what is used. -/
section
def small (n : Int) : Prop := -999999999999 ≤ n ∧ n ≤ 999999999999
instance (n : Int) : Decidable (small n) := inferInstanceAs (Decidable (_ ∧ _))
def SndD (n s : Int) : Prop := 0 ≤ s ∧ s ≤ 6 ∧ small n ∧ (s = 0 ∨ n % 10 ≠ 0)
instance (n s : Int) : Decidable (SndD n s) := inferInstanceAs (Decidable (_ ∧ _))
def trim (m : Nat) : Nat → Nat × Nat
  | 0 => (m, 0)
  | s + 1 => if m % 10 = 0 then trim (m / 10) s else (m, s + 1)
theorem trim_le (s : Nat) : ∀ m, (trim m s).1 ≤ m ∧ (trim m s).2 ≤ s := by
  induction s with
  | zero => intro m; simp [trim]
  | succ k ih =>
    intro m
    unfold trim
    split
    · have := ih (m / 10); have := Nat.div_le_self m 10; omega
    · simp
theorem trim_stop (m s : Nat) (h : m % 10 ≠ 0) : trim m s = (m, s) := by
  cases s with
  | zero => rfl
  | succ k => unfold trim; rw [if_neg h]
theorem trim_step (m s : Nat) (h : m % 10 = 0) : trim m (s + 1) = trim (m / 10) s := by
  rw [trim]; rw [if_pos h]
/-- Half to the even neighbour. -/
def heven (m d : Nat) : Nat := if d < 2 * (m % d) ∨ (2 * (m % d) = d ∧ m / d % 2 = 1) then m / d + 1 else m / d
def dg (m i : Nat) : Nat := m / 10 ^ i % 10
theorem dg_lt (m i : Nat) : dg m i < 10 := Nat.mod_lt _ (by omega)
theorem p10 (i : Nat) : 0 < 10 ^ i := Nat.pow_pos (by omega)
theorem div_succ (m i : Nat) : m / 10 ^ (i + 1) = m / 10 ^ i / 10 := by rw [Nat.pow_succ, Nat.div_div_eq_div_mul]
theorem div_split (m i : Nat) : m / 10 ^ i = 10 * (m / 10 ^ (i + 1)) + dg m i := by rw [div_succ, dg]; omega
theorem mod_succ (m i : Nat) : m % 10 ^ (i + 1) = m % 10 ^ i + 10 ^ i * dg m i := by rw [Nat.pow_succ, Nat.mod_mul, dg]
theorem dg_small (m i : Nat) (h : m < 10) (hi : 0 < i) : dg m i = 0 := by
  obtain ⟨j, rfl⟩ : ∃ j, i = j + 1 := ⟨i - 1, by omega⟩
  have : m / 10 ^ (j + 1) = 0 := Nat.div_eq_of_lt (by have := p10 j; rw [Nat.pow_succ]; omega)
  rw [dg, this]
theorem dg_first (m : Nat) : dg m 0 = m % 10 := by simp [dg]
theorem dg_shift (m k i : Nat) : dg (m / 10 ^ k) i = dg m (k + i) := by rw [dg, dg, Nat.div_div_eq_div_mul, Nat.pow_add]
theorem dg_big (m i : Nat) (h : m < 10 ^ i) : dg m i = 0 := by rw [dg, Nat.div_eq_of_lt h]
/-- What is carried into a place of a sum. -/
def car (x y i : Nat) : Nat := (x % 10 ^ i + y % 10 ^ i) / 10 ^ i
theorem car_0 (x y : Nat) : car x y 0 = 0 := by simp [car, Nat.mod_one]
theorem car_le (x y i : Nat) : car x y i ≤ 1 := by
  have h1 := Nat.mod_lt x (p10 i)
  have h2 := Nat.mod_lt y (p10 i)
  unfold car
  have : (x % 10 ^ i + y % 10 ^ i) / 10 ^ i < 2 := by rw [Nat.div_lt_iff_lt_mul (p10 i)]; omega
  omega
theorem car_sum (x y i : Nat) : (x + y) / 10 ^ i = x / 10 ^ i + y / 10 ^ i + car x y i := by
  have h1 := Nat.div_add_mod x (10 ^ i)
  have h2 := Nat.div_add_mod y (10 ^ i)
  unfold car
  generalize hP : 10 ^ i = P at *
  have hp : 0 < P := hP ▸ p10 i
  have h : x + y = P * (x / P + y / P) + (x % P + y % P) := by rw [Nat.mul_add]; omega
  conv => lhs; rw [h]
  rw [Nat.mul_add_div hp]
theorem plus_digit (x y i : Nat) : (dg x i + dg y i + car x y i) % 10 = dg (x + y) i := by
  unfold dg
  rw [car_sum]
  omega
theorem plus_carry (x y i : Nat) : (dg x i + dg y i + car x y i) / 10 = car x y (i + 1) := by
  have h1 := car_sum x y i
  have h2 := car_sum x y (i + 1)
  rw [div_succ, div_succ, div_succ] at h2
  unfold dg
  omega
def upd (f : Nat → Nat) (p v : Nat) : Nat → Nat := fun j => if j = p then v else f j
theorem upd_at (f : Nat → Nat) (p v : Nat) : upd f p v p = v := by simp [upd]
theorem upd_ne (f : Nat → Nat) (p v j : Nat) (h : j ≠ p) : upd f p v j = f j := by simp [upd, h]
/-- Rounding by digits. -/
theorem round_digits (V k : Nat) (hk : 0 < k) :
    V / 10 ^ k + (if 5 < dg V (k - 1) ∨ (dg V (k - 1) = 5 ∧ (0 < V % 10 ^ (k - 1) ∨ dg V k % 2 = 1)) then 1 else 0) = heven V (10 ^ k) := by
  obtain ⟨j, rfl⟩ : ∃ j, k = j + 1 := ⟨k - 1, by omega⟩
  rw [Nat.add_sub_cancel]
  have h1 := mod_succ V j
  have hp := p10 j
  have hm := Nat.mod_lt V hp
  have hpp : 10 ^ (j + 1) = 10 * 10 ^ j := by rw [Nat.pow_succ, Nat.mul_comm]
  have hd := dg_lt V j
  have hodd : dg V (j + 1) % 2 = V / 10 ^ (j + 1) % 2 := by rw [dg]; omega
  unfold heven
  rw [h1, hodd]
  generalize V / 10 ^ (j + 1) = q at *
  rw [hpp]
  generalize hP : 10 ^ j = P at *
  generalize V % P = r at *
  generalize dg V j = d at *
  have hc : (5 < d ∨ (d = 5 ∧ (0 < r ∨ q % 2 = 1))) ↔ (10 * P < 2 * (r + P * d) ∨ (2 * (r + P * d) = 10 * P ∧ q % 2 = 1)) := by
    have : d = 0 ∨ d = 1 ∨ d = 2 ∨ d = 3 ∨ d = 4 ∨ d = 5 ∨ d = 6 ∨ d = 7 ∨ d = 8 ∨ d = 9 := by omega
    rcases this with rfl | rfl | rfl | rfl | rfl | rfl | rfl | rfl | rfl | rfl <;> omega
  by_cases h : 5 < d ∨ (d = 5 ∧ (0 < r ∨ q % 2 = 1))
  · rw [if_pos h, if_pos (hc.1 h)]
  · rw [if_neg h, if_neg (fun h' => h (hc.2 h'))]; rfl
def P10 (k : Nat) : Nat := 10 ^ k
theorem P10_0 : P10 0 = 1 := rfl
theorem P10_s (k : Nat) : P10 (k + 1) = P10 k * 10 := Nat.pow_succ ..
theorem P10_pos (k : Nat) : 0 < P10 k := p10 k
theorem P10_le {a b : Nat} (h : a ≤ b) : P10 a ≤ P10 b := Nat.pow_le_pow_right (by omega) h
theorem P10_18 {k : Nat} (h : k ≤ 18) : P10 k ≤ 1000000000000000000 := P10_le h
theorem P10_6 {k : Nat} (h : k ≤ 6) : P10 k ≤ 1000000 := P10_le h
end
section
open Go.RowKit
theorem power_any (k : Nat) (hk : k ≤ 18) (w : World) : Calls Tryz.prog 98 #[.int .i64 k] w fun e w' => e = .returned (.int .i64 (P10 k)) ∧ Bel w w' := by
  go_enter Tryz.func98, Tryz.ntmps98
  go_wp2
  go_loop [3, 5] (fun p i => ∃ j : Nat, j ≤ k ∧ i = .int .i64 j ∧ p = .int .i64 (P10 j)) (fun _ i => k - (intOf i).toNat)
  case atStart => exact ⟨0, Nat.zero_le _, rfl, by rw [P10_0]; rfl⟩
  case round =>
    obtain ⟨j, hj, rfl, rfl⟩ := hrel
    have h1 := P10_18 (show j ≤ 18 by omega)
    by_cases hlt : j < k
    · have h2 := P10_18 (show j + 1 ≤ 18 by omega)
      have hs := Lib.hid (P10_s j)
      have h3 : P10 j * 10 ≤ 1000000000000000000 := by rw [← hs.out]; exact h2
      clear h2
      go_wp2
      go_round
      case rel => exact ⟨j + 1, by omega, by go_num, by rw [hs.out]; go_num⟩
      case measure => simp [intOf]; omega
    · obtain rfl : j = k := by omega
      go_wp2
      go_ret
      exact ⟨rfl, Bel.refl _⟩
def smallB (n : Int) : Bool := decide (small n)
theorem small_any (n : Int) (w : World) : Calls Tryz.prog 68 #[.int .i64 n] w fun e w' => e = .returned (.bool (smallB n)) ∧ Bel w w' := by
  have hl : Hid (smallB n = decide (-999999999999 ≤ n ∧ n ≤ 999999999999)) := rfl
  by_cases h1 : -999999999999 ≤ n
  · go_enter Tryz.func68, Tryz.ntmps68
    go_wp2
    go_ret
    exact ⟨by rw [hl.out]; simp [h1], Bel.refl _⟩
  · have hf := Lib.hid (show decide (-999999999999 ≤ n ∧ n ≤ 999999999999) = false from decide_eq_false fun h => h1 h.1)
    go_enter Tryz.func68, Tryz.ntmps68
    go_wp2
    go_ret
    exact ⟨by rw [hl.out, hf.out]; rfl, Bel.refl _⟩
/-- A block of the call's own that holds a number. -/
abbrev Arr2 (w : World) (b : Nat) (x y : Int) : Prop :=
  b < w.heap.size ∧ w.cell? ⟨b, 0, none⟩ = some (.int .i64 x) ∧ w.cell? ⟨b, 1, none⟩ = some (.int .i64 y)
theorem Arr2.keep {w w' : World} {b : Nat} {x y : Int} (h : Arr2 w b x y) (hb : Bel w w') : Arr2 w' b x y := by
  obtain ⟨h0, h1, h2⟩ := h
  exact ⟨Nat.lt_of_lt_of_le h0 hb.size, (hb.cells _ _ h0).trans h1, (hb.cells _ _ h0).trans h2⟩
def sndB (n s : Int) : Bool := decide (SndD n s)
theorem tmod10 (n : Int) : (n.tmod 10 != 0) = decide (n % 10 ≠ 0) := by
  have : n.tmod 10 = 0 ↔ n % 10 = 0 := by rw [← Int.dvd_iff_emod_eq_zero, Int.dvd_iff_tmod_eq_zero]
  rw [Bool.eq_iff_iff]; simp [this]
theorem sound_any (n s : Int) (w : World) : Calls Tryz.prog 46 #[.agg #[.int .i64 n, .int .i64 s]] w fun e w' => e = .returned (.bool (sndB n s)) ∧ Bel w w' := by
  by_cases h : 0 ≤ s ∧ s ≤ 6
  · obtain ⟨h0, h6⟩ := h
    have k1 : decide (s < 0) = false := by simp; omega
    have k2 : decide (6 < s) = false := by simp; omega
    have k2' : decide (s > 6) = false := k2
    cases hs : smallB n with
    | true =>
      have hs' : small n := by simpa [smallB] using hs
      by_cases hz : s = 0
      · have k3 : (s == 0) = true := by simp [hz]
        have hl : Hid (sndB n s = true) := by
          unfold Hid sndB; exact decide_eq_true ⟨h0, h6, hs', .inl hz⟩
        clear hz h0 h6 hs'
        go_enter Tryz.func46, Tryz.ntmps46
        go_wp2_with (go_at_call 68; refine (small_any n _).mono ?_; rintro e W1 ⟨rfl, hb1⟩; rw [hs]; have hc := hb1.cells; have := hb1.lt1)
        go_ret
        exact ⟨by rw [hl.out]; rfl, ((Bel.refl w).alloc _).trans hb1⟩
      · have k3 : (s == 0) = false := by simp [hz]
        have hl : Hid (sndB n s = (n.tmod 10 != 0)) := by
          unfold Hid sndB; rw [tmod10]; simp only [SndD, h0, h6, hs', hz, true_and, false_or]
        clear hz h0 h6 hs'
        go_enter Tryz.func46, Tryz.ntmps46
        go_wp2_with (go_at_call 68; refine (small_any n _).mono ?_; rintro e W1 ⟨rfl, hb1⟩; rw [hs]; have hc := hb1.cells; have := hb1.lt1)
        go_ret
        exact ⟨by (rw [hl.out]) <;> rfl, ((Bel.refl w).alloc _).trans hb1⟩
    | false =>
      have hl : Hid (sndB n s = false) := by
        unfold Hid sndB; exact decide_eq_false fun h => by simp [smallB, h.2.2.1] at hs
      clear h0 h6
      go_enter Tryz.func46, Tryz.ntmps46
      go_wp2_with (go_at_call 68; refine (small_any n _).mono ?_; rintro e W1 ⟨rfl, hb1⟩; rw [hs])
      go_ret
      exact ⟨by rw [hl.out]; rfl, ((Bel.refl w).alloc _).trans hb1⟩
  · have hl : Hid (sndB n s = false) := by
      unfold Hid sndB; exact decide_eq_false fun h' => h ⟨h'.1, h'.2.1⟩
    by_cases h0 : 0 ≤ s
    · have k1 : decide (s < 0) = false := by simp; omega
      have k2 : decide (6 < s) = true := by simp; omega
      clear h
      go_enter Tryz.func46, Tryz.ntmps46
      go_wp2
      go_ret
      exact ⟨by rw [hl.out]; rfl, (Bel.refl w).alloc _⟩
    · have k1 : decide (s < 0) = true := by simp; omega
      clear h
      go_enter Tryz.func46, Tryz.ntmps46
      go_wp2
      go_ret
      exact ⟨by rw [hl.out]; rfl, (Bel.refl w).alloc _⟩
abbrev Ar6 (w : World) (b : Nat) (x : Bool) (h l r o : Nat) (s : Int) : Prop :=
  b < w.heap.size ∧ w.cell? ⟨b, 0, none⟩ = some (.bool x) ∧ w.cell? ⟨b, 1, none⟩ = some (.int .u64 h) ∧ w.cell? ⟨b, 2, none⟩ = some (.int .u64 l) ∧
  w.cell? ⟨b, 3, none⟩ = some (.int .u64 r) ∧ w.cell? ⟨b, 4, none⟩ = some (.int .u64 o) ∧ w.cell? ⟨b, 5, none⟩ = some (.int .i64 s)
abbrev Fr6 (w : World) (b : Nat) : Prop := w.frozen? ⟨b, 0, none⟩ = false ∧ w.frozen? ⟨b, 1, none⟩ = false ∧ w.frozen? ⟨b, 2, none⟩ = false ∧
  w.frozen? ⟨b, 3, none⟩ = false ∧ w.frozen? ⟨b, 4, none⟩ = false ∧ w.frozen? ⟨b, 5, none⟩ = false
abbrev Sl6 (w : World) (b : Nat) (x : Bool) (h l r o : Nat) (s : Int) : Prop := Ar6 w b x h l r o s ∧ Fr6 w b
theorem Sl6.keep {w w' : World} {b : Nat} {x : Bool} {h l r o : Nat} {s : Int} (k : Sl6 w b x h l r o s) (hb : Bel w w') : Sl6 w' b x h l r o s := by
  obtain ⟨⟨h0, h1, h2, h3, h4, h5, h6⟩, hf⟩ := k
  refine ⟨⟨Nat.lt_of_lt_of_le h0 hb.size, (hb.cells _ _ h0).trans h1, (hb.cells _ _ h0).trans h2, (hb.cells _ _ h0).trans h3, (hb.cells _ _ h0).trans h4, (hb.cells _ _ h0).trans h5, (hb.cells _ _ h0).trans h6⟩, ?_⟩
  simp only [Fr6, hb.frozens _ _ h0]
  exact hf
abbrev Fr2 (w : World) (b : Nat) : Prop := w.frozen? ⟨b, 0, none⟩ = false ∧ w.frozen? ⟨b, 1, none⟩ = false
abbrev Sl2 (w : World) (b : Nat) (x y : Int) : Prop := Arr2 w b x y ∧ Fr2 w b
theorem Sl2.keep {w w' : World} {b : Nat} {x y : Int} (k : Sl2 w b x y) (hb : Bel w w') : Sl2 w' b x y := by
  refine ⟨k.1.keep hb, ?_⟩
  simp only [Fr2, hb.frozens _ _ k.1.1]
  exact k.2
theorem conv_u64 (n : Int) : IntKind.u64.wrap n = n % 18446744073709551616 := by rw [IntKind.wrap_u64]
theorem ret_u64 {a b : Int} (h : a = b) : Ending.returned (.int .u64 a) = Ending.returned (.int .u64 b) := by rw [h]
theorem size_any (n : Int) (hn : In64 n) (w : World) : Calls Tryz.prog 112 #[.int .i64 n] w fun e w' => e = .returned (.int .u64 (n.natAbs : Int)) ∧ Bel w w' := by
  obtain ⟨h0, h1⟩ := hn
  by_cases h : n < 0
  · go_enter Tryz.func112, Tryz.ntmps112
    go_wp2
    go_ret
    exact ⟨ret_u64 (by rw [conv_u64, conv_u64]; omega), Bel.refl _⟩
  · go_enter Tryz.func112, Tryz.ntmps112
    go_wp2
    go_ret
    exact ⟨ret_u64 (by omega), Bel.refl _⟩
abbrev wideV (neg : Bool) (hi lo rest of : Nat) (s : Int) : Value := .agg #[.bool neg, .int .u64 hi, .int .u64 lo, .int .u64 rest, .int .u64 of, .int .i64 s]
set_option maxHeartbeats 400000 in
theorem wideOf_any (n s : Int) (hn : In64 n) (w : World) : Calls Tryz.prog 84 #[.int .i64 n, .int .i64 s] w fun e w' => e = .returned (wideV (decide (n < 0)) 0 n.natAbs 0 1 s) ∧ Bel w w' := by
  go_enter Tryz.func84, Tryz.ntmps84
  go_wp2_with fail
  refine under_call ((Bel.refl w).alloc _) fun W hc hf hz hb => ?_
  have hw : Sl6 W w.heap.size false 0 0 0 0 0 := by simp [Sl6, Ar6, Fr6, hz, hc, hf, go_sem]
  clear hc hf hz
  go_wp2_with (go_at_call 112; refine (size_any n hn _).mono ?_; rintro e W1 ⟨rfl, hb1⟩; replace hw := hw.keep hb1; replace hb := hb.trans hb1; clear hb1)
  refine bodyPost_ret (by simp [results, Tryz.results84, go_sem, hw]; try rfl) rfl ⟨rfl, ?_⟩
  exact (((((hb.setCell (by simp) _).setCell (by simp) _).setCell (by simp) _).setCell (by simp) _).setCell (by simp) _).setCell (by simp) _
end
section
theorem dv_test {y1 y0 u c q r : Nat} (hq : q * y1 + r = u) : (q * (y1 * 4294967296 + y0) > u * 4294967296 + c) ↔ (q * y0 > 4294967296 * r + c) := by
  subst hq
  rw [Nat.mul_add, ← Nat.mul_assoc]
  omega
theorem dv_over {y u c q : Nat} (hy : 0 < y) : ((u * 4294967296 + c) / y < q) ↔ q * y > u * 4294967296 + c := by
  rw [Nat.div_lt_iff_lt_mul hy]
theorem dv_lt {y u c : Nat} (hu : u < y) (hc : c < 4294967296) : (u * 4294967296 + c) / y < 4294967296 := by
  rw [Nat.div_lt_iff_lt_mul (by omega), Nat.mul_comm 4294967296 y]
  have := Nat.mul_le_mul_right 4294967296 (show u + 1 ≤ y from hu)
  rw [Nat.add_mul] at this
  omega
/-- What is known of a digit that is guessed: it is not too small, and at most one above the base. -/
structure Guess (y1 y0 u c q r : Nat) : Prop where
  sum : q * y1 + r = u
  ge : (u * 4294967296 + c) / (y1 * 4294967296 + y0) ≤ q
  le : q ≤ 4294967297
  lo : r < 4294967296
theorem guess_0 {y1 y0 u c : Nat} (h1 : 2147483648 ≤ y1) (h1' : y1 < 4294967296) (h0 : y0 < 4294967296) (hu : u < y1 * 4294967296 + y0) (hc : c < 4294967296) : Guess y1 y0 u c (u / y1) (u % y1) := by
  have hs := Nat.div_add_mod u y1
  have hm := Nat.mod_lt u (show 0 < y1 by omega)
  refine ⟨by rw [Nat.mul_comm]; omega, ?_, ?_, by omega⟩
  · refine Nat.le_of_not_lt fun h => ?_
    have h2 : u / y1 + 1 ≤ (u * 4294967296 + c) / (y1 * 4294967296 + y0) := h
    rw [Nat.le_div_iff_mul_le (by omega)] at h2
    have h3 : u < (u / y1 + 1) * y1 := by rw [Nat.add_mul, Nat.mul_comm]; omega
    have h4 : (u / y1 + 1) * (y1 * 4294967296) = (u / y1 + 1) * y1 * 4294967296 := by rw [Nat.mul_assoc]
    rw [Nat.mul_add, h4] at h2
    have h5 := Nat.mul_le_mul_right 4294967296 (show u + 1 ≤ (u / y1 + 1) * y1 from h3)
    rw [Nat.add_mul] at h5
    omega
  · have : u / y1 < 4294967298 := by
      rw [Nat.div_lt_iff_lt_mul (by omega)]
      omega
    omega
theorem guess_test {y1 y0 u c q r : Nat} (h1 : 2147483648 ≤ y1) (g : Guess y1 y0 u c q r) :
    ((u * 4294967296 + c) / (y1 * 4294967296 + y0) < q) ↔ q * y0 > 4294967296 * r + c := by
  rw [dv_over (by omega), dv_test g.sum]
theorem guess_done {y1 y0 u c q r : Nat} (g : Guess y1 y0 u c q r) (h : ¬ (u * 4294967296 + c) / (y1 * 4294967296 + y0) < q) : q = (u * 4294967296 + c) / (y1 * 4294967296 + y0) := by
  have := g.ge
  exact Nat.le_antisymm (Nat.le_of_not_lt h) this
theorem guess_dec {y1 y0 u c q r : Nat} (h1 : 2147483648 ≤ y1) (h0 : y0 < 4294967296) (g : Guess y1 y0 u c q r) (h : (u * 4294967296 + c) / (y1 * 4294967296 + y0) < q) :
    (q - 1) * y1 + (r + y1) = u ∧ 1 ≤ q ∧ (r + y1 < 4294967296 → Guess y1 y0 u c (q - 1) (r + y1)) ∧ (4294967296 ≤ r + y1 → q - 1 = (u * 4294967296 + c) / (y1 * 4294967296 + y0)) := by
  have hq : 1 ≤ q := Nat.lt_of_le_of_lt (Nat.zero_le _) h
  have hs : (q - 1) * y1 + (r + y1) = u := by
    have := g.sum
    obtain ⟨p, rfl⟩ : ∃ p, q = p + 1 := ⟨q - 1, by omega⟩
    rw [Nat.add_mul] at this
    rw [Nat.add_sub_cancel]
    omega
  refine ⟨hs, hq, fun hl => ⟨hs, Nat.le_sub_one_of_lt h, by have := g.le; omega, hl⟩, fun hl => ?_⟩
  by_cases hlt : (u * 4294967296 + c) / (y1 * 4294967296 + y0) < q - 1
  · rw [dv_over (by omega), dv_test hs] at hlt
    have := g.le
    have h2 : (q - 1) * y0 ≤ 4294967296 * y0 := Nat.mul_le_mul_right _ (by omega)
    have h3 : 4294967296 * y0 ≤ 4294967296 * 4294967295 := Nat.mul_le_mul_left _ (by omega)
    omega
  · omega
/-- What is left, reckoned modulo 2^64. -/
theorem rest_mod {y u c q R : Nat} (h : q * y + R = u * 4294967296 + c) (hR : R < 18446744073709551616) :
    (((u * 4294967296 % 18446744073709551616 + c) % 18446744073709551616 : Nat) - ((q * y % 18446744073709551616 : Nat)) : Int) % 18446744073709551616 = (R : Int) := by
  omega
/-- The number, moved up so that its divisor's top bit is set. -/
theorem shl_top {hi lo s : Nat} (hs : s ≤ 63) (hlo : lo < 18446744073709551616) :
    (hi * 18446744073709551616 + lo) * 2 ^ s = (hi * 2 ^ s + lo / 2 ^ (64 - s)) * 18446744073709551616 + lo * 2 ^ s % 18446744073709551616 := by
  have h : 18446744073709551616 = 2 ^ s * 2 ^ (64 - s) := by rw [← Nat.pow_add, show s + (64 - s) = 64 by omega]
  have h2 : lo * 2 ^ s / 18446744073709551616 = lo / 2 ^ (64 - s) := by
    rw [h, Nat.mul_comm lo, Nat.mul_div_mul_left _ _ (Nat.pow_pos (by omega))]
  have h3 := Nat.div_add_mod (lo * 2 ^ s) 18446744073709551616
  rw [h2] at h3
  rw [Nat.add_mul, Nat.add_mul, Nat.mul_right_comm hi]
  omega
theorem long_two {X a b y : Nat} (hy : 0 < y) (h : X = a * 18446744073709551616 + b) (ha : a < y) :
    let c1 := b / 4294967296; let c0 := b % 4294967296
    let q1 := (a * 4294967296 + c1) / y; let r1 := (a * 4294967296 + c1) % y
    let q0 := (r1 * 4294967296 + c0) / y; let r0 := (r1 * 4294967296 + c0) % y
    X / y = q1 * 4294967296 + q0 ∧ X % y = r0 := by
  intro c1 c0 q1 r1 q0 r0
  have e1 : y * q1 + r1 = a * 4294967296 + c1 := Nat.div_add_mod _ _
  have e0 : y * q0 + r0 = r1 * 4294967296 + c0 := Nat.div_add_mod _ _
  have hr : r0 < y := Nat.mod_lt _ hy
  have hX : X = y * (q1 * 4294967296 + q0) + r0 := by
    rw [h, Nat.mul_add, ← Nat.mul_assoc]
    have hb : 4294967296 * c1 + c0 = b := Nat.div_add_mod b 4294967296
    clear_value c1 c0 q1 r1 q0 r0
    omega
  constructor
  · rw [hX, Nat.mul_add_div hy, Nat.div_eq_of_lt hr, Nat.add_zero]
  · rw [hX, Nat.mul_add_mod, Nat.mod_eq_of_lt hr]
end
section
open Go.RowKit
theorem lz_t (y : Nat) (h1 : 1 ≤ y) (h2 : y < 18446744073709551616) (w : World) : Calls Tryz.prog 164 #[.int .u64 y] w fun e w' => ∃ s : Nat, s ≤ 63 ∧ y * 2 ^ s < 18446744073709551616 ∧ 9223372036854775808 ≤ y * 2 ^ s ∧ e = .returned (.int .i64 s) ∧ w = w' := by
  refine (Tryz.bits_LeadingZeros64 (y : Int) w (by omega) (by omega)).mono fun e w' ⟨he, hw⟩ => ?_
  obtain ⟨h3, h4, h5⟩ := Lib.bitLenAux_bounds 64 y h2 (by omega)
  have hL : Lib.bitLenAux 64 y ≤ 64 := by
    rcases Nat.lt_or_ge 64 (Lib.bitLenAux 64 y) with h | h
    · have := Nat.pow_le_pow_right (n := 2) (by omega) (show 64 ≤ Lib.bitLenAux 64 y - 1 by omega)
      have e : (2 : Nat) ^ 64 = 18446744073709551616 := by decide
      omega
    · exact h
  have hb : Lib.bitLen ((y : Int)).toNat = Lib.bitLenAux 64 y := rfl
  refine ⟨64 - Lib.bitLenAux 64 y, by omega, ?_, ?_, ?_, hw.symm⟩
  · have := Nat.mul_lt_mul_of_pos_right h5 (Nat.pow_pos (n := 64 - Lib.bitLenAux 64 y) (show 0 < 2 by omega))
    rw [← Nat.pow_add, show Lib.bitLenAux 64 y + (64 - Lib.bitLenAux 64 y) = 64 by omega] at this
    exact this
  · have := Nat.mul_le_mul_right (2 ^ (64 - Lib.bitLenAux 64 y)) h4
    rw [← Nat.pow_add, show Lib.bitLenAux 64 y - 1 + (64 - Lib.bitLenAux 64 y) = 63 by omega] at this
    exact this
  · rw [he, hb]
    exact congrArg (fun z => Ending.returned (.int .i64 z)) (by omega)
theorem maskN (a : Nat) (ha : a < 18446744073709551616) : bits .and .u64 (a : Int) 4294967295 = ((a % 4294967296 : Nat) : Int) := by
  have h := bits_and_u64_nat a 4294967295 ha (by omega)
  have e : a &&& 4294967295 = a % 4294967296 := Nat.and_two_pow_sub_one_eq_mod a 32
  rw [e] at h
  exact h
theorem cast_pow (a s : Nat) : (a : Int) * 2 ^ s = ((a * 2 ^ s : Nat) : Int) := by rw [Int.natCast_mul, Int.natCast_pow]; rfl
theorem cast_div_pow (a s : Nat) : (a : Int) / 2 ^ s = ((a / 2 ^ s : Nat) : Int) := by rw [Int.natCast_ediv, Int.natCast_pow]; rfl
theorem wrapM (a : Nat) : IntKind.u64.wrap (a : Int) = ((a % 18446744073709551616 : Nat) : Int) := by rw [IntKind.wrap_u64]; omega
theorem or_sum (h s l : Nat) (hs : s ≤ 63) (hh : h * 2 ^ s < 18446744073709551616) (hl : l < 2 ^ s) : bits .or .u64 ((h * 2 ^ s : Nat) : Int) (l : Int) = ((h * 2 ^ s + l : Nat) : Int) := by
  have h2 : 2 ^ s ≤ 2 ^ 63 := Nat.pow_le_pow_right (by omega) hs
  have h4 : (2 : Nat) ^ 63 = 9223372036854775808 := by decide
  have h3 := bits_or_u64_nat (h * 2 ^ s) l hh (by omega)
  rw [h3, Nat.mul_comm, Nat.two_pow_add_eq_or_of_lt hl]
theorem mul_lt64 {a b : Nat} (ha : a < 4294967296) (hb : b < 4294967296) : a * b < 18446744073709551616 := by
  have := Nat.mul_le_mul (show a ≤ 4294967295 by omega) (show b ≤ 4294967295 by omega)
  omega
set_option maxRecDepth 100000 in
set_option maxHeartbeats 4000000 in
theorem div64_hi (hi lo y : Nat) (h0 : 1 ≤ hi) (h1 : hi < y) (h2 : y < 18446744073709551616) (h3 : lo < 18446744073709551616) (w : World) :
    Calls Tryz.prog 152 #[.int .u64 hi, .int .u64 lo, .int .u64 y] w fun e w' => e = .returned (.tuple #[.int .u64 ((hi * 18446744073709551616 + lo) / y : Nat), .int .u64 ((hi * 18446744073709551616 + lo) % y : Nat)]) ∧ Bel w w' := by
  have k1 : ((y : Int) == 0) = false := by simp; omega
  have k2 : decide (y ≤ hi) = false := by simp; omega
  have k3 : ((hi : Int) == 0) = false := by simp; omega
  go_enter Tryz.func152, Tryz.ntmps152
  go_wp2_with fail
  refine (lz_t y (by omega) (by omega) _).mono ?_; rintro e W1 ⟨s, hs1, hs2, hs3, rfl, rfl⟩
  have hps : 0 < 2 ^ s := Nat.pow_pos (by omega)
  have hhs : hi * 2 ^ s < y * 2 ^ s := by rw [Nat.mul_lt_mul_right hps]; exact h1
  have hll : lo / 2 ^ (64 - s) < 2 ^ s := by
    rw [Nat.div_lt_iff_lt_mul (Nat.pow_pos (by omega)), ← Nat.pow_add, show s + (64 - s) = 64 by omega]
    exact h3
  have hbig := Lib.hid (shl_top (hi := hi) (lo := lo) (s := s) hs1 h3)
  have hltop : hi * 2 ^ s + lo / 2 ^ (64 - s) < y * 2 ^ s := by
    have := Nat.mul_le_mul_right (2 ^ s) (show hi + 1 ≤ y from h1)
    rw [Nat.add_mul] at this
    omega
  have e1 : IntKind.u64.wrap ((y : Int) * 2 ^ s) = ((y * 2 ^ s : Nat) : Int) := by
    rw [cast_pow, wrapM, Nat.mod_eq_of_lt hs2]
  have e4 : bits .or .u64 (IntKind.u64.wrap ((hi : Int) * 2 ^ s)) ((lo : Int) / 2 ^ (64 - s)) = ((hi * 2 ^ s + lo / 2 ^ (64 - s) : Nat) : Int) := by
    rw [cast_pow, wrapM, Nat.mod_eq_of_lt (by omega), cast_div_pow, or_sum _ _ _ hs1 (by omega) hll]
  have e5 : IntKind.u64.wrap ((lo : Int) * 2 ^ s) = ((lo * 2 ^ s % 18446744073709551616 : Nat) : Int) := by
    rw [cast_pow, wrapM]
  obtain ⟨U, hU⟩ : ∃ U, U = hi * 2 ^ s + lo / 2 ^ (64 - s) := ⟨_, rfl⟩
  obtain ⟨V, hV⟩ : ∃ V, V = lo * 2 ^ s % 18446744073709551616 := ⟨_, rfl⟩
  obtain ⟨Y, hY⟩ : ∃ Y, Y = y * 2 ^ s := ⟨_, rfl⟩
  have hVb : V < 18446744073709551616 := by rw [hV]; exact Nat.mod_lt _ (by omega)
  rw [← hY] at hs2 hs3 e1 hltop
  rw [← hU] at e4 hltop
  rw [← hV] at e5
  clear hhs hll
  obtain ⟨y1, hy1⟩ : ∃ y1, y1 = Y / 4294967296 := ⟨_, rfl⟩
  obtain ⟨y0, hy0⟩ : ∃ y0, y0 = Y % 4294967296 := ⟨_, rfl⟩
  obtain ⟨v1, hv1⟩ : ∃ v1, v1 = V / 4294967296 := ⟨_, rfl⟩
  obtain ⟨v0, hv0⟩ : ∃ v0, v0 = V % 4294967296 := ⟨_, rfl⟩
  have e2 : (Y : Int) / 4294967296 = y1 := by omega
  have e3 : bits .and .u64 (Y : Int) 4294967295 = y0 := by rw [maskN Y hs2, hy0]
  have e6 : (V : Int) / 4294967296 = v1 := by omega
  have e7 : bits .and .u64 (V : Int) 4294967295 = v0 := by rw [maskN V hVb, hv0]
  have b1 : 2147483648 ≤ y1 := by omega
  have b1' : y1 < 4294967296 := by omega
  have b0 : y0 < 4294967296 := by omega
  have bv1 : v1 < 4294967296 := by omega
  have bv0 : v0 < 4294967296 := by omega
  have hYs : Y = y1 * 4294967296 + y0 := by omega
  have hUY : U < y1 * 4294967296 + y0 := by omega
  have G0 := guess_0 b1 b1' b0 hUY bv1
  obtain ⟨q, hq⟩ : ∃ q, q = U / y1 := ⟨_, rfl⟩
  obtain ⟨r, hr⟩ : ∃ r, r = U % y1 := ⟨_, rfl⟩
  rw [← hq, ← hr] at G0
  have e8 : (U : Int) / (y1 : Int) = q := by rw [hq]; rfl
  have gs := G0.sum
  obtain ⟨P, hP⟩ : ∃ P, P = q * y1 := ⟨_, rfl⟩
  have e9 : IntKind.u64.wrap ((q : Int) * (y1 : Int)) = P := by
    rw [← Int.natCast_mul, wrapM, ← hP, Nat.mod_eq_of_lt (by omega)]
  have e10 : (U : Int) - (P : Int) = r := by omega
  have HY := Lib.hid hY
  have HYs := Lib.hid hYs
  have HV := Lib.hid (show 4294967296 * v1 + v0 = V by omega)
  have HU := Lib.hid hU
  have HVV := Lib.hid hV
  have gle := G0.le
  have i1 : (2147483648 : Int) ≤ (y1 : Int) := by omega
  have i2 : (y1 : Int) ≤ 4294967295 := by omega
  have i3 : (y0 : Int) ≤ 4294967295 := by omega
  have i4 : (v1 : Int) ≤ 4294967295 := by omega
  have i5 : (v0 : Int) ≤ 4294967295 := by omega
  have i6 : (U : Int) ≤ 18446744073709551615 := by omega
  have i7 : (q : Int) ≤ 4294967297 := by omega
  have i8 : (r : Int) ≤ 4294967295 := by have := G0.lo; omega
  have i9 : (P : Int) ≤ U := by omega
  have i10 : (s : Int) ≤ 63 := by omega
  have i11 : (Y : Int) ≤ 18446744073709551615 := by omega
  have i12 : (lo : Int) ≤ 18446744073709551615 := by omega
  have N := Lib.hid (And.intro b1 (And.intro b1' (And.intro b0 (And.intro bv1 (And.intro bv0 (And.intro hUY (And.intro hs2 (And.intro h2 h1))))))))
  have HG0 := Lib.hid G0
  clear hY hYs hy1 hy0 hv1 hv0 hU hV hq hr hP gs b1 b1' b0 bv1 bv0 hUY hs2 hs3 hltop gle G0 hVb hps h3
  go_upto_block 0 with (fail)
  clear e1 e2 e3 e4 e5 e6 e7 e8 e9 e10 i9 i12
  obtain ⟨b1, b1', b0, bv1, bv0, hUY, hs2, -⟩ := N.out
  have hX : (U * 4294967296 + v1) / (y1 * 4294967296 + y0) < 4294967296 := dv_lt hUY bv1
  obtain ⟨Q1, hQ1⟩ : ∃ Q1, Q1 = (U * 4294967296 + v1) / (y1 * 4294967296 + y0) := ⟨_, rfl⟩
  have HQ1 := Lib.hid hQ1
  rw [← hQ1] at hX
  have iQ : (Q1 : Int) ≤ 4294967295 := by omega
  clear hX hQ1 b1 b1' b0 bv1 bv0 hUY hs2
  go_cut [15] (fun q' wx => q' = .int .u64 Q1 ∧ wx = w)
  case first =>
    go_wp2_with fail
    go_loopg [15, 16] q (fun g q' r' wr => ∃ a b : Nat, q' = .int .u64 a ∧ r' = .int .u64 b ∧ Guess y1 y0 U v1 a b ∧ g = a ∧ wr = w)
    case atStart => exact ⟨q, r, rfl, rfl, HG0.out, rfl, rfl⟩
    case round =>
      obtain ⟨a, b, rfl, rfl, G, hg, rfl⟩ := hrel
      obtain ⟨b1, b1', b0, bv1, bv0, hUY, hs2, -⟩ := N.out
      have j1 : (b : Int) ≤ 4294967295 := by have := G.lo; omega
      have j2 : (a : Int) ≤ 4294967297 := by have := G.le; omega
      have Hg := Lib.hid hg
      clear hg
      obtain ⟨T, hT⟩ : ∃ T, T = a * y0 := ⟨_, rfl⟩
      by_cases hov : (U * 4294967296 + v1) / (y1 * 4294967296 + y0) < a
      · obtain ⟨-, d1, d2, d3⟩ := guess_dec b1 b0 G hov
        have ht := (guess_test b1 G).1 hov
        rw [← hT] at ht
        have j3 : (4294967296 : Int) * b + v1 < T := by omega
        have j4 : (1 : Int) ≤ a := by omega
        have H2 := Lib.hid d2
        have H3 := Lib.hid d3
        have HQ : Hid (4294967296 ≤ b + y1 → a - 1 = Q1) := fun h => (H3.out h).trans HQ1.out.symm
        have t1 : (a : Int) ≤ 4294967295 → IntKind.u64.wrap ((a : Int) * (y0 : Int)) = T := fun h => by
          rw [← Int.natCast_mul, wrapM, ← hT, Nat.mod_eq_of_lt (by rw [hT]; exact mul_lt64 (by omega) b0)]
        have T1 := Lib.hid t1
        clear t1 hT d1 d2 d3 hov ht b1 b1' b0 bv1 bv0 hUY hs2
        by_cases hbr : (4294967296 : Int) ≤ b + y1
        · have hfin := Lib.hid (HQ.out (by omega))
          by_cases h4 : (4294967296 : Int) ≤ a
          · go_wp2
            go_meet
            exact ⟨by rw [← hfin.out]; go_num, rfl⟩
          · have t1 := T1.out (by omega)
            go_wp2
            go_meet
            exact ⟨by rw [← hfin.out]; go_num, rfl⟩
        · have G1 := Lib.hid (H2.out (by omega))
          by_cases h4 : (4294967296 : Int) ≤ a
          · go_wp2
            go_roundg (gk - 1)
            case measure => have := Hg.out; omega
            case rel => exact ⟨a - 1, b + y1, by go_num, by go_num, G1.out, by have := Hg.out; omega, rfl⟩
          · have t1 := T1.out (by omega)
            go_wp2
            go_roundg (gk - 1)
            case measure => have := Hg.out; omega
            case rel => exact ⟨a - 1, b + y1, by go_num, by go_num, G1.out, by have := Hg.out; omega, rfl⟩
      · have hfin := Lib.hid ((guess_done G hov).trans HQ1.out.symm)
        have ht : ¬ 4294967296 * b + v1 < a * y0 := fun h => hov ((guess_test b1 G).2 h)
        rw [← hT] at ht
        have j3 : (T : Int) ≤ (4294967296 : Int) * b + v1 := by omega
        have h4 : ¬ (4294967296 : Int) ≤ a := by rw [hfin.out]; omega
        have t1 : IntKind.u64.wrap ((a : Int) * (y0 : Int)) = T := by
          rw [← Int.natCast_mul, wrapM, ← hT, Nat.mod_eq_of_lt (by rw [hT]; exact mul_lt64 (by omega) b0)]
        clear hT hov ht b1 b1' b0 bv1 bv0 hUY hs2
        go_wp2
        go_meet
        exact ⟨by rw [hfin.out], rfl⟩
  case rest =>
    obtain ⟨rfl, rfl⟩ := hcut
    clear HG0 i7 i8
    obtain ⟨b1, b1', b0, bv1, bv0, hUY, hs2, h2, h1⟩ := N.out
    have hQ1 := HQ1.out
    rw [← HYs.out] at hQ1
    obtain ⟨R, hR⟩ : ∃ R, R = (U * 4294967296 + v1) % Y := ⟨_, rfl⟩
    have hYpos : 0 < Y := by have := HYs.out; omega
    have hRY : R < Y := by rw [hR]; exact Nat.mod_lt _ hYpos
    have hsum : Q1 * Y + R = U * 4294967296 + v1 := by
      have := Nat.div_add_mod (U * 4294967296 + v1) Y
      rw [← hQ1, ← hR, Nat.mul_comm] at this
      exact this
    have f1 : IntKind.u64.wrap ((U : Int) * 4294967296) = ((U * 4294967296 % 18446744073709551616 : Nat) : Int) := by rw [conv_u64]; omega
    obtain ⟨a1, ha1⟩ : ∃ a1, a1 = U * 4294967296 % 18446744073709551616 := ⟨_, rfl⟩
    rw [← ha1] at f1
    have f2 : IntKind.u64.wrap ((a1 : Int) + v1) = (((a1 + v1) % 18446744073709551616 : Nat) : Int) := by rw [conv_u64]; omega
    obtain ⟨a2, ha2⟩ : ∃ a2, a2 = (a1 + v1) % 18446744073709551616 := ⟨_, rfl⟩
    rw [← ha2] at f2
    have f3 : IntKind.u64.wrap ((Q1 : Int) * Y) = ((Q1 * Y % 18446744073709551616 : Nat) : Int) := by rw [← Int.natCast_mul, wrapM]
    obtain ⟨a3, ha3⟩ : ∃ a3, a3 = Q1 * Y % 18446744073709551616 := ⟨_, rfl⟩
    rw [← ha3] at f3
    have f4 : IntKind.u64.wrap ((a2 : Int) - a3) = (R : Int) := by
      rw [conv_u64, ha2, ha3, ha1]
      exact rest_mod hsum (by omega)
    have hRy : R < y1 * 4294967296 + y0 := by have := HYs.out; omega
    have G0 := guess_0 b1 b1' b0 hRy bv0
    obtain ⟨q0, hq⟩ : ∃ q0, q0 = R / y1 := ⟨_, rfl⟩
    obtain ⟨r0, hr⟩ : ∃ r0, r0 = R % y1 := ⟨_, rfl⟩
    rw [← hq, ← hr] at G0
    have e8 : (R : Int) / (y1 : Int) = q0 := by rw [hq]; rfl
    have gs := G0.sum
    obtain ⟨P0, hP⟩ : ∃ P0, P0 = q0 * y1 := ⟨_, rfl⟩
    have e9 : IntKind.u64.wrap ((q0 : Int) * (y1 : Int)) = P0 := by
      rw [← Int.natCast_mul, wrapM, ← hP, Nat.mod_eq_of_lt (by omega)]
    have e10 : (R : Int) - (P0 : Int) = r0 := by omega
    have gle := G0.le
    have l7 : (q0 : Int) ≤ 4294967297 := by omega
    have l8 : (r0 : Int) ≤ 4294967295 := by have := G0.lo; omega
    have l9 : (P0 : Int) ≤ R := by omega
    have l10 : (R : Int) ≤ 18446744073709551615 := by omega
    have N1 := Lib.hid (And.intro hRY hRy)
    have HG0 := Lib.hid G0
    have HR := Lib.hid hR
    have H1 := Lib.hid hQ1
    clear hQ1 hR hYpos hRY hsum ha1 ha2 ha3 hRy G0 hq hr gs hP gle b1 b1' b0 bv1 bv0 hUY hs2 h2 h1
    go_upto_block 2 with (fail)
    clear f1 f2 f3 f4 e8 e9 e10 l9
    obtain ⟨b1, b1', b0, bv1, bv0, hUY, hs2, -⟩ := N.out
    have hX : (R * 4294967296 + v0) / (y1 * 4294967296 + y0) < 4294967296 := dv_lt N1.out.2 bv0
    obtain ⟨Q0, hQ0⟩ : ∃ Q0, Q0 = (R * 4294967296 + v0) / (y1 * 4294967296 + y0) := ⟨_, rfl⟩
    have HQ0 := Lib.hid hQ0
    rw [← hQ0] at hX
    have iQ0 : (Q0 : Int) ≤ 4294967295 := by omega
    clear hX hQ0 b1 b1' b0 bv1 bv0 hUY hs2
    go_cut [18] (fun q' wx => q' = .int .u64 Q0 ∧ wx = wc)
    case first =>
      go_wp2_with fail
      go_loopg [18, 16] q0 (fun g q' r' wr => ∃ a b : Nat, q' = .int .u64 a ∧ r' = .int .u64 b ∧ Guess y1 y0 R v0 a b ∧ g = a ∧ wr = wc)
      case atStart => exact ⟨q0, r0, rfl, rfl, HG0.out, rfl, rfl⟩
      case round =>
        obtain ⟨a, b, rfl, rfl, G, hg, rfl⟩ := hrel
        obtain ⟨b1, b1', b0, bv1, bv0, hUY, hs2, -⟩ := N.out
        have j1 : (b : Int) ≤ 4294967295 := by have := G.lo; omega
        have j2 : (a : Int) ≤ 4294967297 := by have := G.le; omega
        have Hg := Lib.hid hg
        clear hg
        obtain ⟨T, hT⟩ : ∃ T, T = a * y0 := ⟨_, rfl⟩
        by_cases hov : (R * 4294967296 + v0) / (y1 * 4294967296 + y0) < a
        · obtain ⟨-, d1, d2, d3⟩ := guess_dec b1 b0 G hov
          have ht := (guess_test b1 G).1 hov
          rw [← hT] at ht
          have j3 : (4294967296 : Int) * b + v0 < T := by omega
          have j4 : (1 : Int) ≤ a := by omega
          have H2 := Lib.hid d2
          have H3 := Lib.hid d3
          have HQ : Hid (4294967296 ≤ b + y1 → a - 1 = Q0) := fun h => (H3.out h).trans HQ0.out.symm
          have t1 : (a : Int) ≤ 4294967295 → IntKind.u64.wrap ((a : Int) * (y0 : Int)) = T := fun h => by
            rw [← Int.natCast_mul, wrapM, ← hT, Nat.mod_eq_of_lt (by rw [hT]; exact mul_lt64 (by omega) b0)]
          have T1 := Lib.hid t1
          clear t1 hT d1 d2 d3 hov ht b1 b1' b0 bv1 bv0 hUY hs2
          by_cases hbr : (4294967296 : Int) ≤ b + y1
          · have hfin := Lib.hid (HQ.out (by omega))
            by_cases h4 : (4294967296 : Int) ≤ a
            · go_wp2
              go_meet
              exact ⟨by rw [← hfin.out]; go_num, rfl⟩
            · have t1 := T1.out (by omega)
              go_wp2
              go_meet
              exact ⟨by rw [← hfin.out]; go_num, rfl⟩
          · have G1 := Lib.hid (H2.out (by omega))
            by_cases h4 : (4294967296 : Int) ≤ a
            · go_wp2
              go_roundg (gk - 1)
              case measure => have := Hg.out; omega
              case rel => exact ⟨a - 1, b + y1, by go_num, by go_num, G1.out, by have := Hg.out; omega, rfl⟩
            · have t1 := T1.out (by omega)
              go_wp2
              go_roundg (gk - 1)
              case measure => have := Hg.out; omega
              case rel => exact ⟨a - 1, b + y1, by go_num, by go_num, G1.out, by have := Hg.out; omega, rfl⟩
        · have hfin := Lib.hid ((guess_done G hov).trans HQ0.out.symm)
          have ht : ¬ 4294967296 * b + v0 < a * y0 := fun h => hov ((guess_test b1 G).2 h)
          rw [← hT] at ht
          have j3 : (T : Int) ≤ (4294967296 : Int) * b + v0 := by omega
          have h4 : ¬ (4294967296 : Int) ≤ a := by rw [hfin.out]; omega
          have t1 : IntKind.u64.wrap ((a : Int) * (y0 : Int)) = T := by
            rw [← Int.natCast_mul, wrapM, ← hT, Nat.mod_eq_of_lt (by rw [hT]; exact mul_lt64 (by omega) b0)]
          clear hT hov ht b1 b1' b0 bv1 bv0 hUY hs2
          go_wp2
          go_meet
          exact ⟨by rw [hfin.out], rfl⟩
    case rest =>
      obtain ⟨rfl, rfl⟩ := hcut
      clear HG0 l7 l8
      obtain ⟨b1, b1', b0, bv1, bv0, hUY, hs2, h2, h1⟩ := N.out
      obtain ⟨hRY, -⟩ := N1.out
      have hQ0 := HQ0.out
      rw [← HYs.out] at hQ0
      obtain ⟨R0, hR0⟩ : ∃ R0, R0 = (R * 4294967296 + v0) % Y := ⟨_, rfl⟩
      have hYpos : 0 < Y := by omega
      have hR0Y : R0 < Y := by rw [hR0]; exact Nat.mod_lt _ hYpos
      have hsum : Q0 * Y + R0 = R * 4294967296 + v0 := by
        have := Nat.div_add_mod (R * 4294967296 + v0) Y
        rw [← hQ0, ← hR0, Nat.mul_comm] at this
        exact this
      have f1 : IntKind.u64.wrap ((R : Int) * 4294967296) = ((R * 4294967296 % 18446744073709551616 : Nat) : Int) := by rw [conv_u64]; omega
      obtain ⟨a1, ha1⟩ : ∃ a1, a1 = R * 4294967296 % 18446744073709551616 := ⟨_, rfl⟩
      rw [← ha1] at f1
      have f2 : IntKind.u64.wrap ((a1 : Int) + v0) = (((a1 + v0) % 18446744073709551616 : Nat) : Int) := by rw [conv_u64]; omega
      obtain ⟨a2, ha2⟩ : ∃ a2, a2 = (a1 + v0) % 18446744073709551616 := ⟨_, rfl⟩
      rw [← ha2] at f2
      have f3 : IntKind.u64.wrap ((Q0 : Int) * Y) = ((Q0 * Y % 18446744073709551616 : Nat) : Int) := by rw [← Int.natCast_mul, wrapM]
      obtain ⟨a3, ha3⟩ : ∃ a3, a3 = Q0 * Y % 18446744073709551616 := ⟨_, rfl⟩
      rw [← ha3] at f3
      have f4 : IntKind.u64.wrap ((a2 : Int) - a3) = (R0 : Int) := by
        rw [conv_u64, ha2, ha3, ha1]
        exact rest_mod hsum (by omega)
      have f5 : (R0 : Int) / 2 ^ s = ((R0 / 2 ^ s : Nat) : Int) := cast_div_pow _ _
      obtain ⟨Z, hZ⟩ : ∃ Z, Z = R0 / 2 ^ s := ⟨_, rfl⟩
      rw [← hZ] at f5
      have l11 : (R0 : Int) ≤ 18446744073709551615 := by omega
      have hv0 : v0 = V % 4294967296 := by have := HV.out; omega
      have hv1 : v1 = V / 4294967296 := by have := HV.out; omega
      have hUY' : U < Y := by rw [← HYs.out] at hUY; exact hUY
      have two := long_two (b := V) hYpos rfl hUY'
      simp only at two
      rw [← hv1, ← hv0, ← H1.out, ← HR.out, ← hQ0, ← hR0] at two
      have hbig' := hbig.out
      rw [← HU.out, ← HVV.out] at hbig'
      rw [← hbig', HY.out] at two
      have p2 : 0 < 2 ^ s := Nat.pow_pos (by omega)
      rw [Nat.mul_div_mul_right _ _ p2, Nat.mul_mod_mul_right] at two
      have hZ' : Z = (hi * 18446744073709551616 + lo) % y := by rw [hZ, ← two.2, Nat.mul_div_cancel _ p2]
      have E1 := Lib.hid two.1
      have E2 := Lib.hid hZ'
      clear two hZ' hbig' hv0 hv1 hUY' hZ hR0 hYpos hR0Y hsum ha1 ha2 ha3 p2 b1 b1' b0 bv1 bv0 hUY hs2 h2 h1 hQ0 hRY
      go_wp2
      go_ret2
      exact ⟨by rw [E1.out, ← E2.out]; go_num, Bel.refl _⟩
set_option maxHeartbeats 1000000 in
theorem div64_lo (lo y : Nat) (h1 : 1 ≤ y) (h2 : y < 18446744073709551616) (h3 : lo < 18446744073709551616) (w : World) :
    Calls Tryz.prog 152 #[.int .u64 0, .int .u64 lo, .int .u64 y] w fun e w' => e = .returned (.tuple #[.int .u64 (lo / y : Nat), .int .u64 (lo % y : Nat)]) ∧ Bel w w' := by
  have k1 : ((y : Int) == 0) = false := by simp; omega
  have k0 : (y == 0) = false := by simp; omega
  have k00 : decide (y = 0) = false := by simp; omega
  have k2 : decide ((y : Int) ≤ 0) = false := by simp; omega
  have k22 : decide (y ≤ 0) = false := by simp; omega
  have k4 : ((0 : Int) == 0) = true := rfl
  have e1 : (lo : Int) / (y : Int) = ((lo / y : Nat) : Int) := (Int.natCast_ediv ..).symm
  have e2 : (lo : Int) % (y : Int) = ((lo % y : Nat) : Int) := (Int.natCast_emod ..).symm
  have i1 : (1 : Int) ≤ y := by omega
  have i2 : (lo : Int) ≤ 18446744073709551615 := by omega
  have i3 : ¬ (y : Int) = 0 := by omega
  have p1 : lo / y ≤ lo := Nat.div_le_self _ _
  have p2 : lo % y ≤ lo := Nat.mod_le _ _
  generalize lo / y = p at *
  generalize lo % y = q at *
  have e3 : IntKind.u64.wrap (p : Int) = p := by rw [wrapM, Nat.mod_eq_of_lt (by omega)]
  have e4 : IntKind.u64.wrap (q : Int) = q := by rw [wrapM, Nat.mod_eq_of_lt (by omega)]
  clear h1 h2 h3 p1 p2
  go_enter Tryz.func152, Tryz.ntmps152
  go_wp2
  have E2 := Lib.hid e2
  clear e2
  go_region
  go_wp2
  go_ret2
  exact ⟨by rw [← E2.out]; rfl, (Bel.refl _).drew⟩
theorem div64_any (hi lo y : Nat) (h1 : hi < y) (h2 : y < 18446744073709551616) (h3 : lo < 18446744073709551616) (w : World) :
    Calls Tryz.prog 152 #[.int .u64 hi, .int .u64 lo, .int .u64 y] w fun e w' => e = .returned (.tuple #[.int .u64 ((hi * 18446744073709551616 + lo) / y : Nat), .int .u64 ((hi * 18446744073709551616 + lo) % y : Nat)]) ∧ Bel w w' := by
  rcases Nat.eq_zero_or_pos hi with rfl | h
  · rw [Nat.zero_mul, Nat.zero_add]; exact div64_lo lo y (by omega) h2 h3 w
  · exact div64_hi hi lo y h h1 h2 h3 w
def whi (m : Nat) : Nat := m / 18446744073709551616
def wlo (m : Nat) : Nat := m % 18446744073709551616
theorem div_wide (m d : Nat) (hd : 0 < d) : whi m / d = whi (m / d) ∧ ((whi m % d) * 18446744073709551616 + wlo m) / d = wlo (m / d) ∧ ((whi m % d) * 18446744073709551616 + wlo m) % d = m % d := by
  have h1 := Nat.div_add_mod m 18446744073709551616
  have h2 := Nat.div_add_mod (whi m) d
  have h3 : wlo m < 18446744073709551616 := Nat.mod_lt _ (by omega)
  have hr : whi m % d < d := Nat.mod_lt _ hd
  have hM : m = d * (whi m / d * 18446744073709551616) + (whi m % d * 18446744073709551616 + wlo m) := by
    rw [← Nat.mul_assoc]
    unfold whi wlo at *
    generalize m / 18446744073709551616 % d = a at *
    generalize d * (m / 18446744073709551616 / d) = b at *
    omega
  have hX : (whi m % d * 18446744073709551616 + wlo m) / d < 18446744073709551616 := by
    rw [Nat.div_lt_iff_lt_mul hd, Nat.mul_comm 18446744073709551616 d]
    have := Nat.mul_le_mul_right 18446744073709551616 (show whi m % d + 1 ≤ d from hr)
    rw [Nat.add_mul] at this
    omega
  have hD : m / d = whi m / d * 18446744073709551616 + (whi m % d * 18446744073709551616 + wlo m) / d := by
    conv => lhs; rw [hM]
    rw [Nat.mul_add_div hd]
  refine ⟨?_, ?_, ?_⟩
  · show _ = m / d / 18446744073709551616
    rw [hD, Nat.mul_comm (whi m / d), Nat.mul_add_div (by omega), Nat.div_eq_of_lt hX, Nat.add_zero]
  · show _ = m / d % 18446744073709551616
    rw [hD, Nat.mul_comm (whi m / d), Nat.mul_add_mod, Nat.mod_eq_of_lt hX]
  · conv => rhs; rw [hM]
    rw [Nat.mul_add_mod]
theorem whi_small {m : Nat} (h : m < 18446744073709551616) : whi m = 0 := Nat.div_eq_of_lt h
theorem wlo_small {m : Nat} (h : m < 18446744073709551616) : wlo m = m := Nat.mod_eq_of_lt h
theorem whi_le {m : Nat} (h : m < 340282366920938463463374607431768211456) : whi m ≤ 18446744073709551615 := by unfold whi; omega
theorem wlo_le (m : Nat) : wlo m ≤ 18446744073709551615 := by unfold wlo; omega
/-- A wide number m, and what a division left. -/
abbrev wideM (neg : Bool) (m rest of : Nat) (s : Int) : Value := wideV neg (whi m) (wlo m) rest of s
set_option maxHeartbeats 2000000 in
theorem divided_raw (x : Bool) (hi lo r o d p a q rr : Nat) (s : Int) (h1 : 1 ≤ d) (hhi : hi ≤ 18446744073709551615) (hp : hi / d = p) (ha : hi % d = a)
    (hc : ∀ w, Calls Tryz.prog 152 #[.int .u64 a, .int .u64 lo, .int .u64 d] w fun e w' => e = .returned (.tuple #[.int .u64 q, .int .u64 rr]) ∧ Bel w w') (w : World) :
    Calls Tryz.prog 139 #[wideV x hi lo r o s, .int .u64 d] w fun e w' => e = .returned (wideV x p q rr d s) ∧ Bel w w' := by
  have e1 : (hi : Int) / (d : Int) = p := by rw [← hp]; exact (Int.natCast_ediv ..).symm
  have e2 : (hi : Int) % (d : Int) = a := by rw [← ha]; exact (Int.natCast_emod ..).symm
  have l1 : p ≤ hi := hp ▸ Nat.div_le_self _ _
  have l2 : a ≤ hi := ha ▸ Nat.mod_le _ _
  have i1 : (1 : Int) ≤ d := by omega
  have i3 : ¬ (d : Int) = 0 := by omega
  have i2 : (hi : Int) ≤ 18446744073709551615 := by omega
  have e3 : IntKind.u64.wrap (p : Int) = p := by rw [wrapM, Nat.mod_eq_of_lt (by omega)]
  have e4 : IntKind.u64.wrap (a : Int) = a := by rw [wrapM, Nat.mod_eq_of_lt (by omega)]
  have HC := Lib.hid hc
  have E2 := Lib.hid e2
  clear hc hp ha h1 hhi l1 l2 e2
  go_enter Tryz.func139, Tryz.ntmps139
  go_wp2_with fail
  refine under_name (((Bel.refl w).alloc _).alloc _) fun W hc hf hz hb => ?_
  have hA : Sl6 W w.heap.size x hi lo r o s := by simp [Sl6, Ar6, Fr6, hz, hc, hf, go_sem]
  have hB : Sl6 W (w.heap.size + 1) false 0 0 0 0 0 := by simp [Sl6, Ar6, Fr6, hz, hc, hf, go_sem]
  clear hc hf hz
  go_region
  rw [E2.out]
  replace hA := hA.keep (Bel.refl W).drew; replace hB := hB.keep (Bel.refl W).drew; replace hb := hb.drew
  generalize W.drew = W at *
  go_wp2_with (go_at_call 152; refine (HC.out _).mono ?_; rintro e W1 ⟨rfl, hb1⟩
               replace hA := Sl6.keep (show Sl6 (W.setCell ⟨w.heap.size, 1, none⟩ (.int .u64 p)) w.heap.size x p lo r o s by simp [Sl6, Ar6, Fr6, go_sem, hA]) hb1
               replace hB := Sl6.keep (show Sl6 (W.setCell ⟨w.heap.size, 1, none⟩ (.int .u64 p)) (w.heap.size + 1) false 0 0 0 0 0 by simp [Sl6, Ar6, Fr6, go_sem, hB]) hb1
               replace hb := (hb.setCell (p := ⟨w.heap.size, 1, none⟩) (by simp) (.int .u64 p)).trans hb1; clear hb1)
  refine bodyPost_ret (by simp [results, Tryz.results139, go_sem, hA, hB]; try rfl) rfl ⟨rfl, ?_⟩
  (repeat (first | with_reducible exact Bel.refl _ | with_reducible refine Bel.setCell ?_ (by first | exact Nat.le_refl _ | (dsimp only; omega)) _ | with_reducible refine Bel.alloc ?_ _ | with_reducible refine Bel.drew ?_ | with_reducible assumption | with_reducible refine Bel.trans ?_ (by assumption)))
theorem divided_any (x : Bool) (m r o d : Nat) (s : Int) (hm : m < 340282366920938463463374607431768211456) (h1 : 1 ≤ d) (h2 : d < 18446744073709551616) (w : World) :
    Calls Tryz.prog 139 #[wideM x m r o s, .int .u64 d] w fun e w' => e = .returned (wideM x (m / d) (m % d) d s) ∧ Bel w w' := by
  obtain ⟨q1, q2, q3⟩ := div_wide m d (by omega)
  refine divided_raw x (whi m) (wlo m) r o d (whi (m / d)) (whi m % d) (wlo (m / d)) (m % d) s h1 (whi_le hm) q1 rfl (fun w => ?_) w
  have hc := div64_any (whi m % d) (wlo m) d (Nat.mod_lt _ (by omega)) h2 (Nat.lt_succ_of_le (wlo_le m)) w
  rw [q2, q3] at hc
  exact hc
def big128 : Nat := 340282366920938463463374607431768211456
set_option maxHeartbeats 2000000 in
theorem trimmed_any (x : Bool) (m s : Nat) (hm : m < big128) (hs : s ≤ 100) (w : World) :
    Calls Tryz.prog 113 #[wideM x m 0 1 s] w fun e w' => e = .returned (wideM x (trim m s).1 0 1 ((trim m s).2 : Nat)) ∧ Bel w w' := by
  have hs' : (s : Int) ≤ 100 := by omega
  have Hm := Lib.hid hm
  clear hm hs
  go_enter Tryz.func113, Tryz.ntmps113
  go_wp2_with fail
  refine under_name (((Bel.refl w).alloc _).alloc _) fun W hc hf hz hb => ?_
  have hA : Sl6 W w.heap.size x (whi m) (wlo m) 0 1 s := by simp [Sl6, Ar6, Fr6, hz, hc, hf, go_sem]
  have hB : Sl6 W (w.heap.size + 1) false 0 0 0 0 0 := by simp [Sl6, Ar6, Fr6, hz, hc, hf, go_sem]
  clear hc hf hz
  go_loopg [] s (fun g wr => ∃ m' s' : Nat, Hid (trim m s = trim m' s' ∧ m' < big128 ∧ g = s') ∧ (s' : Int) ≤ 100 ∧ Sl6 wr w.heap.size x (whi m') (wlo m') 0 1 s' ∧ Sl6 wr (w.heap.size + 1) false 0 0 0 0 0 ∧ Bel w wr)
  case atStart => exact ⟨m, s, ⟨rfl, Hm.out, rfl⟩, hs', hA, hB, hb⟩
  case round =>
    clear hA hB hb hs'
    obtain ⟨m', s', hh, hs', hA, hB, hb⟩ := hrel
    by_cases h0 : (0 : Int) < s'
    · obtain ⟨j, hj⟩ : ∃ j, s' = j + 1 := ⟨s' - 1, by omega⟩
      have hd := fun w => divided_any x m' 0 1 10 s' hh.out.2.1 (by omega) (by omega) w
      by_cases hz : m' % 10 = 0
      · rw [hz] at hd
        have HD := Lib.hid hd
        have hnext : Hid (trim m s = trim (m' / 10) j ∧ m' / 10 < big128) := ⟨by rw [hh.out.1, hj, trim_step _ _ hz], Nat.lt_of_le_of_lt (Nat.div_le_self _ _) hh.out.2.1⟩
        have hz1 : (((0 : Nat) : Int) != 0) = false := rfl
        have HJ := Lib.hid hj
        clear hd hz hj
        go_wp2_with (go_at_call 139; refine (HD.out _).mono ?_; rintro e W1 ⟨rfl, hb1⟩
                     replace hA := hA.keep hb1; replace hB := hB.keep hb1; replace hb := hb.trans hb1; clear hb1)
        go_roundg j
        case measure => have := hh.out.2.2; have := HJ.out; omega
        case rel => 
          refine ⟨m' / 10, j, ⟨hnext.out.1, hnext.out.2, rfl⟩, by have := HJ.out; omega, ?_, by simp (maxDischargeDepth := 20) [Sl6, Ar6, Fr6, go_sem, hA, hB], by (repeat (first | with_reducible exact Bel.refl _ | with_reducible refine Bel.setCell ?_ (by first | exact Nat.le_refl _ | (dsimp only; omega)) _ | with_reducible refine Bel.alloc ?_ _ | with_reducible refine Bel.drew ?_ | with_reducible assumption | with_reducible refine Bel.trans ?_ (by assumption)))⟩
          have hj2 : (s' : Int) - 1 = j := by have := HJ.out; omega
          simp (maxDischargeDepth := 20) [Sl6, Ar6, Fr6, go_sem, hA, hj2]
      · have HD := Lib.hid hd
        have hfin : Hid (trim m s = (m', s')) := by rw [Hid, hh.out.1, trim_stop _ _ hz]
        have hz1 : (((m' % 10 : Nat) : Int) != 0) = true := by simp; omega
        have hz2 : decide (m' % 10 = 0) = false := by simpa using hz
        clear hd hz hj
        go_wp2_with (go_at_call 139; refine (HD.out _).mono ?_; rintro e W1 ⟨rfl, hb1⟩
                     replace hA := hA.keep hb1; replace hB := hB.keep hb1; replace hb := hb.trans hb1; clear hb1)
        refine bodyPost_ret (by simp [results, Tryz.results113, go_sem, hA, hB]; try rfl) rfl ⟨by (rw [hfin.out]) <;> rfl, ?_⟩
        (repeat (first | with_reducible exact Bel.refl _ | with_reducible refine Bel.setCell ?_ (by first | exact Nat.le_refl _ | (dsimp only; omega)) _ | with_reducible refine Bel.alloc ?_ _ | with_reducible refine Bel.drew ?_ | with_reducible assumption | with_reducible refine Bel.trans ?_ (by assumption)))
    · have hfin : Hid (trim m s = (m', s')) := by
        obtain rfl : s' = 0 := by omega
        rw [Hid, hh.out.1]; rfl
      go_wp2
      refine bodyPost_ret (by simp [results, Tryz.results113, go_sem, hA, hB]; try rfl) rfl ⟨by (rw [hfin.out]) <;> rfl, ?_⟩
      (repeat (first | with_reducible exact Bel.refl _ | with_reducible refine Bel.setCell ?_ (by first | exact Nat.le_refl _ | (dsimp only; omega)) _ | with_reducible refine Bel.alloc ?_ _ | with_reducible refine Bel.drew ?_ | with_reducible assumption | with_reducible refine Bel.trans ?_ (by assumption)))
/-- The number that a wide one is, or none. -/
def decV (x : Bool) (m s : Nat) : Value :=
  if 999999999999 < (trim m s).1 then .tuple #[.agg #[.int .i64 0, .int .i64 0], .int .i64 3]
  else .tuple #[.agg #[.int .i64 (if x = true then -((trim m s).1 : Int) else (trim m s).1), .int .i64 ((trim m s).2 : Nat)], .int .i64 0]
set_option maxHeartbeats 2000000 in
theorem dec_raw (x : Bool) (m s m' s' : Nat) (ht : trim m s = (m', s')) (hm : m < big128) (hs : s ≤ 100) (w : World) :
    Calls Tryz.prog 85 #[wideM x m 0 1 s] w fun e w' => e = .returned (decV x m s) ∧ Bel w w' := by
  have hl : Hid (decV x m s = if 999999999999 < m' then .tuple #[.agg #[.int .i64 0, .int .i64 0], .int .i64 3]
      else .tuple #[.agg #[.int .i64 (if x = true then -(m' : Int) else m'), .int .i64 (s' : Nat)], .int .i64 0]) := by rw [Hid, decV, ht]
  have hc := fun w => trimmed_any x m s hm hs w
  rw [ht] at hc
  have HC := Lib.hid hc
  clear hc
  have ha : ∀ W : World, Bel w W → Sl6 W w.heap.size x (whi m) (wlo m) 0 1 s → True := fun _ _ _ => trivial
  clear ha
  by_cases hbig : 999999999999 < m'
  · rw [hl.out, if_pos hbig]
    have hm' : m' < big128 := by have := (trim_le s m).1; rw [ht] at this; simp only at this; omega
    by_cases hh : 18446744073709551616 ≤ m'
    · have k1 : ((whi m' : Int) != 0) = true := by
        have : 0 < whi m' := Nat.div_pos hh (by omega)
        simp; omega
      have k2 : decide (whi m' = 0) = false := by
        have : 0 < whi m' := Nat.div_pos hh (by omega)
        simp; omega
      clear ht hm hs hbig hh hm'
      go_enter Tryz.func85, Tryz.ntmps85
      go_wp2_with fail
      refine under_call (((Bel.refl w).alloc _).alloc _) fun W hc hf hz hb => ?_
      have hA : Sl6 W w.heap.size x (whi m) (wlo m) 0 1 s := by simp [Sl6, Ar6, Fr6, hz, hc, hf, go_sem]
      have hB : Sl2 W (w.heap.size + 1) 0 0 := by simp [Sl2, Arr2, Fr2, hz, hc, hf, go_sem]
      clear hc hf hz
      go_wp2_with (go_at_call 113; refine (HC.out _).mono ?_; rintro e W1 ⟨rfl, hb1⟩
                   replace hA := hA.keep hb1; replace hB := hB.keep hb1; replace hb := hb.trans hb1; clear hb1)
      refine bodyPost_ret (by simp [results, Tryz.results85, go_sem, hA, hB]; try rfl) rfl ⟨rfl, ?_⟩
      (repeat (first | with_reducible exact Bel.refl _ | with_reducible refine Bel.setCell ?_ (by first | exact Nat.le_refl _ | (dsimp only; omega)) _ | with_reducible refine Bel.alloc ?_ _ | with_reducible refine Bel.drew ?_ | with_reducible assumption | with_reducible refine Bel.trans ?_ (by assumption)))
    · have k0 := whi_small (show m' < 18446744073709551616 by omega)
      have k1 := wlo_small (show m' < 18446744073709551616 by omega)
      have hbig' : (999999999999 : Int) < m' := by omega
      clear ht hm hs hbig hh hm'
      go_enter Tryz.func85, Tryz.ntmps85
      go_wp2_with fail
      refine under_call (((Bel.refl w).alloc _).alloc _) fun W hc hf hz hb => ?_
      have hA : Sl6 W w.heap.size x (whi m) (wlo m) 0 1 s := by simp [Sl6, Ar6, Fr6, hz, hc, hf, go_sem]
      have hB : Sl2 W (w.heap.size + 1) 0 0 := by simp [Sl2, Arr2, Fr2, hz, hc, hf, go_sem]
      clear hc hf hz
      go_wp2_with (go_at_call 113; refine (HC.out _).mono ?_; rintro e W1 ⟨rfl, hb1⟩
                   replace hA := hA.keep hb1; replace hB := hB.keep hb1; replace hb := hb.trans hb1; clear hb1)
      refine bodyPost_ret (by simp [results, Tryz.results85, go_sem, hA, hB]; try rfl) rfl ⟨rfl, ?_⟩
      (repeat (first | with_reducible exact Bel.refl _ | with_reducible refine Bel.setCell ?_ (by first | exact Nat.le_refl _ | (dsimp only; omega)) _ | with_reducible refine Bel.alloc ?_ _ | with_reducible refine Bel.drew ?_ | with_reducible assumption | with_reducible refine Bel.trans ?_ (by assumption)))
  · rw [hl.out, if_neg hbig]
    have k0 := whi_small (show m' < 18446744073709551616 by omega)
    have k1 := wlo_small (show m' < 18446744073709551616 by omega)
    have hbig' : (m' : Int) ≤ 999999999999 := by omega
    clear ht hm hs hbig
    cases x with
    | true =>
      go_enter Tryz.func85, Tryz.ntmps85
      go_wp2_with fail
      refine under_call (((Bel.refl w).alloc _).alloc _) fun W hc hf hz hb => ?_
      have hA : Sl6 W w.heap.size true (whi m) (wlo m) 0 1 s := by simp [Sl6, Ar6, Fr6, hz, hc, hf, go_sem]
      have hB : Sl2 W (w.heap.size + 1) 0 0 := by simp [Sl2, Arr2, Fr2, hz, hc, hf, go_sem]
      clear hc hf hz
      go_wp2_with (go_at_call 113; refine (HC.out _).mono ?_; rintro e W1 ⟨rfl, hb1⟩
                   replace hA := hA.keep hb1; replace hB := hB.keep hb1; replace hb := hb.trans hb1; clear hb1)
      refine bodyPost_ret (by simp [results, Tryz.results85, go_sem, hA, hB]; try rfl) rfl ⟨rfl, ?_⟩
      (repeat (first | with_reducible exact Bel.refl _ | with_reducible refine Bel.setCell ?_ (by first | exact Nat.le_refl _ | (dsimp only; omega)) _ | with_reducible refine Bel.alloc ?_ _ | with_reducible refine Bel.drew ?_ | with_reducible assumption | with_reducible refine Bel.trans ?_ (by assumption)))
    | false =>
      go_enter Tryz.func85, Tryz.ntmps85
      go_wp2_with fail
      refine under_call (((Bel.refl w).alloc _).alloc _) fun W hc hf hz hb => ?_
      have hA : Sl6 W w.heap.size false (whi m) (wlo m) 0 1 s := by simp [Sl6, Ar6, Fr6, hz, hc, hf, go_sem]
      have hB : Sl2 W (w.heap.size + 1) 0 0 := by simp [Sl2, Arr2, Fr2, hz, hc, hf, go_sem]
      clear hc hf hz
      go_wp2_with (go_at_call 113; refine (HC.out _).mono ?_; rintro e W1 ⟨rfl, hb1⟩
                   replace hA := hA.keep hb1; replace hB := hB.keep hb1; replace hb := hb.trans hb1; clear hb1)
      refine bodyPost_ret (by simp [results, Tryz.results85, go_sem, hA, hB]; try rfl) rfl ⟨rfl, ?_⟩
      (repeat (first | with_reducible exact Bel.refl _ | with_reducible refine Bel.setCell ?_ (by first | exact Nat.le_refl _ | (dsimp only; omega)) _ | with_reducible refine Bel.alloc ?_ _ | with_reducible refine Bel.drew ?_ | with_reducible assumption | with_reducible refine Bel.trans ?_ (by assumption)))
theorem dec_any (x : Bool) (m s : Nat) (hm : m < big128) (hs : s ≤ 100) (w : World) :
    Calls Tryz.prog 85 #[wideM x m 0 1 s] w fun e w' => e = .returned (decV x m s) ∧ Bel w w' :=
  dec_raw x m s _ _ rfl hm hs w
/-- A row of numbers. -/
def DecsAt (w : World) (b : Nat) (l : List (Int × Int)) : Prop :=
  b < w.heap.size ∧ ∀ (i : Nat) (h : i < l.length), w.cell? ⟨b, i * 2, none⟩ = some (.int .i64 l[i].1) ∧ w.cell? ⟨b, i * 2 + 1, none⟩ = some (.int .i64 l[i].2)
theorem DecsAt.keep {w w' : World} {b : Nat} {l : List (Int × Int)} (h : DecsAt w b l) (hb : Bel w w') : DecsAt w' b l :=
  ⟨Nat.lt_of_lt_of_le h.1 hb.size, fun i hi => ⟨(hb.cells _ _ h.1).trans (h.2 i hi).1, (hb.cells _ _ h.1).trans (h.2 i hi).2⟩⟩
def allSnd (l : List (Int × Int)) : Bool := l.all fun p => sndB p.1 p.2
theorem all_take_succ {α : Type} (f : α → Bool) (l : List α) (k : Nat) (h : k < l.length) : (l.take (k + 1)).all f = ((l.take k).all f && f l[k]) := by
  rw [List.take_succ_eq_append_getElem h, List.all_append]; simp
theorem all_false {α : Type} (f : α → Bool) (l : List α) (k : Nat) (h : k < l.length) (hf : f l[k] = false) : l.all f = false := by
  rw [Bool.eq_false_iff]
  intro ha
  rw [List.all_eq_true] at ha
  have := ha l[k] (List.getElem_mem h)
  rw [hf] at this
  cases this
set_option maxHeartbeats 1000000 in
theorem allSound_any (b : Nat) (l : List (Int × Int)) (c : Nat) (hl : l.length ≤ 1000000) (w : World) (hd : DecsAt w b l) :
    Calls Tryz.prog 96 #[.slice (some ⟨b, 0, none⟩) l.length c] w fun e w' => e = .returned (.bool (allSnd l)) ∧ Bel w w' := by
  go_enter Tryz.func96, Tryz.ntmps96
  go_wp2
  go_loopg [7] l.length (fun g i wr => ∃ k : Nat, k ≤ l.length ∧ i = .int .i64 k ∧ Hid ((l.take k).all (fun p => sndB p.1 p.2) = true ∧ g = l.length - k) ∧ Bel w wr)
  case atStart => exact ⟨0, Nat.zero_le _, rfl, ⟨rfl, rfl⟩, Bel.refl _⟩
  case round =>
    obtain ⟨k, hk, rfl, hh, hb⟩ := hrel
    by_cases hlt : k < l.length
    · have hcell := (hd.keep hb).2 k hlt
      obtain ⟨c1, c2⟩ := hcell
      have hlt' := (hd.keep hb).1
      have hs := fun w => sound_any l[k].1 l[k].2 w
      obtain ⟨x, hx⟩ : ∃ x, x = l[k].1 := ⟨_, rfl⟩
      obtain ⟨y, hy⟩ : ∃ y, y = l[k].2 := ⟨_, rfl⟩
      rw [← hx, ← hy] at hs
      rw [← hx] at c1
      rw [← hy] at c2
      cases hv : sndB x y with
      | true =>
        rw [hv] at hs
        have HS := Lib.hid hs
        have hn : Hid ((l.take (k + 1)).all (fun p => sndB p.1 p.2) = true) := by
          rw [Hid, all_take_succ _ _ _ hlt, hh.out.1, ← hx, ← hy, hv]; rfl
        clear hs hx hy hv
        go_wp2_with (go_at_call 46; refine (HS.out _).mono ?_; rintro e W1 ⟨rfl, hb1⟩; replace hb := (hb.alloc _).trans hb1; clear hb1)
        go_roundg (gk - 1)
        case measure => have := hh.out.2; omega
        case rel => exact ⟨k + 1, by omega, by go_num, ⟨hn.out, by have := hh.out.2; omega⟩, hb⟩
      | false =>
        rw [hv] at hs
        have HS := Lib.hid hs
        have hn : Hid (allSnd l = false) := all_false _ _ _ hlt (by rw [← hx, ← hy, hv])
        clear hs hx hy hv
        go_wp2_with (go_at_call 46; refine (HS.out _).mono ?_; rintro e W1 ⟨rfl, hb1⟩; replace hb := (hb.alloc _).trans hb1; clear hb1)
        go_ret
        exact ⟨by (rw [hn.out]) <;> rfl, hb⟩
    · have hn : Hid (allSnd l = true) := by
        have h := hh.out.1
        rw [List.take_of_length_le (by omega)] at h
        exact h
      go_wp2
      go_ret
      exact ⟨by (rw [hn.out]) <;> rfl, hb⟩
theorem decs1 {w : World} {b : Nat} {x y : Int} (hb : b < w.heap.size) (h0 : w.cell? ⟨b, 0, none⟩ = some (.int .i64 x)) (h1 : w.cell? ⟨b, 1, none⟩ = some (.int .i64 y)) : DecsAt w b [(x, y)] := by
  refine ⟨hb, fun i hi => ?_⟩
  obtain rfl : i = 0 := by simp at hi; omega
  exact ⟨h0, h1⟩
theorem allSound_1 (x y : Int) (b : Nat) (w : World) (hd : DecsAt w b [(x, y)]) :
    Calls Tryz.prog 96 #[.slice (some ⟨b, 0, none⟩) 1 1] w fun e w' => e = .returned (.bool (sndB x y)) ∧ Bel w w' :=
  (allSound_any b [(x, y)] 1 (by simp) w hd).mono fun e w' ⟨he, hb⟩ => ⟨by rw [he]; simp [allSnd], hb⟩
abbrev errV (k : Int) : Value := .tuple #[.agg #[.int .i64 0, .int .i64 0], .int .i64 k]
abbrev decA (n s : Int) : Value := .agg #[.int .i64 n, .int .i64 s]
theorem sndB_t {n s : Int} (h : SndD n s) : sndB n s = true := decide_eq_true h
theorem sndB_f {n s : Int} (h : ¬ SndD n s) : sndB n s = false := decide_eq_false h
theorem decV_sh (x : Bool) (m s : Nat) : ∃ a b e, decV x m s = .tuple #[decA a b, .int .i64 e] := by
  unfold decV
  split
  · exact ⟨_, _, _, rfl⟩
  · exact ⟨_, _, _, rfl⟩
/-- A number in its shortest form. -/
def makeV (n s : Int) : Value := if 0 ≤ s ∧ s ≤ 6 ∧ small n then decV (decide (n < 0)) n.natAbs s.toNat else errV 3
theorem wide0 {x : Bool} {m : Nat} {r o : Nat} {s : Int} (h : m < 18446744073709551616) : wideM x m r o s = wideV x 0 m r o s := by
  show wideV x (whi m) (wlo m) r o s = _
  rw [whi_small h, wlo_small h]
def dgt (n k : Nat) : UInt8 := UInt8.ofNat (48 + n / k % 10)
theorem dec1 (n : Nat) (h : n < 10) : Lib.decDigits n = [dgt n 1] := by rw [Lib.decDigits, dif_pos h]; simp [dgt, Nat.mod_eq_of_lt h]
theorem decS (n : Nat) (h : 10 ≤ n) : Lib.decDigits n = Lib.decDigits (n / 10) ++ [dgt n 1] := by rw [Lib.decDigits, dif_neg (by omega)]; simp [dgt]
theorem dec_len_le (k : Nat) : ∀ n, n < 10 ^ (k + 1) → (Lib.decDigits n).length ≤ k + 1 := by
  induction k with
  | zero => intro n h; rw [dec1 n (by simpa using h)]; simp
  | succ k ih =>
    intro n h
    by_cases h1 : n < 10
    · rw [dec1 n h1]; simp
    · rw [decS n (by omega), List.length_append]
      have := ih (n / 10) (by rw [Nat.div_lt_iff_lt_mul (by omega)]; rw [Nat.pow_succ] at h; exact h)
      simp; omega
theorem dec_pos (n : Nat) : 1 ≤ (Lib.decDigits n).length := by
  by_cases h1 : n < 10
  · rw [dec1 n h1]; simp
  · rw [decS n (by omega)]; simp
def padL (k n : Nat) : List UInt8 := Lib.repeatL [48] (k - (Lib.decDigits n).length) ++ Lib.decDigits n
/-- The table of the powers of ten, as the library lays it. -/
def Tab (w : World) : Prop := Lib.TabIs Tryz.prog w "internal/strconv.uint64pow10" .u64 Lib.pow10Tab
theorem Tab.keep {w w' : World} (h : Tab w) (hb : Bel w w') : Tab w' := by
  obtain ⟨g, hg⟩ : ∃ g, Tryz.prog.globalNamed "internal/strconv.uint64pow10" = some g := ⟨(Tryz.prog.globalNamed "internal/strconv.uint64pow10").getD 0, by kernel_rfl⟩
  unfold Tab Lib.TabIs World.var? at h ⊢
  rw [hg] at h ⊢
  simp only [Option.bind_some] at h ⊢
  have hlt : g < w.heap.size := by
    rcases Nat.lt_or_ge g w.heap.size with h' | h'
    · exact h'
    · rw [Array.getElem?_eq_none h'] at h; cases h
  rw [Below.block hb g hlt]
  exact h
theorem itoa_n (n : Nat) (hn : n ≤ 9223372036854775807) (w : World) (ht : Tab w) : Calls Tryz.prog 97 #[.int .i64 n] w fun e w' => e = .returned (.string ⟨(Lib.decDigits n).toArray⟩) ∧ Bel w w' :=
  (Tryz.strconv_Itoa n (by omega) (by omega) w ht).mono fun e w' ⟨he, k, os, hw⟩ => by
    subst hw
    refine ⟨by rw [he]; simp [Lib.itoa], ?_⟩
    exact ⟨rfl, rfl, rfl, by simp [Go.«Sort».grow, World.drewN], fun i hi => by simp [Go.«Sort».grow, World.drewN, Array.getElem?_append_left hi]⟩
theorem rep_n (c : Nat) (hc : c ≤ 1000) (w : World) : Calls Tryz.prog 99 #[.string ⟨#[48]⟩, .int .i64 c] w fun e w' => e = .returned (.string ⟨(Lib.repeatL [48] c).toArray⟩) ∧ Bel w w' :=
  (Tryz.strings_Repeat ⟨#[48]⟩ c w (by omega) (by simp [ByteArray.size]; omega)).mono fun e w' ⟨he, hw⟩ => ⟨he, hw⟩
theorem app_bytes (a b : List UInt8) : (⟨a.toArray⟩ : ByteArray) ++ ⟨b.toArray⟩ = ⟨(a ++ b).toArray⟩ := by
  exact ByteArray.ext (by simp [ByteArray.data_append])
def txtL (neg : Bool) (x s : Nat) : List UInt8 := (if neg = true then [45] else []) ++ (Lib.decDigits (x / P10 s) ++ (if s = 0 then [] else 46 :: padL s (x % P10 s)))
def textV (n s : Int) : Value := if SndD n s then .tuple #[.string ⟨(txtL (decide (n < 0)) n.natAbs s.toNat).toArray⟩, .int .i64 0] else .tuple #[.string ⟨#[]⟩, .int .i64 2]
set_option maxRecDepth 100000 in
set_option maxHeartbeats 4000000 in
theorem text_raw (n : Int) (x s : Nat) (hn : (n = x ∧ decide (n < 0) = false) ∨ (n = -x ∧ decide (n < 0) = true)) (h : SndD n s) (w : World) (ht : Tab w) :
    Calls Tryz.prog 71 #[decA n s] w fun e w' => e = .returned (.tuple #[.string ⟨(txtL (decide (n < 0)) x s).toArray⟩, .int .i64 0]) ∧ Bel w w' := by
  have hs := Lib.hid (sndB_t h)
  obtain ⟨h1, h2, ⟨h3, h4⟩, -⟩ := h
  have hx : x ≤ 999999999999 := by omega
  have p2 := P10_6 (show s ≤ 6 by omega)
  have p20 := P10_pos s
  have cp := Lib.hid fun w => power_any s (by omega) w
  have hv : Hid (txtL (decide (n < 0)) x s = (if decide (n < 0) = true then [45] else []) ++ (Lib.decDigits (x / P10 s) ++ (if s = 0 then [] else 46 :: padL s (x % P10 s)))) := rfl
  have hmod : x % P10 s < P10 s := Nat.mod_lt _ p20
  have hlen : s ≠ 0 → (Lib.decDigits (x % P10 s)).length ≤ s := fun h0 => by
    obtain ⟨j, rfl⟩ : ∃ j, s = j + 1 := ⟨s - 1, by omega⟩
    exact dec_len_le j _ hmod
  obtain ⟨p, hp⟩ : ∃ p, p = P10 s := ⟨_, rfl⟩
  rw [← hp] at p2 p20 cp hv hmod hlen
  clear hp
  have hw1 := dec_len_le 12 (x / p) (by have := Nat.div_le_self x p; omega)
  have ci := Lib.hid fun w ht => itoa_n (x / p) (by have := Nat.div_le_self x p; omega) w ht
  have cj := Lib.hid fun w ht => itoa_n (x % p) (by omega) w ht
  have e1 : (x : Int) / (p : Int) = ((x / p : Nat) : Int) := (Int.natCast_ediv ..).symm
  have e2 : (x : Int) % (p : Int) = ((x % p : Nat) : Int) := (Int.natCast_emod ..).symm
  have hcr : ∀ c : Nat, c ≤ 6 → ∀ w, Calls Tryz.prog 99 #[.string ⟨#[48]⟩, .int .i64 c] w fun e w' => e = .returned (.string ⟨(Lib.repeatL [48] c).toArray⟩) ∧ Bel w w' := fun c hc w => rep_n c (by omega) w
  have hpd : Hid (padL s (x % p) = Lib.repeatL [48] (s - (Lib.decDigits (x % p)).length) ++ Lib.decDigits (x % p)) := rfl
  obtain ⟨a, ha⟩ : ∃ a, a = x / p := ⟨_, rfl⟩
  obtain ⟨b, hb0⟩ : ∃ b, b = x % p := ⟨_, rfl⟩
  have i5 : (a : Int) ≤ 999999999999 := by have := Nat.div_le_self x p; omega
  have i6 : (b : Int) ≤ 999999999999 := by omega
  rw [← ha] at ci e1 hv hw1
  rw [← hb0] at cj e2 hv hlen hpd
  obtain ⟨A, hA0⟩ : ∃ A, A = Lib.decDigits a := ⟨_, rfl⟩
  obtain ⟨B, hB0⟩ : ∃ B, B = Lib.decDigits b := ⟨_, rfl⟩
  rw [← hA0] at ci hv hw1
  rw [← hB0] at cj hlen hpd
  have i1 : (1 : Int) ≤ p := by omega
  have i2 : (x : Int) ≤ 999999999999 := by omega
  have i3 : ¬ (p : Int) = 0 := by omega
  have h26 : s ≤ 6 := by omega
  have H := Lib.hid (And.intro hw1 hlen)
  have H6 := Lib.hid h26
  clear ha hb0 hA0 hB0 hmod p2 p20 hx h1 h2 h3 h4 hw1 hlen h26
  have fin0 : ∀ d : Bool, True := fun _ => trivial
  clear fin0
  by_cases h0 : s = 0
  · subst h0
    have cr := Lib.hid (hcr 0 (by omega))
    have hv3 : Hid ((if (0 : Nat) = 0 then [] else 46 :: padL 0 b) = []) := by rw [Hid, if_pos rfl]
    clear hcr
    have l1 := H.out.1
    have q0 : ¬ 9223372036854775807 < A.length := by omega
    have q1 : ¬ 9223372036854775807 < 1 + A.length := by omega
    clear l1
    replace hs : Hid (sndB n 0 = true) := hs.out
    replace cp : Hid (∀ w, Calls Tryz.prog 98 #[.int .i64 0] w fun e w' => e = .returned (.int .i64 p) ∧ Bel w w') := cp.out
    rcases hn with ⟨rfl, hd⟩ | ⟨rfl, hd⟩
    · rw [hd] at hv ⊢
      go_enter Tryz.func71, Tryz.ntmps71
      go_wp2_with fail
      refine under_call (((Bel.refl w).alloc _).alloc _) fun W hc hf hz hb => ?_
      have hA : Arr2 W w.heap.size ((x : Int)) 0 := by simp [Arr2, hz, hc, hf, go_sem]
      have hD : DecsAt W (w.heap.size + 1) [((x : Int), (0 : Int))] := decs1 (by simp [hz]) (by simp [hc, go_sem]) (by simp [hc, go_sem])
      clear hc hf hz
      go_wp2_with (go_at_call 96; refine (allSound_1 _ _ _ _ hD).mono ?_; rintro e W1 ⟨rfl, hb1⟩; rw [hs.out]
                   replace hA := hA.keep hb1; replace hb := hb.trans hb1; clear hb1 hD)
      go_region
      replace hA := hA.keep (Bel.refl W1).drew; replace hb := hb.drew
      generalize W1.drew = W2 at *
      go_wp2_with (first
        | (go_at_call 98; refine (cp.out _).mono ?_; rintro e W3 ⟨rfl, hb1⟩; replace hA := hA.keep hb1; replace hb := hb.trans hb1; clear hb1)
        | (go_at_call_of 97 (Value.int .i64 (a : Int)); refine (ci.out _ (ht.keep hb)).mono ?_; rintro e W4 ⟨rfl, hb1⟩; replace hA := hA.keep hb1; replace hb := hb.trans hb1; clear hb1)
        | (go_at_call_of 97 (Value.int .i64 (b : Int)); refine (cj.out _ (ht.keep hb)).mono ?_; rintro e W4 ⟨rfl, hb1⟩; replace hA := hA.keep hb1; replace hb := hb.trans hb1; clear hb1)
        | (go_at_call 99; refine (cr.out _).mono ?_; rintro e W5 ⟨rfl, hb1⟩; replace hA := hA.keep hb1; replace hb := hb.trans hb1; clear hb1))
      go_ret2
      have hfin : Hid ((⟨#[]⟩ ++ ⟨A.toArray⟩ : ByteArray) = ⟨(txtL false x 0).toArray⟩) := by
        rw [Hid, hv.out, hv3.out]
        exact ByteArray.ext (by simp [ByteArray.data_append])
      exact ⟨by rw [hfin.out]; rfl, hb⟩
    · rw [hd] at hv ⊢
      have hx1 : -(x : Int) < 0 := by simpa using hd
      clear hd
      go_enter Tryz.func71, Tryz.ntmps71
      go_wp2_with fail
      refine under_call (((Bel.refl w).alloc _).alloc _) fun W hc hf hz hb => ?_
      have hA : Arr2 W w.heap.size (-(x : Int)) 0 := by simp [Arr2, hz, hc, hf, go_sem]
      have hD : DecsAt W (w.heap.size + 1) [(-(x : Int), (0 : Int))] := decs1 (by simp [hz]) (by simp [hc, go_sem]) (by simp [hc, go_sem])
      clear hc hf hz
      go_wp2_with (go_at_call 96; refine (allSound_1 _ _ _ _ hD).mono ?_; rintro e W1 ⟨rfl, hb1⟩; rw [hs.out]
                   replace hA := hA.keep hb1; replace hb := hb.trans hb1; clear hb1 hD)
      go_region
      replace hA := hA.keep (Bel.refl W1).drew; replace hb := hb.drew
      generalize W1.drew = W2 at *
      go_wp2_with (first
        | (go_at_call 98; refine (cp.out _).mono ?_; rintro e W3 ⟨rfl, hb1⟩; replace hA := hA.keep hb1; replace hb := hb.trans hb1; clear hb1)
        | (go_at_call_of 97 (Value.int .i64 (a : Int)); refine (ci.out _ (ht.keep hb)).mono ?_; rintro e W4 ⟨rfl, hb1⟩; replace hA := hA.keep hb1; replace hb := hb.trans hb1; clear hb1)
        | (go_at_call_of 97 (Value.int .i64 (b : Int)); refine (cj.out _ (ht.keep hb)).mono ?_; rintro e W4 ⟨rfl, hb1⟩; replace hA := hA.keep hb1; replace hb := hb.trans hb1; clear hb1)
        | (go_at_call 99; refine (cr.out _).mono ?_; rintro e W5 ⟨rfl, hb1⟩; replace hA := hA.keep hb1; replace hb := hb.trans hb1; clear hb1))
      go_ret2
      have hfin : Hid ((⟨#[45]⟩ ++ ⟨A.toArray⟩ : ByteArray) = ⟨(txtL true x 0).toArray⟩) := by
        rw [Hid, hv.out, hv3.out]
        exact ByteArray.ext (by simp [ByteArray.data_append])
      exact ⟨by rw [hfin.out]; rfl, hb⟩
  · have k0 : ((s : Int) == 0) = false := by simp; omega
    have k00 : ¬ (s : Int) = 0 := by omega
    obtain ⟨c, hc0⟩ : ∃ c, c = s - B.length := ⟨_, rfl⟩
    have hBl := H.out.2 h0
    have h26 := H6.out
    have e3 : (s : Int) - (B.length : Int) = c := by omega
    have cr := Lib.hid (hcr c (by omega))
    have i7 : (c : Int) ≤ 6 := by omega
    have i8 : (B.length : Int) ≤ 6 := by omega
    have i9 : (s : Int) ≤ 6 := by omega
    have hv3 : Hid ((if s = 0 then [] else 46 :: padL s b) = 46 :: (Lib.repeatL [48] c ++ B)) := by rw [Hid, if_neg h0, hpd.out, hc0]
    have hrl := Lib.repeatL_length [48] c
    have hRl : (Lib.repeatL [48] c).length ≤ 6 := by simp at hrl; omega
    generalize Lib.repeatL [48] c = R at *
    have hB6 : B.length ≤ 6 := by omega
    have HQ := Lib.hid (And.intro hB6 hRl)
    clear hc0 hrl hBl hRl h0 hcr h26 hB6
    have l1 := H.out.1
    have l2 := HQ.out.1
    have l3 := HQ.out.2
    have q0 : ¬ 9223372036854775807 < A.length := by omega
    have q1 : ¬ 9223372036854775807 < A.length + 1 := by omega
    have q2 : ¬ 9223372036854775807 < A.length + 1 + R.length := by omega
    have q3 : ¬ 9223372036854775807 < A.length + 1 + R.length + B.length := by omega
    have q4 : ¬ 9223372036854775807 < 1 + A.length := by omega
    have q5 : ¬ 9223372036854775807 < 1 + A.length + 1 := by omega
    have q6 : ¬ 9223372036854775807 < 1 + A.length + 1 + R.length := by omega
    have q7 : ¬ 9223372036854775807 < 1 + A.length + 1 + R.length + B.length := by omega
    clear l1 l2 l3
    rcases hn with ⟨rfl, hd⟩ | ⟨rfl, hd⟩
    · rw [hd] at hv ⊢
      go_enter Tryz.func71, Tryz.ntmps71
      go_wp2_with fail
      refine under_call (((Bel.refl w).alloc _).alloc _) fun W hc hf hz hb => ?_
      have hA : Arr2 W w.heap.size ((x : Int)) s := by simp [Arr2, hz, hc, hf, go_sem]
      have hD : DecsAt W (w.heap.size + 1) [((x : Int), (s : Int))] := decs1 (by simp [hz]) (by simp [hc, go_sem]) (by simp [hc, go_sem])
      clear hc hf hz
      go_wp2_with (go_at_call 96; refine (allSound_1 _ _ _ _ hD).mono ?_; rintro e W1 ⟨rfl, hb1⟩; rw [hs.out]
                   replace hA := hA.keep hb1; replace hb := hb.trans hb1; clear hb1 hD)
      go_region
      replace hA := hA.keep (Bel.refl W1).drew; replace hb := hb.drew
      generalize W1.drew = W2 at *
      go_wp2_with (first
        | (go_at_call 98; refine (cp.out _).mono ?_; rintro e W3 ⟨rfl, hb1⟩; replace hA := hA.keep hb1; replace hb := hb.trans hb1; clear hb1)
        | (go_at_call_of 97 (Value.int .i64 (a : Int)); refine (ci.out _ (ht.keep hb)).mono ?_; rintro e W4 ⟨rfl, hb1⟩; replace hA := hA.keep hb1; replace hb := hb.trans hb1; clear hb1)
        | (go_at_call_of 97 (Value.int .i64 (b : Int)); refine (cj.out _ (ht.keep hb)).mono ?_; rintro e W4 ⟨rfl, hb1⟩; replace hA := hA.keep hb1; replace hb := hb.trans hb1; clear hb1)
        | (go_at_call 99; refine (cr.out _).mono ?_; rintro e W5 ⟨rfl, hb1⟩; replace hA := hA.keep hb1; replace hb := hb.trans hb1; clear hb1))
      go_ret2
      have hfin : Hid ((⟨#[]⟩ ++ ⟨A.toArray⟩ ++ ⟨#[46]⟩ ++ ⟨R.toArray⟩ ++ ⟨B.toArray⟩ : ByteArray) = ⟨(txtL false x s).toArray⟩) := by
        rw [Hid, hv.out, hv3.out]
        exact ByteArray.ext (by simp [ByteArray.data_append])
      exact ⟨by rw [hfin.out]; rfl, hb⟩
    · rw [hd] at hv ⊢
      have hx1 : -(x : Int) < 0 := by simpa using hd
      clear hd
      go_enter Tryz.func71, Tryz.ntmps71
      go_wp2_with fail
      refine under_call (((Bel.refl w).alloc _).alloc _) fun W hc hf hz hb => ?_
      have hA : Arr2 W w.heap.size (-(x : Int)) s := by simp [Arr2, hz, hc, hf, go_sem]
      have hD : DecsAt W (w.heap.size + 1) [(-(x : Int), (s : Int))] := decs1 (by simp [hz]) (by simp [hc, go_sem]) (by simp [hc, go_sem])
      clear hc hf hz
      go_wp2_with (go_at_call 96; refine (allSound_1 _ _ _ _ hD).mono ?_; rintro e W1 ⟨rfl, hb1⟩; rw [hs.out]
                   replace hA := hA.keep hb1; replace hb := hb.trans hb1; clear hb1 hD)
      go_region
      replace hA := hA.keep (Bel.refl W1).drew; replace hb := hb.drew
      generalize W1.drew = W2 at *
      go_wp2_with (first
        | (go_at_call 98; refine (cp.out _).mono ?_; rintro e W3 ⟨rfl, hb1⟩; replace hA := hA.keep hb1; replace hb := hb.trans hb1; clear hb1)
        | (go_at_call_of 97 (Value.int .i64 (a : Int)); refine (ci.out _ (ht.keep hb)).mono ?_; rintro e W4 ⟨rfl, hb1⟩; replace hA := hA.keep hb1; replace hb := hb.trans hb1; clear hb1)
        | (go_at_call_of 97 (Value.int .i64 (b : Int)); refine (cj.out _ (ht.keep hb)).mono ?_; rintro e W4 ⟨rfl, hb1⟩; replace hA := hA.keep hb1; replace hb := hb.trans hb1; clear hb1)
        | (go_at_call 99; refine (cr.out _).mono ?_; rintro e W5 ⟨rfl, hb1⟩; replace hA := hA.keep hb1; replace hb := hb.trans hb1; clear hb1))
      go_ret2
      have hfin : Hid ((⟨#[45]⟩ ++ ⟨A.toArray⟩ ++ ⟨#[46]⟩ ++ ⟨R.toArray⟩ ++ ⟨B.toArray⟩ : ByteArray) = ⟨(txtL true x s).toArray⟩) := by
        rw [Hid, hv.out, hv3.out]
        exact ByteArray.ext (by simp [ByteArray.data_append])
      exact ⟨by rw [hfin.out]; rfl, hb⟩
theorem text_any (n s : Int) (w : World) (ht : Tab w) : Calls Tryz.prog 71 #[decA n s] w fun e w' => e = .returned (textV n s) ∧ Bel w w' := by
  by_cases h : SndD n s
  · rw [show textV n s = _ from if_pos h]
    obtain ⟨k, hk⟩ : ∃ k : Nat, s = k := ⟨s.toNat, by have := h.1; omega⟩
    subst hk
    refine text_raw n n.natAbs k ?_ h w ht
    by_cases hn : n < 0
    · exact .inr ⟨by omega, by simpa using hn⟩
    · exact .inl ⟨by omega, by simpa using hn⟩
  · rw [show textV n s = _ from if_neg h]
    have hs := Lib.hid (sndB_f h)
    clear h
    go_enter Tryz.func71, Tryz.ntmps71
    go_wp2_with fail
    refine under_call (((Bel.refl w).alloc _).alloc _) fun W hc hf hz hb => ?_
    have hD : DecsAt W (w.heap.size + 1) [(n, s)] := decs1 (by simp [hz]) (by simp [hc, go_sem]) (by simp [hc, go_sem])
    clear hc hf hz
    go_wp2_with (go_at_call 96; refine (allSound_1 _ _ _ _ hD).mono ?_; rintro e W1 ⟨rfl, hb1⟩; rw [hs.out]
                 replace hb := hb.trans hb1; clear hb1 hD)
    go_ret2
    exact ⟨rfl, hb⟩
def bef46 (l : List UInt8) : List UInt8 := l.takeWhile (· != 46)
def aft46 (l : List UInt8) : List UInt8 := (l.dropWhile (· != 46)).drop 1
def has46 (l : List UInt8) : Bool := !(l.dropWhile (· != 46)).isEmpty
theorem idx46 (l : List UInt8) : Lib.indexByte l 46 = if has46 l = true then ((bef46 l).length : Int) else -1 := by
  induction l with
  | nil => rfl
  | cons c r ih =>
    unfold Lib.indexByte bef46 has46
    by_cases h : c = 46
    · subst h; simp
    · have hc : (c == 46) = false := by simpa using h
      have hc2 : (c != 46) = true := by simpa using h
      simp only [hc, Bool.false_eq_true, if_false, List.takeWhile_cons, hc2, if_true, List.dropWhile_cons]
      rw [ih]
      unfold has46 bef46
      cases hd : (r.dropWhile (· != 46)).isEmpty
      · simp
      · simp
theorem bef_aft (l : List UInt8) (h : has46 l = true) : l = bef46 l ++ 46 :: aft46 l := by
  have h1 := List.takeWhile_append_dropWhile (p := (· != (46 : UInt8))) (l := l)
  unfold has46 at h
  unfold bef46 aft46
  cases hd : l.dropWhile (· != 46) with
  | nil => rw [hd] at h; cases h
  | cons c r =>
    have hc : c = 46 := by
      have := List.head_dropWhile_not (p := (· != (46 : UInt8))) (l := l) (by rw [hd]; simp)
      simp [hd] at this
      exact this
    subst hc
    rw [hd] at h1
    simpa using h1.symm
theorem bef_all (l : List UInt8) (h : has46 l = false) : bef46 l = l := by
  have h1 := List.takeWhile_append_dropWhile (p := (· != (46 : UInt8))) (l := l)
  unfold has46 at h
  have : l.dropWhile (· != 46) = [] := by simpa using h
  rw [this, List.append_nil] at h1
  exact h1
theorem idxByte_any (s : ByteArray) (w : World) : Calls Tryz.prog 140 #[.string s, .int .u8 46] w fun e w' => e = .returned (.int .i64 (if has46 s.data.toList = true then ((bef46 s.data.toList).length : Int) else -1)) ∧ w' = w :=
  (Tryz.stringslite_IndexByte s 46 w).mono fun e w' ⟨he, hw⟩ => ⟨by rw [he, ← idx46]; rfl, hw⟩
theorem index_any (s : ByteArray) (w : World) : Calls Tryz.prog 115 #[.string s, .string ⟨#[46]⟩] w fun e w' => e = .returned (.int .i64 (if has46 s.data.toList = true then ((bef46 s.data.toList).length : Int) else -1)) ∧ Bel w w' := by
  have c1 := Lib.hid fun w => idxByte_any s w
  by_cases h : s = ⟨#[46]⟩
  · subst h
    have k1 : ([46] == (⟨#[46]⟩ : ByteArray).toList) = true := by rw [ByteArray.toList_eq]; decide
    have hv : Hid ((if has46 ((⟨#[46]⟩ : ByteArray).data.toList) = true then ((bef46 ((⟨#[46]⟩ : ByteArray).data.toList)).length : Int) else -1) = 0) := by
      show _ = _
      decide
    rw [hv.out]
    set_option maxRecDepth 100000 in
    go_enter Tryz.func115, Tryz.ntmps115
    set_option maxRecDepth 100000 in
    go_wp2_with (go_at_call 140; refine (c1.out _).mono ?_; rintro e W1 ⟨rfl, rfl⟩)
    go_ret
    exact ⟨rfl, Bel.refl _⟩
  · have k1 : ([46] == s.toList) = false := by
      rw [Bool.eq_false_iff]
      intro h2
      rw [beq_iff_eq] at h2
      exact h ((toList_inj s ⟨#[46]⟩).1 (by rw [← h2, ByteArray.toList_eq]))
    generalize (if has46 s.data.toList = true then ((bef46 s.data.toList).length : Int) else -1) = v at *
    clear h
    set_option maxRecDepth 100000 in
    go_enter Tryz.func115, Tryz.ntmps115
    set_option maxRecDepth 100000 in
    go_wp2_with (go_at_call 140; refine (c1.out _).mono ?_; rintro e W1 ⟨rfl, rfl⟩)
    go_ret
    exact ⟨rfl, Bel.refl _⟩
set_option maxRecDepth 100000 in
set_option maxHeartbeats 2000000 in
theorem cut_any (s : ByteArray) (hsz : s.size ≤ 9223372036854775807) (w : World) : Calls Tryz.prog 61 #[.string s, .string ⟨#[46]⟩] w fun e w' =>
    e = .returned (.tuple #[.string ⟨(bef46 s.data.toList).toArray⟩, .string ⟨(aft46 s.data.toList).toArray⟩, .bool (has46 s.data.toList)]) ∧ Bel w w' := by
  have c1 := index_any s
  have inner : ∀ w, Calls Tryz.prog 87 #[.string s, .string ⟨#[46]⟩] w fun e w' =>
      e = .returned (.tuple #[.string ⟨(bef46 s.data.toList).toArray⟩, .string ⟨(aft46 s.data.toList).toArray⟩, .bool (has46 s.data.toList)]) ∧ Bel w w' := by
    intro w
    cases h : has46 s.data.toList with
    | false =>
      rw [h] at c1
      have C1 := Lib.hid c1
      have hv : Hid ((⟨(bef46 s.data.toList).toArray⟩ : ByteArray) = s ∧ (aft46 s.data.toList) = []) := ⟨by rw [bef_all _ h], by
        unfold has46 at h
        unfold aft46
        have : s.data.toList.dropWhile (· != 46) = [] := by simpa using h
        rw [this]; rfl⟩
      clear c1 h
      rw [hv.out.1, hv.out.2]
      go_enter Tryz.func87, Tryz.ntmps87
      go_wp2_with (go_at_call 115; refine (C1.out _).mono ?_; rintro e W1 ⟨rfl, hb1⟩)
      go_ret3
      exact ⟨rfl, hb1⟩
    | true =>
      rw [h] at c1
      have hba := bef_aft _ h
      obtain ⟨i, hi⟩ : ∃ i, i = (bef46 s.data.toList).length := ⟨_, rfl⟩
      have C1 := Lib.hid (show ∀ w, Calls Tryz.prog 115 #[.string s, .string ⟨#[46]⟩] w fun e w' => e = .returned (.int .i64 (i : Int)) ∧ Bel w w' by rw [hi]; exact c1)
      have hlen : s.size = i + 1 + (aft46 s.data.toList).length := by
        have h2 := congrArg List.length hba
        rw [List.length_append, List.length_cons, Array.length_toList] at h2
        rw [hi]
        show s.data.size = _
        omega
      have hv1 : Hid (s.extract 0 i = ⟨(bef46 s.data.toList).toArray⟩) := by
        refine ByteArray.ext ?_
        rw [ByteArray.data_extract]
        apply Array.toList_inj.1
        rw [Array.toList_extract]
        conv => lhs; rw [hba]
        simp [hi]
      have hv2 : Hid (s.extract (i + 1) s.size = ⟨(aft46 s.data.toList).toArray⟩) := by
        refine ByteArray.ext ?_
        rw [ByteArray.data_extract]
        apply Array.toList_inj.1
        rw [Array.toList_extract]
        conv => lhs; rw [hba]
        rw [hlen, hi]
        simp
      have i1 : i + 1 ≤ s.size := by omega
      have i2 : (i : Int) + 1 ≤ s.size := by omega
      have i3 : (i : Int) ≤ s.size := by omega
      have i4 : (0 : Int) ≤ (i : Int) := by omega
      have w1 : IntKind.i64.wrap ((i : Int) + 1) = (i : Int) + 1 := by rw [IntKind.wrap_i64]; omega
      have i5 : ((i : Int) + 1).toNat = i + 1 := by omega
      clear c1 h hba hi hlen
      go_enter Tryz.func87, Tryz.ntmps87
      go_wp2_with (go_at_call 115; refine (C1.out _).mono ?_; rintro e W1 ⟨rfl, hb1⟩)
      go_region
      all_goals
        go_wp2
        go_ret3
        exact ⟨by rw [hv1.out, hv2.out]; rfl, hb1.drew⟩
  have IN := Lib.hid inner
  clear inner c1
  go_enter Tryz.func61, Tryz.ntmps61
  go_wp2_with (go_at_call 87; refine (IN.out _).mono ?_; rintro e W1 ⟨rfl, hb1⟩)
  go_ret3
  exact ⟨rfl, hb1⟩
def dB (c : UInt8) : Bool := decide (48 ≤ c.toNat ∧ c.toNat ≤ 57)
def dOk (l : List UInt8) : Bool := l.all dB
def digB (l : List UInt8) : Bool := dOk l && !l.isEmpty
theorem digB_no {l : List UInt8} (h : dOk l = false) : digB l = false := by rw [digB, h]; rfl
theorem dOk_no (l : List UInt8) (k : Nat) (h : k < l.length) (hf : dB l[k] = false) : dOk l = false := all_false _ _ _ h hf
set_option maxHeartbeats 800000 in
theorem digits_any (s : ByteArray) (hsz : s.size ≤ 9223372036854775807) (w : World) : Calls Tryz.prog 81 #[.string s] w fun e w' => e = .returned (.bool (digB s.data.toList)) ∧ Bel w w' := by
  go_enter Tryz.func81, Tryz.ntmps81
  go_wp2
  go_loop [6] (fun i => ∃ k : Nat, k ≤ s.size ∧ i = .int .i64 k ∧ Hid ((s.data.toList.take k).all dB = true)) (fun i => s.size - (intOf i).toNat)
  case atStart => exact ⟨0, Nat.zero_le _, rfl, rfl⟩
  case round =>
    obtain ⟨k, hk, rfl, hh⟩ := hrel
    by_cases hlt : k < s.size
    · have hlt' : k < s.data.toList.length := by rw [Array.length_toList]; exact hlt
      have hg : s.data.toList[k] = s[k] := rfl
      have HO := Lib.hid (all_take_succ dB s.data.toList k hlt')
      have HN := Lib.hid (dOk_no s.data.toList k hlt')
      rw [hg] at HO HN
      by_cases h1 : 48 ≤ s[k].toNat
      · have b1 : decide ((s[k].toNat : Int) < 48) = false := by simp; omega
        by_cases h2 : s[k].toNat ≤ 57
        · have b2 : decide (57 < (s[k].toNat : Int)) = false := by simp; omega
          have HB := Lib.hid (show dB s[k] = true by simp [dB, h1, h2])
          clear h1 h2 hg
          go_wp2
          go_round
          case rel => exact ⟨k + 1, by omega, by go_num, by rw [Hid, HO.out, hh.out, HB.out]; rfl⟩
          case measure => simp [intOf]; omega
        · have b2 : decide (57 < (s[k].toNat : Int)) = true := by simp; omega
          have HB := Lib.hid (digB_no (HN.out (by simp [dB]; omega)))
          clear h1 h2 hg
          go_wp2
          go_ret
          exact ⟨by rw [HB.out]; rfl, Bel.refl _⟩
      · have b1 : decide ((s[k].toNat : Int) < 48) = true := by simp; omega
        have HB := Lib.hid (digB_no (HN.out (by simp [dB]; omega)))
        clear h1 hg
        go_wp2
        go_ret
        exact ⟨by rw [HB.out]; rfl, Bel.refl _⟩
    · have HD := Lib.hid (show dOk s.data.toList = true by
        have h := hh.out
        rw [List.take_of_length_le (by rw [Array.length_toList]; show s.size ≤ k; omega)] at h
        exact h)
      have HE : Hid ((!s.toList.isEmpty) = digB s.data.toList) := by rw [Hid, digB, HD.out, ByteArray.toList_eq]; rfl
      go_wp2
      go_ret
      exact ⟨by rw [← HE.out]; rfl, Bel.refl _⟩
def trimR (l : List UInt8) : List UInt8 := Lib.trimRightB l 48
def numL (l : List UInt8) : Nat := l.foldl (fun a c => a * 10 + (c.toNat - 48)) 0
theorem fold_bd (l : List UInt8) : ∀ a, dOk l = true → l.foldl (fun a c => a * 10 + (c.toNat - 48)) a + 1 ≤ (a + 1) * 10 ^ l.length := by
  induction l with
  | nil => intro a _; simp
  | cons c r ih =>
    intro a h
    simp only [dOk, List.all_cons, Bool.and_eq_true] at h
    have hc := h.1
    simp only [dB, decide_eq_true_eq] at hc
    have := ih (a * 10 + (c.toNat - 48)) h.2
    simp only [List.foldl_cons, List.length_cons, Nat.pow_succ]
    refine Nat.le_trans this ?_
    have h2 : a * 10 + (c.toNat - 48) + 1 ≤ (a + 1) * 10 := by omega
    calc (a * 10 + (c.toNat - 48) + 1) * 10 ^ r.length ≤ ((a + 1) * 10) * 10 ^ r.length := Nat.mul_le_mul_right _ h2
      _ = (a + 1) * (10 ^ r.length * 10) := by rw [Nat.mul_assoc, Nat.mul_comm 10]
theorem numL_bd (l : List UInt8) (h : dOk l = true) (hl : l.length ≤ 18) : numL l < 1000000000000000000 := by
  have := fold_bd l 0 h
  have h2 : 10 ^ l.length ≤ 10 ^ 18 := Nat.pow_le_pow_right (by omega) hl
  unfold numL
  omega
theorem decFrom_num (l : List UInt8) : ∀ a, dOk l = true → Lib.decFrom a l = some (l.foldl (fun a c => a * 10 + (c.toNat - 48)) a) := by
  induction l with
  | nil => intro a _; rfl
  | cons c r ih =>
    intro a h
    simp only [dOk, List.all_cons, Bool.and_eq_true] at h
    have hc := h.1
    simp only [dB, decide_eq_true_eq] at hc
    have hv : Lib.digitVal c = some (c.toNat - 48) := if_pos hc
    rw [List.foldl_cons, ← ih _ h.2]
    simp only [Lib.decFrom, hv]
theorem atoi_num (l : List UInt8) (h : digB l = true) : Lib.atoi l = some ((numL l : Nat) : Int) := by
  unfold digB at h
  rw [Bool.and_eq_true] at h
  obtain ⟨h1, h2⟩ := h
  cases l with
  | nil => cases h2
  | cons c r =>
    have hc : dB c = true := by simp [dOk] at h1; exact h1.1
    simp only [dB, decide_eq_true_eq] at hc
    have n1 : (c == 45) = false := by
      rw [beq_eq_false_iff_ne]
      rintro rfl
      simp at hc
    have n2 : (c == 43) = false := by
      rw [beq_eq_false_iff_ne]
      rintro rfl
      simp at hc
    unfold Lib.atoi
    simp only [n1, n2, Bool.false_eq_true, if_false]
    unfold Lib.decNat
    simp only [List.isEmpty_cons, Bool.false_eq_true, if_false]
    rw [decFrom_num _ _ h1]
    rfl
theorem dOk_app (a b : List UInt8) : dOk (a ++ b) = (dOk a && dOk b) := by simp [dOk]
theorem trimR_ok (l : List UInt8) (h : dOk l = true) : dOk (trimR l) = true := by
  simp only [dOk, List.all_eq_true] at h ⊢
  intro x hx
  refine h x ?_
  unfold trimR Lib.trimRightB at hx
  rw [List.mem_reverse] at hx
  have := (List.dropWhile_suffix (p := (· == (48 : UInt8))) (l := l.reverse)).subset hx
  exact List.mem_reverse.1 this
theorem aft_none (l : List UInt8) (h : has46 l = false) : aft46 l = [] := by
  unfold has46 at h
  unfold aft46
  have : l.dropWhile (· != 46) = [] := by simpa using h
  rw [this]; rfl
/-- What a whole part and a part behind the point are. -/
def partsV (mn : Bool) (W P : List UInt8) (pt : Bool) : Value :=
  if digB W = false ∨ (1 < W.length ∧ W[0]? = some 48) ∨ (pt = true ∧ digB P = false) then errV 5
  else if 12 < W.length ∨ 6 < (trimR P).length then errV 3
  else decV (mn && decide (0 < numL (W ++ trimR P))) (numL (W ++ trimR P)) (trimR P).length
def parseV (l : List UInt8) : Value :=
  partsV (Lib.hasPrefix l [45]) (bef46 (Lib.trimPrefix l [45])) (aft46 (Lib.trimPrefix l [45])) (has46 (Lib.trimPrefix l [45]))
theorem idx0 {W : ByteArray} (h : 0 < W.size) : W.data.toList[0]? = some (W[0]'h) := by
  rw [List.getElem?_eq_getElem (by rw [Array.length_toList]; exact h)]; rfl
theorem u8_eq48 {b : UInt8} : ((b.toNat : Int) == 48) = decide (b = 48) := by
  rw [Bool.eq_iff_iff]
  simp only [beq_iff_eq, decide_eq_true_eq]
  constructor
  · intro h
    exact UInt8.toNat_inj.mp (by have : b.toNat = 48 := by omega
                                 rw [this]; rfl)
  · rintro rfl; rfl
/-- Where the text is no number. -/
theorem parse_bad (s B W P : ByteArray) (mn pt : Bool)
    (c1 : ∀ w, Calls Tryz.prog 60 #[.string s, .string ⟨#[45]⟩] w fun e w' => e = .returned (.tuple #[.string B, .bool mn]) ∧ w' = w)
    (c2 : ∀ w, Calls Tryz.prog 61 #[.string B, .string ⟨#[46]⟩] w fun e w' => e = .returned (.tuple #[.string W, .string P, .bool pt]) ∧ Bel w w')
    (hW : W.size ≤ 9223372036854775807) (hP : P.size ≤ 9223372036854775807)
    (hbad : digB W.data.toList = false ∨ (digB W.data.toList = true ∧ 1 < W.size ∧ W.data.toList[0]? = some 48) ∨ (digB W.data.toList = true ∧ ¬ (1 < W.size ∧ W.data.toList[0]? = some 48) ∧ pt = true ∧ digB P.data.toList = false)) (w : World) :
    Calls Tryz.prog 58 #[.string s] w fun e w' => e = .returned (errV 5) ∧ Bel w w' := by
  have C1 := Lib.hid c1
  have C2 := Lib.hid c2
  have d1 := Lib.hid fun w => digits_any W hW w
  have d2 := Lib.hid fun w => digits_any P hP w
  clear c1 c2 hP
  rcases hbad with h | ⟨h, h2, h3⟩ | ⟨h, h2, rfl, h4⟩
  · rw [h] at d1
    clear h
    set_option maxRecDepth 100000 in
    go_enter Tryz.func58, Tryz.ntmps58
    go_wp2_with fail
    refine under_call ((Bel.refl w).alloc _) fun W0 hc hf hz hb => ?_
    have hR : Sl2 W0 w.heap.size 0 0 := by simp [Sl2, Arr2, Fr2, hz, hc, hf, go_sem]
    clear hc hf hz
    set_option maxRecDepth 100000 in
    go_wp2_with (first
      | (go_at_call 60; refine (C1.out _).mono ?_; rintro e W1 ⟨rfl, rfl⟩)
      | (go_at_call 61; refine (C2.out _).mono ?_; rintro e W2 ⟨rfl, hb1⟩; replace hR := hR.keep hb1; replace hb := hb.trans hb1; clear hb1)
      | (go_at_call_of 81 (Value.string W); refine (d1.out _).mono ?_; rintro e W3 ⟨rfl, hb1⟩; replace hR := hR.keep hb1; replace hb := hb.trans hb1; clear hb1))
    refine bodyPost_ret (by simp [results, Tryz.results58, go_sem, hR]; try rfl) rfl ⟨rfl, ?_⟩
    (repeat (first | with_reducible exact Bel.refl _ | with_reducible refine Bel.setCell ?_ (by first | exact Nat.le_refl _ | (dsimp only; omega)) _ | with_reducible refine Bel.alloc ?_ _ | with_reducible refine Bel.drew ?_ | with_reducible assumption | with_reducible refine Bel.trans ?_ (by assumption)))
  · rw [h] at d1
    have h0 : 0 < W.size := by omega
    have hx : (((W[0]'h0).toNat : Int) == 48) = true := by
      rw [u8_eq48]
      rw [idx0 h0] at h3
      simpa using h3
    have i1 : (1 : Int) < W.size := by omega
    clear h h3
    set_option maxRecDepth 100000 in
    go_enter Tryz.func58, Tryz.ntmps58
    go_wp2_with fail
    refine under_call ((Bel.refl w).alloc _) fun W0 hc hf hz hb => ?_
    have hR : Sl2 W0 w.heap.size 0 0 := by simp [Sl2, Arr2, Fr2, hz, hc, hf, go_sem]
    clear hc hf hz
    set_option maxRecDepth 100000 in
    go_wp2_with (first
      | (go_at_call 60; refine (C1.out _).mono ?_; rintro e W1 ⟨rfl, rfl⟩)
      | (go_at_call 61; refine (C2.out _).mono ?_; rintro e W2 ⟨rfl, hb1⟩; replace hR := hR.keep hb1; replace hb := hb.trans hb1; clear hb1)
      | (go_at_call_of 81 (Value.string W); refine (d1.out _).mono ?_; rintro e W3 ⟨rfl, hb1⟩; replace hR := hR.keep hb1; replace hb := hb.trans hb1; clear hb1))
    refine bodyPost_ret (by simp [results, Tryz.results58, go_sem, hR]; try rfl) rfl ⟨rfl, ?_⟩
    (repeat (first | with_reducible exact Bel.refl _ | with_reducible refine Bel.setCell ?_ (by first | exact Nat.le_refl _ | (dsimp only; omega)) _ | with_reducible refine Bel.alloc ?_ _ | with_reducible refine Bel.drew ?_ | with_reducible assumption | with_reducible refine Bel.trans ?_ (by assumption)))
  · rw [h] at d1
    rw [h4] at d2
    by_cases h1 : 1 < W.size
    · have h0 : 0 < W.size := by omega
      have hx : (((W[0]'h0).toNat : Int) == 48) = false := by
        rw [u8_eq48, decide_eq_false_iff_not]
        intro hh
        exact h2 ⟨h1, by rw [idx0 h0, hh]⟩
      have i1 : (1 : Int) < W.size := by omega
      clear h h2 h4
      set_option maxRecDepth 100000 in
      go_enter Tryz.func58, Tryz.ntmps58
      go_wp2_with fail
      refine under_call ((Bel.refl w).alloc _) fun W0 hc hf hz hb => ?_
      have hR : Sl2 W0 w.heap.size 0 0 := by simp [Sl2, Arr2, Fr2, hz, hc, hf, go_sem]
      clear hc hf hz
      set_option maxRecDepth 100000 in
      go_wp2_with (first
        | (go_at_call 60; refine (C1.out _).mono ?_; rintro e W1 ⟨rfl, rfl⟩)
        | (go_at_call 61; refine (C2.out _).mono ?_; rintro e W2 ⟨rfl, hb1⟩; replace hR := hR.keep hb1; replace hb := hb.trans hb1; clear hb1)
        | (go_at_call_of 81 (Value.string W); refine (d1.out _).mono ?_; rintro e W3 ⟨rfl, hb1⟩; replace hR := hR.keep hb1; replace hb := hb.trans hb1; clear hb1)
        | (go_at_call_of 81 (Value.string P); refine (d2.out _).mono ?_; rintro e W4 ⟨rfl, hb1⟩; replace hR := hR.keep hb1; replace hb := hb.trans hb1; clear hb1))
      refine bodyPost_ret (by simp [results, Tryz.results58, go_sem, hR]; try rfl) rfl ⟨rfl, ?_⟩
      (repeat (first | with_reducible exact Bel.refl _ | with_reducible refine Bel.setCell ?_ (by first | exact Nat.le_refl _ | (dsimp only; omega)) _ | with_reducible refine Bel.alloc ?_ _ | with_reducible refine Bel.drew ?_ | with_reducible assumption | with_reducible refine Bel.trans ?_ (by assumption)))
    · have i1 : ¬ (1 : Int) < W.size := by omega
      have i2 : decide (1 < W.size) = false := by simpa using h1
      clear h h2 h4
      set_option maxRecDepth 100000 in
      go_enter Tryz.func58, Tryz.ntmps58
      go_wp2_with fail
      refine under_call ((Bel.refl w).alloc _) fun W0 hc hf hz hb => ?_
      have hR : Sl2 W0 w.heap.size 0 0 := by simp [Sl2, Arr2, Fr2, hz, hc, hf, go_sem]
      clear hc hf hz
      set_option maxRecDepth 100000 in
      go_wp2_with (first
        | (go_at_call 60; refine (C1.out _).mono ?_; rintro e W1 ⟨rfl, rfl⟩)
        | (go_at_call 61; refine (C2.out _).mono ?_; rintro e W2 ⟨rfl, hb1⟩; replace hR := hR.keep hb1; replace hb := hb.trans hb1; clear hb1)
        | (go_at_call_of 81 (Value.string W); refine (d1.out _).mono ?_; rintro e W3 ⟨rfl, hb1⟩; replace hR := hR.keep hb1; replace hb := hb.trans hb1; clear hb1)
        | (go_at_call_of 81 (Value.string P); refine (d2.out _).mono ?_; rintro e W4 ⟨rfl, hb1⟩; replace hR := hR.keep hb1; replace hb := hb.trans hb1; clear hb1))
      refine bodyPost_ret (by simp [results, Tryz.results58, go_sem, hR]; try rfl) rfl ⟨rfl, ?_⟩
      (repeat (first | with_reducible exact Bel.refl _ | with_reducible refine Bel.setCell ?_ (by first | exact Nat.le_refl _ | (dsimp only; omega)) _ | with_reducible refine Bel.alloc ?_ _ | with_reducible refine Bel.drew ?_ | with_reducible assumption | with_reducible refine Bel.trans ?_ (by assumption)))
set_option maxRecDepth 100000 in
set_option maxHeartbeats 1000000 in
/-- Where it is one, or would be one of too many digits. -/
theorem parse_good (s B W P T : ByteArray) (mn pt : Bool)
    (c1 : ∀ w, Calls Tryz.prog 60 #[.string s, .string ⟨#[45]⟩] w fun e w' => e = .returned (.tuple #[.string B, .bool mn]) ∧ w' = w)
    (c2 : ∀ w, Calls Tryz.prog 61 #[.string B, .string ⟨#[46]⟩] w fun e w' => e = .returned (.tuple #[.string W, .string P, .bool pt]) ∧ Bel w w')
    (hW : W.size ≤ 9223372036854775807) (hP : P.size ≤ 9223372036854775807)
    (hd : digB W.data.toList = true) (hz0 : ¬ (1 < W.size ∧ W.data.toList[0]? = some 48)) (hpt : pt = true → digB P.data.toList = true)
    (c3 : ∀ w, Calls Tryz.prog 82 #[.string P, .string ⟨#[48]⟩] w fun e w' => e = .returned (.string T) ∧ w' = w)
    (V : Value)
    (hfin : (V = errV 3 ∧ (12 < W.size ∨ 6 < T.size)) ∨ (W.size ≤ 12 ∧ T.size ≤ 6 ∧ ∃ (m : Nat) (a b e : Int), m ≤ 1000000000000000000 ∧ V = .tuple #[decA a b, .int .i64 e] ∧
      (∀ w, Calls Tryz.prog 83 #[.string (W ++ T)] w fun e w' => e = .returned (.tuple #[.int .i64 (m : Int), .nilIface]) ∧ Bel w w') ∧
      (∀ w, Calls Tryz.prog 85 #[wideV (decide ((if mn = true then -(m : Int) else m) < 0)) 0 m 0 1 T.size] w fun e' w' => e' = .returned V ∧ Bel w w'))) (w : World) :
    Calls Tryz.prog 58 #[.string s] w fun e w' => e = .returned V ∧ Bel w w' := by
  have C1 := Lib.hid c1
  have C2 := Lib.hid c2
  have C3 := Lib.hid c3
  have d1 := fun w => digits_any W hW w
  rw [hd] at d1
  have D1 := Lib.hid d1
  have D2 := Lib.hid (show pt = true → ∀ w, Calls Tryz.prog 81 #[.string P] w fun e w' => e = .returned (.bool true) ∧ Bel w w' from fun h w => by have := digits_any P hP w; rw [hpt h] at this; exact this)
  have HX : Hid (∀ h0 : 0 < W.size, 1 < W.size → (((W[0]'h0).toNat : Int) == 48) = false) := fun h0 h1 => by
    rw [u8_eq48, decide_eq_false_iff_not]
    intro hh
    exact hz0 ⟨h1, by rw [idx0 h0, hh]⟩
  have HF := Lib.hid hfin
  clear c1 c2 c3 d1 hd hz0 hpt hP hfin
  go_enter Tryz.func58, Tryz.ntmps58
  go_wp2_with fail
  refine under_call ((Bel.refl w).alloc _) fun W0 hc hf hz hb => ?_
  have hR : Sl2 W0 w.heap.size 0 0 := by simp [Sl2, Arr2, Fr2, hz, hc, hf, go_sem]
  clear hc hf hz
  go_upto_region 3 with (first
    | (go_at_call 60; refine (C1.out _).mono ?_; rintro e W1 ⟨rfl, rfl⟩)
    | (go_at_call 61; refine (C2.out _).mono ?_; rintro e W2 ⟨rfl, hb1⟩; replace hR := hR.keep hb1; replace hb := hb.trans hb1; clear hb1))
  go_cut [42] (fun v wx => v = .bool false ∧ Sl2 wx w.heap.size 0 0 ∧ Bel w wx)
  case first =>
    clear HF
    by_cases h1 : 1 < W.size
    · have h0 : 0 < W.size := by omega
      have hx := HX.out h0 h1
      have i1 : (1 : Int) < W.size := by omega
      cases pt with
      | true =>
        have d2 := Lib.hid (D2.out rfl)
        clear D2
        go_wp2_with (first
          | (go_at_call_of 81 (Value.string W); refine (D1.out _).mono ?_; rintro e W3 ⟨rfl, hb1⟩; replace hR := hR.keep hb1; replace hb := hb.trans hb1; clear hb1)
          | (go_at_call_of 81 (Value.string P); refine (d2.out _).mono ?_; rintro e W4 ⟨rfl, hb1⟩; replace hR := hR.keep hb1; replace hb := hb.trans hb1; clear hb1))
        go_meet
        exact ⟨rfl, hR, hb⟩
      | false =>
        clear D2
        go_wp2_with (first
          | (go_at_call_of 81 (Value.string W); refine (D1.out _).mono ?_; rintro e W3 ⟨rfl, hb1⟩; replace hR := hR.keep hb1; replace hb := hb.trans hb1; clear hb1)
          | (go_at_call_of 81 (Value.string P); refine (d2.out _).mono ?_; rintro e W4 ⟨rfl, hb1⟩; replace hR := hR.keep hb1; replace hb := hb.trans hb1; clear hb1))
        go_meet
        exact ⟨rfl, hR, hb⟩
    · have i1 : ¬ (1 : Int) < W.size := by omega
      have i2 : decide (1 < W.size) = false := by simpa using h1
      cases pt with
      | true =>
        have d2 := Lib.hid (D2.out rfl)
        clear D2
        go_wp2_with (first
          | (go_at_call_of 81 (Value.string W); refine (D1.out _).mono ?_; rintro e W3 ⟨rfl, hb1⟩; replace hR := hR.keep hb1; replace hb := hb.trans hb1; clear hb1)
          | (go_at_call_of 81 (Value.string P); refine (d2.out _).mono ?_; rintro e W4 ⟨rfl, hb1⟩; replace hR := hR.keep hb1; replace hb := hb.trans hb1; clear hb1))
        go_meet
        exact ⟨rfl, hR, hb⟩
      | false =>
        clear D2
        go_wp2_with (first
          | (go_at_call_of 81 (Value.string W); refine (D1.out _).mono ?_; rintro e W3 ⟨rfl, hb1⟩; replace hR := hR.keep hb1; replace hb := hb.trans hb1; clear hb1)
          | (go_at_call_of 81 (Value.string P); refine (d2.out _).mono ?_; rintro e W4 ⟨rfl, hb1⟩; replace hR := hR.keep hb1; replace hb := hb.trans hb1; clear hb1))
        go_meet
        exact ⟨rfl, hR, hb⟩
  case rest =>
    obtain ⟨rfl, hR, hb⟩ := hcut
    clear D1 D2 HX C1 C2
    rcases HF.out with ⟨hV, hsz⟩ | ⟨h12, h6, m, a, b, e, hm, hV, ca, cd⟩
    · clear HF
      by_cases h12 : 12 < W.size
      · have k1 : (12 : Int) < W.size := by omega
        clear hsz h12
        go_wp2_with (go_at_call 82; refine (C3.out _).mono ?_; rintro e W1 ⟨rfl, rfl⟩)
        refine bodyPost_ret (by simp [results, Tryz.results58, go_sem, hR]; try rfl) rfl ⟨by rw [hV], ?_⟩
        (repeat (first | with_reducible exact Bel.refl _ | with_reducible refine Bel.setCell ?_ (by first | exact Nat.le_refl _ | (dsimp only; omega)) _ | with_reducible refine Bel.alloc ?_ _ | with_reducible refine Bel.drew ?_ | with_reducible assumption | with_reducible refine Bel.trans ?_ (by assumption)))
      · have k1 : ¬ (12 : Int) < W.size := by omega
        have k2 : (6 : Int) < T.size := by omega
        clear hsz h12
        go_wp2_with (go_at_call 82; refine (C3.out _).mono ?_; rintro e W1 ⟨rfl, rfl⟩)
        refine bodyPost_ret (by simp [results, Tryz.results58, go_sem, hR]; try rfl) rfl ⟨by rw [hV], ?_⟩
        (repeat (first | with_reducible exact Bel.refl _ | with_reducible refine Bel.setCell ?_ (by first | exact Nat.le_refl _ | (dsimp only; omega)) _ | with_reducible refine Bel.alloc ?_ _ | with_reducible refine Bel.drew ?_ | with_reducible assumption | with_reducible refine Bel.trans ?_ (by assumption)))
    · have k1 : ¬ (12 : Int) < W.size := by omega
      have k2 : ¬ (6 : Int) < T.size := by omega
      have k3 : ¬ 9223372036854775807 < W.size + T.size := by omega
      have CA := Lib.hid ca
      have i3 : (m : Int) ≤ 1000000000000000000 := by omega
      subst hV
      clear ca h12 h6 hm
      clear HF
      cases mn with
      | true =>
        have cw := Lib.hid fun w => wideOf_any (-(m : Int)) T.size ⟨by omega, by omega⟩ w
        rw [show (-(m : Int)).natAbs = m by omega] at cw
        have CD := Lib.hid cd
        simp only [if_true] at CD
        obtain ⟨d, hd⟩ : ∃ d, d = decide (-(m : Int) < 0) := ⟨_, rfl⟩
        rw [← hd] at cw CD
        clear cd hd
        go_wp2_with (first
          | (go_at_call 82; refine (C3.out _).mono ?_; rintro e W1 ⟨rfl, rfl⟩)
          | (go_at_call 83; refine (CA.out _).mono ?_; rintro e W2 ⟨rfl, hb1⟩; replace hR := hR.keep hb1; replace hb := hb.trans hb1; clear hb1)
          | (go_at_call 84; refine (cw.out _).mono ?_; rintro e W3 ⟨rfl, hb1⟩; replace hR := hR.keep hb1; replace hb := hb.trans hb1; clear hb1)
          | (go_at_call 85; refine (CD.out _).mono ?_; rintro e W4 ⟨rfl, hb1⟩; replace hR := hR.keep hb1; replace hb := hb.trans hb1; clear hb1))
        refine bodyPost_ret (by simp [results, Tryz.results58, go_sem, hR]; try rfl) rfl ⟨rfl, ?_⟩
        (repeat (first | with_reducible exact Bel.refl _ | with_reducible refine Bel.setCell ?_ (by first | exact Nat.le_refl _ | (dsimp only; omega)) _ | with_reducible refine Bel.alloc ?_ _ | with_reducible refine Bel.drew ?_ | with_reducible assumption | with_reducible refine Bel.trans ?_ (by assumption)))
      | false =>
        have cw := Lib.hid fun w => wideOf_any (m : Int) T.size ⟨by omega, by omega⟩ w
        rw [show ((m : Int)).natAbs = m by omega] at cw
        have CD := Lib.hid cd
        simp only [Bool.false_eq_true, if_false] at CD
        obtain ⟨d, hd⟩ : ∃ d, d = decide ((m : Int) < 0) := ⟨_, rfl⟩
        rw [← hd] at cw CD
        clear cd hd
        go_wp2_with (first
          | (go_at_call 82; refine (C3.out _).mono ?_; rintro e W1 ⟨rfl, rfl⟩)
          | (go_at_call 83; refine (CA.out _).mono ?_; rintro e W2 ⟨rfl, hb1⟩; replace hR := hR.keep hb1; replace hb := hb.trans hb1; clear hb1)
          | (go_at_call 84; refine (cw.out _).mono ?_; rintro e W3 ⟨rfl, hb1⟩; replace hR := hR.keep hb1; replace hb := hb.trans hb1; clear hb1)
          | (go_at_call 85; refine (CD.out _).mono ?_; rintro e W4 ⟨rfl, hb1⟩; replace hR := hR.keep hb1; replace hb := hb.trans hb1; clear hb1))
        refine bodyPost_ret (by simp [results, Tryz.results58, go_sem, hR]; try rfl) rfl ⟨rfl, ?_⟩
        (repeat (first | with_reducible exact Bel.refl _ | with_reducible refine Bel.setCell ?_ (by first | exact Nat.le_refl _ | (dsimp only; omega)) _ | with_reducible refine Bel.alloc ?_ _ | with_reducible refine Bel.drew ?_ | with_reducible assumption | with_reducible refine Bel.trans ?_ (by assumption)))
theorem atoi_t (l : List UInt8) (h : digB l = true) (hl : l.length ≤ 18) (w : World) : Calls Tryz.prog 83 #[.string ⟨l.toArray⟩] w fun e w' => e = .returned (.tuple #[.int .i64 (numL l : Int), .nilIface]) ∧ Bel w w' :=
  (Tryz.strconv_Atoi ⟨l.toArray⟩ (numL l) (by simpa [ByteArray.size] using hl) (by simpa using atoi_num l h) w).mono fun e w' ⟨he, t, hw⟩ => ⟨he, by rw [hw]; exact Lib.bytesWorld_below _ _ _⟩
theorem digB_app {a b : List UInt8} (h : digB a = true) (h2 : dOk b = true) : digB (a ++ b) = true := by
  unfold digB at *
  rw [Bool.and_eq_true] at h
  rw [dOk_app, h.1, h2]
  cases a with
  | nil => exact absurd h.2 (by simp)
  | cons c r => rfl
theorem parse_any (s : ByteArray) (hs : s.size ≤ 9223372036854775807) (w : World) : Calls Tryz.prog 58 #[.string s] w fun e w' => e = .returned (parseV s.data.toList) ∧ Bel w w' := by
  have c1 := fun w => Tryz.strings_CutPrefix s ⟨#[45]⟩ w
  obtain ⟨L, hL⟩ : ∃ L, L = Lib.trimPrefix s.data.toList [45] := ⟨_, rfl⟩
  have hLl : L.length ≤ s.size := by
    rw [hL]
    unfold Lib.trimPrefix
    split
    · rw [List.length_drop, Array.length_toList]; show s.data.size - _ ≤ s.data.size; omega
    · rw [Array.length_toList]; exact Nat.le_refl _
  have hbl : (bef46 L).length + (aft46 L).length ≤ L.length := by
    cases h : has46 L with
    | true => have := congrArg List.length (bef_aft L h); simp at this; omega
    | false => rw [bef_all L h, aft_none L h]; simp
  have c2 := fun w => cut_any ⟨L.toArray⟩ (show L.toArray.size ≤ _ by simp; omega) w
  have c3 := fun w => Tryz.strings_TrimRight_one ⟨(aft46 L).toArray⟩ 48 (by decide) w (show (aft46 L).toArray.size ≤ _ by simp; omega)
  simp only [List.toList_toArray] at c2 c3
  have hv : parseV s.data.toList = partsV (Lib.hasPrefix s.data.toList [45]) (bef46 L) (aft46 L) (has46 L) := by rw [hL]; rfl
  rw [hv]
  have hc1 : ∀ w, Calls Tryz.prog 60 #[.string s, .string ⟨#[45]⟩] w fun e w' => e = .returned (.tuple #[.string ⟨L.toArray⟩, .bool (Lib.hasPrefix s.data.toList [45])]) ∧ w' = w := by rw [hL]; exact c1
  have szW : (⟨(bef46 L).toArray⟩ : ByteArray).size = (bef46 L).length := by simp [ByteArray.size]
  have szT : (⟨(trimR (aft46 L)).toArray⟩ : ByteArray).size = (trimR (aft46 L)).length := by simp [ByteArray.size]
  by_cases hbad : digB (bef46 L) = false ∨ (1 < (bef46 L).length ∧ (bef46 L)[0]? = some 48) ∨ (has46 L = true ∧ digB (aft46 L) = false)
  · rw [show partsV _ _ _ _ = _ from if_pos hbad]
    refine parse_bad s ⟨L.toArray⟩ ⟨(bef46 L).toArray⟩ ⟨(aft46 L).toArray⟩ _ _ hc1 c2 (by rw [szW]; omega) (show (aft46 L).toArray.size ≤ _ by simp; omega) ?_ w
    rw [szW]
    show digB (bef46 L) = false ∨ (digB (bef46 L) = true ∧ 1 < (bef46 L).length ∧ (bef46 L)[0]? = some 48) ∨ (digB (bef46 L) = true ∧ ¬ (1 < (bef46 L).length ∧ (bef46 L)[0]? = some 48) ∧ has46 L = true ∧ digB (aft46 L) = false)
    cases h1 : digB (bef46 L)
    · exact .inl rfl
    · by_cases h2 : 1 < (bef46 L).length ∧ (bef46 L)[0]? = some 48
      · exact .inr (.inl ⟨rfl, h2⟩)
      · rcases hbad with h | h | h
        · rw [h1] at h; cases h
        · exact absurd h h2
        · exact .inr (.inr ⟨rfl, h2, h⟩)
  · rw [show partsV _ _ _ _ = _ from if_neg hbad]
    have hd : digB (bef46 L) = true := by
      cases h : digB (bef46 L)
      · exact absurd (.inl h) hbad
      · rfl
    have hpk : dOk (trimR (aft46 L)) = true := by
      cases h : has46 L with
      | false => rw [aft_none L h]; rfl
      | true =>
        refine trimR_ok _ ?_
        cases h2 : digB (aft46 L)
        · exact absurd (.inr (.inr ⟨h, h2⟩)) hbad
        · unfold digB at h2; rw [Bool.and_eq_true] at h2; exact h2.1
    refine parse_good s ⟨L.toArray⟩ ⟨(bef46 L).toArray⟩ ⟨(aft46 L).toArray⟩ ⟨(trimR (aft46 L)).toArray⟩ _ _ hc1 c2 (by rw [szW]; omega) (show (aft46 L).toArray.size ≤ _ by simp; omega) hd
      (by rw [szW]; exact fun h => hbad (.inr (.inl h))) (fun h => by
        cases h2 : digB (aft46 L)
        · exact absurd (.inr (.inr ⟨h, h2⟩)) hbad
        · rfl) c3 _ ?_ w
    rw [szW, szT]
    by_cases hlen : 12 < (bef46 L).length ∨ 6 < (trimR (aft46 L)).length
    · exact .inl ⟨if_pos hlen, hlen⟩
    · right
      rw [if_neg hlen]
      have hdig := digB_app hd hpk
      have hl18 : (bef46 L ++ trimR (aft46 L)).length ≤ 18 := by rw [List.length_append]; omega
      have hnb := numL_bd _ (by have := hdig; unfold digB at this; rw [Bool.and_eq_true] at this; exact this.1) hl18
      obtain ⟨m, hm⟩ : ∃ m, m = numL (bef46 L ++ trimR (aft46 L)) := ⟨_, rfl⟩
      rw [← hm] at hnb ⊢
      obtain ⟨a, b, e, hsh⟩ := decV_sh (Lib.hasPrefix s.data.toList [45] && decide (0 < m)) m (trimR (aft46 L)).length
      refine ⟨by omega, by omega, m, a, b, e, by omega, hsh, fun w => ?_, fun w => ?_⟩
      · rw [app_bytes, hm]; exact atoi_t _ hdig hl18 w
      · have := dec_any (Lib.hasPrefix s.data.toList [45] && decide (0 < m)) m (trimR (aft46 L)).length (by unfold big128; omega) (by omega) w
        rw [wide0 (by omega)] at this
        have hb : decide ((if Lib.hasPrefix s.data.toList [45] = true then -(m : Int) else m) < 0) = (Lib.hasPrefix s.data.toList [45] && decide (0 < m)) := by
          cases Lib.hasPrefix s.data.toList [45]
          · simp
          · simp
        rw [hb]
        exact this
theorem rmake_loop (x : Nat) (c : Int) (hc : c = 1 ∨ c = -1) (s : Nat) (hx : x ≤ 999999999999) (hs : s ≤ 6) (w : World) :
    Calls Tryz.prog 103 #[.int .i64 (c * x), .int .i64 s] w fun e w' => e = .returned (.tuple #[decA (c * (trim x s).1) ((trim x s).2 : Nat), .int .i64 0]) ∧ Bel w w' := by
  have k1 : -999999999999 ≤ c * (x : Int) ∧ c * (x : Int) ≤ 999999999999 := by rcases hc with rfl | rfl <;> omega
  obtain ⟨k1, k2⟩ := k1
  have k3 : (s : Int) ≤ 6 := by omega
  have Hx := Lib.hid hx
  clear hx hs
  go_enter Tryz.func103, Tryz.ntmps103
  go_wp2_with fail
  go_loopg [0, 1] s (fun g n t wr => ∃ m' s' : Nat, n = .int .i64 (c * m') ∧ t = .int .i64 s' ∧ Hid (trim x s = trim m' s' ∧ m' ≤ x ∧ g = s') ∧ (s' : Int) ≤ 6 ∧ Sl2 wr w.heap.size 0 0 ∧ Bel w wr)
  case atStart => exact ⟨x, s, rfl, rfl, ⟨rfl, Nat.le_refl _, rfl⟩, k3, by simp [Sl2, Arr2, Fr2, go_sem], (Bel.refl w).alloc _⟩
  case round =>
    clear k1 k2 k3
    obtain ⟨m', s', rfl, rfl, hh, hs', hR, hb⟩ := hrel
    have hm : m' ≤ 999999999999 := Nat.le_trans hh.out.2.1 Hx.out
    have b1 : -999999999999 ≤ c * (m' : Int) := by rcases hc with rfl | rfl <;> omega
    have b2 : c * (m' : Int) ≤ 999999999999 := by rcases hc with rfl | rfl <;> omega
    have e1 : (c * (m' : Int)).tmod 10 = c * ((m' % 10 : Nat) : Int) := by
      rcases hc with rfl | rfl
      · rw [Int.one_mul, Int.one_mul]; rfl
      · rw [Int.neg_one_mul, Int.neg_tmod, Int.neg_one_mul]; rfl
    have e2 : (c * (m' : Int)).tdiv 10 = c * ((m' / 10 : Nat) : Int) := by
      rcases hc with rfl | rfl
      · rw [Int.one_mul, Int.one_mul]; rfl
      · rw [Int.neg_one_mul, Int.neg_tdiv, Int.neg_one_mul]; rfl
    have hc0 : c ≠ 0 := by rcases hc with rfl | rfl <;> decide
    by_cases h0 : (0 : Int) < s'
    · obtain ⟨j, hj⟩ : ∃ j, s' = j + 1 := ⟨s' - 1, by omega⟩
      by_cases hz : m' % 10 = 0
      · have e3 : ((c * (m' : Int)).tmod 10 == 0) = true := by rw [e1, hz]; simp
        have e4 : (c * (m' : Int)).tmod 10 = 0 := by rw [e1, hz]; simp
        have hnext : Hid (trim x s = trim (m' / 10) j ∧ m' / 10 ≤ x) := ⟨by rw [hh.out.1, hj, trim_step _ _ hz], Nat.le_trans (Nat.div_le_self _ _) hh.out.2.1⟩
        have E2 := Lib.hid e2
        have HJ := Lib.hid hj
        generalize c * (m' : Int) = z at *
        clear e1 e2 hz hj hm hc0
        go_wp2
        go_roundg j
        case measure => have := hh.out.2.2; have := HJ.out; omega
        case rel => exact ⟨m' / 10, j, by rw [← E2.out], by have := HJ.out; go_num, ⟨hnext.out.1, hnext.out.2, rfl⟩, by have := HJ.out; omega, hR, hb⟩
      · have e3 : ((c * (m' : Int)).tmod 10 == 0) = false := by
          rw [e1, beq_eq_false_iff_ne]
          intro h
          rcases Int.mul_eq_zero.1 h with h | h
          · exact hc0 h
          · omega
        have e4 : ¬ (c * (m' : Int)).tmod 10 = 0 := by simpa using e3
        have hfin : Hid (trim x s = (m', s')) := by rw [Hid, hh.out.1, trim_stop _ _ hz]
        have HZ := Lib.hid (show c * (m' : Int) = c * m' from rfl)
        clear e1 e2 hz hj hm hc0
        go_wp2
        refine bodyPost_ret (by simp [results, Tryz.results103, go_sem, hR]; try rfl) rfl ⟨by (rw [hfin.out]) <;> rfl, ?_⟩
        (repeat (first | with_reducible exact Bel.refl _ | with_reducible refine Bel.setCell ?_ (by first | exact Nat.le_refl _ | (dsimp only; omega)) _ | with_reducible refine Bel.alloc ?_ _ | with_reducible refine Bel.drew ?_ | with_reducible assumption | with_reducible refine Bel.trans ?_ (by assumption)))
    · have hfin : Hid (trim x s = (m', s')) := by
        obtain rfl : s' = 0 := by omega
        rw [Hid, hh.out.1]; rfl
      clear e1 e2 hm hc0
      go_wp2
      refine bodyPost_ret (by simp [results, Tryz.results103, go_sem, hR]; try rfl) rfl ⟨by (rw [hfin.out]) <;> rfl, ?_⟩
      (repeat (first | with_reducible exact Bel.refl _ | with_reducible refine Bel.setCell ?_ (by first | exact Nat.le_refl _ | (dsimp only; omega)) _ | with_reducible refine Bel.alloc ?_ _ | with_reducible refine Bel.drew ?_ | with_reducible assumption | with_reducible refine Bel.trans ?_ (by assumption)))
theorem decV_ok (x : Bool) (m s : Nat) (h : m ≤ 999999999999) : decV x m s = .tuple #[decA (if x = true then -((trim m s).1 : Int) else (trim m s).1) ((trim m s).2 : Nat), .int .i64 0] := by
  have := (trim_le s m).1
  unfold decV
  rw [if_neg (by omega)]
theorem rmake_any (n s : Int) (w : World) : Calls Tryz.prog 103 #[.int .i64 n, .int .i64 s] w fun e w' => e = .returned (makeV n s) ∧ Bel w w' := by
  by_cases h : 0 ≤ s ∧ s ≤ 6 ∧ small n
  · rw [show makeV n s = _ from if_pos h]
    obtain ⟨h0, h6, h3, h4⟩ := h
    obtain ⟨k, rfl⟩ : ∃ k : Nat, s = k := ⟨s.toNat, by omega⟩
    rw [decV_ok _ _ _ (by omega), show ((k : Int)).toNat = k by omega]
    by_cases hn : n < 0
    · have := rmake_loop n.natAbs (-1) (.inr rfl) k (by omega) (by omega) w
      rw [show (-1 : Int) * (n.natAbs : Int) = n by omega] at this
      rw [show decide (n < 0) = true by simpa using hn, if_pos rfl]
      rw [Int.neg_one_mul] at this
      exact this
    · have := rmake_loop n.natAbs 1 (.inl rfl) k (by omega) (by omega) w
      rw [show (1 : Int) * (n.natAbs : Int) = n by omega] at this
      rw [show decide (n < 0) = false by simpa using hn, if_neg (by decide)]
      rw [Int.one_mul] at this
      exact this
  · rw [show makeV n s = _ from if_neg h]
    by_cases h0 : 0 ≤ s
    · by_cases h6 : s ≤ 6
      · by_cases h3 : n ≤ 999999999999
        · have h4 : n < -999999999999 := by
            rcases Int.lt_or_le n (-999999999999) with h4 | h4
            · exact h4
            · exact absurd ⟨h0, h6, h4, h3⟩ h
          have k1 : ¬ s < 0 := by omega
          have k2 : ¬ 6 < s := by omega
          have k3 : ¬ 999999999999 < n := by omega
          clear h h3 h0 h6
          go_enter Tryz.func103, Tryz.ntmps103
          go_wp2
          refine bodyPost_ret (by simp [results, Tryz.results103, go_sem]; try rfl) rfl ⟨rfl, ?_⟩
          (repeat (first | with_reducible exact Bel.refl _ | with_reducible refine Bel.setCell ?_ (by first | exact Nat.le_refl _ | (dsimp only; omega)) _ | with_reducible refine Bel.alloc ?_ _ | with_reducible refine Bel.drew ?_ | with_reducible assumption | with_reducible refine Bel.trans ?_ (by assumption)))
        · have k1 : ¬ s < 0 := by omega
          have k2 : ¬ 6 < s := by omega
          have k3 : 999999999999 < n := by omega
          clear h h3 h0 h6
          go_enter Tryz.func103, Tryz.ntmps103
          go_wp2
          refine bodyPost_ret (by simp [results, Tryz.results103, go_sem]; try rfl) rfl ⟨rfl, ?_⟩
          (repeat (first | with_reducible exact Bel.refl _ | with_reducible refine Bel.setCell ?_ (by first | exact Nat.le_refl _ | (dsimp only; omega)) _ | with_reducible refine Bel.alloc ?_ _ | with_reducible refine Bel.drew ?_ | with_reducible assumption | with_reducible refine Bel.trans ?_ (by assumption)))
      · have k1 : ¬ s < 0 := by omega
        have k2 : 6 < s := by omega
        clear h h0 h6
        go_enter Tryz.func103, Tryz.ntmps103
        go_wp2
        refine bodyPost_ret (by simp [results, Tryz.results103, go_sem]; try rfl) rfl ⟨rfl, ?_⟩
        (repeat (first | with_reducible exact Bel.refl _ | with_reducible refine Bel.setCell ?_ (by first | exact Nat.le_refl _ | (dsimp only; omega)) _ | with_reducible refine Bel.alloc ?_ _ | with_reducible refine Bel.drew ?_ | with_reducible assumption | with_reducible refine Bel.trans ?_ (by assumption)))
    · have k1 : s < 0 := by omega
      clear h h0
      go_enter Tryz.func103, Tryz.ntmps103
      go_wp2
      refine bodyPost_ret (by simp [results, Tryz.results103, go_sem]; try rfl) rfl ⟨rfl, ?_⟩
      (repeat (first | with_reducible exact Bel.refl _ | with_reducible refine Bel.setCell ?_ (by first | exact Nat.le_refl _ | (dsimp only; omega)) _ | with_reducible refine Bel.alloc ?_ _ | with_reducible refine Bel.drew ?_ | with_reducible assumption | with_reducible refine Bel.trans ?_ (by assumption)))
theorem trim_fix (m s : Nat) : (trim m s).1 = m ∧ (trim m s).2 = s ↔ (s = 0 ∨ m % 10 ≠ 0) := by
  cases s with
  | zero => simp [trim]
  | succ k =>
    by_cases h : m % 10 = 0
    · rw [trim_step _ _ h]
      have := (trim_le k (m / 10)).2
      constructor
      · intro hh; omega
      · rintro (hh | hh)
        · omega
        · exact absurd h hh
    · rw [trim_stop _ _ h]; simp [h]
theorem makeV_snd (n s : Int) : (∃ a b, makeV n s = .tuple #[decA a b, .int .i64 0] ∧ (((a == n) && (b == s)) = sndB n s)) ∨ (makeV n s = errV 3 ∧ sndB n s = false) := by
  by_cases h : 0 ≤ s ∧ s ≤ 6 ∧ small n
  · left
    obtain ⟨h0, h6, h3⟩ := h
    have h34 := h3
    obtain ⟨h3a, h4⟩ := h34
    rw [show makeV n s = _ from if_pos ⟨h0, h6, h3⟩, decV_ok _ _ _ (by omega)]
    refine ⟨_, _, rfl, ?_⟩
    have ht := trim_fix n.natAbs s.toNat
    have hle := trim_le s.toNat n.natAbs
    generalize trim n.natAbs s.toNat = p at *
    have e0 : sndB n s = true ↔ SndD n s := by simp [sndB]
    rw [Bool.eq_iff_iff, Bool.and_eq_true, beq_iff_eq, beq_iff_eq, e0]
    have e1 : n % 10 ≠ 0 ↔ n.natAbs % 10 ≠ 0 := by omega
    unfold SndD
    rw [e1]
    by_cases hn : n < 0
    · have hd : decide (n < 0) = true := by simpa using hn
      simp only [hd, if_true]
      constructor
      · rintro ⟨ha, hb⟩
        have := ht.1 ⟨by omega, by omega⟩
        refine ⟨h0, h6, h3, ?_⟩
        omega
      · rintro ⟨-, -, -, hh⟩
        have := ht.2 (by omega)
        omega
    · have hd : decide (n < 0) = false := by simpa using hn
      simp only [hd, Bool.false_eq_true, if_false]
      constructor
      · rintro ⟨ha, hb⟩
        have := ht.1 ⟨by omega, by omega⟩
        refine ⟨h0, h6, h3, ?_⟩
        omega
      · rintro ⟨-, -, -, hh⟩
        have := ht.2 (by omega)
        omega
  · exact .inr ⟨if_neg h, sndB_f fun hh => h ⟨hh.1, hh.2.1, hh.2.2.1⟩⟩
theorem rsound_any (n s : Int) (w : World) : Calls Tryz.prog 74 #[decA n s] w fun e w' => e = .returned (.bool (sndB n s)) ∧ Bel w w' := by
  have c1 := fun w => rmake_any n s w
  rcases makeV_snd n s with ⟨a, b, hm, hs⟩ | ⟨hm, hs⟩
  · rw [hm] at c1
    have C1 := Lib.hid c1
    have HS := Lib.hid hs
    clear c1 hm hs
    go_enter Tryz.func74, Tryz.ntmps74
    go_wp2_with fail
    refine under_call ((Bel.refl w).alloc _) fun W hc hf hz hb => ?_
    have hA : Sl2 W w.heap.size n s := by simp [Sl2, Arr2, Fr2, hz, hc, hf, go_sem]
    clear hc hf hz
    by_cases h1 : a = n
    · subst h1
      go_wp2_with (go_at_call 103; refine (C1.out _).mono ?_; rintro e W1 ⟨rfl, hb1⟩; replace hA := hA.keep hb1; replace hb := hb.trans hb1; have hlt := hA.1.1; clear hb1)
      go_ret
      exact ⟨by rw [← HS.out]; simp, hb.alloc _⟩
    · have k1 : (a == n) = false := by simpa using h1
      have hv : Hid (sndB n s = false) := by rw [Hid, ← HS.out, k1]; rfl
      clear h1
      go_wp2_with (go_at_call 103; refine (C1.out _).mono ?_; rintro e W1 ⟨rfl, hb1⟩; replace hA := hA.keep hb1; replace hb := hb.trans hb1; have hlt := hA.1.1; clear hb1)
      go_ret
      exact ⟨by rw [hv.out]; rfl, hb.alloc _⟩
  · rw [hm] at c1
    rw [hs]
    have C1 := Lib.hid c1
    clear c1 hm hs
    go_enter Tryz.func74, Tryz.ntmps74
    go_wp2_with fail
    refine under_call ((Bel.refl w).alloc _) fun W hc hf hz hb => ?_
    have hA : Sl2 W w.heap.size n s := by simp [Sl2, Arr2, Fr2, hz, hc, hf, go_sem]
    clear hc hf hz
    go_wp2_with (go_at_call 103; refine (C1.out _).mono ?_; rintro e W1 ⟨rfl, hb1⟩; replace hA := hA.keep hb1; replace hb := hb.trans hb1; have hlt := hA.1.1; clear hb1)
    go_ret
    exact ⟨rfl, hb.alloc _⟩
/-- A block in which n numbers stand from o on, free for a store. -/
def DRow (w : World) (b o n : Nat) (f : Nat → Nat) : Prop :=
  b < w.heap.size ∧ ∀ i, i < n → w.cell? ⟨b, o + i, none⟩ = some (.int .i64 (f i : Nat)) ∧ w.frozen? ⟨b, o + i, none⟩ = false
theorem DRow.keep {w w' : World} {b o n : Nat} {f : Nat → Nat} (h : DRow w b o n f) (hb : Bel w w') : DRow w' b o n f :=
  ⟨Nat.lt_of_lt_of_le h.1 hb.size, fun i hi => ⟨(hb.cells _ _ h.1).trans (h.2 i hi).1, (hb.frozens _ _ h.1).trans (h.2 i hi).2⟩⟩
theorem DRow.ext {w : World} {b o n : Nat} {f g : Nat → Nat} (h : DRow w b o n f) (hfg : ∀ i, i < n → f i = g i) : DRow w b o n g :=
  ⟨h.1, fun i hi => ⟨by rw [← hfg i hi]; exact (h.2 i hi).1, (h.2 i hi).2⟩⟩
theorem DRow.at0 {w : World} {b n : Nat} {f : Nat → Nat} (h : DRow w b 0 n f) {i : Nat} (hi : i < n) : w.cell? ⟨b, i, none⟩ = some (.int .i64 (f i : Nat)) ∧ w.frozen? ⟨b, i, none⟩ = false := by
  have := h.2 i hi
  rwa [Nat.zero_add] at this
theorem DRow.put {w : World} {b n : Nat} {f : Nat → Nat} (h : DRow w b 0 n f) (k v : Nat) (hk : k < n) : DRow (w.setCell ⟨b, k, none⟩ (.int .i64 (v : Nat))) b 0 n (upd f k v) := by
  refine ⟨by have := h.1; simpa using this, fun i hi => ?_⟩
  rw [Nat.zero_add]
  obtain ⟨h1, h2⟩ := h.at0 hi
  obtain ⟨h3, h4⟩ := h.at0 hk
  by_cases he : i = k
  · subst he
    rw [upd_at]
    exact ⟨by simp [go_sem, h1], by simp [go_sem, h2]⟩
  · rw [upd_ne _ _ _ _ he]
    have he' : ¬ k = i := fun h => he h.symm
    exact ⟨by simp [go_sem, h1, he, he'], by simp [go_sem, h2, he, he']⟩
theorem Bel.drewN {a b : World} (h : Bel a b) (n : Nat) : Bel a (b.drewN n) := Bel.trans h ⟨rfl, rfl, rfl, Nat.le_refl _, fun _ _ => rfl⟩
theorem DRow.same {w W : World} {b o n : Nat} {f : Nat → Nat} (h : DRow w b o n f) (hc : ∀ p, W.cell? p = w.cell? p) (hf : ∀ p, W.frozen? p = w.frozen? p) (hz : W.heap.size = w.heap.size) : DRow W b o n f :=
  ⟨by rw [hz]; exact h.1, fun i hi => by rw [hc, hf]; exact h.2 i hi⟩
theorem DRow.drewN {w : World} {b o n : Nat} {f : Nat → Nat} (h : DRow w b o n f) (k : Nat) : DRow (w.drewN k) b o n f := h.keep ((Bel.refl w).drewN k)
theorem DRow.drew {w : World} {b o n : Nat} {f : Nat → Nat} (h : DRow w b o n f) : DRow w.drew b o n f := h.keep (Bel.refl w).drew
/-- The rest of a row. -/
theorem DRow.tail {w : World} {b o n : Nat} {f : Nat → Nat} (h : DRow w b o n f) (k : Nat) (hk : k ≤ n) : DRow w b (o + k) (n - k) (fun i => f (k + i)) :=
  ⟨h.1, fun i hi => by rw [Nat.add_assoc]; exact h.2 (k + i) (by omega)⟩
/-- What a store elsewhere leaves. -/
theorem DRow.other {w : World} {b o n : Nat} {f : Nat → Nat} (h : DRow w b o n f) {a : Addr} (ha : b ≠ a.block) (v : Value) : DRow (w.setCell a v) b o n f := by
  refine ⟨by have := h.1; simpa using this, fun i hi => ?_⟩
  obtain ⟨h1, h2⟩ := h.2 i hi
  have e : ∀ o, (⟨b, o, none⟩ : Addr).block ≠ a.block := fun _ => ha
  exact ⟨by rw [← h1]; exact World.cell?_of_block (Deep.blk_setCell_other _ _ _ _ ha), by rw [← h2]; exact World.frozen?_of_block (Deep.blk_setCell_other _ _ _ _ ha)⟩
theorem made_row (w : World) (n : Nat) (t : TypeId) : DRow (w.alloc (.cells (madeCells #[.int .i64 0] n) t)) w.heap.size 0 n (fun _ => 0) := by
  have h := World.rowIs_made w (.int .i64 0) n t
  exact ⟨h.lt, fun i hi => by rw [Nat.zero_add]; exact ⟨h.cell hi, h.frozen i⟩⟩
theorem Tryz.underRow : Tryz.prog.underlying 90 = some (.slice 3) := by kernel_rfl
theorem Tryz.infoRow : (Tryz.prog.info? 3).map (fun i => (i.zero, i.size, i.bytes)) = some (some (.int .i64 0), 1, 8) := by kernel_rfl
theorem make_row (n : Nat) (hn : n ≤ 1000) (w : World) : (Instr.makeSlice 90 (.int .i64 n) (.int .i64 n)).run Tryz.prog w = .ok (.slice (some ⟨w.heap.size, 0, none⟩) n n) (w.alloc (.cells (madeCells #[.int .i64 0] n) 3)) :=
  run_make_row' 90 3 (.int .i64 0) 8 Tryz.underRow Tryz.infoRow rfl .i64 .i64 n (by omega) (by omega) w
theorem rsize_any (n : Int) (hn : small n) (w : World) : Calls Tryz.prog 75 #[.int .i64 n] w fun e w' => e = .returned (.int .i64 (n.natAbs : Int)) ∧ w' = w := by
  have h1 := hn.1
  have h2 := hn.2
  by_cases h : n < 0
  · have hv : Hid (-n = (n.natAbs : Int)) := by show _ = _; omega
    clear hn
    go_enter Tryz.func75, Tryz.ntmps75
    go_wp2
    go_ret
    exact ⟨by rw [← hv.out]; rfl, rfl⟩
  · have hv : Hid (n = (n.natAbs : Int)) := by show _ = _; omega
    clear hn
    go_enter Tryz.func75, Tryz.ntmps75
    go_wp2
    go_ret
    exact ⟨by (rw [← hv.out]) <;> rfl, rfl⟩
def below (f : Nat → Nat) (k : Nat) : Nat → Nat := fun i => if i < k then f i else 0
theorem below_upd (f : Nat → Nat) (k i : Nat) : upd (below f k) k (f k) i = below f (k + 1) i := by
  unfold upd below
  by_cases h : i = k
  · subst h; rw [if_pos rfl, if_pos (by omega)]
  · rw [if_neg h]
    by_cases h2 : i < k
    · rw [if_pos h2, if_pos (by omega)]
    · rw [if_neg h2, if_neg (by omega)]
set_option maxHeartbeats 1000000 in
theorem rplus_any (n : Nat) (h0 : 0 < n) (hn : n ≤ 60) (b1 o1 cc b2 x y : Nat) (w : World) (hx : DRow w b1 o1 n (dg x)) (hy : DRow w b2 0 n (dg y)) :
    Calls Tryz.prog 91 #[.slice (some ⟨b1, o1, none⟩) n cc, .slice (some ⟨b2, 0, none⟩) n n] w fun e w' => e = .returned (.slice (some ⟨w.heap.size, 0, none⟩) n n) ∧ DRow w' w.heap.size 0 n (dg (x + y)) ∧ Bel w w' := by
  have hmk : ∀ w, (Instr.makeSlice 90 (.int .i64 n) (.int .i64 n)).run Tryz.prog w = .ok (.slice (some ⟨w.heap.size, 0, none⟩) n n) (w.alloc (.cells (madeCells #[.int .i64 0] n) 3)) := make_row n (by omega)
  go_enter Tryz.func91, Tryz.ntmps91
  go_wp2
  have hD := made_row w n 3
  have hb := (Bel.refl w).alloc (.cells (madeCells #[.int .i64 0] n) 3)
  have hnn : (n : Int) ≤ 60 := by omega
  go_loopg [6, 7] n (fun g c i wr => ∃ k : Nat, k ≤ n ∧ c = .int .i64 ((car x y k : Nat) : Int) ∧ i = .int .i64 k ∧ Hid (g = n - k) ∧ DRow wr w.heap.size 0 n (below (dg (x + y)) k) ∧ Bel w wr)
  case atStart => exact ⟨0, by omega, by rw [car_0]; rfl, rfl, rfl, hD.ext fun i hi => by simp [below], hb⟩
  case round =>
    clear hD hb hmk
    obtain ⟨k, hk, rfl, rfl, hh, hD, hb⟩ := hrel
    by_cases hlt : k < n
    · obtain ⟨c1, c2⟩ := hD.at0 hlt
      obtain ⟨c3, -⟩ := (hx.keep hb).2 k hlt
      obtain ⟨c5, -⟩ := (hy.keep hb).at0 hlt
      have d1 : ((dg x k : Nat) : Int) ≤ 9 := by have := dg_lt x k; omega
      have d2 : ((dg y k : Nat) : Int) ≤ 9 := by have := dg_lt y k; omega
      have d3 : ((car x y k : Nat) : Int) ≤ 1 := by have := car_le x y k; omega
      have E := Lib.hid (show ((((dg x k : Nat) : Int) + (dg y k : Nat) + (car x y k : Nat)) % 10 = ((dg (x + y) k : Nat) : Int)) ∧ (((dg x k : Nat) : Int) + (dg y k : Nat) + (car x y k : Nat)) / 10 = ((car x y (k + 1) : Nat) : Int) from
        ⟨by rw [← plus_digit]; omega, by rw [← plus_carry]; omega⟩)
      generalize hp : dg x k = p at *
      generalize hq : dg y k = q at *
      generalize hr : car x y k = r at *
      clear hp hq hr
      have i1 : (0 : Int) ≤ k := by omega
      have i2 : (k : Int) < n := by omega
      go_wp2
      go_quiet (fail)
      go_wp2
      go_roundg (gk - 1)
      case measure => have := hh.out; omega
      case rel => exact ⟨k + 1, by omega, by rw [E.out.2], by go_num, (show _ = _ by have := hh.out; omega), by rw [E.out.1]; exact ((hD.drewN _).put k (dg (x + y) k) hlt).ext fun i _ => below_upd _ _ _, (hb.drewN _).setCell (Nat.le_refl _) _⟩
    · obtain rfl : k = n := by omega
      go_wp2
      go_ret
      exact ⟨rfl, hD.ext fun i hi => by simp [below, hi], hb⟩
def RowOut (n m : Nat) (w : World) (e : Ending) (w' : World) : Prop := ∃ g, e = .returned (.slice (some ⟨g, 0, none⟩) n n) ∧ w.heap.size ≤ g ∧ DRow w' g 0 n (dg m) ∧ Bel w w'
theorem rplus_out (n : Nat) (h0 : 0 < n) (hn : n ≤ 60) (b1 o1 cc b2 x y : Nat) (w : World) (hx : DRow w b1 o1 n (dg x)) (hy : DRow w b2 0 n (dg y)) :
    Calls Tryz.prog 91 #[.slice (some ⟨b1, o1, none⟩) n cc, .slice (some ⟨b2, 0, none⟩) n n] w (RowOut n (x + y) w) :=
  (rplus_any n h0 hn b1 o1 cc b2 x y w hx hy).mono fun e w' ⟨he, h1, h2⟩ => ⟨_, he, Nat.le_refl _, h1, h2⟩
def rnd (V k : Nat) : Nat := if 6 < k then heven V (10 ^ (k - 6)) else V
def upOf (V k : Nat) : Nat := if 5 < dg V (k - 1) ∨ (dg V (k - 1) = 5 ∧ (0 < V % 10 ^ (k - 1) ∨ dg V k % 2 = 1)) then 1 else 0
theorem upOf_yes {V k : Nat} (h : 5 < dg V (k - 1) ∨ (dg V (k - 1) = 5 ∧ (0 < V % 10 ^ (k - 1) ∨ dg V k % 2 = 1))) : upOf V k = 1 := if_pos h
theorem upOf_no {V k : Nat} (h : ¬ (5 < dg V (k - 1) ∨ (dg V (k - 1) = 5 ∧ (0 < V % 10 ^ (k - 1) ∨ dg V k % 2 = 1)))) : upOf V k = 0 := if_neg h
theorem rnd_up {V k : Nat} (h : 6 < k) : V / 10 ^ (k - 6) + upOf V (k - 6) = rnd V k := by
  rw [rnd, if_pos h]; exact round_digits V (k - 6) (by omega)
theorem up_row (u i : Nat) (h : u < 10) : upd (fun _ => 0) 0 u i = dg u i := by
  unfold upd
  by_cases hi : i = 0
  · subst hi; rw [if_pos rfl, dg_first, Nat.mod_eq_of_lt h]
  · rw [if_neg hi, dg_small _ _ h (by omega)]
theorem decV_of {bl : Bool} {M S m s : Nat} (h : trim M S = (m, s)) : decV bl M S = if 999999999999 < m then .tuple #[.agg #[.int .i64 0, .int .i64 0], .int .i64 3]
  else .tuple #[.agg #[.int .i64 (if bl = true then -(m : Int) else m), .int .i64 (s : Nat)], .int .i64 0] := by rw [decV, h]
theorem small_row {V o u : Nat} (hV : V < 10 ^ 50) (ho : o ≤ 24) (hu : u ≤ 1) : V / 10 ^ o + u < 10 ^ (60 - o) := by
  have h1 : V / 10 ^ o < 10 ^ (50 - o) := by
    rw [Nat.div_lt_iff_lt_mul (p10 o), ← Nat.pow_add, show 50 - o + o = 50 by omega]; exact hV
  have h2 : 10 ^ (60 - o) = 10 ^ (50 - o) * 10 ^ 10 := by rw [← Nat.pow_add, show 50 - o + 10 = 60 - o by omega]
  have h3 := p10 (50 - o)
  omega
theorem row_cut {w : World} {b o N V : Nat} (h : DRow w b 0 60 (dg V)) (ho : o + N = 60) : DRow w b o N (dg (V / 10 ^ o)) := by
  have := h.tail o (by omega)
  rw [Nat.zero_add, show 60 - o = N by omega] at this
  exact this.ext fun i _ => (dg_shift V o i).symm
theorem row_next {w : World} {g o n m : Nat} (h : DRow w g o n (dg m)) (hn : 1 ≤ n) : DRow w g (o + 1) (n - 1) (dg (m / 10)) :=
  (h.tail 1 hn).ext fun i _ => by have := dg_shift m 1 i; rw [Nat.pow_one] at this; exact this.symm
theorem big_div {m k : Nat} (h : 999999999999 < m / 10 ^ k) : 999999999999 < m := Nat.lt_of_lt_of_le h (Nat.div_le_self _ _)
set_option maxRecDepth 100000 in
set_option maxHeartbeats 8000000 in
theorem rdec_any (V k : Nat) (bl : Bool) (b : Nat) (hV : V < 10 ^ 50) (hk : k ≤ 30) (w : World) (hrow : DRow w b 0 60 (dg V)) :
    Calls Tryz.prog 65 #[.slice (some ⟨b, 0, none⟩) 60 60, .int .i64 k, .bool bl] w fun e w' => e = .returned (decV bl (rnd V k) (min k 6)) ∧ Bel w w' := by
  have hk' : (k : Int) ≤ 30 := by omega
  have HV := Lib.hid hV
  have HK := Lib.hid hk
  clear hV hk
  go_enter Tryz.func65, Tryz.ntmps65
  go_upto_if 20 with (fail)
  refine under_name ((Bel.refl w).alloc _) fun W hc hf hz hb => ?_
  have hR : Sl2 W w.heap.size 0 0 := by simp [Sl2, Arr2, Fr2, hz, hc, hf, go_sem]
  clear hc hf hz
  go_cut [0, 1, 9] (fun r bh u wx => ∃ o N up : Nat, r = .slice (some ⟨b, o, none⟩) N N ∧ bh = .int .i64 ((min k 6 : Nat) : Int) ∧ u = .int .i64 up ∧ Hid (o + N = 60 ∧ o ≤ 24 ∧ up ≤ 1 ∧ V / 10 ^ o + up = rnd V k) ∧ Sl2 wx w.heap.size 0 0 ∧ Bel w wx)
  case first =>
    by_cases h6 : 6 < k
    · have k1 : (6 : Int) < k := by omega
      go_wp2_with fail
      go_loopg [10, 11] (k - 7) (fun g x10 x11 wr => ∃ i r : Nat, x10 = .int .i64 r ∧ x11 = .int .i64 i ∧ Hid (r ≤ 9 * i ∧ (0 < r ↔ 0 < V % 10 ^ i) ∧ i ≤ k - 7 ∧ g = k - 7 - i) ∧ wr = W)
      case atStart => exact ⟨0, 0, rfl, rfl, ⟨by omega, by simp [Nat.mod_one], by omega, rfl⟩, rfl⟩
      case round =>
        obtain ⟨i, r, rfl, rfl, hh, rfl⟩ := hrel
        obtain ⟨h1, h2, h3, -⟩ := hh.out
        have hkk := HK.out
        have i1 : (r : Int) ≤ 300 := by omega
        by_cases hlt : (i : Int) < k - 7
        · obtain ⟨c1, -⟩ := (hrow.keep hb).at0 (show i < 60 by omega)
          have d1 : ((dg V i : Nat) : Int) ≤ 9 := by have := dg_lt V i; omega
          have E : Hid (0 < r + dg V i ↔ 0 < V % 10 ^ (i + 1)) := by
            show _ ↔ _
            rw [mod_succ]
            have h4 := p10 i
            rcases Nat.eq_zero_or_pos (dg V i) with h5 | h5
            · rw [h5]; simpa using h2
            · have := Nat.mul_pos h4 h5; omega
          have D := Lib.hid d1
          generalize dg V i = d at *
          clear h1 h2 h3 hkk
          go_wp2
          go_roundg (gk - 1)
          case measure => have := hh.out; omega
          case rel => exact ⟨i + 1, r + d, by go_num, by go_num, ⟨by have := hh.out.1; have := D.out; omega, E.out, by omega, by have := hh.out.2.2.2; omega⟩, rfl⟩
        · obtain ⟨c1, -⟩ := (hrow.keep hb).at0 (show k - 6 - 1 < 60 by omega)
          obtain ⟨c2, -⟩ := (hrow.keep hb).at0 (show k - 6 < 60 by omega)
          have d1 : ((dg V (k - 6 - 1) : Nat) : Int) ≤ 9 := by have := dg_lt V (k - 6 - 1); omega
          have d2 : ((dg V (k - 6) : Nat) : Int) ≤ 9 := by have := dg_lt V (k - 6); omega
          have hik : i = k - 6 - 1 := by omega
          have UY := Lib.hid (upOf_yes (V := V) (k := k - 6))
          have UN := Lib.hid (upOf_no (V := V) (k := k - 6))
          have RU := Lib.hid (rnd_up (V := V) h6)
          rw [hik] at h2
          have H2 := Lib.hid h2
          have hmn : Hid (min k 6 = 6) := by show _ = _; omega
          have j1 : (k : Int) - 6 - 1 ≤ i := by omega
          generalize dg V (k - 6 - 1) = d at *
          generalize dg V (k - 6) = e at *
          have fin : ∀ u : Nat, u ≤ 1 → u = upOf V (k - 6) → ∃ o N up : Nat, Value.slice (some ⟨b, k - 6, none⟩) (60 - (k - 6)) (60 - (k - 6)) = Value.slice (some ⟨b, o, none⟩) N N ∧ Value.int .i64 6 = Value.int .i64 ((min k 6 : Nat) : Int) ∧ Value.int .i64 (u : Nat) = Value.int .i64 up ∧ Hid (o + N = 60 ∧ o ≤ 24 ∧ up ≤ 1 ∧ V / 10 ^ o + up = rnd V k) ∧ Sl2 wr w.heap.size 0 0 ∧ Bel w wr :=
            fun u hu1 hu2 => ⟨k - 6, 60 - (k - 6), u, rfl, by rw [hmn.out]; rfl, rfl, ⟨by omega, by omega, hu1, by rw [hu2]; exact RU.out⟩, hR, hb⟩
          have FIN := Lib.hid fin
          clear fin h1 h2 h3 hkk hik
          by_cases a1 : (5 : Int) < d
          · have L := Lib.hid (UY.out (.inl (by omega)))
            go_wp2
            go_meet
            exact FIN.out 1 (by omega) L.out.symm
          · by_cases a2 : d = 5
            · subst a2
              by_cases a3 : (0 : Int) < r
              · have L := Lib.hid (UY.out (.inr ⟨rfl, .inl (H2.out.1 (by omega))⟩))
                go_wp2
                go_meet
                exact FIN.out 1 (by omega) L.out.symm
              · have a4 : ¬ 0 < V % 10 ^ (k - 6 - 1) := fun h => a3 (by have := H2.out.2 h; omega)
                by_cases a5 : e % 2 = 1
                · have L := Lib.hid (UY.out (.inr ⟨rfl, .inr a5⟩))
                  have a6 : ((e : Int) % 2 == 1) = true := by rw [beq_iff_eq]; omega
                  have a7 : (e : Int) % 2 = 1 := by omega
                  clear a4 a5
                  go_wp2
                  go_meet
                  exact FIN.out 1 (by omega) L.out.symm
                · have L := Lib.hid (UN.out (by rintro (h | ⟨-, h | h⟩) <;> omega))
                  have a6 : ((e : Int) % 2 == 1) = false := by rw [beq_eq_false_iff_ne]; omega
                  have a7 : ¬ (e : Int) % 2 = 1 := by omega
                  clear a4 a5
                  go_wp2
                  go_meet
                  exact FIN.out 0 (by omega) L.out.symm
            · have L := Lib.hid (UN.out (by rintro (h | ⟨h, -⟩) <;> omega))
              have a6 : ((d : Int) == 5) = false := by rw [beq_eq_false_iff_ne]; omega
              have a7 : ¬ (d : Int) = 5 := by omega
              clear a2
              go_wp2
              go_meet
              exact FIN.out 0 (by omega) L.out.symm
    · have hm : Hid (min k 6 = k) := by show min k 6 = k; omega
      have hr : Hid (rnd V k = V) := if_neg h6
      have k1 : (k : Int) ≤ 6 := by omega
      go_wp2_with fail
      go_meet
      exact ⟨0, 60, 0, rfl, by rw [hm.out], rfl, ⟨rfl, by omega, by omega, by rw [hr.out]; simp⟩, hR, hb⟩
  case rest =>
    obtain ⟨o, N, up, rfl, rfl, rfl, hh, hR, hb⟩ := hcut
    obtain ⟨g1, g2, g3, g4⟩ := hh.out
    have hmk : ∀ w, (Instr.makeSlice 90 (.int .i64 N) (.int .i64 N)).run Tryz.prog w = .ok (.slice (some ⟨w.heap.size, 0, none⟩) N N) (w.alloc (.cells (madeCells #[.int .i64 0] N) 3)) := make_row N (by omega)
    have hlt := hR.1.1
    have hMD := made_row wc N 3
    have j1 : (N : Int) ≤ 60 := by omega
    have j2 : (36 : Int) ≤ N := by omega
    have j3 : (up : Int) ≤ 1 := by omega
    have j5 : (((min k 6 : Nat) : Int)) ≤ 6 := by omega
    obtain ⟨B, hB⟩ : ∃ B, B = min k 6 := ⟨_, rfl⟩
    rw [← hB] at j5 ⊢
    have HB := Lib.hid hB
    have HRW := Lib.hid hrow
    have HMD := Lib.hid hMD
    have HN := Lib.hid (And.intro g1 (And.intro g2 (And.intro g3 g4)))
    clear g1 g2 g3 g4 hMD hrow hB
    go_upto_region 16 with (fail)
    refine under_name (hb.alloc _) fun W2 hc hf hz hb2 => ?_
    have hD2 := HMD.out.same hc hf hz
    have hne : ¬ w.heap.size = wc.heap.size := by omega
    have hne' : ¬ wc.heap.size = w.heap.size := by omega
    have hR2 : Sl2 W2 w.heap.size 0 0 := by
      refine ⟨⟨by rw [hz]; simp; omega, ?_, ?_⟩, ?_, ?_⟩
      all_goals simp [hc, hf, go_sem, hR, hne, hne']
    clear hc hf hz hmk hR hb
    obtain ⟨c1, c2⟩ := hD2.at0 (i := 0) (by have := HN.out.1; omega)
    have HD2 := Lib.hid hD2
    have HP := Lib.hid (fun W3 (h1 : DRow W3 b o N (dg (V / 10 ^ o))) (h2 : DRow W3 wc.heap.size 0 N (dg up)) => rplus_out N (by omega) (by omega) b o N wc.heap.size (V / 10 ^ o) up W3 h1 h2)
    clear hD2
    go_wp2_with fail
    have hb3 := hb2.setCell (p := ⟨wc.heap.size, 0, none⟩) (Nat.le_of_lt hlt) (.int .i64 (up : Nat))
    have hR3 : Sl2 (W2.setCell ⟨wc.heap.size, 0, none⟩ (.int .i64 (up : Nat))) w.heap.size 0 0 := by simp [Sl2, Arr2, Fr2, go_sem, hR2, hne, hne']
    obtain ⟨q1, q2, q3, q4⟩ := HN.out
    refine (HP.out _ (row_cut (HRW.out.keep hb3) q1) ((HD2.out.put 0 up (by omega)).ext fun i _ => up_row up i (by omega))).mono ?_
    rintro e W3 ⟨g, rfl, hg, hD, hb4⟩
    have hR4 := hR3.keep hb4
    have hb5 := hb3.trans hb4
    have hM : V / 10 ^ o + up < 10 ^ N := by have := small_row HV.out q2 q3; rwa [show 60 - o = N by omega] at this
    obtain ⟨M, hMe⟩ : ∃ M, M = rnd V k := ⟨_, rfl⟩
    rw [q4, ← hMe] at hD hM
    have FV := Lib.hid (show decV bl (rnd V k) (min k 6) = decV bl M B by rw [← hMe, ← HB.out])
    have hgW : w.heap.size < g := by have := hR3.1.1; omega
    have HM := Lib.hid (And.intro hM q1)
    have HG := Lib.hid (And.intro hD hgW)
    have q5 := hR4.1.1
    have q6 := hD.1
    clear hM hMe hh HN q1 q2 q3 q4 hD hgW hb3 hb4 hR3 hR2 hb2 HP HD2 c1 c2 hne hne' hg HMD HRW hlt
    go_wp2_with fail
    go_loopg [0, 1] B (fun gk r x wr => ∃ m s o1 n : Nat, r = .slice (some ⟨g, o1, none⟩) n n ∧ x = .int .i64 s ∧ Hid (trim M B = trim m s ∧ n + B = N + s ∧ s ≤ B ∧ gk = s ∧ m < 10 ^ n) ∧ Hid (DRow W3 g o1 n (dg m)) ∧ wr = W3)
    case atStart => exact ⟨M, B, 0, N, rfl, rfl, ⟨rfl, by omega, by omega, rfl, HM.out.1⟩, HG.out.1, rfl⟩
    case round =>
      obtain ⟨m, s, o1, n, rfl, rfl, hh, HDD, rfl⟩ := hrel
      obtain ⟨h1, h2, h3, -, h5⟩ := hh.out
      have j6 : (30 : Int) ≤ n := by omega
      have j7 : (n : Int) ≤ 60 := by omega
      have hD := HDD.out
      obtain ⟨c1, -⟩ := hD.2 0 (by omega)
      rw [Nat.add_zero, dg_first] at c1
      have fin : (s = 0 ∨ m % 10 ≠ 0) → trim M B = (m, s) := fun h => by
        rw [h1]
        rcases h with h | h
        · subst h; rfl
        · exact trim_stop _ _ h
      have FIN := Lib.hid fin
      have H5 := Lib.hid h5
      clear fin h1 h2 h5 hD
      by_cases hgo : (0 : Int) < s ∧ m % 10 = 0
      · obtain ⟨hs, hm⟩ := hgo
        rw [hm] at c1
        have HM0 := Lib.hid hm
        have NX := Lib.hid (row_next HDD.out (by omega))
        have j8 : (s : Int) ≤ 6 := by omega
        clear hm h3
        go_wp2
        go_roundg (gk - 1)
        case measure => have := hh.out.2.2.2.1; omega
        case rel =>
          obtain ⟨r1, r2, r3, r4, r5⟩ := hh.out
          refine ⟨m / 10, s - 1, o1 + 1, n - 1, rfl, by go_num, ⟨?_, by omega, by omega, by omega, ?_⟩, NX.out, rfl⟩
          · rw [r1]
            obtain ⟨s', rfl⟩ : ∃ s', s = s' + 1 := ⟨s - 1, by omega⟩
            rw [trim_step _ _ HM0.out]; rfl
          · have e : 10 ^ n = 10 * 10 ^ (n - 1) := by rw [show n = (n - 1) + 1 by omega, Nat.pow_succ, Nat.mul_comm]; rfl
            omega
      · have L := Lib.hid (FIN.out (by omega))
        have HF := Lib.hid (FV.out.trans (decV_of (bl := bl) L.out))
        have hcase : ((0 : Int) < s ∧ (((m % 10 : Nat) : Int) == 0) = false ∧ ¬ ((m % 10 : Nat) : Int) = 0) ∨ ¬ (0 : Int) < s := by
          by_cases hs : (0 : Int) < s
          · have : m % 10 ≠ 0 := fun h => hgo ⟨hs, h⟩
            exact .inl ⟨hs, by rw [beq_eq_false_iff_ne]; omega, by omega⟩
          · exact .inr hs
        have j8 : (s : Int) ≤ 6 := by omega
        clear hgo h3 FIN
        obtain ⟨wo, rfl⟩ : ∃ wo : World, wo = wr := ⟨_, rfl⟩
        rcases hcase with ⟨hs, e1, e2⟩ | hs
        all_goals
          go_wp2_with fail
          go_loopg [15, 16] n (fun gk x15 x16 wr => ∃ (q : Nat) (z : Int), x15 = .int .i64 ((m / 10 ^ q : Nat) : Int) ∧ x16 = .int .i64 z ∧ Hid (z = (q : Int) - 1 ∧ q ≤ n ∧ gk = q) ∧ wr = wo)
          case atStart => exact ⟨n, (n : Int) - 1, by rw [Nat.div_eq_of_lt H5.out]; rfl, rfl, ⟨rfl, Nat.le_refl _, rfl⟩, rfl⟩
          case round =>
            obtain ⟨q, z, rfl, rfl, hh2, rfl⟩ := hrel
            obtain ⟨hz, hqn, -⟩ := hh2.out
            by_cases hq0 : q = 0
            · subst hq0
              obtain rfl : z = -1 := by omega
              clear hz hqn
              rw [Nat.pow_zero, Nat.div_one]
              by_cases hbig : (999999999999 : Int) < m
              · have HV2 := Lib.hid (HF.out.trans (if_pos (by omega)))
                go_wp2
                refine bodyPost_ret (by simp [results, Tryz.results65, go_sem, hR4]; try rfl) rfl ⟨by (rw [HV2.out]) <;> rfl, ?_⟩
                (repeat (first | with_reducible exact Bel.refl _ | with_reducible refine Bel.setCell ?_ (by first | exact Nat.le_refl _ | (dsimp only; omega)) _ | with_reducible refine Bel.alloc ?_ _ | with_reducible refine Bel.drew ?_ | with_reducible assumption | with_reducible refine Bel.trans ?_ (by assumption)))
              · have HV2 := Lib.hid (HF.out.trans (if_neg (by omega)))
                cases bl
                · go_wp2
                  refine bodyPost_ret (by simp [results, Tryz.results65, go_sem, hR4]; try rfl) rfl ⟨by (rw [HV2.out]) <;> rfl, ?_⟩
                  (repeat (first | with_reducible exact Bel.refl _ | with_reducible refine Bel.setCell ?_ (by first | exact Nat.le_refl _ | (dsimp only; omega)) _ | with_reducible refine Bel.alloc ?_ _ | with_reducible refine Bel.drew ?_ | with_reducible assumption | with_reducible refine Bel.trans ?_ (by assumption)))
                · go_wp2
                  refine bodyPost_ret (by simp [results, Tryz.results65, go_sem, hR4]; try rfl) rfl ⟨by (rw [HV2.out]) <;> rfl, ?_⟩
                  (repeat (first | with_reducible exact Bel.refl _ | with_reducible refine Bel.setCell ?_ (by first | exact Nat.le_refl _ | (dsimp only; omega)) _ | with_reducible refine Bel.alloc ?_ _ | with_reducible refine Bel.drew ?_ | with_reducible assumption | with_reducible refine Bel.trans ?_ (by assumption)))
            · obtain ⟨j, rfl⟩ : ∃ j, q = j + 1 := ⟨q - 1, by omega⟩
              obtain rfl : z = (j : Int) := by omega
              obtain ⟨c2, -⟩ := HDD.out.2 j (by omega)
              have j9 : (j : Int) < n := by omega
              have d1 : ((dg m j : Nat) : Int) ≤ 9 := by have := dg_lt m j; omega
              have E := Lib.hid (div_split m j)
              have BG := Lib.hid (fun h : 999999999999 < m / 10 ^ (j + 1) => HF.out.trans (if_pos (big_div h)))
              clear hz hqn hq0
              generalize m / 10 ^ (j + 1) = y at *
              generalize dg m j = d at *
              by_cases hbig : (999999999999 : Int) < y
              · have HV2 := Lib.hid (BG.out (by omega))
                go_wp2
                refine bodyPost_ret (by simp [results, Tryz.results65, go_sem, hR4]; try rfl) rfl ⟨by (rw [HV2.out]) <;> rfl, ?_⟩
                (repeat (first | with_reducible exact Bel.refl _ | with_reducible refine Bel.setCell ?_ (by first | exact Nat.le_refl _ | (dsimp only; omega)) _ | with_reducible refine Bel.alloc ?_ _ | with_reducible refine Bel.drew ?_ | with_reducible assumption | with_reducible refine Bel.trans ?_ (by assumption)))
              · have j10 : (y : Int) ≤ 999999999999 := by omega
                clear hbig
                go_wp2
                go_roundg (gk - 1)
                case measure => have := hh2.out.2.2; omega
                case rel => exact ⟨j, (j : Int) - 1, by rw [E.out]; go_num, rfl, ⟨rfl, by omega, by have := hh2.out.2.2; omega⟩, rfl⟩
theorem dgt_val (n k : Nat) : (dgt n k).toNat = 48 + n / k % 10 := by
  unfold dgt
  rw [UInt8.toNat_ofNat']
  omega
theorem dgt_dB (n k : Nat) : dB (dgt n k) = true := by
  unfold dB
  rw [decide_eq_true_eq, dgt_val]
  omega
theorem dec_ok : ∀ n, dOk (Lib.decDigits n) = true := by
  intro n
  induction n using Nat.strongRecOn with
  | _ n ih =>
    by_cases h : n < 10
    · rw [dec1 n h]; simp [dOk, dgt_dB]
    · rw [decS n (by omega), dOk_app, ih (n / 10) (by omega)]; simp [dOk, dgt_dB]
theorem dec_digB (n : Nat) : digB (Lib.decDigits n) = true := by
  have := dec_pos n
  unfold digB
  rw [dec_ok, Bool.true_and]
  cases h : Lib.decDigits n with
  | nil => rw [h] at this; simp at this
  | cons a b => rfl
theorem dec_no0 : ∀ n, 1 < (Lib.decDigits n).length → (Lib.decDigits n)[0]? ≠ some 48 := by
  intro n
  induction n using Nat.strongRecOn with
  | _ n ih =>
    intro hl
    by_cases h : n < 10
    · rw [dec1 n h] at hl; simp at hl
    · rw [decS n (by omega)]
      have hp := dec_pos (n / 10)
      rw [List.getElem?_append_left (by omega)]
      by_cases h2 : 1 < (Lib.decDigits (n / 10)).length
      · exact ih _ (by omega) h2
      · have h3 : n / 10 < 10 := by
          rcases Nat.lt_or_ge (n / 10) 10 with h3 | h3
          · exact h3
          · rw [decS _ h3, List.length_append, List.length_singleton] at h2
            have := dec_pos (n / 10 / 10)
            omega
        rw [dec1 _ h3]
        simp only [List.getElem?_cons_zero, ne_eq, Option.some.injEq]
        intro hh
        have := dgt_val (n / 10) 1
        rw [hh] at this
        simp at this
        omega
theorem fold_app (l : List UInt8) (x a : Nat) : l.foldl (fun a c => a * 10 + (c.toNat - 48)) (x + a) = x * 10 ^ l.length + l.foldl (fun a c => a * 10 + (c.toNat - 48)) a := by
  induction l generalizing x a with
  | nil => simp
  | cons c r ih =>
    rw [List.foldl_cons, List.foldl_cons, show (x + a) * 10 + (c.toNat - 48) = x * 10 + (a * 10 + (c.toNat - 48)) by omega, ih, List.length_cons, Nat.pow_succ]
    rw [Nat.mul_assoc, Nat.mul_comm 10]
theorem numL_app (a b : List UInt8) : numL (a ++ b) = numL a * 10 ^ b.length + numL b := by
  unfold numL
  rw [List.foldl_append]
  have := fold_app b (a.foldl (fun a c => a * 10 + (c.toNat - 48)) 0) 0
  simpa using this
theorem numL_one (n : Nat) (h : n < 10) : numL [dgt n 1] = n := by
  simp [numL, dgt_val]; omega
theorem numL_dec : ∀ n, numL (Lib.decDigits n) = n := by
  intro n
  induction n using Nat.strongRecOn with
  | _ n ih =>
    by_cases h : n < 10
    · rw [dec1 n h, numL_one n h]
    · rw [decS n (by omega), numL_app, ih (n / 10) (by omega)]
      simp [numL, dgt_val]; omega
theorem rep_num (c : Nat) : numL (Lib.repeatL [48] c) = 0 := by
  induction c with
  | zero => rfl
  | succ c ih => 
    show numL ([48] ++ Lib.repeatL [48] c) = 0
    rw [numL_app, ih]; simp [numL]
theorem rep_len (c : Nat) : (Lib.repeatL [48] c).length = c := by rw [Lib.repeatL_length]; simp
theorem rep_ok (c : Nat) : dOk (Lib.repeatL [48] c) = true := by
  induction c with
  | zero => rfl
  | succ c ih => 
    show dOk ([48] ++ Lib.repeatL [48] c) = true
    rw [dOk_app, ih]; rfl
theorem pad_ok (k n : Nat) : dOk (padL k n) = true := by unfold padL; rw [dOk_app, rep_ok, dec_ok]; rfl
theorem pad_num (k n : Nat) : numL (padL k n) = n := by unfold padL; rw [numL_app, rep_num, numL_dec]; omega
theorem pad_len (k n : Nat) (h : n < 10 ^ k) (hk : 0 < k) : (padL k n).length = k := by
  obtain ⟨j, rfl⟩ : ∃ j, k = j + 1 := ⟨k - 1, by omega⟩
  have := dec_len_le j n h
  unfold padL
  rw [List.length_append, rep_len]; omega
theorem dec_last (n : Nat) : ∃ r, Lib.decDigits n = r ++ [dgt n 1] := by
  by_cases h : n < 10
  · exact ⟨[], dec1 n h⟩
  · exact ⟨_, decS n (by omega)⟩
theorem trimR_last (r : List UInt8) (c : UInt8) (h : c ≠ 48) : trimR (r ++ [c]) = r ++ [c] := by
  unfold trimR Lib.trimRightB
  rw [List.reverse_append]
  simp only [List.reverse_cons, List.reverse_nil, List.nil_append, List.singleton_append, List.dropWhile_cons]
  rw [if_neg (by simpa using h)]
  simp
theorem pad_trim (k n : Nat) (h : n % 10 ≠ 0) : trimR (padL k n) = padL k n := by
  obtain ⟨r, hr⟩ := dec_last n
  unfold padL
  rw [hr, ← List.append_assoc]
  refine trimR_last _ _ fun hh => ?_
  have := dgt_val n 1
  rw [hh] at this
  simp at this
  omega
theorem dB_46 {c : UInt8} (h : dB c = true) : (c != 46) = true := by
  unfold dB at h
  rw [decide_eq_true_eq] at h
  rw [bne_iff_ne]
  rintro rfl
  simp at h
theorem cut_at (a b : List UInt8) (h : dOk a = true) : bef46 (a ++ 46 :: b) = a ∧ aft46 (a ++ 46 :: b) = b ∧ has46 (a ++ 46 :: b) = true := by
  have h1 : ∀ x ∈ a, (x != 46) = true := fun x hx => dB_46 (by simp only [dOk, List.all_eq_true] at h; exact h x hx)
  unfold bef46 aft46 has46
  rw [List.takeWhile_append_of_pos h1, List.dropWhile_append_of_pos h1]
  simp
theorem cut_none (a : List UInt8) (h : dOk a = true) : bef46 a = a ∧ aft46 a = [] ∧ has46 a = false := by
  have h1 : ∀ x ∈ a, (x != 46) = true := fun x hx => dB_46 (by simp only [dOk, List.all_eq_true] at h; exact h x hx)
  have h2 : a.takeWhile (· != 46) = a := by
    have := List.takeWhile_append_of_pos (l₂ := []) h1
    simpa using this
  have h3 : a.dropWhile (· != 46) = [] := by
    have := List.dropWhile_append_of_pos (l₂ := []) h1
    simpa using this
  unfold bef46 aft46 has46
  rw [h2, h3]
  simp
/-- The text behind the sign. -/
def bodyL (x s : Nat) : List UInt8 := Lib.decDigits (x / P10 s) ++ (if s = 0 then [] else 46 :: padL s (x % P10 s))
theorem body_cut (x s : Nat) : bef46 (bodyL x s) = Lib.decDigits (x / P10 s) ∧ aft46 (bodyL x s) = (if s = 0 then [] else padL s (x % P10 s)) ∧ has46 (bodyL x s) = decide (s ≠ 0) := by
  unfold bodyL
  by_cases h : s = 0
  · subst h
    simp only [if_true, List.append_nil]
    have := cut_none _ (dec_ok (x / P10 0))
    simp [this]
  · simp only [if_neg h]
    obtain ⟨a, b, c⟩ := cut_at _ (padL s (x % P10 s)) (dec_ok (x / P10 s))
    rw [a, b, c]; simp [h]
theorem body_pre (x s : Nat) : Lib.hasPrefix (bodyL x s) [45] = false := by
  unfold Lib.hasPrefix bodyL
  have h1 := dec_digB (x / P10 s)
  cases h : Lib.decDigits (x / P10 s) with
  | nil => rw [h] at h1; simp [digB] at h1
  | cons c r =>
    rw [h] at h1
    have hc : dB c = true := by simp [digB, dOk] at h1; exact h1.1
    simp only [List.cons_append, List.isPrefixOf, Bool.and_true]
    rw [beq_eq_false_iff_ne]
    rintro rfl
    simp [dB] at hc
theorem txt_pre (neg : Bool) (x s : Nat) : Lib.hasPrefix (txtL neg x s) [45] = neg ∧ Lib.trimPrefix (txtL neg x s) [45] = bodyL x s := by
  cases neg with
  | false =>
    have h := body_pre x s
    have e : txtL false x s = bodyL x s := rfl
    rw [e, h]
    refine ⟨rfl, ?_⟩
    unfold Lib.trimPrefix
    rw [h]; rfl
  | true =>
    have e : txtL true x s = 45 :: bodyL x s := rfl
    have h : Lib.hasPrefix (45 :: bodyL x s) [45] = true := by simp [Lib.hasPrefix]
    rw [e, h]
    refine ⟨rfl, ?_⟩
    unfold Lib.trimPrefix
    rw [h]; rfl
theorem trim_stay (m s : Nat) (h : s = 0 ∨ m % 10 ≠ 0) : trim m s = (m, s) := by
  cases s with
  | zero => rfl
  | succ k => rcases h with h | h
              · omega
              · rw [trim_stop _ _ h]
theorem num_split (x s : Nat) : x / P10 s * 10 ^ s + x % P10 s = x := by
  have := Nat.div_add_mod x (P10 s)
  unfold P10 at *
  rw [Nat.mul_comm] at this
  exact this
theorem mod10_P10 (x s : Nat) (hs : 0 < s) : x % P10 s % 10 = x % 10 := by
  obtain ⟨j, rfl⟩ : ∃ j, s = j + 1 := ⟨s - 1, by omega⟩
  exact Nat.mod_mod_of_dvd _ ⟨10 ^ j, by unfold P10; rw [Nat.pow_succ, Nat.mul_comm]⟩
theorem decV_stay (x : Bool) (n s : Int) (h : SndD n s) (hx : n ≠ 0 → x = decide (n < 0)) : decV x n.natAbs s.toNat = .tuple #[decA n s, .int .i64 0] := by
  obtain ⟨h1, h2, ⟨h3, h4⟩, h5⟩ := h
  have ht := trim_stay n.natAbs s.toNat (by omega)
  have e2 : ((s.toNat : Nat) : Int) = s := by omega
  unfold decV
  rw [ht]
  simp only [e2]
  rw [if_neg (by omega)]
  by_cases h0 : n = 0
  · subst h0; cases x <;> rfl
  · rw [hx h0]
    by_cases hn : n < 0
    · have : -(n.natAbs : Int) = n := by omega
      simp [hn, this]
    · have : (n.natAbs : Int) = n := by omega
      simp [hn, this]
theorem parse_text (n s : Int) (h : SndD n s) : parseV (txtL (decide (n < 0)) n.natAbs s.toNat) = .tuple #[decA n s, .int .i64 0] := by
  have h' := h
  obtain ⟨h1, h2, ⟨h3, h4⟩, h5⟩ := h
  obtain ⟨t1, t2⟩ := txt_pre (decide (n < 0)) n.natAbs s.toNat
  obtain ⟨c1, c2, c3⟩ := body_cut n.natAbs s.toNat
  unfold parseV
  rw [t1, t2, c1, c2, c3]
  have hd := dec_digB (n.natAbs / P10 s.toNat)
  have hl := dec_len_le 11 (n.natAbs / P10 s.toNat) (Nat.lt_of_le_of_lt (Nat.div_le_self _ _) (by omega))
  have hn0 := dec_no0 (n.natAbs / P10 s.toNat)
  have hx : ∀ x : Nat, x = n.natAbs → (n ≠ 0 → (decide (n < 0) && decide (0 < x)) = decide (n < 0)) := by
    rintro x rfl h0
    by_cases hn : n < 0
    · simp [hn]; omega
    · simp [hn]
  by_cases hs : s = 0
  · subst hs
    have e : trimR (if ((0 : Int).toNat) = 0 then [] else padL (0 : Int).toNat (n.natAbs % P10 (0 : Int).toNat)) = [] := rfl
    unfold partsV
    rw [e, List.append_nil, numL_dec, if_neg (by
      rintro (hh | hh | hh)
      · rw [hd] at hh; cases hh
      · exact hn0 hh.1 hh.2
      · simp at hh), if_neg (by
      rintro (hh | hh)
      · omega
      · simp at hh)]
    have e2 : n.natAbs / P10 (0 : Int).toNat = n.natAbs := Nat.div_one _
    rw [e2]
    exact decV_stay _ n 0 h' (hx _ rfl)
  · have hz : s.toNat ≠ 0 := by omega
    have hp := P10_pos s.toNat
    have hmod : n.natAbs % P10 s.toNat < P10 s.toNat := Nat.mod_lt _ hp
    have e : trimR (if s.toNat = 0 then [] else padL s.toNat (n.natAbs % P10 s.toNat)) = padL s.toNat (n.natAbs % P10 s.toNat) := by
      rw [if_neg hz]
      refine pad_trim _ _ ?_
      rw [mod10_P10 _ _ (by omega)]; omega
    have hpl := pad_len s.toNat (n.natAbs % P10 s.toNat) hmod (by omega)
    have hpd : digB (padL s.toNat (n.natAbs % P10 s.toNat)) = true := by
      unfold digB
      rw [pad_ok, Bool.true_and]
      cases hc : padL s.toNat (n.natAbs % P10 s.toNat) with
      | nil => rw [hc] at hpl; simp at hpl; omega
      | cons c r => rfl
    unfold partsV
    rw [e, if_neg hz, numL_app, numL_dec, pad_num, hpl, num_split, if_neg (by
      rintro (hh | hh | hh)
      · rw [hd] at hh; cases hh
      · exact hn0 hh.1 hh.2
      · rw [hpd] at hh; simp at hh), if_neg (by omega)]
    exact decV_stay _ n s h' (hx _ rfl)
def above (f : Nat → Nat) (k : Nat) : Nat → Nat := fun i => if k ≤ i then f i else 0
theorem above_upd (f : Nat → Nat) (k i : Nat) : upd (above f (k + 1)) k (f k) i = above f k i := by
  unfold upd above
  by_cases h : i = k
  · subst h; rw [if_pos rfl, if_pos (by omega)]
  · rw [if_neg h]
    by_cases h2 : k ≤ i
    · rw [if_pos (by omega), if_pos h2]
    · rw [if_neg (by omega), if_neg h2]
theorem Arr2.other {w : World} {b : Nat} {x y : Int} (h : Arr2 w b x y) {a : Addr} (ha : b ≠ a.block) (v : Value) : Arr2 (w.setCell a v) b x y := by
  obtain ⟨h1, h2, h3⟩ := h
  refine ⟨by simpa using h1, ?_, ?_⟩
  · rw [← h2]; exact World.cell?_of_block (Deep.blk_setCell_other _ _ _ _ ha)
  · rw [← h3]; exact World.cell?_of_block (Deep.blk_setCell_other _ _ _ _ ha)
theorem Sl2.other {w : World} {b : Nat} {x y : Int} (h : Sl2 w b x y) {a : Addr} (ha : b ≠ a.block) (v : Value) : Sl2 (w.setCell a v) b x y := by
  obtain ⟨h1, h2, h3⟩ := h
  refine ⟨h1.other ha v, ?_, ?_⟩
  · rw [← h2]; exact World.frozen?_of_block (Deep.blk_setCell_other _ _ _ _ ha)
  · rw [← h3]; exact World.frozen?_of_block (Deep.blk_setCell_other _ _ _ _ ha)
def lowL (x : Nat) : Nat → List UInt8
  | 0 => []
  | k + 1 => dgt (x / 10 ^ k) 1 :: lowL x k
theorem lowL_snoc (k : Nat) : ∀ x, lowL x (k + 1) = lowL (x / 10) k ++ [dgt x 1] := by
  induction k with
  | zero => intro x; simp [lowL]
  | succ k ih =>
    intro x
    rw [lowL, ih x, lowL, List.cons_append, Nat.div_div_eq_div_mul, ← Nat.pow_succ']
theorem dgt_mod (x k : Nat) : dgt (x % 10 ^ (k + 1)) 1 = dgt x 1 := by
  unfold dgt
  rw [Nat.div_one, Nat.div_one, Nat.mod_mod_of_dvd _ ⟨10 ^ k, Nat.pow_succ'⟩]
theorem mod_div10 (x k : Nat) : x % 10 ^ (k + 1) / 10 = x / 10 % 10 ^ k := by
  rw [Nat.pow_succ']; exact Nat.mod_mul_right_div_self x 10 (10 ^ k)
theorem rep_snoc (k : Nat) : Lib.repeatL [48] (k + 1) = Lib.repeatL [48] k ++ [48] := by
  rw [Lib.repeatL_add, Lib.repeatL_one]
theorem pad_snoc (k n : Nat) (hk : 0 < k) (h : n < 10 ^ (k + 1)) : padL (k + 1) n = padL k (n / 10) ++ [dgt n 1] := by
  by_cases h1 : n < 10
  · have e : n / 10 = 0 := Nat.div_eq_of_lt h1
    obtain ⟨j, rfl⟩ : ∃ j, k = j + 1 := ⟨k - 1, by omega⟩
    unfold padL
    rw [e, dec1 n h1, dec1 0 (by omega)]
    have : dgt 0 1 = 48 := rfl
    rw [this]
    simp only [List.length_singleton, Nat.add_sub_cancel]
    rw [rep_snoc]
  · unfold padL
    rw [decS n (by omega), List.length_append, List.length_singleton, ← List.append_assoc, show k + 1 - ((Lib.decDigits (n / 10)).length + 1) = k - (Lib.decDigits (n / 10)).length by omega]
theorem pad_low (k : Nat) : ∀ x, padL (k + 1) (x % 10 ^ (k + 1)) = lowL x (k + 1) := by
  induction k with
  | zero =>
    intro x
    have h : x % 10 < 10 := Nat.mod_lt _ (by omega)
    unfold padL
    rw [Nat.zero_add, Nat.pow_one, dec1 _ h]
    simp [Lib.repeatL, lowL, dgt]
  | succ k ih =>
    intro x
    rw [pad_snoc _ _ (by omega) (Nat.mod_lt _ (p10 _)), mod_div10, ih, dgt_mod, lowL_snoc (k + 1) x]
theorem lowL_len (x : Nat) : ∀ k, (lowL x k).length = k
  | 0 => rfl
  | k + 1 => by rw [lowL, List.length_cons, lowL_len x k]
def decI (m : Nat) : List UInt8 := if m < 10 then [] else Lib.decDigits (m / 10)
theorem decI_eq (m : Nat) : Lib.decDigits m = decI m ++ [dgt m 1] := by
  unfold decI
  by_cases h : m < 10
  · rw [if_pos h, dec1 m h]; rfl
  · rw [if_neg h, decS m (by omega)]
theorem decI_next (m : Nat) (h : ¬ m < 10) : decI m = decI (m / 10) ++ [dgt (m / 10) 1] := by rw [← decI_eq]; unfold decI; rw [if_neg h]
/-- What stands behind the whole part. -/
def tailL (x s : Nat) : List UInt8 := if s = 0 then [] else 46 :: lowL x s
theorem txt_low (neg : Bool) (x s : Nat) : txtL neg x s = (if neg = true then [45] else []) ++ (Lib.decDigits (x / 10 ^ s) ++ tailL x s) := by
  unfold txtL tailL P10
  by_cases h : s = 0
  · rw [if_pos h, if_pos h]
  · obtain ⟨k, rfl⟩ : ∃ k, s = k + 1 := ⟨s - 1, by omega⟩
    rw [if_neg h, if_neg h, pad_low]
theorem conv1 (m : Nat) (z : Int) (hz : z = 48 + (m : Int) % 10) (w : World) : Sem.run Tryz.prog (convert 46 9 (.slice (some ⟨w.heap.size, 0, none⟩) 1 1)) (w.alloc (.cells #[.int .u8 z] 5)) =
    .ok (.string ⟨#[dgt m 1]⟩) (w.alloc (.cells #[.int .u8 z] 5)) := by
  refine Lib.run_convert_whole (P := Tryz.prog) (w.alloc (.cells #[.int .u8 z] 5)) 46 5 9 (by kernel_rfl) (by kernel_rfl) (by kernel_rfl) w.heap.size 0 ⟨#[dgt m 1]⟩ ?_ 1
  intro i hi
  obtain rfl : i = 0 := by simp [ByteArray.size] at hi; omega
  have h : (((⟨#[dgt m 1]⟩ : ByteArray)[0]'hi).toNat : Int) = z := by
    show ((dgt m 1).toNat : Int) = z
    rw [dgt_val, hz]; omega
  rw [h]
  simp [go_sem]
set_option maxRecDepth 100000 in
set_option maxHeartbeats 8000000 in
theorem rtext_raw (n : Int) (s : Nat) (h : SndD n s) (w : World) : Calls Tryz.prog 50 #[decA n s] w fun e w' => e = .returned (.tuple #[.string ⟨(txtL (decide (n < 0)) n.natAbs s).toArray⟩, .int .i64 0]) ∧ Bel w w' := by
  have c1 := Lib.hid fun w => rsound_any n s w
  have h1 := Lib.hid (sndB_t h)
  have sz := fun w => rsize_any n h.2.2.1 w
  have hx : n.natAbs ≤ 999999999999 := by have := h.2.2.1.1; have := h.2.2.1.2; omega
  have hv := txt_low (decide (n < 0)) n.natAbs s
  have hs6 : (s : Int) ≤ 6 := h.2.1
  obtain ⟨x, hxx⟩ : ∃ x, x = n.natAbs := ⟨_, rfl⟩
  rw [← hxx] at sz hx hv ⊢
  have HV := Lib.hid hv
  have HX := Lib.hid hx
  have SZ := Lib.hid sz
  clear h hx hv hxx sz
  go_enter Tryz.func50, Tryz.ntmps50
  go_wp2_with fail
  refine under_call ((Bel.refl w).alloc _) fun W hc hf hz hb => ?_
  have hA : Arr2 W w.heap.size n s := by simp [Arr2, hz, hc, hf, go_sem]
  clear hc hf hz
  go_wp2_with (first
    | (go_at_call 74; refine (c1.out _).mono ?_; rintro e W1 ⟨rfl, hb1⟩; rw [h1.out]; replace hA := hA.keep hb1; replace hb := hb.trans hb1; clear hb1)
    | (go_at_call 75; refine (SZ.out _).mono ?_; rintro e W2 ⟨rfl, rfl⟩))
  go_loopg [4, 5, 6] s (fun g v4 v5 v6 wr => ∃ k : Nat, v4 = .int .i64 ((x / 10 ^ k : Nat) : Int) ∧ v5 = .string ⟨(lowL x k).toArray⟩ ∧ v6 = .int .i64 k ∧ Hid (g = s - k ∧ k ≤ s) ∧ Arr2 wr w.heap.size n s ∧ Bel w wr)
  case atStart => exact ⟨0, by simp, rfl, rfl, ⟨rfl, Nat.zero_le _⟩, hA, hb⟩
  case round =>
    clear hA hb
    obtain ⟨k, rfl, rfl, rfl, hh, hA, hb⟩ := hrel
    by_cases hlt : (k : Int) < s
    · have hle : ((x / 10 ^ k : Nat) : Int) ≤ 999999999999 := by have := Nat.div_le_self x (10 ^ k); have := HX.out; omega
      have hll := lowL_len x k
      have hl6 : (lowL x k).length ≤ 6 := by omega
      have NL := Lib.hid (show lowL x (k + 1) = dgt (x / 10 ^ k) 1 :: lowL x k from rfl)
      have ND := Lib.hid (show ((x / 10 ^ k : Nat) : Int) / 10 = ((x / 10 ^ (k + 1) : Nat) : Int) by rw [div_succ]; omega)
      obtain ⟨y, hy⟩ : ∃ y, y = x / 10 ^ k := ⟨_, rfl⟩
      obtain ⟨L, hL⟩ : ∃ L, L = lowL x k := ⟨_, rfl⟩
      rw [← hy] at hle NL ND ⊢
      rw [← hL] at hl6 NL ⊢
      have hcv := fun w => conv1 y (48 + (y : Int) % 10) rfl w
      have hsz : ¬ 9223372036854775807 < 1 + L.length := by omega
      clear hll hy hL
      go_wp2_with fail
      go_roundg (gk - 1)
      case measure => have := hh.out; omega
      case rel => exact ⟨k + 1, by rw [ND.out], by rw [NL.out, show dgt y 1 :: L = [dgt y 1] ++ L from rfl, ← app_bytes], by go_num, ⟨by have := hh.out; omega, by omega⟩, hA.keep ((Bel.refl _).alloc _), hb.alloc _⟩
    · obtain rfl : k = s := by have := hh.out.2; omega
      have hle : ((x / 10 ^ k : Nat) : Int) ≤ 999999999999 := by have := Nat.div_le_self x (10 ^ k); have := HX.out; omega
      have LEN := Lib.hid (show (Lib.decDigits (x / 10 ^ k) ++ tailL x k).length ≤ 25 by
        have h1 := dec_len_le 11 (x / 10 ^ k) (by omega)
        have h2 := lowL_len x k
        unfold tailL
        by_cases h : k = 0
        · rw [if_pos h]; simp; omega
        · rw [if_neg h]; simp; omega)
      obtain ⟨y, hy⟩ : ∃ y, y = x / 10 ^ k := ⟨_, rfl⟩
      rw [← hy] at hle LEN HV ⊢
      clear hy
      have hcv := fun w => conv1 y (48 + (y : Int) % 10) rfl w
      have hlow := lowL_len x k
      by_cases h0 : (0 : Int) < k
      · have HT := Lib.hid (show tailL x k = 46 :: lowL x k from if_neg (by omega))
        have hl6 : (lowL x k).length ≤ 6 := by omega
        have hsz1 : ¬ 9223372036854775807 < 1 + (lowL x k).length := by omega
        have hsz2 : ¬ 9223372036854775807 < 1 + (1 + (lowL x k).length) := by omega
        obtain ⟨L, hL⟩ : ∃ L, L = lowL x k := ⟨_, rfl⟩
        rw [← hL] at hl6 HT hsz1 hsz2 ⊢
        clear hlow hL
        go_wp2_with fail
        clear hcv hsz1 hsz2
        go_loopg [4, 5] y (fun g v4 v5 wr => ∃ (m : Nat) (tl : List UInt8), v4 = .int .i64 m ∧ v5 = .string ⟨(dgt m 1 :: tl).toArray⟩ ∧ Hid (Lib.decDigits y ++ tailL x k = decI m ++ dgt m 1 :: tl ∧ g = m) ∧ (m : Int) ≤ 999999999999 ∧ Arr2 wr w.heap.size n k ∧ Bel w wr)
        case atStart => exact ⟨y, tailL x k, rfl, by rw [HT.out, show dgt y 1 :: 46 :: L = [dgt y 1] ++ ([46] ++ L) from rfl, ← app_bytes, ← app_bytes], ⟨by rw [decI_eq]; simp, rfl⟩, hle, hA.keep ((Bel.refl _).alloc _), hb.alloc _⟩
        case round =>
          clear hA hb hle
          obtain ⟨m, tl, rfl, rfl, hh2, hm, hA, hb⟩ := hrel
          have htl : tl.length ≤ 30 := by
            have h := congrArg List.length hh2.out.1
            have := LEN.out
            simp at h this; omega
          by_cases hm10 : (m : Int) < 10
          · have hfin := Lib.hid (show Lib.decDigits y ++ tailL x k = dgt m 1 :: tl by rw [hh2.out.1, decI, if_pos (by omega)]; rfl)
            by_cases hn : n < 0
            · have hd := Lib.hid (show decide (n < 0) = true from decide_eq_true hn)
              have hsz : ¬ 9223372036854775807 < 1 + (tl.length + 1) := by omega
              go_wp2_with fail
              go_ret2
              refine ⟨?_, hb⟩
              rw [HV.out, hd.out, hfin.out, if_pos rfl, ← app_bytes]
              rfl
            · have hd := Lib.hid (show decide (n < 0) = false from decide_eq_false hn)
              go_wp2_with fail
              go_ret2
              refine ⟨?_, hb⟩
              rw [HV.out, hd.out, hfin.out, if_neg (by decide)]
              rfl
          · have hcv := fun w => conv1 (m / 10) (48 + (m : Int) / 10 % 10) (by omega) w
            have hsz : ¬ 9223372036854775807 < 1 + (tl.length + 1) := by omega
            have hnext := Lib.hid (show Lib.decDigits y ++ tailL x k = decI (m / 10) ++ dgt (m / 10) 1 :: (dgt m 1 :: tl) by
              rw [hh2.out.1, decI_next m (by omega)]; simp)
            go_wp2_with fail
            go_roundg (m / 10)
            case measure => have := hh2.out.2; omega
            case rel => exact ⟨m / 10, dgt m 1 :: tl, by go_num, by rw [show dgt (m / 10) 1 :: dgt m 1 :: tl = [dgt (m / 10) 1] ++ (dgt m 1 :: tl) from rfl, ← app_bytes], ⟨hnext.out, rfl⟩, by omega, hA.keep ((Bel.refl _).alloc _), hb.alloc _⟩
      · have HT := Lib.hid (show tailL x k = [] from if_pos (by omega))
        have hL : lowL x k = [] := List.eq_nil_of_length_eq_zero (by omega)
        rw [hL]
        clear hlow hL
        go_wp2_with fail
        clear hcv
        go_loopg [4, 5] y (fun g v4 v5 wr => ∃ (m : Nat) (tl : List UInt8), v4 = .int .i64 m ∧ v5 = .string ⟨(dgt m 1 :: tl).toArray⟩ ∧ Hid (Lib.decDigits y ++ tailL x k = decI m ++ dgt m 1 :: tl ∧ g = m) ∧ (m : Int) ≤ 999999999999 ∧ Arr2 wr w.heap.size n k ∧ Bel w wr)
        case atStart => exact ⟨y, tailL x k, rfl, by rw [HT.out]; rfl, ⟨by rw [decI_eq]; simp, rfl⟩, hle, hA.keep ((Bel.refl _).alloc _), hb.alloc _⟩
        case round =>
          clear hA hb hle
          obtain ⟨m, tl, rfl, rfl, hh2, hm, hA, hb⟩ := hrel
          have htl : tl.length ≤ 30 := by
            have h := congrArg List.length hh2.out.1
            have := LEN.out
            simp at h this; omega
          by_cases hm10 : (m : Int) < 10
          · have hfin := Lib.hid (show Lib.decDigits y ++ tailL x k = dgt m 1 :: tl by rw [hh2.out.1, decI, if_pos (by omega)]; rfl)
            by_cases hn : n < 0
            · have hd := Lib.hid (show decide (n < 0) = true from decide_eq_true hn)
              have hsz : ¬ 9223372036854775807 < 1 + (tl.length + 1) := by omega
              go_wp2_with fail
              go_ret2
              refine ⟨?_, hb⟩
              rw [HV.out, hd.out, hfin.out, if_pos rfl, ← app_bytes]
              rfl
            · have hd := Lib.hid (show decide (n < 0) = false from decide_eq_false hn)
              go_wp2_with fail
              go_ret2
              refine ⟨?_, hb⟩
              rw [HV.out, hd.out, hfin.out, if_neg (by decide)]
              rfl
          · have hcv := fun w => conv1 (m / 10) (48 + (m : Int) / 10 % 10) (by omega) w
            have hsz : ¬ 9223372036854775807 < 1 + (tl.length + 1) := by omega
            have hnext := Lib.hid (show Lib.decDigits y ++ tailL x k = decI (m / 10) ++ dgt (m / 10) 1 :: (dgt m 1 :: tl) by
              rw [hh2.out.1, decI_next m (by omega)]; simp)
            go_wp2_with fail
            go_roundg (m / 10)
            case measure => have := hh2.out.2; omega
            case rel => exact ⟨m / 10, dgt m 1 :: tl, by go_num, by rw [show dgt (m / 10) 1 :: dgt m 1 :: tl = [dgt (m / 10) 1] ++ (dgt m 1 :: tl) from rfl, ← app_bytes], ⟨hnext.out, rfl⟩, by omega, hA.keep ((Bel.refl _).alloc _), hb.alloc _⟩
theorem trim_z (s : Nat) : trim 0 s = (0, 0) := by
  induction s with
  | zero => rfl
  | succ k ih => rw [trim_step _ _ rfl]; exact ih
/-- What has been read: digits alone; or digits, a point, digits. -/
def StA (l : List UInt8) (k : Nat) : Prop := dOk (l.take k) = true
def StB (l : List UInt8) (d k : Nat) : Prop := d < k ∧ d < l.length ∧ dOk (l.take d) = true ∧ l[d]? = some 46 ∧ dOk ((l.take k).drop (d + 1)) = true
theorem stA_0 (l : List UInt8) : StA l 0 := rfl
theorem stA_next {l : List UInt8} {k : Nat} (h : StA l k) (hk : k < l.length) (hc : dB l[k] = true) : StA l (k + 1) := by
  unfold StA dOk at *
  rw [all_take_succ _ _ _ hk, h, hc]; rfl
theorem stA_dot {l : List UInt8} {k : Nat} (h : StA l k) (hk : k < l.length) (hc : l[k] = 46) : StB l k (k + 1) := by
  refine ⟨by omega, hk, h, by rw [List.getElem?_eq_getElem hk, hc], ?_⟩
  rw [List.drop_of_length_le (by simp; omega)]; rfl
theorem split_at {l : List UInt8} {k : Nat} (hk : k < l.length) : l = l.take k ++ l[k] :: l.drop (k + 1) := by
  rw [List.getElem_cons_drop, List.take_append_drop]
theorem ne46 {a : List UInt8} (h : dOk a = true) : ∀ x ∈ a, (x != 46) = true := fun x hx => dB_46 (by simp only [dOk, List.all_eq_true] at h; exact h x hx)
theorem bef_bad {a r : List UInt8} {c : UInt8} (ha : dOk a = true) (h46 : c ≠ 46) (hc : dB c = false) : digB (bef46 (a ++ c :: r)) = false := by
  have e : bef46 (a ++ c :: r) = a ++ c :: bef46 r := by
    unfold bef46
    rw [List.takeWhile_append_of_pos (ne46 ha), List.takeWhile_cons, if_pos (by simpa using h46)]
  rw [e]
  exact digB_no (by rw [dOk_app]; simp [dOk, hc])
theorem stA_bad {l : List UInt8} {k : Nat} (h : StA l k) (hk : k < l.length) (h46 : l[k] ≠ 46) (hc : dB l[k] = false) : digB (bef46 l) = false := by
  rw [split_at hk]
  exact bef_bad h h46 hc
theorem stB_next {l : List UInt8} {d k : Nat} (h : StB l d k) (hk : k < l.length) (hc : dB l[k] = true) : StB l d (k + 1) := by
  obtain ⟨h1, h2, h3, h4, h5⟩ := h
  refine ⟨by omega, h2, h3, h4, ?_⟩
  rw [List.take_succ_eq_append_getElem hk, List.drop_append_of_le_length (by simp; omega), dOk_app, h5]
  simp [dOk, hc]
theorem stB_cut {l : List UInt8} {d k : Nat} (h : StB l d k) : bef46 l = l.take d ∧ aft46 l = l.drop (d + 1) ∧ has46 l = true := by
  obtain ⟨h1, h2, h3, h4, h5⟩ := h
  have e : l[d] = 46 := by rw [List.getElem?_eq_getElem h2] at h4; exact Option.some.inj h4
  have h6 := cut_at (l.take d) (l.drop (d + 1)) h3
  rw [← e, ← split_at h2] at h6
  exact h6
theorem stB_bad {l : List UInt8} {d k : Nat} (h : StB l d k) (hk : k < l.length) (hc : dB l[k] = false) : has46 l = true ∧ digB (aft46 l) = false := by
  obtain ⟨c1, c2, c3⟩ := stB_cut h
  refine ⟨c3, ?_⟩
  rw [c2]
  refine digB_no (dOk_no _ (k - (d + 1)) (by have := h.1; simp; omega) ?_)
  have e : (l.drop (d + 1))[k - (d + 1)]'(by have := h.1; simp; omega) = l[k] := by
    rw [List.getElem_drop]
    congr 1
    have := h.1; omega
  rw [e]; exact hc
theorem stA_end {l : List UInt8} {k : Nat} (h : StA l k) (hk : l.length ≤ k) : bef46 l = l ∧ aft46 l = [] ∧ has46 l = false ∧ dOk l = true := by
  have h' : dOk l = true := by
    unfold StA at h
    rwa [List.take_of_length_le hk] at h
  obtain ⟨a, b, c⟩ := cut_none l h'
  exact ⟨a, b, c, h'⟩
theorem stB_end {l : List UInt8} {d k : Nat} (h : StB l d k) (hk : l.length ≤ k) : bef46 l = l.take d ∧ aft46 l = l.drop (d + 1) ∧ has46 l = true ∧ dOk (l.take d) = true ∧ dOk (l.drop (d + 1)) = true := by
  obtain ⟨c1, c2, c3⟩ := stB_cut h
  refine ⟨c1, c2, c3, h.2.2.1, ?_⟩
  have := h.2.2.2.2
  rwa [List.take_of_length_le hk] at this
theorem trimR_drop (r : List UInt8) : trimR (r ++ [48]) = trimR r := by
  unfold trimR Lib.trimRightB
  rw [List.reverse_append]
  simp
theorem numL_bd' (l : List UInt8) (h : dOk l = true) : numL l < 10 ^ l.length := by
  have := fold_bd l 0 h
  unfold numL
  omega
theorem numL_at (l : List UInt8) (h : dOk l = true) (i : Nat) (hi : i < l.length) : dg (numL l) (l.length - 1 - i) = l[i].toNat - 48 := by
  have e := split_at hi
  have h1 : dOk (l.take i) = true ∧ dB l[i] = true ∧ dOk (l.drop (i + 1)) = true := by
    rw [e, dOk_app] at h
    simp only [dOk, List.all_cons, Bool.and_eq_true] at h
    exact ⟨h.1, h.2.1, h.2.2⟩
  obtain ⟨h1, h2, h3⟩ := h1
  have hb := numL_bd' _ h3
  have hlen : (l.drop (i + 1)).length = l.length - 1 - i := by simp; omega
  rw [hlen] at hb
  have hn : numL l = (numL (l.take i) * 10 + (l[i].toNat - 48)) * 10 ^ (l.length - 1 - i) + numL (l.drop (i + 1)) := by
    conv => lhs; rw [e]
    rw [show l.take i ++ l[i] :: l.drop (i + 1) = (l.take i ++ [l[i]]) ++ l.drop (i + 1) by simp, numL_app, numL_app, hlen]
    simp [numL]
  have hd : l[i].toNat - 48 < 10 := by
    unfold dB at h2
    rw [decide_eq_true_eq] at h2
    omega
  rw [hn, dg, Nat.mul_comm, Nat.mul_add_div (p10 _), Nat.div_eq_of_lt hb, Nat.add_zero]
  omega
theorem decV_zero (x y : Bool) (s : Nat) : decV x 0 s = decV y 0 s := by
  unfold decV
  rw [trim_z]
  cases x <;> cases y <;> rfl
theorem decV_sgn (mn : Bool) (V s : Nat) : decV (mn && decide (0 < V)) V s = decV mn V s := by
  by_cases h : V = 0
  · subst h; exact decV_zero _ _ _
  · rw [decide_eq_true (by omega), Bool.and_true]
theorem parts_bad {mn : Bool} {W P : List UInt8} {pt : Bool} (h : digB W = false ∨ (1 < W.length ∧ W[0]? = some 48) ∨ (pt = true ∧ digB P = false)) : partsV mn W P pt = errV 5 := if_pos h
/-- What may be a number's parts. -/
def GoodP (W P : List UInt8) (pt : Bool) : Prop := ¬ (digB W = false ∨ (1 < W.length ∧ W[0]? = some 48) ∨ (pt = true ∧ digB P = false))
theorem parts_far {mn : Bool} {W P : List UInt8} {pt : Bool} (h : GoodP W P pt) (h2 : 12 < W.length ∨ 6 < (trimR P).length) : partsV mn W P pt = errV 3 := by
  unfold partsV
  rw [if_neg h, if_pos h2]
theorem parts_good {mn : Bool} {W P : List UInt8} {pt : Bool} (h : GoodP W P pt) (h2 : ¬ (12 < W.length ∨ 6 < (trimR P).length)) :
    partsV mn W P pt = decV mn (numL (W ++ trimR P)) (trimR P).length := by
  unfold partsV
  rw [if_neg h, if_neg h2, decV_sgn]
theorem ext_end (s : ByteArray) (a : Nat) : (s.extract a s.size).data.toList = s.data.toList.drop a := by
  rw [Lib.extract_data, List.take_of_length_le]
  rw [List.length_drop, Array.length_toList]
  exact Nat.le_refl _
theorem ext_start (s : ByteArray) (b : Nat) : (s.extract 0 b).data.toList = s.data.toList.take b := by
  rw [Lib.extract_data]; simp
theorem size_list (s : ByteArray) : s.data.toList.length = s.size := by rw [Array.length_toList]; rfl
/-- The sign ahead. -/
theorem pre_cases (s : ByteArray) : ∃ (mn : Bool) (B : ByteArray), Lib.hasPrefix s.data.toList [45] = mn ∧ Lib.trimPrefix s.data.toList [45] = B.data.toList ∧ B.size ≤ s.size ∧
    (mn = true → ∃ h : 0 < s.size, s[0] = 45 ∧ B = s.extract 1 s.size) ∧ (mn = false → B = s ∧ ∀ h : 0 < s.size, s[0] ≠ 45) := by
  by_cases h0 : 0 < s.size
  · have hl : 0 < s.data.toList.length := by rw [Array.length_toList]; exact h0
    have hg : s.data.toList[0] = s[0] := rfl
    obtain ⟨c, r, hr⟩ : ∃ c r, s.data.toList = c :: r := by
      cases h : s.data.toList with
      | nil => rw [h] at hl; simp at hl
      | cons c r => exact ⟨c, r, rfl⟩
    have hc : s[0] = c := by rw [← hg]; simp [hr]
    by_cases h1 : c = 45
    · refine ⟨true, s.extract 1 s.size, ?_, ?_, by simp [ByteArray.size_extract], fun _ => ⟨h0, hc.trans h1, rfl⟩, (fun h => by cases h)⟩
      · rw [hr, h1]; simp [Lib.hasPrefix]
      · unfold Lib.trimPrefix
        rw [hr, h1, if_pos (by simp [Lib.hasPrefix]), ext_end, hr]; rfl
    · refine ⟨false, s, ?_, ?_, Nat.le_refl _, (fun h => by cases h), fun _ => ⟨rfl, fun _ => by rw [hc]; exact h1⟩⟩
      · rw [hr]; simp [Lib.hasPrefix, List.isPrefixOf]; exact fun h => h1 h.symm
      · unfold Lib.trimPrefix
        rw [hr, if_neg (by simp [Lib.hasPrefix, List.isPrefixOf]; exact fun h => h1 h.symm)]
  · have he : s.data.toList = [] := List.eq_nil_of_length_eq_zero (by rw [Array.length_toList]; show s.size = 0; omega)
    refine ⟨false, s, ?_, ?_, Nat.le_refl _, (fun h => by cases h), fun _ => ⟨rfl, fun h => absurd h h0⟩⟩
    · rw [he]; rfl
    · rw [he]; rfl
theorem u8_eq46 {b : UInt8} : ((b.toNat : Int) == 46) = decide (b = 46) := by
  rw [Bool.eq_iff_iff]
  simp only [beq_iff_eq, decide_eq_true_eq]
  constructor
  · intro h
    exact UInt8.toNat_inj.mp (by have : b.toNat = 46 := by omega
                                 rw [this]; rfl)
  · rintro rfl; rfl
theorem u8_eq45 {b : UInt8} : ((b.toNat : Int) == 45) = decide (b = 45) := by
  rw [Bool.eq_iff_iff]
  simp only [beq_iff_eq, decide_eq_true_eq]
  constructor
  · intro h
    exact UInt8.toNat_inj.mp (by have : b.toNat = 45 := by omega
                                 rw [this]; rfl)
  · rintro rfl; rfl
set_option maxRecDepth 100000 in
set_option maxHeartbeats 16000000 in
theorem rparse_any (s : ByteArray) (hs : s.size ≤ 9223372036854775807) (w : World) : Calls Tryz.prog 39 #[.string s] w fun e w' => e = .returned (parseV s.data.toList) ∧ Bel w w' := by
  obtain ⟨mn, B, hm1, hm2, hBs, hmt, hmf⟩ := pre_cases s
  have PV := Lib.hid (show parseV s.data.toList = partsV mn (bef46 B.data.toList) (aft46 B.data.toList) (has46 B.data.toList) by rw [parseV, hm1, hm2])
  have HMT := Lib.hid hmt
  have HMF := Lib.hid hmf
  have hBi : (B.size : Int) ≤ 9223372036854775807 := by omega
  have hBB : B.size ≤ 9223372036854775807 := by omega
  clear hm1 hm2 hmt hmf hBs
  go_enter Tryz.func39, Tryz.ntmps39
  go_upto_region 1 with (fail)
  refine under_name ((Bel.refl w).alloc _) fun W hc hf hz hb => ?_
  have hR : Sl2 W w.heap.size 0 0 := by simp [Sl2, Arr2, Fr2, hz, hc, hf, go_sem]
  clear hc hf hz
  go_cut [4] (fun v wx => v = .bool mn ∧ W = wx)
  case first =>
    cases mn with
    | true =>
      obtain ⟨h0, h1, -⟩ := HMT.out rfl
      have e1 : ((s[0].toNat : Int) == 45) = true := by rw [u8_eq45, h1]; rfl
      have i0 : (0 : Int) < s.size := by omega
      clear h1
      go_wp2
      go_meet
      exact ⟨rfl, rfl⟩
    | false =>
      obtain ⟨-, h1⟩ := HMF.out rfl
      by_cases h0 : 0 < s.size
      · have e1 : ((s[0].toNat : Int) == 45) = false := by rw [u8_eq45]; exact decide_eq_false (h1 h0)
        have i0 : (0 : Int) < s.size := by omega
        clear h1
        go_wp2
        go_meet
        exact ⟨rfl, rfl⟩
      · have i0 : ¬ (0 : Int) < s.size := by omega
        clear h1
        go_wp2
        go_meet
        exact ⟨rfl, rfl⟩
  case rest =>
    obtain ⟨rfl, rfl⟩ := hcut
    go_upto_if 20 with (fail)
    go_cut [0] (fun v wx => v = .string B ∧ W = wx)
    case first =>
      cases mn with
      | true =>
        obtain ⟨h0, -, rfl⟩ := HMT.out rfl
        have i0 : (1 : Int) ≤ s.size := by omega
        go_wp2
        go_meet
        exact ⟨rfl, rfl⟩
      | false =>
        obtain ⟨rfl, -⟩ := HMF.out rfl
        go_wp2
        go_meet
        exact ⟨rfl, rfl⟩
    case rest =>
      obtain ⟨rfl, rfl⟩ := hcut
      clear HMT HMF
      go_wp2_with fail
      go_loopg [5, 6] B.size (fun g v5 v6 wr => ∃ (k : Nat) (z : Int), v6 = .int .i64 k ∧ v5 = .int .i64 z ∧ k ≤ B.size ∧ Hid (((z = -1 ∧ StA B.data.toList k) ∨ (∃ d : Nat, z = d ∧ StB B.data.toList d k)) ∧ g = B.size - k) ∧ wr = W)
      case atStart => exact ⟨0, -1, rfl, rfl, by omega, ⟨.inl ⟨rfl, stA_0 _⟩, rfl⟩, rfl⟩
      case round =>
        obtain ⟨k, z, rfl, rfl, hk, hh, rfl⟩ := hrel
        by_cases hlt : k < B.size
        · have hkl : k < B.data.toList.length := by rw [size_list]; exact hlt
          have hg : B.data.toList[k] = B[k] := rfl
          have hki : (k : Int) < B.size := by omega
          rcases hh.out.1 with ⟨rfl, st⟩ | ⟨d, rfl, st⟩
          · by_cases h46 : B[k] = 46
            · have e1 : ((B[k].toNat : Int) == 46) = true := by rw [u8_eq46, h46]; rfl
              have NX := Lib.hid (stA_dot st hkl (by rw [hg]; exact h46))
              clear h46 hg
              go_wp2
              go_roundg (gk - 1)
              case measure => have := hh.out.2; omega
              case rel => exact ⟨k + 1, _, by go_num, rfl, by omega, ⟨.inr ⟨k, rfl, NX.out⟩, by have := hh.out.2; omega⟩, rfl⟩
            · have e1 : ((B[k].toNat : Int) == 46) = false := by rw [u8_eq46]; exact decide_eq_false h46
              by_cases d1 : 48 ≤ B[k].toNat
              · have b1 : decide ((B[k].toNat : Int) < 48) = false := by simp; omega
                by_cases d2 : B[k].toNat ≤ 57
                · have b2 : decide (57 < (B[k].toNat : Int)) = false := by simp; omega
                  have NX := Lib.hid (stA_next st hkl (by rw [hg]; simp [dB, d1, d2]))
                  clear d1 d2 hg h46
                  go_wp2
                  go_roundg (gk - 1)
                  case measure => have := hh.out.2; omega
                  case rel => exact ⟨k + 1, _, by go_num, rfl, by omega, ⟨.inl ⟨rfl, NX.out⟩, by have := hh.out.2; omega⟩, rfl⟩
                · have b2 : decide (57 < (B[k].toNat : Int)) = true := by simp; omega
                  have BAD := Lib.hid (PV.out.trans (parts_bad (.inl (stA_bad st hkl (by rw [hg]; exact h46) (by rw [hg]; simp [dB]; omega)))))
                  clear d1 d2 hg h46
                  go_wp2
                  refine bodyPost_ret (by simp [results, Tryz.results39, go_sem, hR]; try rfl) rfl ⟨by (rw [BAD.out]) <;> rfl, ?_⟩
                  (repeat (first | with_reducible exact Bel.refl _ | with_reducible refine Bel.setCell ?_ (by first | exact Nat.le_refl _ | (dsimp only; omega)) _ | with_reducible refine Bel.alloc ?_ _ | with_reducible refine Bel.drew ?_ | with_reducible assumption | with_reducible refine Bel.trans ?_ (by assumption)))
              · have b1 : decide ((B[k].toNat : Int) < 48) = true := by simp; omega
                have BAD := Lib.hid (PV.out.trans (parts_bad (.inl (stA_bad st hkl (by rw [hg]; exact h46) (by rw [hg]; simp [dB]; omega)))))
                clear d1 hg h46
                go_wp2
                refine bodyPost_ret (by simp [results, Tryz.results39, go_sem, hR]; try rfl) rfl ⟨by (rw [BAD.out]) <;> rfl, ?_⟩
                (repeat (first | with_reducible exact Bel.refl _ | with_reducible refine Bel.setCell ?_ (by first | exact Nat.le_refl _ | (dsimp only; omega)) _ | with_reducible refine Bel.alloc ?_ _ | with_reducible refine Bel.drew ?_ | with_reducible assumption | with_reducible refine Bel.trans ?_ (by assumption)))
          · by_cases h46 : B[k] = 46
            · have e1 : ((B[k].toNat : Int) == 46) = true := by rw [u8_eq46, h46]; rfl
              have e46 : B[k].toNat = 46 := by rw [h46]; rfl
              have b1 : decide ((B[k].toNat : Int) < 48) = true := by simp; omega
              have BAD := Lib.hid (show parseV s.data.toList = errV 5 by
                rw [PV.out]
                obtain ⟨q1, q2⟩ := stB_bad st hkl (by rw [hg]; simp [dB]; omega)
                exact parts_bad (.inr (.inr ⟨q1, q2⟩)))
              clear h46 e46 hg
              go_wp2
              refine bodyPost_ret (by simp [results, Tryz.results39, go_sem, hR]; try rfl) rfl ⟨by (rw [BAD.out]) <;> rfl, ?_⟩
              (repeat (first | with_reducible exact Bel.refl _ | with_reducible refine Bel.setCell ?_ (by first | exact Nat.le_refl _ | (dsimp only; omega)) _ | with_reducible refine Bel.alloc ?_ _ | with_reducible refine Bel.drew ?_ | with_reducible assumption | with_reducible refine Bel.trans ?_ (by assumption)))
            · have e1 : ((B[k].toNat : Int) == 46) = false := by rw [u8_eq46]; exact decide_eq_false h46
              by_cases d1 : 48 ≤ B[k].toNat
              · have b1 : decide ((B[k].toNat : Int) < 48) = false := by simp; omega
                by_cases d2 : B[k].toNat ≤ 57
                · have b2 : decide (57 < (B[k].toNat : Int)) = false := by simp; omega
                  have NX := Lib.hid (stB_next st hkl (by rw [hg]; simp [dB, d1, d2]))
                  clear d1 d2 hg h46
                  go_wp2
                  go_roundg (gk - 1)
                  case measure => have := hh.out.2; omega
                  case rel => exact ⟨k + 1, _, by go_num, rfl, by omega, ⟨.inr ⟨d, rfl, NX.out⟩, by have := hh.out.2; omega⟩, rfl⟩
                · have b2 : decide (57 < (B[k].toNat : Int)) = true := by simp; omega
                  have BAD := Lib.hid (show parseV s.data.toList = errV 5 by
                    rw [PV.out]
                    obtain ⟨q1, q2⟩ := stB_bad st hkl (by rw [hg]; simp [dB]; omega)
                    exact parts_bad (.inr (.inr ⟨q1, q2⟩)))
                  clear d1 d2 hg h46
                  go_wp2
                  refine bodyPost_ret (by simp [results, Tryz.results39, go_sem, hR]; try rfl) rfl ⟨by (rw [BAD.out]) <;> rfl, ?_⟩
                  (repeat (first | with_reducible exact Bel.refl _ | with_reducible refine Bel.setCell ?_ (by first | exact Nat.le_refl _ | (dsimp only; omega)) _ | with_reducible refine Bel.alloc ?_ _ | with_reducible refine Bel.drew ?_ | with_reducible assumption | with_reducible refine Bel.trans ?_ (by assumption)))
              · have b1 : decide ((B[k].toNat : Int) < 48) = true := by simp; omega
                have BAD := Lib.hid (show parseV s.data.toList = errV 5 by
                  rw [PV.out]
                  obtain ⟨q1, q2⟩ := stB_bad st hkl (by rw [hg]; simp [dB]; omega)
                  exact parts_bad (.inr (.inr ⟨q1, q2⟩)))
                clear d1 hg h46
                go_wp2
                refine bodyPost_ret (by simp [results, Tryz.results39, go_sem, hR]; try rfl) rfl ⟨by (rw [BAD.out]) <;> rfl, ?_⟩
                (repeat (first | with_reducible exact Bel.refl _ | with_reducible refine Bel.setCell ?_ (by first | exact Nat.le_refl _ | (dsimp only; omega)) _ | with_reducible refine Bel.alloc ?_ _ | with_reducible refine Bel.drew ?_ | with_reducible assumption | with_reducible refine Bel.trans ?_ (by assumption)))
        · obtain rfl : k = B.size := by omega
          have hle : B.data.toList.length ≤ B.size := by rw [size_list]; exact Nat.le_refl _
          rcases hh.out.1 with ⟨rfl, st⟩ | ⟨d, rfl, st⟩
          · obtain ⟨q1, q2, q3, q4⟩ := stA_end st hle
            have P2 := Lib.hid (show parseV s.data.toList = partsV mn B.data.toList (⟨#[]⟩ : ByteArray).data.toList false by rw [PV.out, q1, q2, q3])
            have WK := Lib.hid q4
            have PK := Lib.hid (show dOk (⟨#[]⟩ : ByteArray).data.toList = true from rfl)
            have PT := Lib.hid (show false = true → ¬ digB (⟨#[]⟩ : ByteArray).data.toList = false from fun h => by cases h)
            have PSZ : ((⟨#[]⟩ : ByteArray).size : Int) ≤ 9223372036854775807 := by decide
            clear q1 q2 q3 q4 st
            by_cases w0 : B.size = 0
            · have e0 : B.toList.isEmpty = true := by
                rw [ByteArray.toList_eq, List.isEmpty_iff]
                exact List.eq_nil_of_length_eq_zero (by rw [size_list]; exact w0)
              have BAD := Lib.hid (P2.out.trans (parts_bad (.inl (by
                have e : B.data.toList = [] := List.eq_nil_of_length_eq_zero (by rw [size_list]; exact w0)
                rw [e]; rfl))))
              clear w0
              go_wp2
              refine bodyPost_ret (by simp [results, Tryz.results39, go_sem, hR]; try rfl) rfl ⟨by (rw [BAD.out]) <;> rfl, ?_⟩
              (repeat (first | with_reducible exact Bel.refl _ | with_reducible refine Bel.setCell ?_ (by first | exact Nat.le_refl _ | (dsimp only; omega)) _ | with_reducible refine Bel.alloc ?_ _ | with_reducible refine Bel.drew ?_ | with_reducible assumption | with_reducible refine Bel.trans ?_ (by assumption)))
            · have w00 : 0 < B.size := by omega
              have e0 : B.toList.isEmpty = false := by
                rw [ByteArray.toList_eq, Bool.eq_false_iff, ne_eq, List.isEmpty_iff]
                intro h
                have := size_list B
                rw [h] at this
                simp at this; omega
              by_cases w1 : 1 < B.size ∧ B[0] = 48
              · obtain ⟨w2, w3⟩ := w1
                have e1 : ((B[0].toNat : Int) == 48) = true := by rw [u8_eq48, w3]; rfl
                have BAD := Lib.hid (P2.out.trans (parts_bad (.inr (.inl ⟨by rw [size_list]; exact w2, by rw [idx0 w00, w3]⟩))))
                have i1 : (1 : Int) < B.size := by omega
                clear w0 w3
                go_wp2
                refine bodyPost_ret (by simp [results, Tryz.results39, go_sem, hR]; try rfl) rfl ⟨by (rw [BAD.out]) <;> rfl, ?_⟩
                (repeat (first | with_reducible exact Bel.refl _ | with_reducible refine Bel.setCell ?_ (by first | exact Nat.le_refl _ | (dsimp only; omega)) _ | with_reducible refine Bel.alloc ?_ _ | with_reducible refine Bel.drew ?_ | with_reducible assumption | with_reducible refine Bel.trans ?_ (by assumption)))
              · have GP := Lib.hid (show GoodP (B.data.toList) ((⟨#[]⟩ : ByteArray).data.toList) false by
                  unfold GoodP
                  rintro (h | ⟨h, h'⟩ | ⟨h, h'⟩)
                  · have hne : (B.data.toList).isEmpty = false := by rw [← ByteArray.toList_eq]; exact e0
                    rw [digB, WK.out, hne] at h; cases h
                  · rw [size_list] at h
                    rw [idx0 w00] at h'
                    exact w1 ⟨h, Option.some.inj h'⟩
                  · exact PT.out h h')
                have hvar : ((1 : Int) < B.size ∧ ((B[0].toNat : Int) == 48) = false) ∨ ¬ (1 : Int) < B.size := by
                  by_cases h : 1 < B.size
                  · exact .inl ⟨by omega, by rw [u8_eq48]; exact decide_eq_false fun h' => w1 ⟨h, h'⟩⟩
                  · exact .inr (by omega)
                clear w1 w0
                go_upto_region 17 with (fail)
                go_cut [73] (fun v wx => v = .bool false ∧ wr = wx)
                case first =>
                  rcases hvar with ⟨i1, e1⟩ | i1
                  · go_wp2
                    go_meet
                    exact ⟨rfl, rfl⟩
                  · go_wp2
                    go_meet
                    exact ⟨rfl, rfl⟩
                case rest =>
                  obtain ⟨rfl, rfl⟩ := hcut
                  clear hvar e0
                  go_wp2_with fail
                  obtain ⟨wo, rfl⟩ : ∃ wo : World, wo = wr := ⟨_, rfl⟩
                  go_loopg [8] (⟨#[]⟩ : ByteArray).size (fun g v8 wr => ∃ Pk : ByteArray, v8 = .string Pk ∧ Hid (trimR (⟨#[]⟩ : ByteArray).data.toList = trimR Pk.data.toList ∧ dOk Pk.data.toList = true ∧ g = Pk.size) ∧ (Pk.size : Int) ≤ 9223372036854775807 ∧ wr = wo)
                  case atStart => exact ⟨(⟨#[]⟩ : ByteArray), rfl, ⟨rfl, PK.out, rfl⟩, PSZ, rfl⟩
                  case round =>
                    obtain ⟨T, rfl, hh3, hTi, rfl⟩ := hrel
                    by_cases hgo : ∃ h : 0 < T.size, T[T.size - 1]'(by omega) = 48
                    · obtain ⟨t0, t1⟩ := hgo
                      have t2 : ((T[T.size - 1].toNat : Int) == 48) = true := by rw [u8_eq48, t1]; rfl
                      have t3 : (0 : Int) < T.size := by omega
                      have NX := Lib.hid (show trimR (⟨#[]⟩ : ByteArray).data.toList = trimR (T.extract 0 (T.size - 1)).data.toList ∧ dOk (T.extract 0 (T.size - 1)).data.toList = true by
                        obtain ⟨r1, r2, -⟩ := hh3.out
                        rw [ext_start]
                        have hl := size_list T
                        have hsp : T.data.toList = T.data.toList.take (T.size - 1) ++ [48] := by
                          have h1 := split_at (l := T.data.toList) (k := T.size - 1) (by omega)
                          have h2 : T.data.toList[T.size - 1]'(by omega) = T[T.size - 1] := rfl
                          rw [h2, t1, List.drop_of_length_le (by omega)] at h1
                          exact h1
                        constructor
                        · rw [r1]
                          conv => lhs; rw [hsp]
                          exact trimR_drop _
                        · rw [hsp, dOk_app, Bool.and_eq_true] at r2
                          exact r2.1)
                      clear t1
                      go_wp2
                      go_roundg (T.size - 1)
                      case measure => have := hh3.out.2.2; omega
                      case rel => exact ⟨T.extract 0 (T.size - 1), rfl, ⟨NX.out.1, NX.out.2, by simp [ByteArray.size_extract]⟩, by simp [ByteArray.size_extract]; omega, rfl⟩
                    · have hcase : (∃ h : 0 < T.size, (((T[T.size - 1]'(by omega)).toNat : Int) == 48) = false) ∨ T.size = 0 := by
                        by_cases h : 0 < T.size
                        · exact .inl ⟨h, by rw [u8_eq48]; exact decide_eq_false fun h' => hgo ⟨h, h'⟩⟩
                        · exact .inr (by omega)
                      have FT := Lib.hid (show trimR (⟨#[]⟩ : ByteArray).data.toList = T.data.toList by
                        obtain ⟨r1, r2, -⟩ := hh3.out
                        rw [r1]
                        by_cases h : 0 < T.size
                        · have hl := size_list T
                          have h1 := split_at (l := T.data.toList) (k := T.size - 1) (by omega)
                          have h2 : T.data.toList[T.size - 1]'(by omega) = T[T.size - 1]'(by omega) := rfl
                          rw [h2, List.drop_of_length_le (by omega)] at h1
                          have h3 : T[T.size - 1]'(by omega) ≠ 48 := fun h' => hgo ⟨h, h'⟩
                          rw [h1]
                          exact trimR_last _ _ h3
                        · have e : T.data.toList = [] := List.eq_nil_of_length_eq_zero (by rw [size_list]; omega)
                          rw [e]; rfl)
                      have TK := Lib.hid hh3.out.2.1
                      have hcase2 : (∃ h : 0 < T.size, (0 : Int) < T.size ∧ (((T[T.size - 1]'(by omega)).toNat : Int) == 48) = false) ∨ ¬ (0 : Int) < T.size := by
                        rcases hcase with ⟨h, h'⟩ | h
                        · exact .inl ⟨h, by omega, h'⟩
                        · exact .inr (by omega)
                      clear hgo hcase hh3
                      rcases hcase2 with ⟨t0, t3, t2⟩ | t3
                      all_goals
                        by_cases t6 : (6 : Int) < T.size
                        · have BAD := Lib.hid (P2.out.trans (parts_far GP.out (.inr (by rw [FT.out, size_list]; omega))))
                          go_wp2
                          all_goals (refine bodyPost_ret (by simp [results, Tryz.results39, go_sem, hR]; try rfl) rfl ⟨by (rw [BAD.out]) <;> rfl, ?_⟩; (repeat (first | with_reducible exact Bel.refl _ | with_reducible refine Bel.setCell ?_ (by first | exact Nat.le_refl _ | (dsimp only; omega)) _ | with_reducible refine Bel.alloc ?_ _ | with_reducible refine Bel.drew ?_ | with_reducible assumption | with_reducible refine Bel.trans ?_ (by assumption))))
                        · by_cases w12 : (12 : Int) < B.size
                          · have BAD := Lib.hid (P2.out.trans (parts_far GP.out (.inl (by rw [size_list]; omega))))
                            go_wp2
                            all_goals (refine bodyPost_ret (by simp [results, Tryz.results39, go_sem, hR]; try rfl) rfl ⟨by (rw [BAD.out]) <;> rfl, ?_⟩; (repeat (first | with_reducible exact Bel.refl _ | with_reducible refine Bel.setCell ?_ (by first | exact Nat.le_refl _ | (dsimp only; omega)) _ | with_reducible refine Bel.alloc ?_ _ | with_reducible refine Bel.drew ?_ | with_reducible assumption | with_reducible refine Bel.trans ?_ (by assumption))))
                          · obtain ⟨A, hA⟩ : ∃ A, A = B ++ T := ⟨_, rfl⟩
                            have hAl : A.data.toList = B.data.toList ++ T.data.toList := by rw [hA, ByteArray.data_append]; simp
                            have hAs : A.size = B.size + T.size := by rw [← size_list, hAl, List.length_append, size_list, size_list]
                            have hA18 : A.size ≤ 18 := by omega
                            have AK := Lib.hid (show dOk A.data.toList = true by rw [hAl, dOk_app, WK.out, TK.out]; rfl)
                            obtain ⟨V, hV⟩ : ∃ V, V = numL A.data.toList := ⟨_, rfl⟩
                            have FV := Lib.hid (show parseV s.data.toList = decV mn V T.size by
                              rw [P2.out, parts_good GP.out (by rw [FT.out, size_list, size_list]; omega), FT.out, ← hAl, size_list, hV])
                            have V18 := Lib.hid (show V < 10 ^ A.size by rw [hV]; have := numL_bd' _ AK.out; rwa [size_list] at this)
                            have hsz : ¬ 9223372036854775807 < B.size + T.size := by omega
                            have hT6 : T.size ≤ 6 := by omega
                            obtain ⟨r1, r2, r3, hsh⟩ := decV_sh mn V T.size
                            have HPS := Lib.hid (FV.out.trans hsh)
                            have HV := Lib.hid hV
                            have HAL := Lib.hid hA
                            clear hsh hV hA hAl hAs
                            go_upto_region 23 with (fail)
                            go_cut [9] (fun v wx => v = .string A ∧ wr = wx)
                            case first =>
                              go_wp2
                              go_meet
                              exact ⟨by rw [HAL.out], rfl⟩
                            case rest =>
                              obtain ⟨rfl, rfl⟩ := hcut
                              clear hsz
                              have hmk : ∀ w, (Instr.makeSlice 90 (.int .i64 60) (.int .i64 60)).run Tryz.prog w = .ok (.slice (some ⟨w.heap.size, 0, none⟩) 60 60) (w.alloc (.cells (madeCells #[.int .i64 0] 60) 3)) := make_row 60 (by omega)
                              have hMD := made_row wr 60 3
                              have HMD := Lib.hid hMD
                              have hlt2 := hR.1.1
                              clear hMD
                              go_upto_region 25 with (fail)
                              refine under_name (hb.alloc _) fun W4 hc hf hz hb4 => ?_
                              have hO := HMD.out.same hc hf hz
                              have hne : ¬ w.heap.size = wr.heap.size := by omega
                              have hne' : ¬ wr.heap.size = w.heap.size := by omega
                              have hR4 : Sl2 W4 w.heap.size 0 0 := by
                                refine ⟨⟨by rw [hz]; simp; omega, ?_, ?_⟩, ?_, ?_⟩
                                all_goals simp [hc, hf, go_sem, hR, hne, hne']
                              have NE := Lib.hid hne
                              have LT := Lib.hid (Nat.le_of_lt hlt2)
                              generalize wr.heap.size = g at *
                              clear hc hf hz hmk hR hb hne hne' hlt2 HMD
                              go_wp2_with fail
                              have hV50 : V < 10 ^ 50 := Nat.lt_of_lt_of_le V18.out (Nat.pow_le_pow_right (by omega) (by omega))
                              have HDC := Lib.hid (fun w' (hr : DRow w' g 0 60 (dg V)) => show Calls Tryz.prog 65 #[.slice (some ⟨g, 0, none⟩) 60 60, .int .i64 (T.size : Nat), .bool mn] w' (fun e w'' => e = .returned (parseV s.data.toList) ∧ Bel w' w'') by
                                have hd := rdec_any V T.size mn g hV50 (by omega) w' hr
                                rw [show rnd V T.size = V from if_neg (by omega), show min T.size 6 = T.size by omega, ← FV.out] at hd
                                exact hd)
                              clear hV50
                              go_loopg [11] A.size (fun g2 v11 wr => ∃ i : Nat, v11 = .int .i64 i ∧ i ≤ A.size ∧ Hid (g2 = A.size - i) ∧ DRow wr g 0 60 (above (dg V) (A.size - i)) ∧ Sl2 wr w.heap.size 0 0 ∧ Bel w wr)
                              case atStart =>
                                refine ⟨0, rfl, by omega, rfl, hO.ext fun i _ => ?_, hR4, hb4⟩
                                unfold above
                                by_cases h : A.size - 0 ≤ i
                                · rw [if_pos h, dg_big]
                                  exact Nat.lt_of_lt_of_le V18.out (Nat.pow_le_pow_right (by omega) (by omega))
                                · rw [if_neg h]
                              case round =>
                                clear hO hR4 hb4
                                obtain ⟨i, rfl, hi, hh4, hO, hR, hb⟩ := hrel
                                by_cases hlt3 : i < A.size
                                · have hal : i < A.data.toList.length := by rw [size_list]; exact hlt3
                                  have hga : A.data.toList[i] = A[i] := rfl
                                  have hdg := AK.out
                                  have hdi : dB A[i] = true := by
                                    rw [← hga]
                                    simp only [dOk, List.all_eq_true] at hdg
                                    exact hdg _ (List.getElem_mem hal)
                                  have hnum := numL_at A.data.toList AK.out i hal
                                  rw [size_list, hga, ← HV.out] at hnum
                                  simp only [dB, decide_eq_true_eq] at hdi
                                  have b1 : (48 : Int) ≤ A[i].toNat := by omega
                                  have b2 : (A[i].toNat : Int) ≤ 57 := by omega
                                  have E := Lib.hid (show (A[i].toNat : Int) - 48 = ((dg V (A.size - 1 - i) : Nat) : Int) by omega)
                                  have E2 := Lib.hid (show A.size - i = A.size - 1 - i + 1 by omega)
                                  obtain ⟨c1, c2⟩ := hO.at0 (show A.size - 1 - i < 60 by omega)
                                  have j1 : (i : Int) < A.size := by omega
                                  have j2 : (A.size : Int) ≤ 18 := by omega
                                  clear hga hdg hdi hnum
                                  go_wp2
                                  go_roundg (gk - 1)
                                  case measure => have := hh4.out; omega
                                  case rel =>
                                    refine ⟨i + 1, by go_num, by omega, (show _ = _ by have := hh4.out; omega), ?_, hR.other NE.out _, hb.setCell LT.out _⟩
                                    rw [E.out]
                                    rw [E2.out] at hO
                                    exact (hO.put (A.size - 1 - i) _ (by omega)).ext fun j _ => by rw [above_upd, show A.size - (i + 1) = A.size - 1 - i by omega]
                                · obtain rfl : i = A.size := by omega
                                  have hrow := hO.ext (g := dg V) fun j _ => by unfold above; rw [if_pos (by omega)]
                                  clear hO
                                  go_wp2_with (go_at_call 65; refine (HDC.out _ hrow).mono ?_; rintro e W5 ⟨rfl, hb1⟩; rw [HPS.out]; replace hR := hR.keep hb1; replace hb := hb.trans hb1; clear hb1 hrow)
                                  refine bodyPost_ret (by simp [results, Tryz.results39, go_sem, hR]; try rfl) rfl ⟨by (rw [HPS.out]) <;> rfl, ?_⟩
                                  (repeat (first | with_reducible exact Bel.refl _ | with_reducible refine Bel.setCell ?_ (by first | exact Nat.le_refl _ | (dsimp only; omega)) _ | with_reducible refine Bel.alloc ?_ _ | with_reducible refine Bel.drew ?_ | with_reducible assumption | with_reducible refine Bel.trans ?_ (by assumption)))
          · obtain ⟨q1, q2, q3, q4, q5⟩ := stB_end st hle
            have hd1 : d < B.size := by have := st.2.1; rwa [size_list] at this
            obtain ⟨Wb, hWb⟩ : ∃ Wb, Wb = B.extract 0 d := ⟨_, rfl⟩
            obtain ⟨Pb, hPb⟩ : ∃ Pb, Pb = B.extract (d + 1) B.size := ⟨_, rfl⟩
            have hWl : Wb.data.toList = B.data.toList.take d := by rw [hWb, ext_start]
            have hPl : Pb.data.toList = B.data.toList.drop (d + 1) := by rw [hPb, ext_end]
            have P2 := Lib.hid (show parseV s.data.toList = partsV mn Wb.data.toList Pb.data.toList true by rw [PV.out, q1, q2, q3, hWl, hPl])
            have WK := Lib.hid (show dOk Wb.data.toList = true by rw [hWl]; exact q4)
            have PK := Lib.hid (show dOk Pb.data.toList = true by rw [hPl]; exact q5)
            have PSZ : (Pb.size : Int) ≤ 9223372036854775807 := by
              have h := congrArg List.length hPl
              rw [size_list, List.length_drop, size_list] at h
              omega
            have WSZ : (Wb.size : Int) ≤ 9223372036854775807 := by
              have h := congrArg List.length hWl
              rw [size_list, List.length_take, size_list] at h
              omega
            have HWb := Lib.hid hWb
            have HPb := Lib.hid hPb
            have i3 : (d : Int) < B.size := by omega
            have i4 : (d : Int) + 1 ≤ B.size := by omega
            clear q1 q2 q3 q4 q5 st hWb hPb hWl hPl
            go_upto_region 14 with (fail)
            go_cut [7, 8] (fun v7 v8 wx => v7 = .string Wb ∧ v8 = .string Pb ∧ Sl2 wx w.heap.size 0 0 ∧ Bel w wx)
            case first =>
              go_quiet (fail)
              go_wp2
              go_meet
              exact ⟨by rw [HWb.out], by rw [HPb.out], hR.keep ((Bel.refl _).drewN _), hb.drewN _⟩
            case rest =>
              obtain ⟨rfl, rfl, hR, hb⟩ := hcut
              obtain ⟨wr, rfl⟩ : ∃ wr : World, wr = wc := ⟨_, rfl⟩
              by_cases p0 : Pb.size = 0
              · have e9 : Pb.toList.isEmpty = true := by
                  rw [ByteArray.toList_eq, List.isEmpty_iff]
                  exact List.eq_nil_of_length_eq_zero (by rw [size_list]; exact p0)
                have BAD := Lib.hid (P2.out.trans (parts_bad (.inr (.inr ⟨rfl, by
                  have e : Pb.data.toList = [] := List.eq_nil_of_length_eq_zero (by rw [size_list]; exact p0)
                  rw [e]; rfl⟩))))
                clear p0
                go_wp2
                refine bodyPost_ret (by simp [results, Tryz.results39, go_sem, hR]; try rfl) rfl ⟨by (rw [BAD.out]) <;> rfl, ?_⟩
                (repeat (first | with_reducible exact Bel.refl _ | with_reducible refine Bel.setCell ?_ (by first | exact Nat.le_refl _ | (dsimp only; omega)) _ | with_reducible refine Bel.alloc ?_ _ | with_reducible refine Bel.drew ?_ | with_reducible assumption | with_reducible refine Bel.trans ?_ (by assumption)))
              · have e9 : Pb.toList.isEmpty = false := by
                  rw [ByteArray.toList_eq, Bool.eq_false_iff, ne_eq, List.isEmpty_iff]
                  intro h
                  have := size_list Pb
                  rw [h] at this
                  simp at this; omega
                have PT := Lib.hid (show true = true → ¬ digB Pb.data.toList = false from fun _ h => by
                  have hne : (Pb.data.toList).isEmpty = false := by rw [← ByteArray.toList_eq]; exact e9
                  rw [digB, PK.out, hne] at h; cases h)
                clear p0
                by_cases w0 : Wb.size = 0
                · have e0 : Wb.toList.isEmpty = true := by
                    rw [ByteArray.toList_eq, List.isEmpty_iff]
                    exact List.eq_nil_of_length_eq_zero (by rw [size_list]; exact w0)
                  have BAD := Lib.hid (P2.out.trans (parts_bad (.inl (by
                    have e : Wb.data.toList = [] := List.eq_nil_of_length_eq_zero (by rw [size_list]; exact w0)
                    rw [e]; rfl))))
                  clear w0
                  go_wp2
                  refine bodyPost_ret (by simp [results, Tryz.results39, go_sem, hR]; try rfl) rfl ⟨by (rw [BAD.out]) <;> rfl, ?_⟩
                  (repeat (first | with_reducible exact Bel.refl _ | with_reducible refine Bel.setCell ?_ (by first | exact Nat.le_refl _ | (dsimp only; omega)) _ | with_reducible refine Bel.alloc ?_ _ | with_reducible refine Bel.drew ?_ | with_reducible assumption | with_reducible refine Bel.trans ?_ (by assumption)))
                · have w00 : 0 < Wb.size := by omega
                  have e0 : Wb.toList.isEmpty = false := by
                    rw [ByteArray.toList_eq, Bool.eq_false_iff, ne_eq, List.isEmpty_iff]
                    intro h
                    have := size_list Wb
                    rw [h] at this
                    simp at this; omega
                  by_cases w1 : 1 < Wb.size ∧ Wb[0] = 48
                  · obtain ⟨w2, w3⟩ := w1
                    have e1 : ((Wb[0].toNat : Int) == 48) = true := by rw [u8_eq48, w3]; rfl
                    have BAD := Lib.hid (P2.out.trans (parts_bad (.inr (.inl ⟨by rw [size_list]; exact w2, by rw [idx0 w00, w3]⟩))))
                    have i1 : (1 : Int) < Wb.size := by omega
                    clear w0 w3
                    go_wp2
                    refine bodyPost_ret (by simp [results, Tryz.results39, go_sem, hR]; try rfl) rfl ⟨by (rw [BAD.out]) <;> rfl, ?_⟩
                    (repeat (first | with_reducible exact Bel.refl _ | with_reducible refine Bel.setCell ?_ (by first | exact Nat.le_refl _ | (dsimp only; omega)) _ | with_reducible refine Bel.alloc ?_ _ | with_reducible refine Bel.drew ?_ | with_reducible assumption | with_reducible refine Bel.trans ?_ (by assumption)))
                  · have GP := Lib.hid (show GoodP (Wb.data.toList) (Pb.data.toList) true by
                      unfold GoodP
                      rintro (h | ⟨h, h'⟩ | ⟨h, h'⟩)
                      · have hne : (Wb.data.toList).isEmpty = false := by rw [← ByteArray.toList_eq]; exact e0
                        rw [digB, WK.out, hne] at h; cases h
                      · rw [size_list] at h
                        rw [idx0 w00] at h'
                        exact w1 ⟨h, Option.some.inj h'⟩
                      · exact PT.out h h')
                    have hvar : ((1 : Int) < Wb.size ∧ ((Wb[0].toNat : Int) == 48) = false) ∨ ¬ (1 : Int) < Wb.size := by
                      by_cases h : 1 < Wb.size
                      · exact .inl ⟨by omega, by rw [u8_eq48]; exact decide_eq_false fun h' => w1 ⟨h, h'⟩⟩
                      · exact .inr (by omega)
                    clear w1 w0
                    go_upto_region 17 with (fail)
                    go_cut [73] (fun v wx => v = .bool false ∧ wr = wx)
                    case first =>
                      rcases hvar with ⟨i1, e1⟩ | i1
                      · go_wp2
                        go_meet
                        exact ⟨rfl, rfl⟩
                      · go_wp2
                        go_meet
                        exact ⟨rfl, rfl⟩
                    case rest =>
                      obtain ⟨rfl, rfl⟩ := hcut
                      clear hvar e0
                      go_wp2_with fail
                      obtain ⟨wo, rfl⟩ : ∃ wo : World, wo = wr := ⟨_, rfl⟩
                      go_loopg [8] Pb.size (fun g v8 wr => ∃ Pk : ByteArray, v8 = .string Pk ∧ Hid (trimR Pb.data.toList = trimR Pk.data.toList ∧ dOk Pk.data.toList = true ∧ g = Pk.size) ∧ (Pk.size : Int) ≤ 9223372036854775807 ∧ wr = wo)
                      case atStart => exact ⟨Pb, rfl, ⟨rfl, PK.out, rfl⟩, PSZ, rfl⟩
                      case round =>
                        obtain ⟨T, rfl, hh3, hTi, rfl⟩ := hrel
                        by_cases hgo : ∃ h : 0 < T.size, T[T.size - 1]'(by omega) = 48
                        · obtain ⟨t0, t1⟩ := hgo
                          have t2 : ((T[T.size - 1].toNat : Int) == 48) = true := by rw [u8_eq48, t1]; rfl
                          have t3 : (0 : Int) < T.size := by omega
                          have NX := Lib.hid (show trimR Pb.data.toList = trimR (T.extract 0 (T.size - 1)).data.toList ∧ dOk (T.extract 0 (T.size - 1)).data.toList = true by
                            obtain ⟨r1, r2, -⟩ := hh3.out
                            rw [ext_start]
                            have hl := size_list T
                            have hsp : T.data.toList = T.data.toList.take (T.size - 1) ++ [48] := by
                              have h1 := split_at (l := T.data.toList) (k := T.size - 1) (by omega)
                              have h2 : T.data.toList[T.size - 1]'(by omega) = T[T.size - 1] := rfl
                              rw [h2, t1, List.drop_of_length_le (by omega)] at h1
                              exact h1
                            constructor
                            · rw [r1]
                              conv => lhs; rw [hsp]
                              exact trimR_drop _
                            · rw [hsp, dOk_app, Bool.and_eq_true] at r2
                              exact r2.1)
                          clear t1
                          go_wp2
                          go_roundg (T.size - 1)
                          case measure => have := hh3.out.2.2; omega
                          case rel => exact ⟨T.extract 0 (T.size - 1), rfl, ⟨NX.out.1, NX.out.2, by simp [ByteArray.size_extract]⟩, by simp [ByteArray.size_extract]; omega, rfl⟩
                        · have hcase : (∃ h : 0 < T.size, (((T[T.size - 1]'(by omega)).toNat : Int) == 48) = false) ∨ T.size = 0 := by
                            by_cases h : 0 < T.size
                            · exact .inl ⟨h, by rw [u8_eq48]; exact decide_eq_false fun h' => hgo ⟨h, h'⟩⟩
                            · exact .inr (by omega)
                          have FT := Lib.hid (show trimR Pb.data.toList = T.data.toList by
                            obtain ⟨r1, r2, -⟩ := hh3.out
                            rw [r1]
                            by_cases h : 0 < T.size
                            · have hl := size_list T
                              have h1 := split_at (l := T.data.toList) (k := T.size - 1) (by omega)
                              have h2 : T.data.toList[T.size - 1]'(by omega) = T[T.size - 1]'(by omega) := rfl
                              rw [h2, List.drop_of_length_le (by omega)] at h1
                              have h3 : T[T.size - 1]'(by omega) ≠ 48 := fun h' => hgo ⟨h, h'⟩
                              rw [h1]
                              exact trimR_last _ _ h3
                            · have e : T.data.toList = [] := List.eq_nil_of_length_eq_zero (by rw [size_list]; omega)
                              rw [e]; rfl)
                          have TK := Lib.hid hh3.out.2.1
                          have hcase2 : (∃ h : 0 < T.size, (0 : Int) < T.size ∧ (((T[T.size - 1]'(by omega)).toNat : Int) == 48) = false) ∨ ¬ (0 : Int) < T.size := by
                            rcases hcase with ⟨h, h'⟩ | h
                            · exact .inl ⟨h, by omega, h'⟩
                            · exact .inr (by omega)
                          clear hgo hcase hh3
                          rcases hcase2 with ⟨t0, t3, t2⟩ | t3
                          all_goals
                            by_cases t6 : (6 : Int) < T.size
                            · have BAD := Lib.hid (P2.out.trans (parts_far GP.out (.inr (by rw [FT.out, size_list]; omega))))
                              go_wp2
                              all_goals (refine bodyPost_ret (by simp [results, Tryz.results39, go_sem, hR]; try rfl) rfl ⟨by (rw [BAD.out]) <;> rfl, ?_⟩; (repeat (first | with_reducible exact Bel.refl _ | with_reducible refine Bel.setCell ?_ (by first | exact Nat.le_refl _ | (dsimp only; omega)) _ | with_reducible refine Bel.alloc ?_ _ | with_reducible refine Bel.drew ?_ | with_reducible assumption | with_reducible refine Bel.trans ?_ (by assumption))))
                            · by_cases w12 : (12 : Int) < Wb.size
                              · have BAD := Lib.hid (P2.out.trans (parts_far GP.out (.inl (by rw [size_list]; omega))))
                                go_wp2
                                all_goals (refine bodyPost_ret (by simp [results, Tryz.results39, go_sem, hR]; try rfl) rfl ⟨by (rw [BAD.out]) <;> rfl, ?_⟩; (repeat (first | with_reducible exact Bel.refl _ | with_reducible refine Bel.setCell ?_ (by first | exact Nat.le_refl _ | (dsimp only; omega)) _ | with_reducible refine Bel.alloc ?_ _ | with_reducible refine Bel.drew ?_ | with_reducible assumption | with_reducible refine Bel.trans ?_ (by assumption))))
                              · obtain ⟨A, hA⟩ : ∃ A, A = Wb ++ T := ⟨_, rfl⟩
                                have hAl : A.data.toList = Wb.data.toList ++ T.data.toList := by rw [hA, ByteArray.data_append]; simp
                                have hAs : A.size = Wb.size + T.size := by rw [← size_list, hAl, List.length_append, size_list, size_list]
                                have hA18 : A.size ≤ 18 := by omega
                                have AK := Lib.hid (show dOk A.data.toList = true by rw [hAl, dOk_app, WK.out, TK.out]; rfl)
                                obtain ⟨V, hV⟩ : ∃ V, V = numL A.data.toList := ⟨_, rfl⟩
                                have FV := Lib.hid (show parseV s.data.toList = decV mn V T.size by
                                  rw [P2.out, parts_good GP.out (by rw [FT.out, size_list, size_list]; omega), FT.out, ← hAl, size_list, hV])
                                have V18 := Lib.hid (show V < 10 ^ A.size by rw [hV]; have := numL_bd' _ AK.out; rwa [size_list] at this)
                                have hsz : ¬ 9223372036854775807 < Wb.size + T.size := by omega
                                have hT6 : T.size ≤ 6 := by omega
                                obtain ⟨r1, r2, r3, hsh⟩ := decV_sh mn V T.size
                                have HPS := Lib.hid (FV.out.trans hsh)
                                have HV := Lib.hid hV
                                have HAL := Lib.hid hA
                                clear hsh hV hA hAl hAs
                                go_upto_region 23 with (fail)
                                go_cut [9] (fun v wx => v = .string A ∧ wr = wx)
                                case first =>
                                  go_wp2
                                  go_meet
                                  exact ⟨by rw [HAL.out], rfl⟩
                                case rest =>
                                  obtain ⟨rfl, rfl⟩ := hcut
                                  clear hsz
                                  have hmk : ∀ w, (Instr.makeSlice 90 (.int .i64 60) (.int .i64 60)).run Tryz.prog w = .ok (.slice (some ⟨w.heap.size, 0, none⟩) 60 60) (w.alloc (.cells (madeCells #[.int .i64 0] 60) 3)) := make_row 60 (by omega)
                                  have hMD := made_row wr 60 3
                                  have HMD := Lib.hid hMD
                                  have hlt2 := hR.1.1
                                  clear hMD
                                  go_upto_region 25 with (fail)
                                  refine under_name (hb.alloc _) fun W4 hc hf hz hb4 => ?_
                                  have hO := HMD.out.same hc hf hz
                                  have hne : ¬ w.heap.size = wr.heap.size := by omega
                                  have hne' : ¬ wr.heap.size = w.heap.size := by omega
                                  have hR4 : Sl2 W4 w.heap.size 0 0 := by
                                    refine ⟨⟨by rw [hz]; simp; omega, ?_, ?_⟩, ?_, ?_⟩
                                    all_goals simp [hc, hf, go_sem, hR, hne, hne']
                                  have NE := Lib.hid hne
                                  have LT := Lib.hid (Nat.le_of_lt hlt2)
                                  generalize wr.heap.size = g at *
                                  clear hc hf hz hmk hR hb hne hne' hlt2 HMD
                                  go_wp2_with fail
                                  have hV50 : V < 10 ^ 50 := Nat.lt_of_lt_of_le V18.out (Nat.pow_le_pow_right (by omega) (by omega))
                                  have HDC := Lib.hid (fun w' (hr : DRow w' g 0 60 (dg V)) => show Calls Tryz.prog 65 #[.slice (some ⟨g, 0, none⟩) 60 60, .int .i64 (T.size : Nat), .bool mn] w' (fun e w'' => e = .returned (parseV s.data.toList) ∧ Bel w' w'') by
                                    have hd := rdec_any V T.size mn g hV50 (by omega) w' hr
                                    rw [show rnd V T.size = V from if_neg (by omega), show min T.size 6 = T.size by omega, ← FV.out] at hd
                                    exact hd)
                                  clear hV50
                                  go_loopg [11] A.size (fun g2 v11 wr => ∃ i : Nat, v11 = .int .i64 i ∧ i ≤ A.size ∧ Hid (g2 = A.size - i) ∧ DRow wr g 0 60 (above (dg V) (A.size - i)) ∧ Sl2 wr w.heap.size 0 0 ∧ Bel w wr)
                                  case atStart =>
                                    refine ⟨0, rfl, by omega, rfl, hO.ext fun i _ => ?_, hR4, hb4⟩
                                    unfold above
                                    by_cases h : A.size - 0 ≤ i
                                    · rw [if_pos h, dg_big]
                                      exact Nat.lt_of_lt_of_le V18.out (Nat.pow_le_pow_right (by omega) (by omega))
                                    · rw [if_neg h]
                                  case round =>
                                    clear hO hR4 hb4
                                    obtain ⟨i, rfl, hi, hh4, hO, hR, hb⟩ := hrel
                                    by_cases hlt3 : i < A.size
                                    · have hal : i < A.data.toList.length := by rw [size_list]; exact hlt3
                                      have hga : A.data.toList[i] = A[i] := rfl
                                      have hdg := AK.out
                                      have hdi : dB A[i] = true := by
                                        rw [← hga]
                                        simp only [dOk, List.all_eq_true] at hdg
                                        exact hdg _ (List.getElem_mem hal)
                                      have hnum := numL_at A.data.toList AK.out i hal
                                      rw [size_list, hga, ← HV.out] at hnum
                                      simp only [dB, decide_eq_true_eq] at hdi
                                      have b1 : (48 : Int) ≤ A[i].toNat := by omega
                                      have b2 : (A[i].toNat : Int) ≤ 57 := by omega
                                      have E := Lib.hid (show (A[i].toNat : Int) - 48 = ((dg V (A.size - 1 - i) : Nat) : Int) by omega)
                                      have E2 := Lib.hid (show A.size - i = A.size - 1 - i + 1 by omega)
                                      obtain ⟨c1, c2⟩ := hO.at0 (show A.size - 1 - i < 60 by omega)
                                      have j1 : (i : Int) < A.size := by omega
                                      have j2 : (A.size : Int) ≤ 18 := by omega
                                      clear hga hdg hdi hnum
                                      go_wp2
                                      go_roundg (gk - 1)
                                      case measure => have := hh4.out; omega
                                      case rel =>
                                        refine ⟨i + 1, by go_num, by omega, (show _ = _ by have := hh4.out; omega), ?_, hR.other NE.out _, hb.setCell LT.out _⟩
                                        rw [E.out]
                                        rw [E2.out] at hO
                                        exact (hO.put (A.size - 1 - i) _ (by omega)).ext fun j _ => by rw [above_upd, show A.size - (i + 1) = A.size - 1 - i by omega]
                                    · obtain rfl : i = A.size := by omega
                                      have hrow := hO.ext (g := dg V) fun j _ => by unfold above; rw [if_pos (by omega)]
                                      clear hO
                                      go_wp2_with (go_at_call 65; refine (HDC.out _ hrow).mono ?_; rintro e W5 ⟨rfl, hb1⟩; rw [HPS.out]; replace hR := hR.keep hb1; replace hb := hb.trans hb1; clear hb1 hrow)
                                      refine bodyPost_ret (by simp [results, Tryz.results39, go_sem, hR]; try rfl) rfl ⟨by (rw [HPS.out]) <;> rfl, ?_⟩
                                      (repeat (first | with_reducible exact Bel.refl _ | with_reducible refine Bel.setCell ?_ (by first | exact Nat.le_refl _ | (dsimp only; omega)) _ | with_reducible refine Bel.alloc ?_ _ | with_reducible refine Bel.drew ?_ | with_reducible assumption | with_reducible refine Bel.trans ?_ (by assumption)))
end
end Go.Proofs.YtofcjdbodhoacaaGreatDoor
