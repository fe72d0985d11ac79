
import Derived.Test.YtpmmbcobjibpeaaGreatDoorKit
import Derived.Test.YtpmmbcobjibpeaaGreatDoorRow
import Derived.Test.YtpmmbcobjibpeaaGreatDoorOpn
import Derived.Test.YtpmmbcobjibpeaaGreatDoorOwn
import Derived.Test.YtpmmbcobjibpeaaGreatDoorUni
import Derived.Test.YtpmmbcobjibpeaaGreatDoorShelf
import Derived.Deep.LoopGhost
import Derived.Deep.CutBlock
import Derived.Deep.DeepCutAuto
import Derived.Deep.OwnRows
import Derived.Deep.QuietTactic
import Derived.BigQuiet
import Derived.Deep.RegionHeld3
import Derived.Laws.RangeAny
import Derived.Lib.OthersKept
namespace Go.Proofs.YtpmmbcobjibpeaaGreatDoor
set_option linter.unusedSimpArgs false
set_option linter.unusedVariables false
/-! Merged out of the texts of the layers below: only what is used. -/
section
def small (n : Int) : Prop := -999999999999 ≤ n ∧ n ≤ 999999999999
instance (n : Int) : Decidable (small n) := inferInstanceAs (Decidable (_ ∧ _))
def SndD (n s : Int) : Prop := 0 ≤ s ∧ s ≤ 6 ∧ small n ∧ (s = 0 ∨ n % 10 ≠ 0)
instance (n s : Int) : Decidable (SndD n s) := inferInstanceAs (Decidable (_ ∧ _))
def trim (m : Nat) : Nat → Nat × Nat
  | 0 => (m, 0)
  | s + 1 => if m % 10 = 0 then trim (m / 10) s else (m, s + 1)
theorem trim_le (s : Nat) : ∀ m, (trim m s).1 ≤ m ∧ (trim m s).2 ≤ s := by
  induction s with
  | zero => intro m; simp [trim]
  | succ k ih =>
    intro m
    unfold trim
    split
    · have := ih (m / 10); have := Nat.div_le_self m 10; omega
    · simp
theorem trim_stop (m s : Nat) (h : m % 10 ≠ 0) : trim m s = (m, s) := by
  cases s with
  | zero => rfl
  | succ k => unfold trim; rw [if_neg h]
theorem trim_step (m s : Nat) (h : m % 10 = 0) : trim m (s + 1) = trim (m / 10) s := by
  rw [trim]; rw [if_pos h]
def dg (m i : Nat) : Nat := m / 10 ^ i % 10
theorem p10 (i : Nat) : 0 < 10 ^ i := Nat.pow_pos (by omega)
theorem div_succ (m i : Nat) : m / 10 ^ (i + 1) = m / 10 ^ i / 10 := by rw [Nat.pow_succ, Nat.div_div_eq_div_mul]
theorem div_split (m i : Nat) : m / 10 ^ i = 10 * (m / 10 ^ (i + 1)) + dg m i := by rw [div_succ, dg]; omega
theorem dg_up (m k i : Nat) : dg (m * 10 ^ k) (i + k) = dg m i := by
  rw [dg, dg, Nat.pow_add, Nat.mul_div_mul_right _ _ (p10 k)]
theorem dg_low (m k i : Nat) (h : i < k) : dg (m * 10 ^ k) i = 0 := by
  obtain ⟨j, rfl⟩ : ∃ j, k = j + 1 + i := ⟨k - i - 1, by omega⟩
  rw [dg, Nat.pow_add, ← Nat.mul_assoc, Nat.mul_div_cancel _ (p10 i), Nat.pow_succ, ← Nat.mul_assoc]
  omega
theorem dg_big (m i : Nat) (h : m < 10 ^ i) : dg m i = 0 := by rw [dg, Nat.div_eq_of_lt h]
/-- The first digit that is another one tells. -/
theorem less_digit (x y i : Nat) (h : x / 10 ^ (i + 1) = y / 10 ^ (i + 1)) (hd : dg x i ≠ dg y i) : (x < y ↔ dg x i < dg y i) := by
  have h1 := div_split x i
  have h2 := div_split y i
  constructor
  · intro hl
    have := Nat.div_le_div_right (c := 10 ^ i) (Nat.le_of_lt hl)
    omega
  · intro hl
    rcases Nat.lt_or_ge x y with h3 | h3
    · exact h3
    · have := Nat.div_le_div_right (c := 10 ^ i) h3
      omega
theorem less_step (x y i : Nat) (h : x / 10 ^ (i + 1) = y / 10 ^ (i + 1)) (hd : dg x i = dg y i) : x / 10 ^ i = y / 10 ^ i := by
  rw [div_split x i, div_split y i, h, hd]
def upd (f : Nat → Nat) (p v : Nat) : Nat → Nat := fun j => if j = p then v else f j
theorem upd_at (f : Nat → Nat) (p v : Nat) : upd f p v p = v := by simp [upd]
theorem upd_ne (f : Nat → Nat) (p v j : Nat) (h : j ≠ p) : upd f p v j = f j := by simp [upd, h]
def P10 (k : Nat) : Nat := 10 ^ k
theorem P10_0 : P10 0 = 1 := rfl
theorem P10_s (k : Nat) : P10 (k + 1) = P10 k * 10 := Nat.pow_succ ..
theorem P10_pos (k : Nat) : 0 < P10 k := p10 k
theorem P10_le {a b : Nat} (h : a ≤ b) : P10 a ≤ P10 b := Nat.pow_le_pow_right (by omega) h
theorem P10_18 {k : Nat} (h : k ≤ 18) : P10 k ≤ 1000000000000000000 := P10_le h
theorem P10_6 {k : Nat} (h : k ≤ 6) : P10 k ≤ 1000000 := P10_le h
end
section
open Go.RowKit
theorem power_any (k : Nat) (hk : k ≤ 18) (w : World) : Calls Tryz.prog 115 #[.int .i64 k] w fun e w' => e = .returned (.int .i64 (P10 k)) ∧ Bel w w' := by
  go_enter Tryz.func115, Tryz.ntmps115
  go_wp2
  go_loop [3, 5] (fun p i => ∃ j : Nat, j ≤ k ∧ i = .int .i64 j ∧ p = .int .i64 (P10 j)) (fun _ i => k - (intOf i).toNat)
  case atStart => exact ⟨0, Nat.zero_le _, rfl, by rw [P10_0]; rfl⟩
  case round =>
    obtain ⟨j, hj, rfl, rfl⟩ := hrel
    have h1 := P10_18 (show j ≤ 18 by omega)
    by_cases hlt : j < k
    · have h2 := P10_18 (show j + 1 ≤ 18 by omega)
      have hs := Lib.hid (P10_s j)
      have h3 : P10 j * 10 ≤ 1000000000000000000 := by rw [← hs.out]; exact h2
      clear h2
      go_wp2
      go_round
      case rel => exact ⟨j + 1, by omega, by go_num, by rw [hs.out]; go_num⟩
      case measure => simp [intOf]; omega
    · obtain rfl : j = k := by omega
      go_wp2
      go_ret
      exact ⟨rfl, Bel.refl _⟩
theorem power_z (z : Int) (h0 : 0 ≤ z) (h1 : z ≤ 18) (w : World) : Calls Tryz.prog 115 #[.int .i64 z] w fun e w' => e = .returned (.int .i64 (P10 z.toNat)) ∧ Bel w w' := by
  obtain ⟨n, rfl⟩ : ∃ n : Nat, z = n := ⟨z.toNat, by omega⟩
  exact power_any n (by omega) w
def smallB (n : Int) : Bool := decide (small n)
theorem small_any (n : Int) (w : World) : Calls Tryz.prog 89 #[.int .i64 n] w fun e w' => e = .returned (.bool (smallB n)) ∧ Bel w w' := by
  have hl : Hid (smallB n = decide (-999999999999 ≤ n ∧ n ≤ 999999999999)) := rfl
  by_cases h1 : -999999999999 ≤ n
  · go_enter Tryz.func89, Tryz.ntmps89
    go_wp2
    go_ret
    exact ⟨by rw [hl.out]; simp [h1], Bel.refl _⟩
  · have hf := Lib.hid (show decide (-999999999999 ≤ n ∧ n ≤ 999999999999) = false from decide_eq_false fun h => h1 h.1)
    go_enter Tryz.func89, Tryz.ntmps89
    go_wp2
    go_ret
    exact ⟨by rw [hl.out, hf.out]; rfl, Bel.refl _⟩
/-- A block of the call's own that holds a number. -/
abbrev Arr2 (w : World) (b : Nat) (x y : Int) : Prop :=
  b < w.heap.size ∧ w.cell? ⟨b, 0, none⟩ = some (.int .i64 x) ∧ w.cell? ⟨b, 1, none⟩ = some (.int .i64 y)
theorem Arr2.keep {w w' : World} {b : Nat} {x y : Int} (h : Arr2 w b x y) (hb : Bel w w') : Arr2 w' b x y := by
  obtain ⟨h0, h1, h2⟩ := h
  exact ⟨Nat.lt_of_lt_of_le h0 hb.size, (hb.cells _ _ h0).trans h1, (hb.cells _ _ h0).trans h2⟩
def sndB (n s : Int) : Bool := decide (SndD n s)
theorem tmod10 (n : Int) : (n.tmod 10 != 0) = decide (n % 10 ≠ 0) := by
  have : n.tmod 10 = 0 ↔ n % 10 = 0 := by rw [← Int.dvd_iff_emod_eq_zero, Int.dvd_iff_tmod_eq_zero]
  rw [Bool.eq_iff_iff]; simp [this]
theorem sound_any (n s : Int) (w : World) : Calls Tryz.prog 57 #[.agg #[.int .i64 n, .int .i64 s]] w fun e w' => e = .returned (.bool (sndB n s)) ∧ Bel w w' := by
  by_cases h : 0 ≤ s ∧ s ≤ 6
  · obtain ⟨h0, h6⟩ := h
    have k1 : decide (s < 0) = false := by simp; omega
    have k2 : decide (6 < s) = false := by simp; omega
    have k2' : decide (s > 6) = false := k2
    cases hs : smallB n with
    | true =>
      have hs' : small n := by simpa [smallB] using hs
      by_cases hz : s = 0
      · have k3 : (s == 0) = true := by simp [hz]
        have hl : Hid (sndB n s = true) := by
          unfold Hid sndB; exact decide_eq_true ⟨h0, h6, hs', .inl hz⟩
        clear hz h0 h6 hs'
        go_enter Tryz.func57, Tryz.ntmps57
        go_wp2_with (go_at_call 89; refine (small_any n _).mono ?_; rintro e W1 ⟨rfl, hb1⟩; rw [hs]; have hc := hb1.cells; have := hb1.lt1)
        go_ret
        exact ⟨by rw [hl.out]; rfl, ((Bel.refl w).alloc _).trans hb1⟩
      · have k3 : (s == 0) = false := by simp [hz]
        have hl : Hid (sndB n s = (n.tmod 10 != 0)) := by
          unfold Hid sndB; rw [tmod10]; simp only [SndD, h0, h6, hs', hz, true_and, false_or]
        clear hz h0 h6 hs'
        go_enter Tryz.func57, Tryz.ntmps57
        go_wp2_with (go_at_call 89; refine (small_any n _).mono ?_; rintro e W1 ⟨rfl, hb1⟩; rw [hs]; have hc := hb1.cells; have := hb1.lt1)
        go_ret
        exact ⟨by (rw [hl.out]) <;> rfl, ((Bel.refl w).alloc _).trans hb1⟩
    | false =>
      have hl : Hid (sndB n s = false) := by
        unfold Hid sndB; exact decide_eq_false fun h => by simp [smallB, h.2.2.1] at hs
      clear h0 h6
      go_enter Tryz.func57, Tryz.ntmps57
      go_wp2_with (go_at_call 89; refine (small_any n _).mono ?_; rintro e W1 ⟨rfl, hb1⟩; rw [hs])
      go_ret
      exact ⟨by rw [hl.out]; rfl, ((Bel.refl w).alloc _).trans hb1⟩
  · have hl : Hid (sndB n s = false) := by
      unfold Hid sndB; exact decide_eq_false fun h' => h ⟨h'.1, h'.2.1⟩
    by_cases h0 : 0 ≤ s
    · have k1 : decide (s < 0) = false := by simp; omega
      have k2 : decide (6 < s) = true := by simp; omega
      clear h
      go_enter Tryz.func57, Tryz.ntmps57
      go_wp2
      go_ret
      exact ⟨by rw [hl.out]; rfl, (Bel.refl w).alloc _⟩
    · have k1 : decide (s < 0) = true := by simp; omega
      clear h
      go_enter Tryz.func57, Tryz.ntmps57
      go_wp2
      go_ret
      exact ⟨by rw [hl.out]; rfl, (Bel.refl w).alloc _⟩
abbrev Ar6 (w : World) (b : Nat) (x : Bool) (h l r o : Nat) (s : Int) : Prop :=
  b < w.heap.size ∧ w.cell? ⟨b, 0, none⟩ = some (.bool x) ∧ w.cell? ⟨b, 1, none⟩ = some (.int .u64 h) ∧ w.cell? ⟨b, 2, none⟩ = some (.int .u64 l) ∧
  w.cell? ⟨b, 3, none⟩ = some (.int .u64 r) ∧ w.cell? ⟨b, 4, none⟩ = some (.int .u64 o) ∧ w.cell? ⟨b, 5, none⟩ = some (.int .i64 s)
abbrev Fr6 (w : World) (b : Nat) : Prop := w.frozen? ⟨b, 0, none⟩ = false ∧ w.frozen? ⟨b, 1, none⟩ = false ∧ w.frozen? ⟨b, 2, none⟩ = false ∧
  w.frozen? ⟨b, 3, none⟩ = false ∧ w.frozen? ⟨b, 4, none⟩ = false ∧ w.frozen? ⟨b, 5, none⟩ = false
abbrev Sl6 (w : World) (b : Nat) (x : Bool) (h l r o : Nat) (s : Int) : Prop := Ar6 w b x h l r o s ∧ Fr6 w b
theorem Sl6.keep {w w' : World} {b : Nat} {x : Bool} {h l r o : Nat} {s : Int} (k : Sl6 w b x h l r o s) (hb : Bel w w') : Sl6 w' b x h l r o s := by
  obtain ⟨⟨h0, h1, h2, h3, h4, h5, h6⟩, hf⟩ := k
  refine ⟨⟨Nat.lt_of_lt_of_le h0 hb.size, (hb.cells _ _ h0).trans h1, (hb.cells _ _ h0).trans h2, (hb.cells _ _ h0).trans h3, (hb.cells _ _ h0).trans h4, (hb.cells _ _ h0).trans h5, (hb.cells _ _ h0).trans h6⟩, ?_⟩
  simp only [Fr6, hb.frozens _ _ h0]
  exact hf
abbrev Fr2 (w : World) (b : Nat) : Prop := w.frozen? ⟨b, 0, none⟩ = false ∧ w.frozen? ⟨b, 1, none⟩ = false
abbrev Sl2 (w : World) (b : Nat) (x y : Int) : Prop := Arr2 w b x y ∧ Fr2 w b
theorem Sl2.keep {w w' : World} {b : Nat} {x y : Int} (k : Sl2 w b x y) (hb : Bel w w') : Sl2 w' b x y := by
  refine ⟨k.1.keep hb, ?_⟩
  simp only [Fr2, hb.frozens _ _ k.1.1]
  exact k.2
theorem conv_u64 (n : Int) : IntKind.u64.wrap n = n % 18446744073709551616 := by rw [IntKind.wrap_u64]
theorem ret_u64 {a b : Int} (h : a = b) : Ending.returned (.int .u64 a) = Ending.returned (.int .u64 b) := by rw [h]
theorem size_any (n : Int) (hn : In64 n) (w : World) : Calls Tryz.prog 130 #[.int .i64 n] w fun e w' => e = .returned (.int .u64 (n.natAbs : Int)) ∧ Bel w w' := by
  obtain ⟨h0, h1⟩ := hn
  by_cases h : n < 0
  · go_enter Tryz.func130, Tryz.ntmps130
    go_wp2
    go_ret
    exact ⟨ret_u64 (by rw [conv_u64, conv_u64]; omega), Bel.refl _⟩
  · go_enter Tryz.func130, Tryz.ntmps130
    go_wp2
    go_ret
    exact ⟨ret_u64 (by omega), Bel.refl _⟩
abbrev wideV (neg : Bool) (hi lo rest of : Nat) (s : Int) : Value := .agg #[.bool neg, .int .u64 hi, .int .u64 lo, .int .u64 rest, .int .u64 of, .int .i64 s]
set_option maxHeartbeats 400000 in
theorem wideOf_any (n s : Int) (hn : In64 n) (w : World) : Calls Tryz.prog 105 #[.int .i64 n, .int .i64 s] w fun e w' => e = .returned (wideV (decide (n < 0)) 0 n.natAbs 0 1 s) ∧ Bel w w' := by
  go_enter Tryz.func105, Tryz.ntmps105
  go_wp2_with fail
  refine under_call ((Bel.refl w).alloc _) fun W hc hf hz hb => ?_
  have hw : Sl6 W w.heap.size false 0 0 0 0 0 := by simp [Sl6, Ar6, Fr6, hz, hc, hf, go_sem]
  clear hc hf hz
  go_wp2_with (go_at_call 130; refine (size_any n hn _).mono ?_; rintro e W1 ⟨rfl, hb1⟩; replace hw := hw.keep hb1; replace hb := hb.trans hb1; clear hb1)
  refine bodyPost_ret (by simp [results, Tryz.results105, go_sem, hw]; try rfl) rfl ⟨rfl, ?_⟩
  exact (((((hb.setCell (by simp) _).setCell (by simp) _).setCell (by simp) _).setCell (by simp) _).setCell (by simp) _).setCell (by simp) _
end
section
theorem dv_test {y1 y0 u c q r : Nat} (hq : q * y1 + r = u) : (q * (y1 * 4294967296 + y0) > u * 4294967296 + c) ↔ (q * y0 > 4294967296 * r + c) := by
  subst hq
  rw [Nat.mul_add, ← Nat.mul_assoc]
  omega
theorem dv_over {y u c q : Nat} (hy : 0 < y) : ((u * 4294967296 + c) / y < q) ↔ q * y > u * 4294967296 + c := by
  rw [Nat.div_lt_iff_lt_mul hy]
theorem dv_lt {y u c : Nat} (hu : u < y) (hc : c < 4294967296) : (u * 4294967296 + c) / y < 4294967296 := by
  rw [Nat.div_lt_iff_lt_mul (by omega), Nat.mul_comm 4294967296 y]
  have := Nat.mul_le_mul_right 4294967296 (show u + 1 ≤ y from hu)
  rw [Nat.add_mul] at this
  omega
/-- What is known of a digit that is guessed: it is not too small, and at most one above the base. -/
structure Guess (y1 y0 u c q r : Nat) : Prop where
  sum : q * y1 + r = u
  ge : (u * 4294967296 + c) / (y1 * 4294967296 + y0) ≤ q
  le : q ≤ 4294967297
  lo : r < 4294967296
theorem guess_0 {y1 y0 u c : Nat} (h1 : 2147483648 ≤ y1) (h1' : y1 < 4294967296) (h0 : y0 < 4294967296) (hu : u < y1 * 4294967296 + y0) (hc : c < 4294967296) : Guess y1 y0 u c (u / y1) (u % y1) := by
  have hs := Nat.div_add_mod u y1
  have hm := Nat.mod_lt u (show 0 < y1 by omega)
  refine ⟨by rw [Nat.mul_comm]; omega, ?_, ?_, by omega⟩
  · refine Nat.le_of_not_lt fun h => ?_
    have h2 : u / y1 + 1 ≤ (u * 4294967296 + c) / (y1 * 4294967296 + y0) := h
    rw [Nat.le_div_iff_mul_le (by omega)] at h2
    have h3 : u < (u / y1 + 1) * y1 := by rw [Nat.add_mul, Nat.mul_comm]; omega
    have h4 : (u / y1 + 1) * (y1 * 4294967296) = (u / y1 + 1) * y1 * 4294967296 := by rw [Nat.mul_assoc]
    rw [Nat.mul_add, h4] at h2
    have h5 := Nat.mul_le_mul_right 4294967296 (show u + 1 ≤ (u / y1 + 1) * y1 from h3)
    rw [Nat.add_mul] at h5
    omega
  · have : u / y1 < 4294967298 := by
      rw [Nat.div_lt_iff_lt_mul (by omega)]
      omega
    omega
theorem guess_test {y1 y0 u c q r : Nat} (h1 : 2147483648 ≤ y1) (g : Guess y1 y0 u c q r) :
    ((u * 4294967296 + c) / (y1 * 4294967296 + y0) < q) ↔ q * y0 > 4294967296 * r + c := by
  rw [dv_over (by omega), dv_test g.sum]
theorem guess_done {y1 y0 u c q r : Nat} (g : Guess y1 y0 u c q r) (h : ¬ (u * 4294967296 + c) / (y1 * 4294967296 + y0) < q) : q = (u * 4294967296 + c) / (y1 * 4294967296 + y0) := by
  have := g.ge
  exact Nat.le_antisymm (Nat.le_of_not_lt h) this
theorem guess_dec {y1 y0 u c q r : Nat} (h1 : 2147483648 ≤ y1) (h0 : y0 < 4294967296) (g : Guess y1 y0 u c q r) (h : (u * 4294967296 + c) / (y1 * 4294967296 + y0) < q) :
    (q - 1) * y1 + (r + y1) = u ∧ 1 ≤ q ∧ (r + y1 < 4294967296 → Guess y1 y0 u c (q - 1) (r + y1)) ∧ (4294967296 ≤ r + y1 → q - 1 = (u * 4294967296 + c) / (y1 * 4294967296 + y0)) := by
  have hq : 1 ≤ q := Nat.lt_of_le_of_lt (Nat.zero_le _) h
  have hs : (q - 1) * y1 + (r + y1) = u := by
    have := g.sum
    obtain ⟨p, rfl⟩ : ∃ p, q = p + 1 := ⟨q - 1, by omega⟩
    rw [Nat.add_mul] at this
    rw [Nat.add_sub_cancel]
    omega
  refine ⟨hs, hq, fun hl => ⟨hs, Nat.le_sub_one_of_lt h, by have := g.le; omega, hl⟩, fun hl => ?_⟩
  by_cases hlt : (u * 4294967296 + c) / (y1 * 4294967296 + y0) < q - 1
  · rw [dv_over (by omega), dv_test hs] at hlt
    have := g.le
    have h2 : (q - 1) * y0 ≤ 4294967296 * y0 := Nat.mul_le_mul_right _ (by omega)
    have h3 : 4294967296 * y0 ≤ 4294967296 * 4294967295 := Nat.mul_le_mul_left _ (by omega)
    omega
  · omega
/-- What is left, reckoned modulo 2^64. -/
theorem rest_mod {y u c q R : Nat} (h : q * y + R = u * 4294967296 + c) (hR : R < 18446744073709551616) :
    (((u * 4294967296 % 18446744073709551616 + c) % 18446744073709551616 : Nat) - ((q * y % 18446744073709551616 : Nat)) : Int) % 18446744073709551616 = (R : Int) := by
  omega
/-- The number, moved up so that its divisor's top bit is set. -/
theorem shl_top {hi lo s : Nat} (hs : s ≤ 63) (hlo : lo < 18446744073709551616) :
    (hi * 18446744073709551616 + lo) * 2 ^ s = (hi * 2 ^ s + lo / 2 ^ (64 - s)) * 18446744073709551616 + lo * 2 ^ s % 18446744073709551616 := by
  have h : 18446744073709551616 = 2 ^ s * 2 ^ (64 - s) := by rw [← Nat.pow_add, show s + (64 - s) = 64 by omega]
  have h2 : lo * 2 ^ s / 18446744073709551616 = lo / 2 ^ (64 - s) := by
    rw [h, Nat.mul_comm lo, Nat.mul_div_mul_left _ _ (Nat.pow_pos (by omega))]
  have h3 := Nat.div_add_mod (lo * 2 ^ s) 18446744073709551616
  rw [h2] at h3
  rw [Nat.add_mul, Nat.add_mul, Nat.mul_right_comm hi]
  omega
theorem long_two {X a b y : Nat} (hy : 0 < y) (h : X = a * 18446744073709551616 + b) (ha : a < y) :
    let c1 := b / 4294967296; let c0 := b % 4294967296
    let q1 := (a * 4294967296 + c1) / y; let r1 := (a * 4294967296 + c1) % y
    let q0 := (r1 * 4294967296 + c0) / y; let r0 := (r1 * 4294967296 + c0) % y
    X / y = q1 * 4294967296 + q0 ∧ X % y = r0 := by
  intro c1 c0 q1 r1 q0 r0
  have e1 : y * q1 + r1 = a * 4294967296 + c1 := Nat.div_add_mod _ _
  have e0 : y * q0 + r0 = r1 * 4294967296 + c0 := Nat.div_add_mod _ _
  have hr : r0 < y := Nat.mod_lt _ hy
  have hX : X = y * (q1 * 4294967296 + q0) + r0 := by
    rw [h, Nat.mul_add, ← Nat.mul_assoc]
    have hb : 4294967296 * c1 + c0 = b := Nat.div_add_mod b 4294967296
    clear_value c1 c0 q1 r1 q0 r0
    omega
  constructor
  · rw [hX, Nat.mul_add_div hy, Nat.div_eq_of_lt hr, Nat.add_zero]
  · rw [hX, Nat.mul_add_mod, Nat.mod_eq_of_lt hr]
end
section
open Go.RowKit
theorem lz_t (y : Nat) (h1 : 1 ≤ y) (h2 : y < 18446744073709551616) (w : World) : Calls Tryz.prog 193 #[.int .u64 y] w fun e w' => ∃ s : Nat, s ≤ 63 ∧ y * 2 ^ s < 18446744073709551616 ∧ 9223372036854775808 ≤ y * 2 ^ s ∧ e = .returned (.int .i64 s) ∧ w = w' := by
  refine (Tryz.bits_LeadingZeros64 (y : Int) w (by omega) (by omega)).mono fun e w' ⟨he, hw⟩ => ?_
  obtain ⟨h3, h4, h5⟩ := Lib.bitLenAux_bounds 64 y h2 (by omega)
  have hL : Lib.bitLenAux 64 y ≤ 64 := by
    rcases Nat.lt_or_ge 64 (Lib.bitLenAux 64 y) with h | h
    · have := Nat.pow_le_pow_right (n := 2) (by omega) (show 64 ≤ Lib.bitLenAux 64 y - 1 by omega)
      have e : (2 : Nat) ^ 64 = 18446744073709551616 := by decide
      omega
    · exact h
  have hb : Lib.bitLen ((y : Int)).toNat = Lib.bitLenAux 64 y := rfl
  refine ⟨64 - Lib.bitLenAux 64 y, by omega, ?_, ?_, ?_, hw.symm⟩
  · have := Nat.mul_lt_mul_of_pos_right h5 (Nat.pow_pos (n := 64 - Lib.bitLenAux 64 y) (show 0 < 2 by omega))
    rw [← Nat.pow_add, show Lib.bitLenAux 64 y + (64 - Lib.bitLenAux 64 y) = 64 by omega] at this
    exact this
  · have := Nat.mul_le_mul_right (2 ^ (64 - Lib.bitLenAux 64 y)) h4
    rw [← Nat.pow_add, show Lib.bitLenAux 64 y - 1 + (64 - Lib.bitLenAux 64 y) = 63 by omega] at this
    exact this
  · rw [he, hb]
    exact congrArg (fun z => Ending.returned (.int .i64 z)) (by omega)
theorem maskN (a : Nat) (ha : a < 18446744073709551616) : bits .and .u64 (a : Int) 4294967295 = ((a % 4294967296 : Nat) : Int) := by
  have h := bits_and_u64_nat a 4294967295 ha (by omega)
  have e : a &&& 4294967295 = a % 4294967296 := Nat.and_two_pow_sub_one_eq_mod a 32
  rw [e] at h
  exact h
theorem cast_pow (a s : Nat) : (a : Int) * 2 ^ s = ((a * 2 ^ s : Nat) : Int) := by rw [Int.natCast_mul, Int.natCast_pow]; rfl
theorem cast_div_pow (a s : Nat) : (a : Int) / 2 ^ s = ((a / 2 ^ s : Nat) : Int) := by rw [Int.natCast_ediv, Int.natCast_pow]; rfl
theorem wrapM (a : Nat) : IntKind.u64.wrap (a : Int) = ((a % 18446744073709551616 : Nat) : Int) := by rw [IntKind.wrap_u64]; omega
theorem or_sum (h s l : Nat) (hs : s ≤ 63) (hh : h * 2 ^ s < 18446744073709551616) (hl : l < 2 ^ s) : bits .or .u64 ((h * 2 ^ s : Nat) : Int) (l : Int) = ((h * 2 ^ s + l : Nat) : Int) := by
  have h2 : 2 ^ s ≤ 2 ^ 63 := Nat.pow_le_pow_right (by omega) hs
  have h4 : (2 : Nat) ^ 63 = 9223372036854775808 := by decide
  have h3 := bits_or_u64_nat (h * 2 ^ s) l hh (by omega)
  rw [h3, Nat.mul_comm, Nat.two_pow_add_eq_or_of_lt hl]
theorem mul_lt64 {a b : Nat} (ha : a < 4294967296) (hb : b < 4294967296) : a * b < 18446744073709551616 := by
  have := Nat.mul_le_mul (show a ≤ 4294967295 by omega) (show b ≤ 4294967295 by omega)
  omega
set_option maxRecDepth 100000 in
set_option maxHeartbeats 4000000 in
theorem div64_hi (hi lo y : Nat) (h0 : 1 ≤ hi) (h1 : hi < y) (h2 : y < 18446744073709551616) (h3 : lo < 18446744073709551616) (w : World) :
    Calls Tryz.prog 178 #[.int .u64 hi, .int .u64 lo, .int .u64 y] w fun e w' => e = .returned (.tuple #[.int .u64 ((hi * 18446744073709551616 + lo) / y : Nat), .int .u64 ((hi * 18446744073709551616 + lo) % y : Nat)]) ∧ Bel w w' := by
  have k1 : ((y : Int) == 0) = false := by simp; omega
  have k2 : decide (y ≤ hi) = false := by simp; omega
  have k3 : ((hi : Int) == 0) = false := by simp; omega
  go_enter Tryz.func178, Tryz.ntmps178
  go_wp2_with fail
  refine (lz_t y (by omega) (by omega) _).mono ?_; rintro e W1 ⟨s, hs1, hs2, hs3, rfl, rfl⟩
  have hps : 0 < 2 ^ s := Nat.pow_pos (by omega)
  have hhs : hi * 2 ^ s < y * 2 ^ s := by rw [Nat.mul_lt_mul_right hps]; exact h1
  have hll : lo / 2 ^ (64 - s) < 2 ^ s := by
    rw [Nat.div_lt_iff_lt_mul (Nat.pow_pos (by omega)), ← Nat.pow_add, show s + (64 - s) = 64 by omega]
    exact h3
  have hbig := Lib.hid (shl_top (hi := hi) (lo := lo) (s := s) hs1 h3)
  have hltop : hi * 2 ^ s + lo / 2 ^ (64 - s) < y * 2 ^ s := by
    have := Nat.mul_le_mul_right (2 ^ s) (show hi + 1 ≤ y from h1)
    rw [Nat.add_mul] at this
    omega
  have e1 : IntKind.u64.wrap ((y : Int) * 2 ^ s) = ((y * 2 ^ s : Nat) : Int) := by
    rw [cast_pow, wrapM, Nat.mod_eq_of_lt hs2]
  have e4 : bits .or .u64 (IntKind.u64.wrap ((hi : Int) * 2 ^ s)) ((lo : Int) / 2 ^ (64 - s)) = ((hi * 2 ^ s + lo / 2 ^ (64 - s) : Nat) : Int) := by
    rw [cast_pow, wrapM, Nat.mod_eq_of_lt (by omega), cast_div_pow, or_sum _ _ _ hs1 (by omega) hll]
  have e5 : IntKind.u64.wrap ((lo : Int) * 2 ^ s) = ((lo * 2 ^ s % 18446744073709551616 : Nat) : Int) := by
    rw [cast_pow, wrapM]
  obtain ⟨U, hU⟩ : ∃ U, U = hi * 2 ^ s + lo / 2 ^ (64 - s) := ⟨_, rfl⟩
  obtain ⟨V, hV⟩ : ∃ V, V = lo * 2 ^ s % 18446744073709551616 := ⟨_, rfl⟩
  obtain ⟨Y, hY⟩ : ∃ Y, Y = y * 2 ^ s := ⟨_, rfl⟩
  have hVb : V < 18446744073709551616 := by rw [hV]; exact Nat.mod_lt _ (by omega)
  rw [← hY] at hs2 hs3 e1 hltop
  rw [← hU] at e4 hltop
  rw [← hV] at e5
  clear hhs hll
  obtain ⟨y1, hy1⟩ : ∃ y1, y1 = Y / 4294967296 := ⟨_, rfl⟩
  obtain ⟨y0, hy0⟩ : ∃ y0, y0 = Y % 4294967296 := ⟨_, rfl⟩
  obtain ⟨v1, hv1⟩ : ∃ v1, v1 = V / 4294967296 := ⟨_, rfl⟩
  obtain ⟨v0, hv0⟩ : ∃ v0, v0 = V % 4294967296 := ⟨_, rfl⟩
  have e2 : (Y : Int) / 4294967296 = y1 := by omega
  have e3 : bits .and .u64 (Y : Int) 4294967295 = y0 := by rw [maskN Y hs2, hy0]
  have e6 : (V : Int) / 4294967296 = v1 := by omega
  have e7 : bits .and .u64 (V : Int) 4294967295 = v0 := by rw [maskN V hVb, hv0]
  have b1 : 2147483648 ≤ y1 := by omega
  have b1' : y1 < 4294967296 := by omega
  have b0 : y0 < 4294967296 := by omega
  have bv1 : v1 < 4294967296 := by omega
  have bv0 : v0 < 4294967296 := by omega
  have hYs : Y = y1 * 4294967296 + y0 := by omega
  have hUY : U < y1 * 4294967296 + y0 := by omega
  have G0 := guess_0 b1 b1' b0 hUY bv1
  obtain ⟨q, hq⟩ : ∃ q, q = U / y1 := ⟨_, rfl⟩
  obtain ⟨r, hr⟩ : ∃ r, r = U % y1 := ⟨_, rfl⟩
  rw [← hq, ← hr] at G0
  have e8 : (U : Int) / (y1 : Int) = q := by rw [hq]; rfl
  have gs := G0.sum
  obtain ⟨P, hP⟩ : ∃ P, P = q * y1 := ⟨_, rfl⟩
  have e9 : IntKind.u64.wrap ((q : Int) * (y1 : Int)) = P := by
    rw [← Int.natCast_mul, wrapM, ← hP, Nat.mod_eq_of_lt (by omega)]
  have e10 : (U : Int) - (P : Int) = r := by omega
  have HY := Lib.hid hY
  have HYs := Lib.hid hYs
  have HV := Lib.hid (show 4294967296 * v1 + v0 = V by omega)
  have HU := Lib.hid hU
  have HVV := Lib.hid hV
  have gle := G0.le
  have i1 : (2147483648 : Int) ≤ (y1 : Int) := by omega
  have i2 : (y1 : Int) ≤ 4294967295 := by omega
  have i3 : (y0 : Int) ≤ 4294967295 := by omega
  have i4 : (v1 : Int) ≤ 4294967295 := by omega
  have i5 : (v0 : Int) ≤ 4294967295 := by omega
  have i6 : (U : Int) ≤ 18446744073709551615 := by omega
  have i7 : (q : Int) ≤ 4294967297 := by omega
  have i8 : (r : Int) ≤ 4294967295 := by have := G0.lo; omega
  have i9 : (P : Int) ≤ U := by omega
  have i10 : (s : Int) ≤ 63 := by omega
  have i11 : (Y : Int) ≤ 18446744073709551615 := by omega
  have i12 : (lo : Int) ≤ 18446744073709551615 := by omega
  have N := Lib.hid (And.intro b1 (And.intro b1' (And.intro b0 (And.intro bv1 (And.intro bv0 (And.intro hUY (And.intro hs2 (And.intro h2 h1))))))))
  have HG0 := Lib.hid G0
  clear hY hYs hy1 hy0 hv1 hv0 hU hV hq hr hP gs b1 b1' b0 bv1 bv0 hUY hs2 hs3 hltop gle G0 hVb hps h3
  go_upto_block 0 with (fail)
  clear e1 e2 e3 e4 e5 e6 e7 e8 e9 e10 i9 i12
  obtain ⟨b1, b1', b0, bv1, bv0, hUY, hs2, -⟩ := N.out
  have hX : (U * 4294967296 + v1) / (y1 * 4294967296 + y0) < 4294967296 := dv_lt hUY bv1
  obtain ⟨Q1, hQ1⟩ : ∃ Q1, Q1 = (U * 4294967296 + v1) / (y1 * 4294967296 + y0) := ⟨_, rfl⟩
  have HQ1 := Lib.hid hQ1
  rw [← hQ1] at hX
  have iQ : (Q1 : Int) ≤ 4294967295 := by omega
  clear hX hQ1 b1 b1' b0 bv1 bv0 hUY hs2
  go_cut [15] (fun q' wx => q' = .int .u64 Q1 ∧ wx = w)
  case first =>
    go_wp2_with fail
    go_loopg [15, 16] q (fun g q' r' wr => ∃ a b : Nat, q' = .int .u64 a ∧ r' = .int .u64 b ∧ Guess y1 y0 U v1 a b ∧ g = a ∧ wr = w)
    case atStart => exact ⟨q, r, rfl, rfl, HG0.out, rfl, rfl⟩
    case round =>
      obtain ⟨a, b, rfl, rfl, G, hg, rfl⟩ := hrel
      obtain ⟨b1, b1', b0, bv1, bv0, hUY, hs2, -⟩ := N.out
      have j1 : (b : Int) ≤ 4294967295 := by have := G.lo; omega
      have j2 : (a : Int) ≤ 4294967297 := by have := G.le; omega
      have Hg := Lib.hid hg
      clear hg
      obtain ⟨T, hT⟩ : ∃ T, T = a * y0 := ⟨_, rfl⟩
      by_cases hov : (U * 4294967296 + v1) / (y1 * 4294967296 + y0) < a
      · obtain ⟨-, d1, d2, d3⟩ := guess_dec b1 b0 G hov
        have ht := (guess_test b1 G).1 hov
        rw [← hT] at ht
        have j3 : (4294967296 : Int) * b + v1 < T := by omega
        have j4 : (1 : Int) ≤ a := by omega
        have H2 := Lib.hid d2
        have H3 := Lib.hid d3
        have HQ : Hid (4294967296 ≤ b + y1 → a - 1 = Q1) := fun h => (H3.out h).trans HQ1.out.symm
        have t1 : (a : Int) ≤ 4294967295 → IntKind.u64.wrap ((a : Int) * (y0 : Int)) = T := fun h => by
          rw [← Int.natCast_mul, wrapM, ← hT, Nat.mod_eq_of_lt (by rw [hT]; exact mul_lt64 (by omega) b0)]
        have T1 := Lib.hid t1
        clear t1 hT d1 d2 d3 hov ht b1 b1' b0 bv1 bv0 hUY hs2
        by_cases hbr : (4294967296 : Int) ≤ b + y1
        · have hfin := Lib.hid (HQ.out (by omega))
          by_cases h4 : (4294967296 : Int) ≤ a
          · go_wp2
            go_meet
            exact ⟨by rw [← hfin.out]; go_num, rfl⟩
          · have t1 := T1.out (by omega)
            go_wp2
            go_meet
            exact ⟨by rw [← hfin.out]; go_num, rfl⟩
        · have G1 := Lib.hid (H2.out (by omega))
          by_cases h4 : (4294967296 : Int) ≤ a
          · go_wp2
            go_roundg (gk - 1)
            case measure => have := Hg.out; omega
            case rel => exact ⟨a - 1, b + y1, by go_num, by go_num, G1.out, by have := Hg.out; omega, rfl⟩
          · have t1 := T1.out (by omega)
            go_wp2
            go_roundg (gk - 1)
            case measure => have := Hg.out; omega
            case rel => exact ⟨a - 1, b + y1, by go_num, by go_num, G1.out, by have := Hg.out; omega, rfl⟩
      · have hfin := Lib.hid ((guess_done G hov).trans HQ1.out.symm)
        have ht : ¬ 4294967296 * b + v1 < a * y0 := fun h => hov ((guess_test b1 G).2 h)
        rw [← hT] at ht
        have j3 : (T : Int) ≤ (4294967296 : Int) * b + v1 := by omega
        have h4 : ¬ (4294967296 : Int) ≤ a := by rw [hfin.out]; omega
        have t1 : IntKind.u64.wrap ((a : Int) * (y0 : Int)) = T := by
          rw [← Int.natCast_mul, wrapM, ← hT, Nat.mod_eq_of_lt (by rw [hT]; exact mul_lt64 (by omega) b0)]
        clear hT hov ht b1 b1' b0 bv1 bv0 hUY hs2
        go_wp2
        go_meet
        exact ⟨by rw [hfin.out], rfl⟩
  case rest =>
    obtain ⟨rfl, rfl⟩ := hcut
    clear HG0 i7 i8
    obtain ⟨b1, b1', b0, bv1, bv0, hUY, hs2, h2, h1⟩ := N.out
    have hQ1 := HQ1.out
    rw [← HYs.out] at hQ1
    obtain ⟨R, hR⟩ : ∃ R, R = (U * 4294967296 + v1) % Y := ⟨_, rfl⟩
    have hYpos : 0 < Y := by have := HYs.out; omega
    have hRY : R < Y := by rw [hR]; exact Nat.mod_lt _ hYpos
    have hsum : Q1 * Y + R = U * 4294967296 + v1 := by
      have := Nat.div_add_mod (U * 4294967296 + v1) Y
      rw [← hQ1, ← hR, Nat.mul_comm] at this
      exact this
    have f1 : IntKind.u64.wrap ((U : Int) * 4294967296) = ((U * 4294967296 % 18446744073709551616 : Nat) : Int) := by rw [conv_u64]; omega
    obtain ⟨a1, ha1⟩ : ∃ a1, a1 = U * 4294967296 % 18446744073709551616 := ⟨_, rfl⟩
    rw [← ha1] at f1
    have f2 : IntKind.u64.wrap ((a1 : Int) + v1) = (((a1 + v1) % 18446744073709551616 : Nat) : Int) := by rw [conv_u64]; omega
    obtain ⟨a2, ha2⟩ : ∃ a2, a2 = (a1 + v1) % 18446744073709551616 := ⟨_, rfl⟩
    rw [← ha2] at f2
    have f3 : IntKind.u64.wrap ((Q1 : Int) * Y) = ((Q1 * Y % 18446744073709551616 : Nat) : Int) := by rw [← Int.natCast_mul, wrapM]
    obtain ⟨a3, ha3⟩ : ∃ a3, a3 = Q1 * Y % 18446744073709551616 := ⟨_, rfl⟩
    rw [← ha3] at f3
    have f4 : IntKind.u64.wrap ((a2 : Int) - a3) = (R : Int) := by
      rw [conv_u64, ha2, ha3, ha1]
      exact rest_mod hsum (by omega)
    have hRy : R < y1 * 4294967296 + y0 := by have := HYs.out; omega
    have G0 := guess_0 b1 b1' b0 hRy bv0
    obtain ⟨q0, hq⟩ : ∃ q0, q0 = R / y1 := ⟨_, rfl⟩
    obtain ⟨r0, hr⟩ : ∃ r0, r0 = R % y1 := ⟨_, rfl⟩
    rw [← hq, ← hr] at G0
    have e8 : (R : Int) / (y1 : Int) = q0 := by rw [hq]; rfl
    have gs := G0.sum
    obtain ⟨P0, hP⟩ : ∃ P0, P0 = q0 * y1 := ⟨_, rfl⟩
    have e9 : IntKind.u64.wrap ((q0 : Int) * (y1 : Int)) = P0 := by
      rw [← Int.natCast_mul, wrapM, ← hP, Nat.mod_eq_of_lt (by omega)]
    have e10 : (R : Int) - (P0 : Int) = r0 := by omega
    have gle := G0.le
    have l7 : (q0 : Int) ≤ 4294967297 := by omega
    have l8 : (r0 : Int) ≤ 4294967295 := by have := G0.lo; omega
    have l9 : (P0 : Int) ≤ R := by omega
    have l10 : (R : Int) ≤ 18446744073709551615 := by omega
    have N1 := Lib.hid (And.intro hRY hRy)
    have HG0 := Lib.hid G0
    have HR := Lib.hid hR
    have H1 := Lib.hid hQ1
    clear hQ1 hR hYpos hRY hsum ha1 ha2 ha3 hRy G0 hq hr gs hP gle b1 b1' b0 bv1 bv0 hUY hs2 h2 h1
    go_upto_block 2 with (fail)
    clear f1 f2 f3 f4 e8 e9 e10 l9
    obtain ⟨b1, b1', b0, bv1, bv0, hUY, hs2, -⟩ := N.out
    have hX : (R * 4294967296 + v0) / (y1 * 4294967296 + y0) < 4294967296 := dv_lt N1.out.2 bv0
    obtain ⟨Q0, hQ0⟩ : ∃ Q0, Q0 = (R * 4294967296 + v0) / (y1 * 4294967296 + y0) := ⟨_, rfl⟩
    have HQ0 := Lib.hid hQ0
    rw [← hQ0] at hX
    have iQ0 : (Q0 : Int) ≤ 4294967295 := by omega
    clear hX hQ0 b1 b1' b0 bv1 bv0 hUY hs2
    go_cut [18] (fun q' wx => q' = .int .u64 Q0 ∧ wx = wc)
    case first =>
      go_wp2_with fail
      go_loopg [18, 16] q0 (fun g q' r' wr => ∃ a b : Nat, q' = .int .u64 a ∧ r' = .int .u64 b ∧ Guess y1 y0 R v0 a b ∧ g = a ∧ wr = wc)
      case atStart => exact ⟨q0, r0, rfl, rfl, HG0.out, rfl, rfl⟩
      case round =>
        obtain ⟨a, b, rfl, rfl, G, hg, rfl⟩ := hrel
        obtain ⟨b1, b1', b0, bv1, bv0, hUY, hs2, -⟩ := N.out
        have j1 : (b : Int) ≤ 4294967295 := by have := G.lo; omega
        have j2 : (a : Int) ≤ 4294967297 := by have := G.le; omega
        have Hg := Lib.hid hg
        clear hg
        obtain ⟨T, hT⟩ : ∃ T, T = a * y0 := ⟨_, rfl⟩
        by_cases hov : (R * 4294967296 + v0) / (y1 * 4294967296 + y0) < a
        · obtain ⟨-, d1, d2, d3⟩ := guess_dec b1 b0 G hov
          have ht := (guess_test b1 G).1 hov
          rw [← hT] at ht
          have j3 : (4294967296 : Int) * b + v0 < T := by omega
          have j4 : (1 : Int) ≤ a := by omega
          have H2 := Lib.hid d2
          have H3 := Lib.hid d3
          have HQ : Hid (4294967296 ≤ b + y1 → a - 1 = Q0) := fun h => (H3.out h).trans HQ0.out.symm
          have t1 : (a : Int) ≤ 4294967295 → IntKind.u64.wrap ((a : Int) * (y0 : Int)) = T := fun h => by
            rw [← Int.natCast_mul, wrapM, ← hT, Nat.mod_eq_of_lt (by rw [hT]; exact mul_lt64 (by omega) b0)]
          have T1 := Lib.hid t1
          clear t1 hT d1 d2 d3 hov ht b1 b1' b0 bv1 bv0 hUY hs2
          by_cases hbr : (4294967296 : Int) ≤ b + y1
          · have hfin := Lib.hid (HQ.out (by omega))
            by_cases h4 : (4294967296 : Int) ≤ a
            · go_wp2
              go_meet
              exact ⟨by rw [← hfin.out]; go_num, rfl⟩
            · have t1 := T1.out (by omega)
              go_wp2
              go_meet
              exact ⟨by rw [← hfin.out]; go_num, rfl⟩
          · have G1 := Lib.hid (H2.out (by omega))
            by_cases h4 : (4294967296 : Int) ≤ a
            · go_wp2
              go_roundg (gk - 1)
              case measure => have := Hg.out; omega
              case rel => exact ⟨a - 1, b + y1, by go_num, by go_num, G1.out, by have := Hg.out; omega, rfl⟩
            · have t1 := T1.out (by omega)
              go_wp2
              go_roundg (gk - 1)
              case measure => have := Hg.out; omega
              case rel => exact ⟨a - 1, b + y1, by go_num, by go_num, G1.out, by have := Hg.out; omega, rfl⟩
        · have hfin := Lib.hid ((guess_done G hov).trans HQ0.out.symm)
          have ht : ¬ 4294967296 * b + v0 < a * y0 := fun h => hov ((guess_test b1 G).2 h)
          rw [← hT] at ht
          have j3 : (T : Int) ≤ (4294967296 : Int) * b + v0 := by omega
          have h4 : ¬ (4294967296 : Int) ≤ a := by rw [hfin.out]; omega
          have t1 : IntKind.u64.wrap ((a : Int) * (y0 : Int)) = T := by
            rw [← Int.natCast_mul, wrapM, ← hT, Nat.mod_eq_of_lt (by rw [hT]; exact mul_lt64 (by omega) b0)]
          clear hT hov ht b1 b1' b0 bv1 bv0 hUY hs2
          go_wp2
          go_meet
          exact ⟨by rw [hfin.out], rfl⟩
    case rest =>
      obtain ⟨rfl, rfl⟩ := hcut
      clear HG0 l7 l8
      obtain ⟨b1, b1', b0, bv1, bv0, hUY, hs2, h2, h1⟩ := N.out
      obtain ⟨hRY, -⟩ := N1.out
      have hQ0 := HQ0.out
      rw [← HYs.out] at hQ0
      obtain ⟨R0, hR0⟩ : ∃ R0, R0 = (R * 4294967296 + v0) % Y := ⟨_, rfl⟩
      have hYpos : 0 < Y := by omega
      have hR0Y : R0 < Y := by rw [hR0]; exact Nat.mod_lt _ hYpos
      have hsum : Q0 * Y + R0 = R * 4294967296 + v0 := by
        have := Nat.div_add_mod (R * 4294967296 + v0) Y
        rw [← hQ0, ← hR0, Nat.mul_comm] at this
        exact this
      have f1 : IntKind.u64.wrap ((R : Int) * 4294967296) = ((R * 4294967296 % 18446744073709551616 : Nat) : Int) := by rw [conv_u64]; omega
      obtain ⟨a1, ha1⟩ : ∃ a1, a1 = R * 4294967296 % 18446744073709551616 := ⟨_, rfl⟩
      rw [← ha1] at f1
      have f2 : IntKind.u64.wrap ((a1 : Int) + v0) = (((a1 + v0) % 18446744073709551616 : Nat) : Int) := by rw [conv_u64]; omega
      obtain ⟨a2, ha2⟩ : ∃ a2, a2 = (a1 + v0) % 18446744073709551616 := ⟨_, rfl⟩
      rw [← ha2] at f2
      have f3 : IntKind.u64.wrap ((Q0 : Int) * Y) = ((Q0 * Y % 18446744073709551616 : Nat) : Int) := by rw [← Int.natCast_mul, wrapM]
      obtain ⟨a3, ha3⟩ : ∃ a3, a3 = Q0 * Y % 18446744073709551616 := ⟨_, rfl⟩
      rw [← ha3] at f3
      have f4 : IntKind.u64.wrap ((a2 : Int) - a3) = (R0 : Int) := by
        rw [conv_u64, ha2, ha3, ha1]
        exact rest_mod hsum (by omega)
      have f5 : (R0 : Int) / 2 ^ s = ((R0 / 2 ^ s : Nat) : Int) := cast_div_pow _ _
      obtain ⟨Z, hZ⟩ : ∃ Z, Z = R0 / 2 ^ s := ⟨_, rfl⟩
      rw [← hZ] at f5
      have l11 : (R0 : Int) ≤ 18446744073709551615 := by omega
      have hv0 : v0 = V % 4294967296 := by have := HV.out; omega
      have hv1 : v1 = V / 4294967296 := by have := HV.out; omega
      have hUY' : U < Y := by rw [← HYs.out] at hUY; exact hUY
      have two := long_two (b := V) hYpos rfl hUY'
      simp only at two
      rw [← hv1, ← hv0, ← H1.out, ← HR.out, ← hQ0, ← hR0] at two
      have hbig' := hbig.out
      rw [← HU.out, ← HVV.out] at hbig'
      rw [← hbig', HY.out] at two
      have p2 : 0 < 2 ^ s := Nat.pow_pos (by omega)
      rw [Nat.mul_div_mul_right _ _ p2, Nat.mul_mod_mul_right] at two
      have hZ' : Z = (hi * 18446744073709551616 + lo) % y := by rw [hZ, ← two.2, Nat.mul_div_cancel _ p2]
      have E1 := Lib.hid two.1
      have E2 := Lib.hid hZ'
      clear two hZ' hbig' hv0 hv1 hUY' hZ hR0 hYpos hR0Y hsum ha1 ha2 ha3 p2 b1 b1' b0 bv1 bv0 hUY hs2 h2 h1 hQ0 hRY
      go_wp2
      go_ret2
      exact ⟨by rw [E1.out, ← E2.out]; go_num, Bel.refl _⟩
set_option maxHeartbeats 1000000 in
theorem div64_lo (lo y : Nat) (h1 : 1 ≤ y) (h2 : y < 18446744073709551616) (h3 : lo < 18446744073709551616) (w : World) :
    Calls Tryz.prog 178 #[.int .u64 0, .int .u64 lo, .int .u64 y] w fun e w' => e = .returned (.tuple #[.int .u64 (lo / y : Nat), .int .u64 (lo % y : Nat)]) ∧ Bel w w' := by
  have k1 : ((y : Int) == 0) = false := by simp; omega
  have k0 : (y == 0) = false := by simp; omega
  have k00 : decide (y = 0) = false := by simp; omega
  have k2 : decide ((y : Int) ≤ 0) = false := by simp; omega
  have k22 : decide (y ≤ 0) = false := by simp; omega
  have k4 : ((0 : Int) == 0) = true := rfl
  have e1 : (lo : Int) / (y : Int) = ((lo / y : Nat) : Int) := (Int.natCast_ediv ..).symm
  have e2 : (lo : Int) % (y : Int) = ((lo % y : Nat) : Int) := (Int.natCast_emod ..).symm
  have i1 : (1 : Int) ≤ y := by omega
  have i2 : (lo : Int) ≤ 18446744073709551615 := by omega
  have i3 : ¬ (y : Int) = 0 := by omega
  have p1 : lo / y ≤ lo := Nat.div_le_self _ _
  have p2 : lo % y ≤ lo := Nat.mod_le _ _
  generalize lo / y = p at *
  generalize lo % y = q at *
  have e3 : IntKind.u64.wrap (p : Int) = p := by rw [wrapM, Nat.mod_eq_of_lt (by omega)]
  have e4 : IntKind.u64.wrap (q : Int) = q := by rw [wrapM, Nat.mod_eq_of_lt (by omega)]
  clear h1 h2 h3 p1 p2
  go_enter Tryz.func178, Tryz.ntmps178
  go_wp2
  have E2 := Lib.hid e2
  clear e2
  go_region
  go_wp2
  go_ret2
  exact ⟨by rw [← E2.out]; rfl, (Bel.refl _).drew⟩
theorem div64_any (hi lo y : Nat) (h1 : hi < y) (h2 : y < 18446744073709551616) (h3 : lo < 18446744073709551616) (w : World) :
    Calls Tryz.prog 178 #[.int .u64 hi, .int .u64 lo, .int .u64 y] w fun e w' => e = .returned (.tuple #[.int .u64 ((hi * 18446744073709551616 + lo) / y : Nat), .int .u64 ((hi * 18446744073709551616 + lo) % y : Nat)]) ∧ Bel w w' := by
  rcases Nat.eq_zero_or_pos hi with rfl | h
  · rw [Nat.zero_mul, Nat.zero_add]; exact div64_lo lo y (by omega) h2 h3 w
  · exact div64_hi hi lo y h h1 h2 h3 w
def whi (m : Nat) : Nat := m / 18446744073709551616
def wlo (m : Nat) : Nat := m % 18446744073709551616
theorem div_wide (m d : Nat) (hd : 0 < d) : whi m / d = whi (m / d) ∧ ((whi m % d) * 18446744073709551616 + wlo m) / d = wlo (m / d) ∧ ((whi m % d) * 18446744073709551616 + wlo m) % d = m % d := by
  have h1 := Nat.div_add_mod m 18446744073709551616
  have h2 := Nat.div_add_mod (whi m) d
  have h3 : wlo m < 18446744073709551616 := Nat.mod_lt _ (by omega)
  have hr : whi m % d < d := Nat.mod_lt _ hd
  have hM : m = d * (whi m / d * 18446744073709551616) + (whi m % d * 18446744073709551616 + wlo m) := by
    rw [← Nat.mul_assoc]
    unfold whi wlo at *
    generalize m / 18446744073709551616 % d = a at *
    generalize d * (m / 18446744073709551616 / d) = b at *
    omega
  have hX : (whi m % d * 18446744073709551616 + wlo m) / d < 18446744073709551616 := by
    rw [Nat.div_lt_iff_lt_mul hd, Nat.mul_comm 18446744073709551616 d]
    have := Nat.mul_le_mul_right 18446744073709551616 (show whi m % d + 1 ≤ d from hr)
    rw [Nat.add_mul] at this
    omega
  have hD : m / d = whi m / d * 18446744073709551616 + (whi m % d * 18446744073709551616 + wlo m) / d := by
    conv => lhs; rw [hM]
    rw [Nat.mul_add_div hd]
  refine ⟨?_, ?_, ?_⟩
  · show _ = m / d / 18446744073709551616
    rw [hD, Nat.mul_comm (whi m / d), Nat.mul_add_div (by omega), Nat.div_eq_of_lt hX, Nat.add_zero]
  · show _ = m / d % 18446744073709551616
    rw [hD, Nat.mul_comm (whi m / d), Nat.mul_add_mod, Nat.mod_eq_of_lt hX]
  · conv => rhs; rw [hM]
    rw [Nat.mul_add_mod]
theorem whi_small {m : Nat} (h : m < 18446744073709551616) : whi m = 0 := Nat.div_eq_of_lt h
theorem wlo_small {m : Nat} (h : m < 18446744073709551616) : wlo m = m := Nat.mod_eq_of_lt h
theorem whi_le {m : Nat} (h : m < 340282366920938463463374607431768211456) : whi m ≤ 18446744073709551615 := by unfold whi; omega
theorem wlo_le (m : Nat) : wlo m ≤ 18446744073709551615 := by unfold wlo; omega
/-- A wide number m, and what a division left. -/
abbrev wideM (neg : Bool) (m rest of : Nat) (s : Int) : Value := wideV neg (whi m) (wlo m) rest of s
set_option maxHeartbeats 2000000 in
theorem divided_raw (x : Bool) (hi lo r o d p a q rr : Nat) (s : Int) (h1 : 1 ≤ d) (hhi : hi ≤ 18446744073709551615) (hp : hi / d = p) (ha : hi % d = a)
    (hc : ∀ w, Calls Tryz.prog 178 #[.int .u64 a, .int .u64 lo, .int .u64 d] w fun e w' => e = .returned (.tuple #[.int .u64 q, .int .u64 rr]) ∧ Bel w w') (w : World) :
    Calls Tryz.prog 155 #[wideV x hi lo r o s, .int .u64 d] w fun e w' => e = .returned (wideV x p q rr d s) ∧ Bel w w' := by
  have e1 : (hi : Int) / (d : Int) = p := by rw [← hp]; exact (Int.natCast_ediv ..).symm
  have e2 : (hi : Int) % (d : Int) = a := by rw [← ha]; exact (Int.natCast_emod ..).symm
  have l1 : p ≤ hi := hp ▸ Nat.div_le_self _ _
  have l2 : a ≤ hi := ha ▸ Nat.mod_le _ _
  have i1 : (1 : Int) ≤ d := by omega
  have i3 : ¬ (d : Int) = 0 := by omega
  have i2 : (hi : Int) ≤ 18446744073709551615 := by omega
  have e3 : IntKind.u64.wrap (p : Int) = p := by rw [wrapM, Nat.mod_eq_of_lt (by omega)]
  have e4 : IntKind.u64.wrap (a : Int) = a := by rw [wrapM, Nat.mod_eq_of_lt (by omega)]
  have HC := Lib.hid hc
  have E2 := Lib.hid e2
  clear hc hp ha h1 hhi l1 l2 e2
  go_enter Tryz.func155, Tryz.ntmps155
  go_wp2_with fail
  refine under_name (((Bel.refl w).alloc _).alloc _) fun W hc hf hz hb => ?_
  have hA : Sl6 W w.heap.size x hi lo r o s := by simp [Sl6, Ar6, Fr6, hz, hc, hf, go_sem]
  have hB : Sl6 W (w.heap.size + 1) false 0 0 0 0 0 := by simp [Sl6, Ar6, Fr6, hz, hc, hf, go_sem]
  clear hc hf hz
  go_region
  rw [E2.out]
  replace hA := hA.keep (Bel.refl W).drew; replace hB := hB.keep (Bel.refl W).drew; replace hb := hb.drew
  generalize W.drew = W at *
  go_wp2_with (go_at_call 178; refine (HC.out _).mono ?_; rintro e W1 ⟨rfl, hb1⟩
               replace hA := Sl6.keep (show Sl6 (W.setCell ⟨w.heap.size, 1, none⟩ (.int .u64 p)) w.heap.size x p lo r o s by simp [Sl6, Ar6, Fr6, go_sem, hA]) hb1
               replace hB := Sl6.keep (show Sl6 (W.setCell ⟨w.heap.size, 1, none⟩ (.int .u64 p)) (w.heap.size + 1) false 0 0 0 0 0 by simp [Sl6, Ar6, Fr6, go_sem, hB]) hb1
               replace hb := (hb.setCell (p := ⟨w.heap.size, 1, none⟩) (by simp) (.int .u64 p)).trans hb1; clear hb1)
  refine bodyPost_ret (by simp [results, Tryz.results155, go_sem, hA, hB]; try rfl) rfl ⟨rfl, ?_⟩
  (repeat (first | with_reducible exact Bel.refl _ | with_reducible refine Bel.setCell ?_ (by first | exact Nat.le_refl _ | (dsimp only; omega)) _ | with_reducible refine Bel.alloc ?_ _ | with_reducible refine Bel.drew ?_ | with_reducible assumption | with_reducible refine Bel.trans ?_ (by assumption)))
theorem divided_any (x : Bool) (m r o d : Nat) (s : Int) (hm : m < 340282366920938463463374607431768211456) (h1 : 1 ≤ d) (h2 : d < 18446744073709551616) (w : World) :
    Calls Tryz.prog 155 #[wideM x m r o s, .int .u64 d] w fun e w' => e = .returned (wideM x (m / d) (m % d) d s) ∧ Bel w w' := by
  obtain ⟨q1, q2, q3⟩ := div_wide m d (by omega)
  refine divided_raw x (whi m) (wlo m) r o d (whi (m / d)) (whi m % d) (wlo (m / d)) (m % d) s h1 (whi_le hm) q1 rfl (fun w => ?_) w
  have hc := div64_any (whi m % d) (wlo m) d (Nat.mod_lt _ (by omega)) h2 (Nat.lt_succ_of_le (wlo_le m)) w
  rw [q2, q3] at hc
  exact hc
def big128 : Nat := 340282366920938463463374607431768211456
set_option maxHeartbeats 2000000 in
theorem trimmed_any (x : Bool) (m s : Nat) (hm : m < big128) (hs : s ≤ 100) (w : World) :
    Calls Tryz.prog 131 #[wideM x m 0 1 s] w fun e w' => e = .returned (wideM x (trim m s).1 0 1 ((trim m s).2 : Nat)) ∧ Bel w w' := by
  have hs' : (s : Int) ≤ 100 := by omega
  have Hm := Lib.hid hm
  clear hm hs
  go_enter Tryz.func131, Tryz.ntmps131
  go_wp2_with fail
  refine under_name (((Bel.refl w).alloc _).alloc _) fun W hc hf hz hb => ?_
  have hA : Sl6 W w.heap.size x (whi m) (wlo m) 0 1 s := by simp [Sl6, Ar6, Fr6, hz, hc, hf, go_sem]
  have hB : Sl6 W (w.heap.size + 1) false 0 0 0 0 0 := by simp [Sl6, Ar6, Fr6, hz, hc, hf, go_sem]
  clear hc hf hz
  go_loopg [] s (fun g wr => ∃ m' s' : Nat, Hid (trim m s = trim m' s' ∧ m' < big128 ∧ g = s') ∧ (s' : Int) ≤ 100 ∧ Sl6 wr w.heap.size x (whi m') (wlo m') 0 1 s' ∧ Sl6 wr (w.heap.size + 1) false 0 0 0 0 0 ∧ Bel w wr)
  case atStart => exact ⟨m, s, ⟨rfl, Hm.out, rfl⟩, hs', hA, hB, hb⟩
  case round =>
    clear hA hB hb hs'
    obtain ⟨m', s', hh, hs', hA, hB, hb⟩ := hrel
    by_cases h0 : (0 : Int) < s'
    · obtain ⟨j, hj⟩ : ∃ j, s' = j + 1 := ⟨s' - 1, by omega⟩
      have hd := fun w => divided_any x m' 0 1 10 s' hh.out.2.1 (by omega) (by omega) w
      by_cases hz : m' % 10 = 0
      · rw [hz] at hd
        have HD := Lib.hid hd
        have hnext : Hid (trim m s = trim (m' / 10) j ∧ m' / 10 < big128) := ⟨by rw [hh.out.1, hj, trim_step _ _ hz], Nat.lt_of_le_of_lt (Nat.div_le_self _ _) hh.out.2.1⟩
        have hz1 : (((0 : Nat) : Int) != 0) = false := rfl
        have HJ := Lib.hid hj
        clear hd hz hj
        go_wp2_with (go_at_call 155; refine (HD.out _).mono ?_; rintro e W1 ⟨rfl, hb1⟩
                     replace hA := hA.keep hb1; replace hB := hB.keep hb1; replace hb := hb.trans hb1; clear hb1)
        go_roundg j
        case measure => have := hh.out.2.2; have := HJ.out; omega
        case rel => 
          refine ⟨m' / 10, j, ⟨hnext.out.1, hnext.out.2, rfl⟩, by have := HJ.out; omega, ?_, by simp (maxDischargeDepth := 20) [Sl6, Ar6, Fr6, go_sem, hA, hB], by (repeat (first | with_reducible exact Bel.refl _ | with_reducible refine Bel.setCell ?_ (by first | exact Nat.le_refl _ | (dsimp only; omega)) _ | with_reducible refine Bel.alloc ?_ _ | with_reducible refine Bel.drew ?_ | with_reducible assumption | with_reducible refine Bel.trans ?_ (by assumption)))⟩
          have hj2 : (s' : Int) - 1 = j := by have := HJ.out; omega
          simp (maxDischargeDepth := 20) [Sl6, Ar6, Fr6, go_sem, hA, hj2]
      · have HD := Lib.hid hd
        have hfin : Hid (trim m s = (m', s')) := by rw [Hid, hh.out.1, trim_stop _ _ hz]
        have hz1 : (((m' % 10 : Nat) : Int) != 0) = true := by simp; omega
        have hz2 : decide (m' % 10 = 0) = false := by simpa using hz
        clear hd hz hj
        go_wp2_with (go_at_call 155; refine (HD.out _).mono ?_; rintro e W1 ⟨rfl, hb1⟩
                     replace hA := hA.keep hb1; replace hB := hB.keep hb1; replace hb := hb.trans hb1; clear hb1)
        refine bodyPost_ret (by simp [results, Tryz.results131, go_sem, hA, hB]; try rfl) rfl ⟨by (rw [hfin.out]) <;> rfl, ?_⟩
        (repeat (first | with_reducible exact Bel.refl _ | with_reducible refine Bel.setCell ?_ (by first | exact Nat.le_refl _ | (dsimp only; omega)) _ | with_reducible refine Bel.alloc ?_ _ | with_reducible refine Bel.drew ?_ | with_reducible assumption | with_reducible refine Bel.trans ?_ (by assumption)))
    · have hfin : Hid (trim m s = (m', s')) := by
        obtain rfl : s' = 0 := by omega
        rw [Hid, hh.out.1]; rfl
      go_wp2
      refine bodyPost_ret (by simp [results, Tryz.results131, go_sem, hA, hB]; try rfl) rfl ⟨by (rw [hfin.out]) <;> rfl, ?_⟩
      (repeat (first | with_reducible exact Bel.refl _ | with_reducible refine Bel.setCell ?_ (by first | exact Nat.le_refl _ | (dsimp only; omega)) _ | with_reducible refine Bel.alloc ?_ _ | with_reducible refine Bel.drew ?_ | with_reducible assumption | with_reducible refine Bel.trans ?_ (by assumption)))
/-- The number that a wide one is, or none. -/
def decV (x : Bool) (m s : Nat) : Value :=
  if 999999999999 < (trim m s).1 then .tuple #[.agg #[.int .i64 0, .int .i64 0], .int .i64 3]
  else .tuple #[.agg #[.int .i64 (if x = true then -((trim m s).1 : Int) else (trim m s).1), .int .i64 ((trim m s).2 : Nat)], .int .i64 0]
set_option maxHeartbeats 2000000 in
theorem dec_raw (x : Bool) (m s m' s' : Nat) (ht : trim m s = (m', s')) (hm : m < big128) (hs : s ≤ 100) (w : World) :
    Calls Tryz.prog 106 #[wideM x m 0 1 s] w fun e w' => e = .returned (decV x m s) ∧ Bel w w' := by
  have hl : Hid (decV x m s = if 999999999999 < m' then .tuple #[.agg #[.int .i64 0, .int .i64 0], .int .i64 3]
      else .tuple #[.agg #[.int .i64 (if x = true then -(m' : Int) else m'), .int .i64 (s' : Nat)], .int .i64 0]) := by rw [Hid, decV, ht]
  have hc := fun w => trimmed_any x m s hm hs w
  rw [ht] at hc
  have HC := Lib.hid hc
  clear hc
  have ha : ∀ W : World, Bel w W → Sl6 W w.heap.size x (whi m) (wlo m) 0 1 s → True := fun _ _ _ => trivial
  clear ha
  by_cases hbig : 999999999999 < m'
  · rw [hl.out, if_pos hbig]
    have hm' : m' < big128 := by have := (trim_le s m).1; rw [ht] at this; simp only at this; omega
    by_cases hh : 18446744073709551616 ≤ m'
    · have k1 : ((whi m' : Int) != 0) = true := by
        have : 0 < whi m' := Nat.div_pos hh (by omega)
        simp; omega
      have k2 : decide (whi m' = 0) = false := by
        have : 0 < whi m' := Nat.div_pos hh (by omega)
        simp; omega
      clear ht hm hs hbig hh hm'
      go_enter Tryz.func106, Tryz.ntmps106
      go_wp2_with fail
      refine under_call (((Bel.refl w).alloc _).alloc _) fun W hc hf hz hb => ?_
      have hA : Sl6 W w.heap.size x (whi m) (wlo m) 0 1 s := by simp [Sl6, Ar6, Fr6, hz, hc, hf, go_sem]
      have hB : Sl2 W (w.heap.size + 1) 0 0 := by simp [Sl2, Arr2, Fr2, hz, hc, hf, go_sem]
      clear hc hf hz
      go_wp2_with (go_at_call 131; refine (HC.out _).mono ?_; rintro e W1 ⟨rfl, hb1⟩
                   replace hA := hA.keep hb1; replace hB := hB.keep hb1; replace hb := hb.trans hb1; clear hb1)
      refine bodyPost_ret (by simp [results, Tryz.results106, go_sem, hA, hB]; try rfl) rfl ⟨rfl, ?_⟩
      (repeat (first | with_reducible exact Bel.refl _ | with_reducible refine Bel.setCell ?_ (by first | exact Nat.le_refl _ | (dsimp only; omega)) _ | with_reducible refine Bel.alloc ?_ _ | with_reducible refine Bel.drew ?_ | with_reducible assumption | with_reducible refine Bel.trans ?_ (by assumption)))
    · have k0 := whi_small (show m' < 18446744073709551616 by omega)
      have k1 := wlo_small (show m' < 18446744073709551616 by omega)
      have hbig' : (999999999999 : Int) < m' := by omega
      clear ht hm hs hbig hh hm'
      go_enter Tryz.func106, Tryz.ntmps106
      go_wp2_with fail
      refine under_call (((Bel.refl w).alloc _).alloc _) fun W hc hf hz hb => ?_
      have hA : Sl6 W w.heap.size x (whi m) (wlo m) 0 1 s := by simp [Sl6, Ar6, Fr6, hz, hc, hf, go_sem]
      have hB : Sl2 W (w.heap.size + 1) 0 0 := by simp [Sl2, Arr2, Fr2, hz, hc, hf, go_sem]
      clear hc hf hz
      go_wp2_with (go_at_call 131; refine (HC.out _).mono ?_; rintro e W1 ⟨rfl, hb1⟩
                   replace hA := hA.keep hb1; replace hB := hB.keep hb1; replace hb := hb.trans hb1; clear hb1)
      refine bodyPost_ret (by simp [results, Tryz.results106, go_sem, hA, hB]; try rfl) rfl ⟨rfl, ?_⟩
      (repeat (first | with_reducible exact Bel.refl _ | with_reducible refine Bel.setCell ?_ (by first | exact Nat.le_refl _ | (dsimp only; omega)) _ | with_reducible refine Bel.alloc ?_ _ | with_reducible refine Bel.drew ?_ | with_reducible assumption | with_reducible refine Bel.trans ?_ (by assumption)))
  · rw [hl.out, if_neg hbig]
    have k0 := whi_small (show m' < 18446744073709551616 by omega)
    have k1 := wlo_small (show m' < 18446744073709551616 by omega)
    have hbig' : (m' : Int) ≤ 999999999999 := by omega
    clear ht hm hs hbig
    cases x with
    | true =>
      go_enter Tryz.func106, Tryz.ntmps106
      go_wp2_with fail
      refine under_call (((Bel.refl w).alloc _).alloc _) fun W hc hf hz hb => ?_
      have hA : Sl6 W w.heap.size true (whi m) (wlo m) 0 1 s := by simp [Sl6, Ar6, Fr6, hz, hc, hf, go_sem]
      have hB : Sl2 W (w.heap.size + 1) 0 0 := by simp [Sl2, Arr2, Fr2, hz, hc, hf, go_sem]
      clear hc hf hz
      go_wp2_with (go_at_call 131; refine (HC.out _).mono ?_; rintro e W1 ⟨rfl, hb1⟩
                   replace hA := hA.keep hb1; replace hB := hB.keep hb1; replace hb := hb.trans hb1; clear hb1)
      refine bodyPost_ret (by simp [results, Tryz.results106, go_sem, hA, hB]; try rfl) rfl ⟨rfl, ?_⟩
      (repeat (first | with_reducible exact Bel.refl _ | with_reducible refine Bel.setCell ?_ (by first | exact Nat.le_refl _ | (dsimp only; omega)) _ | with_reducible refine Bel.alloc ?_ _ | with_reducible refine Bel.drew ?_ | with_reducible assumption | with_reducible refine Bel.trans ?_ (by assumption)))
    | false =>
      go_enter Tryz.func106, Tryz.ntmps106
      go_wp2_with fail
      refine under_call (((Bel.refl w).alloc _).alloc _) fun W hc hf hz hb => ?_
      have hA : Sl6 W w.heap.size false (whi m) (wlo m) 0 1 s := by simp [Sl6, Ar6, Fr6, hz, hc, hf, go_sem]
      have hB : Sl2 W (w.heap.size + 1) 0 0 := by simp [Sl2, Arr2, Fr2, hz, hc, hf, go_sem]
      clear hc hf hz
      go_wp2_with (go_at_call 131; refine (HC.out _).mono ?_; rintro e W1 ⟨rfl, hb1⟩
                   replace hA := hA.keep hb1; replace hB := hB.keep hb1; replace hb := hb.trans hb1; clear hb1)
      refine bodyPost_ret (by simp [results, Tryz.results106, go_sem, hA, hB]; try rfl) rfl ⟨rfl, ?_⟩
      (repeat (first | with_reducible exact Bel.refl _ | with_reducible refine Bel.setCell ?_ (by first | exact Nat.le_refl _ | (dsimp only; omega)) _ | with_reducible refine Bel.alloc ?_ _ | with_reducible refine Bel.drew ?_ | with_reducible assumption | with_reducible refine Bel.trans ?_ (by assumption)))
theorem dec_any (x : Bool) (m s : Nat) (hm : m < big128) (hs : s ≤ 100) (w : World) :
    Calls Tryz.prog 106 #[wideM x m 0 1 s] w fun e w' => e = .returned (decV x m s) ∧ Bel w w' :=
  dec_raw x m s _ _ rfl hm hs w
/-- A row of numbers. -/
def DecsAt (w : World) (b : Nat) (l : List (Int × Int)) : Prop :=
  b < w.heap.size ∧ ∀ (i : Nat) (h : i < l.length), w.cell? ⟨b, i * 2, none⟩ = some (.int .i64 l[i].1) ∧ w.cell? ⟨b, i * 2 + 1, none⟩ = some (.int .i64 l[i].2)
theorem DecsAt.keep {w w' : World} {b : Nat} {l : List (Int × Int)} (h : DecsAt w b l) (hb : Bel w w') : DecsAt w' b l :=
  ⟨Nat.lt_of_lt_of_le h.1 hb.size, fun i hi => ⟨(hb.cells _ _ h.1).trans (h.2 i hi).1, (hb.cells _ _ h.1).trans (h.2 i hi).2⟩⟩
def allSnd (l : List (Int × Int)) : Bool := l.all fun p => sndB p.1 p.2
theorem all_take_succ {α : Type} (f : α → Bool) (l : List α) (k : Nat) (h : k < l.length) : (l.take (k + 1)).all f = ((l.take k).all f && f l[k]) := by
  rw [List.take_succ_eq_append_getElem h, List.all_append]; simp
theorem all_false {α : Type} (f : α → Bool) (l : List α) (k : Nat) (h : k < l.length) (hf : f l[k] = false) : l.all f = false := by
  rw [Bool.eq_false_iff]
  intro ha
  rw [List.all_eq_true] at ha
  have := ha l[k] (List.getElem_mem h)
  rw [hf] at this
  cases this
set_option maxHeartbeats 1000000 in
theorem allSound_any (b : Nat) (l : List (Int × Int)) (c : Nat) (hl : l.length ≤ 1000000) (w : World) (hd : DecsAt w b l) :
    Calls Tryz.prog 114 #[.slice (some ⟨b, 0, none⟩) l.length c] w fun e w' => e = .returned (.bool (allSnd l)) ∧ Bel w w' := by
  go_enter Tryz.func114, Tryz.ntmps114
  go_wp2
  go_loopg [7] l.length (fun g i wr => ∃ k : Nat, k ≤ l.length ∧ i = .int .i64 k ∧ Hid ((l.take k).all (fun p => sndB p.1 p.2) = true ∧ g = l.length - k) ∧ Bel w wr)
  case atStart => exact ⟨0, Nat.zero_le _, rfl, ⟨rfl, rfl⟩, Bel.refl _⟩
  case round =>
    obtain ⟨k, hk, rfl, hh, hb⟩ := hrel
    by_cases hlt : k < l.length
    · have hcell := (hd.keep hb).2 k hlt
      obtain ⟨c1, c2⟩ := hcell
      have hlt' := (hd.keep hb).1
      have hs := fun w => sound_any l[k].1 l[k].2 w
      obtain ⟨x, hx⟩ : ∃ x, x = l[k].1 := ⟨_, rfl⟩
      obtain ⟨y, hy⟩ : ∃ y, y = l[k].2 := ⟨_, rfl⟩
      rw [← hx, ← hy] at hs
      rw [← hx] at c1
      rw [← hy] at c2
      cases hv : sndB x y with
      | true =>
        rw [hv] at hs
        have HS := Lib.hid hs
        have hn : Hid ((l.take (k + 1)).all (fun p => sndB p.1 p.2) = true) := by
          rw [Hid, all_take_succ _ _ _ hlt, hh.out.1, ← hx, ← hy, hv]; rfl
        clear hs hx hy hv
        go_wp2_with (go_at_call 57; refine (HS.out _).mono ?_; rintro e W1 ⟨rfl, hb1⟩; replace hb := (hb.alloc _).trans hb1; clear hb1)
        go_roundg (gk - 1)
        case measure => have := hh.out.2; omega
        case rel => exact ⟨k + 1, by omega, by go_num, ⟨hn.out, by have := hh.out.2; omega⟩, hb⟩
      | false =>
        rw [hv] at hs
        have HS := Lib.hid hs
        have hn : Hid (allSnd l = false) := all_false _ _ _ hlt (by rw [← hx, ← hy, hv])
        clear hs hx hy hv
        go_wp2_with (go_at_call 57; refine (HS.out _).mono ?_; rintro e W1 ⟨rfl, hb1⟩; replace hb := (hb.alloc _).trans hb1; clear hb1)
        go_ret
        exact ⟨by (rw [hn.out]) <;> rfl, hb⟩
    · have hn : Hid (allSnd l = true) := by
        have h := hh.out.1
        rw [List.take_of_length_le (by omega)] at h
        exact h
      go_wp2
      go_ret
      exact ⟨by (rw [hn.out]) <;> rfl, hb⟩
theorem decs1 {w : World} {b : Nat} {x y : Int} (hb : b < w.heap.size) (h0 : w.cell? ⟨b, 0, none⟩ = some (.int .i64 x)) (h1 : w.cell? ⟨b, 1, none⟩ = some (.int .i64 y)) : DecsAt w b [(x, y)] := by
  refine ⟨hb, fun i hi => ?_⟩
  obtain rfl : i = 0 := by simp at hi; omega
  exact ⟨h0, h1⟩
theorem decs2 {w : World} {b : Nat} {x y z u : Int} (hb : b < w.heap.size) (h0 : w.cell? ⟨b, 0, none⟩ = some (.int .i64 x)) (h1 : w.cell? ⟨b, 1, none⟩ = some (.int .i64 y))
    (h2 : w.cell? ⟨b, 2, none⟩ = some (.int .i64 z)) (h3 : w.cell? ⟨b, 3, none⟩ = some (.int .i64 u)) : DecsAt w b [(x, y), (z, u)] := by
  refine ⟨hb, fun i hi => ?_⟩
  have : i = 0 ∨ i = 1 := by simp at hi; omega
  rcases this with rfl | rfl
  · exact ⟨h0, h1⟩
  · exact ⟨h2, h3⟩
theorem allSound_1 (x y : Int) (b : Nat) (w : World) (hd : DecsAt w b [(x, y)]) :
    Calls Tryz.prog 114 #[.slice (some ⟨b, 0, none⟩) 1 1] w fun e w' => e = .returned (.bool (sndB x y)) ∧ Bel w w' :=
  (allSound_any b [(x, y)] 1 (by simp) w hd).mono fun e w' ⟨he, hb⟩ => ⟨by rw [he]; simp [allSnd], hb⟩
theorem allSound_2 (x y z u : Int) (b : Nat) (w : World) (hd : DecsAt w b [(x, y), (z, u)]) :
    Calls Tryz.prog 114 #[.slice (some ⟨b, 0, none⟩) 2 2] w fun e w' => e = .returned (.bool (sndB x y && sndB z u)) ∧ Bel w w' :=
  (allSound_any b [(x, y), (z, u)] 2 (by simp) w hd).mono fun e w' ⟨he, hb⟩ => ⟨by rw [he]; simp [allSnd], hb⟩
/-- A number in units of the smallest scale. -/
def unt (n s : Int) : Int := n * P10 (6 - s).toNat
theorem unt_bd (n s : Int) (h : SndD n s) : -1000000000000000000 ≤ unt n s ∧ unt n s ≤ 1000000000000000000 := by
  obtain ⟨h1, h2, ⟨h3, h4⟩, -⟩ := h
  have hp := P10_6 (show (6 - s).toNat ≤ 6 by omega)
  unfold unt
  generalize P10 (6 - s).toNat = p at *
  have hp' : (p : Int) ≤ 1000000 := by omega
  constructor
  · have := Int.mul_le_mul_of_nonneg_right h3 (show (0 : Int) ≤ p by omega)
    have : (-999999999999 : Int) * p ≥ -999999999999 * 1000000 := by omega
    omega
  · have := Int.mul_le_mul_of_nonneg_right h4 (show (0 : Int) ≤ p by omega)
    omega
set_option maxHeartbeats 1000000 in
theorem units_any (n s : Int) (h : SndD n s) (w : World) : Calls Tryz.prog 199 #[.agg #[.int .i64 n, .int .i64 s]] w fun e w' => e = .returned (.int .i64 (unt n s)) ∧ Bel w w' := by
  have hbd := unt_bd n s h
  obtain ⟨h1, h2, -, -⟩ := h
  have c1 := fun w => power_z (6 - s) (by omega) (by omega) w
  have hv : Hid (unt n s = n * P10 (6 - s).toNat) := rfl
  have w1 : IntKind.i64.wrap (6 - s) = 6 - s := by rw [IntKind.wrap_i64]; omega
  have w2 : IntKind.i64.wrap (n * (P10 (6 - s).toNat : Int)) = unt n s := by rw [IntKind.wrap_i64]; unfold unt at *; omega
  generalize P10 (6 - s).toNat = p at *
  have C1 := Lib.hid c1
  clear c1
  go_enter Tryz.func199, Tryz.ntmps199
  go_wp2_with fail
  refine under_name ((Bel.refl w).alloc _) fun W hc hf hz hb => ?_
  have hw : Arr2 W w.heap.size n s := by simp [Arr2, hz, hc, go_sem]
  clear hc hf hz
  refine wp_region_uni (S := (fun w' => Bel W w' ∧ (∀ b o, b < W.heap.size → w'.cell? ⟨b, o, none⟩ = W.cell? ⟨b, o, none⟩))) (by kernel_rfl) (by kernel_rfl) keep0 ?_
  repeat (first | (refine wpUni_skip (by rfl) ?_; (try simp only [Act.put, List.setIfInBounds_toArray, List.set_cons_zero, List.set_cons_succ]))
                                                            | (refine wpUni_value (by rfl) (fun w hS => by (try dsimp only at hS); go_simp; first | done | with_reducible rfl) ?_; (try simp only [Act.put, List.setIfInBounds_toArray, List.set_cons_zero, List.set_cons_succ]))
                                                            | (refine wpUni_call (f := 115) (by rfl) (fun w => by go_simp; first | done | with_reducible rfl) (fun w hS => (C1.out w).mono fun e w' ⟨he, hb⟩ => ⟨he, keep1 hS hb⟩) ?_; (try simp only [Act.put, List.setIfInBounds_toArray, List.set_cons_zero, List.set_cons_succ])))
  refine wpUni_nil fun W1 hS => ?_
  have hb1 := hb.trans hS.1
  clear hS
  go_wp2
  go_ret
  exact ⟨rfl, hb1⟩
abbrev errV (k : Int) : Value := .tuple #[.agg #[.int .i64 0, .int .i64 0], .int .i64 k]
abbrev decA (n s : Int) : Value := .agg #[.int .i64 n, .int .i64 s]
theorem sndB_t {n s : Int} (h : SndD n s) : sndB n s = true := decide_eq_true h
theorem sndB_f {n s : Int} (h : ¬ SndD n s) : sndB n s = false := decide_eq_false h
theorem in64_small {n : Int} (h : small n) : In64 n := ⟨by have := h.1; omega, by have := h.2; omega⟩
theorem decV_sh (x : Bool) (m s : Nat) : ∃ a b e, decV x m s = .tuple #[decA a b, .int .i64 e] := by
  unfold decV
  split
  · exact ⟨_, _, _, rfl⟩
  · exact ⟨_, _, _, rfl⟩
/-- A number in its shortest form. -/
def makeV (n s : Int) : Value := if 0 ≤ s ∧ s ≤ 6 ∧ small n then decV (decide (n < 0)) n.natAbs s.toNat else errV 3
theorem snd_and {n s m t : Int} (h : ¬ (SndD n s ∧ SndD m t)) : (sndB n s && sndB m t) = false := by
  by_cases h1 : SndD n s
  · rw [sndB_t h1, sndB_f fun h2 => h ⟨h1, h2⟩]; rfl
  · rw [sndB_f h1]; rfl
def sgn (x y : Int) : Int := if x < y then -1 else if y < x then 1 else 0
def cmpV (n s m t : Int) : Value := if SndD n s ∧ SndD m t then .tuple #[.int .i64 (sgn (unt n s) (unt m t)), .int .i64 0] else .tuple #[.int .i64 0, .int .i64 2]
set_option maxHeartbeats 2000000 in
theorem cmp_any (n s m t : Int) (w : World) : Calls Tryz.prog 188 #[decA n s, decA m t] w fun e w' => e = .returned (cmpV n s m t) ∧ Bel w w' := by
  by_cases h : SndD n s ∧ SndD m t
  · have hs := Lib.hid (show (sndB n s && sndB m t) = true by rw [sndB_t h.1, sndB_t h.2]; rfl)
    have c1 := Lib.hid fun w => units_any n s h.1 w
    have c2 := Lib.hid fun w => units_any m t h.2 w
    have hv : Hid (cmpV n s m t = .tuple #[.int .i64 (sgn (unt n s) (unt m t)), .int .i64 0]) := if_pos h
    clear h
    obtain ⟨x, hx⟩ : ∃ x, x = unt n s := ⟨_, rfl⟩
    obtain ⟨y, hy⟩ : ∃ y, y = unt m t := ⟨_, rfl⟩
    rw [← hx] at c1 hv
    rw [← hy] at c2 hv
    clear hx hy
    have tri : (x < y ∧ sgn x y = -1) ∨ (sgn x y = 0 ∧ x = y) ∨ (y < x ∧ sgn x y = 1) := by
      rcases Int.lt_trichotomy x y with h | h | h
      · exact .inl ⟨h, by simp [sgn, h]⟩
      · exact .inr (.inl ⟨by subst h; simp [sgn], h⟩)
      · exact .inr (.inr ⟨h, by simp [sgn, h, show ¬ x < y by omega]⟩)
    rcases tri with ⟨h, hg⟩ | ⟨hg, rfl⟩ | ⟨h, hg⟩
    all_goals
      rw [hg] at hv
      clear hg
      go_enter Tryz.func188, Tryz.ntmps188
      go_wp2_with fail
      refine under_call ((((Bel.refl w).alloc _).alloc _).alloc _) fun W hc hf hz hb => ?_
      have hA : Sl2 W w.heap.size n s := by simp [Sl2, Arr2, Fr2, hz, hc, hf, go_sem]
      have hB : Sl2 W (w.heap.size + 1) m t := by simp [Sl2, Arr2, Fr2, hz, hc, hf, go_sem]
      have hD : DecsAt W (w.heap.size + 1 + 1) [(n, s), (m, t)] := decs2 (by simp [hz]) (by simp [hc, go_sem]) (by simp [hc, go_sem]) (by simp [hc, go_sem]) (by simp [hc, go_sem])
      clear hc hf hz
      go_wp2_with (go_at_call 114; refine (allSound_2 n s m t _ _ hD).mono ?_; rintro e W1 ⟨rfl, hb1⟩; rw [hs.out]
                   replace hA := hA.keep hb1; replace hB := hB.keep hb1; replace hb := hb.trans hb1; clear hb1 hD)
      refine wp_region_uni (S := (fun w' => Bel W1 w' ∧ (∀ b o, b < W1.heap.size → w'.cell? ⟨b, o, none⟩ = W1.cell? ⟨b, o, none⟩))) (by kernel_rfl) (by kernel_rfl) keep0 ?_
      repeat (first | (refine wpUni_skip (by rfl) ?_; (try simp only [Act.put, List.setIfInBounds_toArray, List.set_cons_zero, List.set_cons_succ]))
                                                            | (refine wpUni_value (by rfl) (fun w hS => by (try dsimp only at hS); go_simp; first | done | with_reducible rfl) ?_; (try simp only [Act.put, List.setIfInBounds_toArray, List.set_cons_zero, List.set_cons_succ]))
                                                            | (refine wpUni_call (f := 199) (by rfl) (fun w => by go_simp; first | done | with_reducible rfl) (fun w hS => (c1.out w).mono fun e w' ⟨he, hb⟩ => ⟨he, keep1 hS hb⟩) ?_; (try simp only [Act.put, List.setIfInBounds_toArray, List.set_cons_zero, List.set_cons_succ]))
                                                            | (refine wpUni_call (f := 199) (by rfl) (fun w => by go_simp; first | done | with_reducible rfl) (fun w hS => (c2.out w).mono fun e w' ⟨he, hb⟩ => ⟨he, keep1 hS hb⟩) ?_; (try simp only [Act.put, List.setIfInBounds_toArray, List.set_cons_zero, List.set_cons_succ])))
      refine wpUni_nil fun W2 hS => ?_
      have hb2 := hb.trans hS.1
      clear hS
      go_wp2
      go_ret2
      exact ⟨by (rw [hv.out]) <;> rfl, hb2⟩
  · have hv : Hid (cmpV n s m t = .tuple #[.int .i64 0, .int .i64 2]) := if_neg h
    have hs := Lib.hid (snd_and h)
    clear h
    go_enter Tryz.func188, Tryz.ntmps188
    go_wp2_with fail
    refine under_call ((((Bel.refl w).alloc _).alloc _).alloc _) fun W hc hf hz hb => ?_
    have hD : DecsAt W (w.heap.size + 1 + 1) [(n, s), (m, t)] := decs2 (by simp [hz]) (by simp [hc, go_sem]) (by simp [hc, go_sem]) (by simp [hc, go_sem]) (by simp [hc, go_sem])
    clear hc hf hz
    go_wp2_with (go_at_call 114; refine (allSound_2 n s m t _ _ hD).mono ?_; rintro e W1 ⟨rfl, hb1⟩; rw [hs.out]
                 replace hb := hb.trans hb1; clear hb1 hD)
    go_ret2
    exact ⟨by (rw [hv.out]) <;> rfl, hb⟩
theorem rmake_loop (x : Nat) (c : Int) (hc : c = 1 ∨ c = -1) (s : Nat) (hx : x ≤ 999999999999) (hs : s ≤ 6) (w : World) :
    Calls Tryz.prog 93 #[.int .i64 (c * x), .int .i64 s] w fun e w' => e = .returned (.tuple #[decA (c * (trim x s).1) ((trim x s).2 : Nat), .int .i64 0]) ∧ Bel w w' := by
  have k1 : -999999999999 ≤ c * (x : Int) ∧ c * (x : Int) ≤ 999999999999 := by rcases hc with rfl | rfl <;> omega
  obtain ⟨k1, k2⟩ := k1
  have k3 : (s : Int) ≤ 6 := by omega
  have Hx := Lib.hid hx
  clear hx hs
  go_enter Tryz.func93, Tryz.ntmps93
  go_wp2_with fail
  go_loopg [0, 1] s (fun g n t wr => ∃ m' s' : Nat, n = .int .i64 (c * m') ∧ t = .int .i64 s' ∧ Hid (trim x s = trim m' s' ∧ m' ≤ x ∧ g = s') ∧ (s' : Int) ≤ 6 ∧ Sl2 wr w.heap.size 0 0 ∧ Bel w wr)
  case atStart => exact ⟨x, s, rfl, rfl, ⟨rfl, Nat.le_refl _, rfl⟩, k3, by simp [Sl2, Arr2, Fr2, go_sem], (Bel.refl w).alloc _⟩
  case round =>
    clear k1 k2 k3
    obtain ⟨m', s', rfl, rfl, hh, hs', hR, hb⟩ := hrel
    have hm : m' ≤ 999999999999 := Nat.le_trans hh.out.2.1 Hx.out
    have b1 : -999999999999 ≤ c * (m' : Int) := by rcases hc with rfl | rfl <;> omega
    have b2 : c * (m' : Int) ≤ 999999999999 := by rcases hc with rfl | rfl <;> omega
    have e1 : (c * (m' : Int)).tmod 10 = c * ((m' % 10 : Nat) : Int) := by
      rcases hc with rfl | rfl
      · rw [Int.one_mul, Int.one_mul]; rfl
      · rw [Int.neg_one_mul, Int.neg_tmod, Int.neg_one_mul]; rfl
    have e2 : (c * (m' : Int)).tdiv 10 = c * ((m' / 10 : Nat) : Int) := by
      rcases hc with rfl | rfl
      · rw [Int.one_mul, Int.one_mul]; rfl
      · rw [Int.neg_one_mul, Int.neg_tdiv, Int.neg_one_mul]; rfl
    have hc0 : c ≠ 0 := by rcases hc with rfl | rfl <;> decide
    by_cases h0 : (0 : Int) < s'
    · obtain ⟨j, hj⟩ : ∃ j, s' = j + 1 := ⟨s' - 1, by omega⟩
      by_cases hz : m' % 10 = 0
      · have e3 : ((c * (m' : Int)).tmod 10 == 0) = true := by rw [e1, hz]; simp
        have e4 : (c * (m' : Int)).tmod 10 = 0 := by rw [e1, hz]; simp
        have hnext : Hid (trim x s = trim (m' / 10) j ∧ m' / 10 ≤ x) := ⟨by rw [hh.out.1, hj, trim_step _ _ hz], Nat.le_trans (Nat.div_le_self _ _) hh.out.2.1⟩
        have E2 := Lib.hid e2
        have HJ := Lib.hid hj
        generalize c * (m' : Int) = z at *
        clear e1 e2 hz hj hm hc0
        go_wp2
        go_roundg j
        case measure => have := hh.out.2.2; have := HJ.out; omega
        case rel => exact ⟨m' / 10, j, by rw [← E2.out], by have := HJ.out; go_num, ⟨hnext.out.1, hnext.out.2, rfl⟩, by have := HJ.out; omega, hR, hb⟩
      · have e3 : ((c * (m' : Int)).tmod 10 == 0) = false := by
          rw [e1, beq_eq_false_iff_ne]
          intro h
          rcases Int.mul_eq_zero.1 h with h | h
          · exact hc0 h
          · omega
        have e4 : ¬ (c * (m' : Int)).tmod 10 = 0 := by simpa using e3
        have hfin : Hid (trim x s = (m', s')) := by rw [Hid, hh.out.1, trim_stop _ _ hz]
        have HZ := Lib.hid (show c * (m' : Int) = c * m' from rfl)
        clear e1 e2 hz hj hm hc0
        go_wp2
        refine bodyPost_ret (by simp [results, Tryz.results93, go_sem, hR]; try rfl) rfl ⟨by (rw [hfin.out]) <;> rfl, ?_⟩
        (repeat (first | with_reducible exact Bel.refl _ | with_reducible refine Bel.setCell ?_ (by first | exact Nat.le_refl _ | (dsimp only; omega)) _ | with_reducible refine Bel.alloc ?_ _ | with_reducible refine Bel.drew ?_ | with_reducible assumption | with_reducible refine Bel.trans ?_ (by assumption)))
    · have hfin : Hid (trim x s = (m', s')) := by
        obtain rfl : s' = 0 := by omega
        rw [Hid, hh.out.1]; rfl
      clear e1 e2 hm hc0
      go_wp2
      refine bodyPost_ret (by simp [results, Tryz.results93, go_sem, hR]; try rfl) rfl ⟨by (rw [hfin.out]) <;> rfl, ?_⟩
      (repeat (first | with_reducible exact Bel.refl _ | with_reducible refine Bel.setCell ?_ (by first | exact Nat.le_refl _ | (dsimp only; omega)) _ | with_reducible refine Bel.alloc ?_ _ | with_reducible refine Bel.drew ?_ | with_reducible assumption | with_reducible refine Bel.trans ?_ (by assumption)))
theorem decV_ok (x : Bool) (m s : Nat) (h : m ≤ 999999999999) : decV x m s = .tuple #[decA (if x = true then -((trim m s).1 : Int) else (trim m s).1) ((trim m s).2 : Nat), .int .i64 0] := by
  have := (trim_le s m).1
  unfold decV
  rw [if_neg (by omega)]
theorem rmake_any (n s : Int) (w : World) : Calls Tryz.prog 93 #[.int .i64 n, .int .i64 s] w fun e w' => e = .returned (makeV n s) ∧ Bel w w' := by
  by_cases h : 0 ≤ s ∧ s ≤ 6 ∧ small n
  · rw [show makeV n s = _ from if_pos h]
    obtain ⟨h0, h6, h3, h4⟩ := h
    obtain ⟨k, rfl⟩ : ∃ k : Nat, s = k := ⟨s.toNat, by omega⟩
    rw [decV_ok _ _ _ (by omega), show ((k : Int)).toNat = k by omega]
    by_cases hn : n < 0
    · have := rmake_loop n.natAbs (-1) (.inr rfl) k (by omega) (by omega) w
      rw [show (-1 : Int) * (n.natAbs : Int) = n by omega] at this
      rw [show decide (n < 0) = true by simpa using hn, if_pos rfl]
      rw [Int.neg_one_mul] at this
      exact this
    · have := rmake_loop n.natAbs 1 (.inl rfl) k (by omega) (by omega) w
      rw [show (1 : Int) * (n.natAbs : Int) = n by omega] at this
      rw [show decide (n < 0) = false by simpa using hn, if_neg (by decide)]
      rw [Int.one_mul] at this
      exact this
  · rw [show makeV n s = _ from if_neg h]
    by_cases h0 : 0 ≤ s
    · by_cases h6 : s ≤ 6
      · by_cases h3 : n ≤ 999999999999
        · have h4 : n < -999999999999 := by
            rcases Int.lt_or_le n (-999999999999) with h4 | h4
            · exact h4
            · exact absurd ⟨h0, h6, h4, h3⟩ h
          have k1 : ¬ s < 0 := by omega
          have k2 : ¬ 6 < s := by omega
          have k3 : ¬ 999999999999 < n := by omega
          clear h h3 h0 h6
          go_enter Tryz.func93, Tryz.ntmps93
          go_wp2
          refine bodyPost_ret (by simp [results, Tryz.results93, go_sem]; try rfl) rfl ⟨rfl, ?_⟩
          (repeat (first | with_reducible exact Bel.refl _ | with_reducible refine Bel.setCell ?_ (by first | exact Nat.le_refl _ | (dsimp only; omega)) _ | with_reducible refine Bel.alloc ?_ _ | with_reducible refine Bel.drew ?_ | with_reducible assumption | with_reducible refine Bel.trans ?_ (by assumption)))
        · have k1 : ¬ s < 0 := by omega
          have k2 : ¬ 6 < s := by omega
          have k3 : 999999999999 < n := by omega
          clear h h3 h0 h6
          go_enter Tryz.func93, Tryz.ntmps93
          go_wp2
          refine bodyPost_ret (by simp [results, Tryz.results93, go_sem]; try rfl) rfl ⟨rfl, ?_⟩
          (repeat (first | with_reducible exact Bel.refl _ | with_reducible refine Bel.setCell ?_ (by first | exact Nat.le_refl _ | (dsimp only; omega)) _ | with_reducible refine Bel.alloc ?_ _ | with_reducible refine Bel.drew ?_ | with_reducible assumption | with_reducible refine Bel.trans ?_ (by assumption)))
      · have k1 : ¬ s < 0 := by omega
        have k2 : 6 < s := by omega
        clear h h0 h6
        go_enter Tryz.func93, Tryz.ntmps93
        go_wp2
        refine bodyPost_ret (by simp [results, Tryz.results93, go_sem]; try rfl) rfl ⟨rfl, ?_⟩
        (repeat (first | with_reducible exact Bel.refl _ | with_reducible refine Bel.setCell ?_ (by first | exact Nat.le_refl _ | (dsimp only; omega)) _ | with_reducible refine Bel.alloc ?_ _ | with_reducible refine Bel.drew ?_ | with_reducible assumption | with_reducible refine Bel.trans ?_ (by assumption)))
    · have k1 : s < 0 := by omega
      clear h h0
      go_enter Tryz.func93, Tryz.ntmps93
      go_wp2
      refine bodyPost_ret (by simp [results, Tryz.results93, go_sem]; try rfl) rfl ⟨rfl, ?_⟩
      (repeat (first | with_reducible exact Bel.refl _ | with_reducible refine Bel.setCell ?_ (by first | exact Nat.le_refl _ | (dsimp only; omega)) _ | with_reducible refine Bel.alloc ?_ _ | with_reducible refine Bel.drew ?_ | with_reducible assumption | with_reducible refine Bel.trans ?_ (by assumption)))
theorem trim_fix (m s : Nat) : (trim m s).1 = m ∧ (trim m s).2 = s ↔ (s = 0 ∨ m % 10 ≠ 0) := by
  cases s with
  | zero => simp [trim]
  | succ k =>
    by_cases h : m % 10 = 0
    · rw [trim_step _ _ h]
      have := (trim_le k (m / 10)).2
      constructor
      · intro hh; omega
      · rintro (hh | hh)
        · omega
        · exact absurd h hh
    · rw [trim_stop _ _ h]; simp [h]
theorem makeV_snd (n s : Int) : (∃ a b, makeV n s = .tuple #[decA a b, .int .i64 0] ∧ (((a == n) && (b == s)) = sndB n s)) ∨ (makeV n s = errV 3 ∧ sndB n s = false) := by
  by_cases h : 0 ≤ s ∧ s ≤ 6 ∧ small n
  · left
    obtain ⟨h0, h6, h3⟩ := h
    have h34 := h3
    obtain ⟨h3a, h4⟩ := h34
    rw [show makeV n s = _ from if_pos ⟨h0, h6, h3⟩, decV_ok _ _ _ (by omega)]
    refine ⟨_, _, rfl, ?_⟩
    have ht := trim_fix n.natAbs s.toNat
    have hle := trim_le s.toNat n.natAbs
    generalize trim n.natAbs s.toNat = p at *
    have e0 : sndB n s = true ↔ SndD n s := by simp [sndB]
    rw [Bool.eq_iff_iff, Bool.and_eq_true, beq_iff_eq, beq_iff_eq, e0]
    have e1 : n % 10 ≠ 0 ↔ n.natAbs % 10 ≠ 0 := by omega
    unfold SndD
    rw [e1]
    by_cases hn : n < 0
    · have hd : decide (n < 0) = true := by simpa using hn
      simp only [hd, if_true]
      constructor
      · rintro ⟨ha, hb⟩
        have := ht.1 ⟨by omega, by omega⟩
        refine ⟨h0, h6, h3, ?_⟩
        omega
      · rintro ⟨-, -, -, hh⟩
        have := ht.2 (by omega)
        omega
    · have hd : decide (n < 0) = false := by simpa using hn
      simp only [hd, Bool.false_eq_true, if_false]
      constructor
      · rintro ⟨ha, hb⟩
        have := ht.1 ⟨by omega, by omega⟩
        refine ⟨h0, h6, h3, ?_⟩
        omega
      · rintro ⟨-, -, -, hh⟩
        have := ht.2 (by omega)
        omega
  · exact .inr ⟨if_neg h, sndB_f fun hh => h ⟨hh.1, hh.2.1, hh.2.2.1⟩⟩
theorem rsound_any (n s : Int) (w : World) : Calls Tryz.prog 61 #[decA n s] w fun e w' => e = .returned (.bool (sndB n s)) ∧ Bel w w' := by
  have c1 := fun w => rmake_any n s w
  rcases makeV_snd n s with ⟨a, b, hm, hs⟩ | ⟨hm, hs⟩
  · rw [hm] at c1
    have C1 := Lib.hid c1
    have HS := Lib.hid hs
    clear c1 hm hs
    go_enter Tryz.func61, Tryz.ntmps61
    go_wp2_with fail
    refine under_call ((Bel.refl w).alloc _) fun W hc hf hz hb => ?_
    have hA : Sl2 W w.heap.size n s := by simp [Sl2, Arr2, Fr2, hz, hc, hf, go_sem]
    clear hc hf hz
    by_cases h1 : a = n
    · subst h1
      go_wp2_with (go_at_call 93; refine (C1.out _).mono ?_; rintro e W1 ⟨rfl, hb1⟩; replace hA := hA.keep hb1; replace hb := hb.trans hb1; have hlt := hA.1.1; clear hb1)
      go_ret
      exact ⟨by rw [← HS.out]; simp, hb.alloc _⟩
    · have k1 : (a == n) = false := by simpa using h1
      have hv : Hid (sndB n s = false) := by rw [Hid, ← HS.out, k1]; rfl
      clear h1
      go_wp2_with (go_at_call 93; refine (C1.out _).mono ?_; rintro e W1 ⟨rfl, hb1⟩; replace hA := hA.keep hb1; replace hb := hb.trans hb1; have hlt := hA.1.1; clear hb1)
      go_ret
      exact ⟨by rw [hv.out]; rfl, hb.alloc _⟩
  · rw [hm] at c1
    rw [hs]
    have C1 := Lib.hid c1
    clear c1 hm hs
    go_enter Tryz.func61, Tryz.ntmps61
    go_wp2_with fail
    refine under_call ((Bel.refl w).alloc _) fun W hc hf hz hb => ?_
    have hA : Sl2 W w.heap.size n s := by simp [Sl2, Arr2, Fr2, hz, hc, hf, go_sem]
    clear hc hf hz
    go_wp2_with (go_at_call 93; refine (C1.out _).mono ?_; rintro e W1 ⟨rfl, hb1⟩; replace hA := hA.keep hb1; replace hb := hb.trans hb1; have hlt := hA.1.1; clear hb1)
    go_ret
    exact ⟨rfl, hb.alloc _⟩
set_option maxHeartbeats 1000000 in
theorem make_any (n s : Int) (w : World) : Calls Tryz.prog 72 #[.int .i64 n, .int .i64 s] w fun e w' => e = .returned (makeV n s) ∧ Bel w w' := by
  by_cases h : 0 ≤ s ∧ s ≤ 6
  · obtain ⟨h0, h6⟩ := h
    have k1 : decide (s < 0) = false := by simp; omega
    have k2 : decide (6 < s) = false := by simp; omega
    cases hs : smallB n with
    | true =>
      have hs' : small n := by simpa [smallB] using hs
      have hv : Hid (makeV n s = decV (decide (n < 0)) n.natAbs s.toNat) := if_pos ⟨h0, h6, hs'⟩
      have c1 := fun w => wideOf_any n s (in64_small hs') w
      have c2 := fun w => dec_any (decide (n < 0)) n.natAbs s.toNat (by unfold big128; have := hs'.1; have := hs'.2; omega) (by omega) w
      rw [show ((s.toNat : Nat) : Int) = s by omega] at c2
      change ∀ w, Calls _ _ #[wideV _ (whi n.natAbs) (wlo n.natAbs) 0 1 s] w _ at c2
      rw [whi_small (by have := hs'.1; have := hs'.2; omega), wlo_small (by have := hs'.1; have := hs'.2; omega)] at c2
      obtain ⟨a, b, e, hsh⟩ := decV_sh (decide (n < 0)) n.natAbs s.toNat
      rw [hsh] at hv c2
      have C1 := Lib.hid c1
      have C2 := Lib.hid c2
      clear c1 c2 h0 h6 hs' hsh
      go_enter Tryz.func72, Tryz.ntmps72
      go_wp2_with fail
      refine under_call ((Bel.refl w).alloc _) fun W hc hf hz hb => ?_
      have hB : Sl2 W w.heap.size 0 0 := by simp [Sl2, Arr2, Fr2, hz, hc, hf, go_sem]
      clear hc hf hz
      go_wp2_with (first
        | (go_at_call 89; refine (small_any n _).mono ?_; rintro e W1 ⟨rfl, hb1⟩; rw [hs]; replace hB := hB.keep hb1; replace hb := hb.trans hb1; clear hb1)
        | (go_at_call 105; refine (C1.out _).mono ?_; rintro e W2 ⟨rfl, hb1⟩; replace hB := hB.keep hb1; replace hb := hb.trans hb1; clear hb1)
        | (go_at_call 106; refine (C2.out _).mono ?_; rintro e W3 ⟨rfl, hb1⟩; replace hB := hB.keep hb1; replace hb := hb.trans hb1; clear hb1))
      refine bodyPost_ret (by simp [results, Tryz.results72, go_sem, hB]; try rfl) rfl ⟨by (rw [hv.out]) <;> rfl, ?_⟩
      (repeat (first | with_reducible exact Bel.refl _ | with_reducible refine Bel.setCell ?_ (by first | exact Nat.le_refl _ | (dsimp only; omega)) _ | with_reducible refine Bel.alloc ?_ _ | with_reducible refine Bel.drew ?_ | with_reducible assumption | with_reducible refine Bel.trans ?_ (by assumption)))
    | false =>
      have hv : Hid (makeV n s = errV 3) := if_neg fun h => by simp [smallB, h.2.2] at hs
      clear h0 h6
      go_enter Tryz.func72, Tryz.ntmps72
      go_wp2_with fail
      refine under_call ((Bel.refl w).alloc _) fun W hc hf hz hb => ?_
      have hB : Sl2 W w.heap.size 0 0 := by simp [Sl2, Arr2, Fr2, hz, hc, hf, go_sem]
      clear hc hf hz
      go_wp2_with (go_at_call 89; refine (small_any n _).mono ?_; rintro e W1 ⟨rfl, hb1⟩; rw [hs]; replace hB := hB.keep hb1; replace hb := hb.trans hb1; clear hb1)
      refine bodyPost_ret (by simp [results, Tryz.results72, go_sem, hB]; try rfl) rfl ⟨by (rw [hv.out]) <;> rfl, ?_⟩
      (repeat (first | with_reducible exact Bel.refl _ | with_reducible refine Bel.setCell ?_ (by first | exact Nat.le_refl _ | (dsimp only; omega)) _ | with_reducible refine Bel.alloc ?_ _ | with_reducible refine Bel.drew ?_ | with_reducible assumption | with_reducible refine Bel.trans ?_ (by assumption)))
  · have hv : Hid (makeV n s = errV 3) := if_neg fun h' => h ⟨h'.1, h'.2.1⟩
    by_cases h0 : 0 ≤ s
    · have k1 : decide (s < 0) = false := by simp; omega
      have k2 : decide (6 < s) = true := by simp; omega
      clear h
      go_enter Tryz.func72, Tryz.ntmps72
      go_wp2
      refine bodyPost_ret (by simp [results, Tryz.results72, go_sem]; try rfl) rfl ⟨by (rw [hv.out]) <;> rfl, ?_⟩
      (repeat (first | with_reducible exact Bel.refl _ | with_reducible refine Bel.setCell ?_ (by first | exact Nat.le_refl _ | (dsimp only; omega)) _ | with_reducible refine Bel.alloc ?_ _ | with_reducible refine Bel.drew ?_ | with_reducible assumption | with_reducible refine Bel.trans ?_ (by assumption)))
    · have k1 : decide (s < 0) = true := by simp; omega
      clear h
      go_enter Tryz.func72, Tryz.ntmps72
      go_wp2
      refine bodyPost_ret (by simp [results, Tryz.results72, go_sem]; try rfl) rfl ⟨by (rw [hv.out]) <;> rfl, ?_⟩
      (repeat (first | with_reducible exact Bel.refl _ | with_reducible refine Bel.setCell ?_ (by first | exact Nat.le_refl _ | (dsimp only; omega)) _ | with_reducible refine Bel.alloc ?_ _ | with_reducible refine Bel.drew ?_ | with_reducible assumption | with_reducible refine Bel.trans ?_ (by assumption)))
theorem tdiv_floor (n p : Int) (hp : 0 < p) : (n.tmod p < 0 → n.tdiv p - 1 = n / p) ∧ (0 ≤ n.tmod p → n.tdiv p = n / p) ∧ ((n.tmod p = 0) ↔ (n % p = 0)) := by
  have h1 := Int.mul_tdiv_add_tmod n p
  have h5 : n.tmod p < p := Int.tmod_lt_of_pos n hp
  have h6 : -p < n.tmod p := by
    have := Int.tmod_lt_of_pos (-n) hp
    rw [Int.neg_tmod] at this
    omega
  have key : ∀ q r : Int, p * q + r = n → 0 ≤ r → r < p → q = n / p := by
    intro q r h h0 hl
    rw [← h, Int.mul_add_ediv_left _ _ (by omega), Int.ediv_eq_zero_of_lt h0 hl, Int.add_zero]
  refine ⟨fun h => ?_, fun h => key _ _ h1 h h5, ?_⟩
  · refine key _ (n.tmod p + p) ?_ (by omega) (by omega)
    rw [Int.mul_sub, Int.mul_one]; omega
  · rw [← Int.dvd_iff_tmod_eq_zero, ← Int.dvd_iff_emod_eq_zero]
theorem floor_floor (n : Int) (a b : Nat) : n / (a : Int) / (b : Int) = n / ((a * b : Nat) : Int) := by
  rw [Int.natCast_mul, Int.ediv_ediv, if_neg (by omega), Int.sub_zero]
theorem mod_step (n : Int) (a : Nat) (ha : 0 < a) : (n % ((a * 10 : Nat) : Int) = 0) ↔ (n % (a : Int) = 0 ∧ n / (a : Int) % 10 = 0) := by
  have h1 := Int.mul_ediv_add_emod n (a : Int)
  have h2 := Int.mul_ediv_add_emod (n / (a : Int)) 10
  have h3 := Int.emod_nonneg n (show (a : Int) ≠ 0 by omega)
  have h4 := Int.emod_lt_of_pos n (show (0 : Int) < a by omega)
  rw [← Int.dvd_iff_emod_eq_zero, ← Int.dvd_iff_emod_eq_zero, ← Int.dvd_iff_emod_eq_zero, Int.natCast_mul]
  constructor
  · rintro ⟨k, hk⟩
    refine ⟨⟨10 * k, by rw [hk, Int.mul_assoc]; rfl⟩, ⟨k, ?_⟩⟩
    rw [hk, Int.mul_assoc, Int.mul_ediv_cancel_left _ (by omega)]; rfl
  · rintro ⟨⟨k, hk⟩, ⟨m, hm⟩⟩
    rw [hk, Int.mul_ediv_cancel_left _ (by omega)] at hm
    exact ⟨m, by rw [hk, hm, Int.mul_assoc]; rfl⟩
def atV (n s t : Int) : Value :=
  if 0 ≤ t ∧ t ≤ 6 then
    (if SndD n s then
      (if s ≤ t then .tuple #[.int .i64 (n * P10 (t - s).toNat), .bool true, .int .i64 0]
       else .tuple #[.int .i64 (n / (P10 (s - t).toNat : Int)), .bool (n % (P10 (s - t).toNat : Int) == 0), .int .i64 0])
     else .tuple #[.int .i64 0, .bool false, .int .i64 2])
  else .tuple #[.int .i64 0, .bool false, .int .i64 1]
theorem mul_bd6 {n : Int} {p : Nat} (h : small n) (hp : p ≤ 1000000) : -1000000000000000000 ≤ n * (p : Int) ∧ n * (p : Int) ≤ 1000000000000000000 := by
  have a1 := Int.mul_le_mul_of_nonneg_right h.1 (show (0 : Int) ≤ p by omega)
  have a2 := Int.mul_le_mul_of_nonneg_right h.2 (show (0 : Int) ≤ p by omega)
  constructor <;> omega
set_option maxRecDepth 100000 in
set_option maxHeartbeats 4000000 in
theorem at_any (n s t : Int) (w : World) : Calls Tryz.prog 83 #[decA n s, .int .i64 t] w fun e w' => e = .returned (atV n s t) ∧ Bel w w' := by
  by_cases h : 0 ≤ t ∧ t ≤ 6
  · rw [show atV n s t = _ from if_pos h]
    obtain ⟨h0, h6⟩ := h
    have k1 : ¬ t < 0 := by omega
    have k2 : ¬ 6 < t := by omega
    by_cases hsn : SndD n s
    · rw [if_pos hsn]
      have hs := Lib.hid (sndB_t hsn)
      obtain ⟨s0, s6, hsm, -⟩ := hsn
      by_cases hle : s ≤ t
      · rw [if_pos hle]
        have hp := P10_6 (show (t - s).toNat ≤ 6 by omega)
        have cp := fun w => power_z (t - s) (by omega) (by omega) w
        have hbd := mul_bd6 hsm hp
        obtain ⟨p, hpp⟩ : ∃ p, p = P10 (t - s).toNat := ⟨_, rfl⟩
        rw [← hpp] at cp hp hbd ⊢
        have CP := Lib.hid cp
        have w1 : IntKind.i64.wrap (t - s) = t - s := by rw [IntKind.wrap_i64]; omega
        have w2 : IntKind.i64.wrap (n * (p : Int)) = n * (p : Int) := by rw [IntKind.wrap_i64]; omega
        clear cp hpp hsm hbd hp
        go_enter Tryz.func83, Tryz.ntmps83
        go_wp2_with fail
        refine under_call (((Bel.refl w).alloc _).alloc _) fun W hc hf hz hb => ?_
        have hA : Arr2 W w.heap.size n s := by simp [Arr2, hz, hc, hf, go_sem]
        have hD : DecsAt W (w.heap.size + 1) [(n, s)] := decs1 (by simp [hz]) (by simp [hc, go_sem]) (by simp [hc, go_sem])
        clear hc hf hz
        go_wp2_with (go_at_call 114; refine (allSound_1 _ _ _ _ hD).mono ?_; rintro e W1 ⟨rfl, hb1⟩; rw [hs.out]
                     replace hA := hA.keep hb1; replace hb := hb.trans hb1; clear hb1 hD)
        replace hA := hA.keep (Bel.refl W1).drew; replace hb := hb.drew
        go_region_held3 (fun w' => Arr2 w' w.heap.size n s) (first | with_reducible exact hA | (simp (maxDischargeDepth := 20) [Arr2, go_sem, hA]; first | done | omega))
          (first
            | (go_at_call 115; refine (CP.out _).mono ?_; rintro e W2 ⟨rfl, hb1⟩; replace hA := hA.keep hb1; replace hb := hb.trans hb1; clear hb1))
        all_goals
          go_wp2
          go_ret3
          exact ⟨rfl, hb⟩
      · rw [if_neg hle]
        have hp := P10_6 (show (s - t).toNat ≤ 6 by omega)
        have hp0 := P10_pos (s - t).toNat
        have cp := fun w => power_z (s - t) (by omega) (by omega) w
        obtain ⟨p, hpp⟩ : ∃ p, p = P10 (s - t).toNat := ⟨_, rfl⟩
        rw [← hpp] at cp hp hp0 ⊢
        have CP := Lib.hid cp
        obtain ⟨f1, f2, f3⟩ := tdiv_floor n p (by omega)
        have f4 : (n.tmod p == 0) = (n % (p : Int) == 0) := by rw [Bool.eq_iff_iff, beq_iff_eq, beq_iff_eq]; exact f3
        have b1 := hsm.1
        have b2 := hsm.2
        have i1 : (1 : Int) ≤ p := by omega
        have i2 : ¬ (p : Int) = 0 := by omega
        have k3 : ¬ s ≤ t := hle
        have qa := Int.natAbs_tdiv_le_natAbs n p
        have q1 : -999999999999 ≤ n.tdiv p := by omega
        have q2 : n.tdiv p ≤ 999999999999 := by omega
        clear qa
        have F1 := Lib.hid f1
        have F2 := Lib.hid f2
        have F4 := Lib.hid f4
        clear cp hpp hsm f1 f2 f3 f4 hp hp0 hle
        by_cases hr : n.tmod p < 0
        · have q0 := Lib.hid (F1.out hr)
          go_enter Tryz.func83, Tryz.ntmps83
          go_wp2_with fail
          refine under_call (((Bel.refl w).alloc _).alloc _) fun W hc hf hz hb => ?_
          have hA : Arr2 W w.heap.size n s := by simp [Arr2, hz, hc, hf, go_sem]
          have hD : DecsAt W (w.heap.size + 1) [(n, s)] := decs1 (by simp [hz]) (by simp [hc, go_sem]) (by simp [hc, go_sem])
          clear hc hf hz
          go_wp2_with (first
            | (go_at_call 114; refine (allSound_1 _ _ _ _ hD).mono ?_; rintro e W1 ⟨rfl, hb1⟩; rw [hs.out]; replace hA := hA.keep hb1; replace hb := hb.trans hb1; clear hb1 hD)
            | (go_at_call 115; refine (CP.out _).mono ?_; rintro e W2 ⟨rfl, hb1⟩; replace hA := hA.keep hb1; replace hb := hb.trans hb1; clear hb1))
          go_ret3
          exact ⟨by rw [← q0.out, ← F4.out]; rfl, hb⟩
        · have hr' : 0 ≤ n.tmod p := by omega
          have q0 := Lib.hid (F2.out hr')
          go_enter Tryz.func83, Tryz.ntmps83
          go_wp2_with fail
          refine under_call (((Bel.refl w).alloc _).alloc _) fun W hc hf hz hb => ?_
          have hA : Arr2 W w.heap.size n s := by simp [Arr2, hz, hc, hf, go_sem]
          have hD : DecsAt W (w.heap.size + 1) [(n, s)] := decs1 (by simp [hz]) (by simp [hc, go_sem]) (by simp [hc, go_sem])
          clear hc hf hz
          go_wp2_with (first
            | (go_at_call 114; refine (allSound_1 _ _ _ _ hD).mono ?_; rintro e W1 ⟨rfl, hb1⟩; rw [hs.out]; replace hA := hA.keep hb1; replace hb := hb.trans hb1; clear hb1 hD)
            | (go_at_call 115; refine (CP.out _).mono ?_; rintro e W2 ⟨rfl, hb1⟩; replace hA := hA.keep hb1; replace hb := hb.trans hb1; clear hb1))
          go_ret3
          exact ⟨by rw [← q0.out, ← F4.out]; rfl, hb⟩
    · rw [if_neg hsn]
      have hs := Lib.hid (sndB_f hsn)
      clear hsn
      go_enter Tryz.func83, Tryz.ntmps83
      go_wp2_with fail
      refine under_call (((Bel.refl w).alloc _).alloc _) fun W hc hf hz hb => ?_
      have hD : DecsAt W (w.heap.size + 1) [(n, s)] := decs1 (by simp [hz]) (by simp [hc, go_sem]) (by simp [hc, go_sem])
      clear hc hf hz
      go_wp2_with (go_at_call 114; refine (allSound_1 _ _ _ _ hD).mono ?_; rintro e W1 ⟨rfl, hb1⟩; rw [hs.out]
                   replace hb := hb.trans hb1; clear hb1 hD)
      go_ret3
      exact ⟨rfl, hb⟩
  · rw [show atV n s t = _ from if_neg h]
    by_cases h0 : 0 ≤ t
    · have k1 : ¬ t < 0 := by omega
      have k2 : 6 < t := by omega
      clear h h0
      go_enter Tryz.func83, Tryz.ntmps83
      go_wp2
      go_ret3
      exact ⟨rfl, (Bel.refl w).alloc _⟩
    · have k1 : t < 0 := by omega
      clear h h0
      go_enter Tryz.func83, Tryz.ntmps83
      go_wp2
      go_ret3
      exact ⟨rfl, (Bel.refl w).alloc _⟩
set_option maxRecDepth 100000 in
set_option maxHeartbeats 4000000 in
theorem rat_raw (n s t : Int) (h0 : 0 ≤ t) (h6 : t ≤ 6) (hsn : SndD n s) (w : World) : Calls Tryz.prog 34 #[decA n s, .int .i64 t] w fun e w' => e = .returned (atV n s t) ∧ Bel w w' := by
  have hv : Hid (atV n s t = (if s ≤ t then .tuple #[.int .i64 (n * P10 (t - s).toNat), .bool true, .int .i64 0]
       else .tuple #[.int .i64 (n / (P10 (s - t).toNat : Int)), .bool (n % (P10 (s - t).toNat : Int) == 0), .int .i64 0])) := by
    rw [Hid, show atV n s t = _ from if_pos ⟨h0, h6⟩, if_pos hsn]
  have hs := Lib.hid (sndB_t hsn)
  have HN := Lib.hid hsn.2.2.1
  obtain ⟨s0, s6, -, -⟩ := hsn
  have k1 : ¬ t < 0 := by omega
  have k2 : ¬ 6 < t := by omega
  have HB := Lib.hid (And.intro (And.intro h0 h6) (And.intro s0 s6))
  go_enter Tryz.func34, Tryz.ntmps34
  go_wp2_with fail
  refine under_call ((Bel.refl w).alloc _) fun W hc hf hz hb => ?_
  have hA : Arr2 W w.heap.size n s := by simp [Arr2, hz, hc, hf, go_sem]
  clear hc hf hz
  go_wp2_with (go_at_call 61; refine (rsound_any n s _).mono ?_; rintro e W1 ⟨rfl, hb1⟩; rw [hs.out]; replace hA := hA.keep hb1; replace hb := hb.trans hb1; clear hb1)
  obtain ⟨⟨t0, t6⟩, ⟨s00, s66⟩⟩ := HB.out
  clear t0 t6 s00 s66
  by_cases hle : s ≤ t
  · have hv2 : Hid (atV n s t = .tuple #[.int .i64 (n * P10 (t - s).toNat), .bool true, .int .i64 0]) := by rw [Hid, hv.out, if_pos hle]
    go_loopg [7, 8] (t - s).toNat (fun g v k wr => ∃ j : Nat, v = .int .i64 (n * P10 j) ∧ k = .int .i64 (s + j) ∧ Hid (g = (t - s).toNat - j ∧ j ≤ (t - s).toNat) ∧ Arr2 wr w.heap.size n s ∧ Bel w wr)
    case atStart => exact ⟨0, by rw [P10_0]; simp, by simp, ⟨rfl, Nat.zero_le _⟩, hA, hb⟩
    case round =>
      clear hA hb
      obtain ⟨j, rfl, rfl, hh, hA, hb⟩ := hrel
      have hj6 : j ≤ 6 := by have := hh.out.2; omega
      have bd := mul_bd6 HN.out (P10_6 hj6)
      obtain ⟨bd1, bd2⟩ := bd
      have jb : (j : Int) ≤ 6 := by omega
      by_cases hlt : s + (j : Int) < t
      · have hj7 : j + 1 ≤ 6 := by omega
        have bd' := mul_bd6 HN.out (P10_6 hj7)
        have hs' : n * (P10 (j + 1) : Int) = n * (P10 j : Int) * 10 := by rw [P10_s, Int.natCast_mul, ← Int.mul_assoc]; rfl
        have HS := Lib.hid hs'
        rw [hs'] at bd'
        obtain ⟨z, hz⟩ : ∃ z, z = n * (P10 j : Int) := ⟨_, rfl⟩
        have HZ := Lib.hid hz
        rw [← hz] at bd' bd1 bd2 ⊢
        obtain ⟨e1, e2⟩ := bd'
        clear hs' hz
        go_wp2
        go_roundg (gk - 1)
        case measure => have := hh.out; omega
        case rel => exact ⟨j + 1, by rw [HS.out, ← HZ.out], by go_num, ⟨by have := hh.out; omega, by omega⟩, hA, hb⟩
      · have hj : j = (t - s).toNat := by have := hh.out.2; omega
        have HJ := Lib.hid hj
        obtain ⟨z, hz⟩ : ∃ z, z = n * (P10 j : Int) := ⟨_, rfl⟩
        have HZ := Lib.hid hz
        rw [← hz] at bd1 bd2 ⊢
        clear hj hz
        go_wp2_with fail
        refine wp_loop_rounds 1 ?_
        rw [rounds_succ]
        go_wp2
        go_ret3
        exact ⟨by rw [hv2.out, ← HJ.out, ← HZ.out]; rfl, hb⟩
  · have hv2 : Hid (atV n s t = .tuple #[.int .i64 (n / (P10 (s - t).toNat : Int)), .bool (n % (P10 (s - t).toNat : Int) == 0), .int .i64 0]) := by rw [Hid, hv.out, if_neg hle]
    have hlt0 : ¬ s < t := by omega
    refine wp_loop_rounds 1 ?_
    rw [rounds_succ]
    go_wp2_with fail
    go_loopg [7, 9, 10] (s - t).toNat (fun g v x k wr => ∃ (j : Nat) (z : Int) (b : Bool), v = .int .i64 z ∧ x = .bool b ∧ k = .int .i64 (t + j) ∧ Hid (z = n / (P10 j : Int) ∧ b = (n % (P10 j : Int) == 0) ∧ g = (s - t).toNat - j ∧ j ≤ (s - t).toNat) ∧ Arr2 wr w.heap.size n s ∧ Bel w wr)
    case atStart => exact ⟨0, n, true, rfl, rfl, by simp, ⟨by rw [P10_0]; simp, by rw [P10_0]; simp [Int.emod_one], rfl, Nat.zero_le _⟩, hA, hb⟩
    case round =>
      clear hA hb
      obtain ⟨j, z, b, rfl, rfl, rfl, hh, hA, hb⟩ := hrel
      have hj6 : j ≤ 6 := by have := hh.out.2.2.2; omega
      have jb : (j : Int) ≤ 6 := by omega
      have hzb : -999999999999 ≤ z ∧ z ≤ 999999999999 := by
        rw [hh.out.1]
        have h1 := HN.out.1
        have h2 := HN.out.2
        have hp := P10_pos j
        constructor
        · rw [Int.le_ediv_iff_mul_le (by omega)]
          have := Int.mul_le_mul_of_nonneg_left (show (1 : Int) ≤ P10 j by omega) (show (0 : Int) ≤ 999999999999 by omega)
          omega
        · exact Int.le_trans (Int.ediv_le_ediv (by omega) h2) (Int.ediv_le_self _ (by omega))
      obtain ⟨z1, z2⟩ := hzb
      by_cases hlt : t + (j : Int) < s
      · obtain ⟨f1, f2, f3⟩ := tdiv_floor z 10 (by omega)
        have hnext : z / 10 = n / (P10 (j + 1) : Int) := by
          rw [hh.out.1, P10_s]; exact floor_floor n (P10 j) 10
        have hmod := mod_step n (P10 j) (P10_pos j)
        rw [← hh.out.1, ← P10_s] at hmod
        have qa := Int.natAbs_tdiv_le_natAbs z 10
        have q1 : -999999999999 ≤ z.tdiv 10 := by omega
        have q2 : z.tdiv 10 ≤ 999999999999 := by omega
        clear qa
        rcases Int.lt_trichotomy (z.tmod 10) 0 with hr | hr | hr
        · have r1 : (z.tmod 10 != 0) = true := by simp; omega
          have G := Lib.hid (show z.tdiv 10 - 1 = n / (P10 (j + 1) : Int) ∧ false = (n % (P10 (j + 1) : Int) == 0) from ⟨(f1 hr).trans hnext, by
            symm; rw [beq_eq_false_iff_ne]; intro h; have := (hmod.1 h).2; have := f3.2 this; omega⟩)
          clear f1 f2 f3 hnext hmod
          go_wp2
          go_roundg (gk - 1)
          case measure => have := hh.out.2.2; omega
          case rel => exact ⟨j + 1, z.tdiv 10 - 1, false, rfl, rfl, by go_num, ⟨G.out.1, G.out.2, by have := hh.out.2.2; omega, by omega⟩, hA, hb⟩
        · have r1 : (z.tmod 10 != 0) = false := by simp [hr]
          have G := Lib.hid (show z.tdiv 10 = n / (P10 (j + 1) : Int) ∧ b = (n % (P10 (j + 1) : Int) == 0) from ⟨(f2 (by omega)).trans hnext, by
            rw [hh.out.2.1, Bool.eq_iff_iff, beq_iff_eq, beq_iff_eq, hmod]
            exact ⟨fun h => ⟨h, f3.1 hr⟩, fun h => h.1⟩⟩)
          clear f1 f2 f3 hnext hmod hr
          go_wp2
          go_roundg (gk - 1)
          case measure => have := hh.out.2.2; omega
          case rel => exact ⟨j + 1, z.tdiv 10, b, rfl, rfl, by go_num, ⟨G.out.1, G.out.2, by have := hh.out.2.2; omega, by omega⟩, hA, hb⟩
        · have r1 : (z.tmod 10 != 0) = true := by simp; omega
          have G := Lib.hid (show z.tdiv 10 = n / (P10 (j + 1) : Int) ∧ false = (n % (P10 (j + 1) : Int) == 0) from ⟨(f2 (by omega)).trans hnext, by
            symm; rw [beq_eq_false_iff_ne]; intro h; have := (hmod.1 h).2; have := f3.2 this; omega⟩)
          clear f1 f2 f3 hnext hmod
          go_wp2
          go_roundg (gk - 1)
          case measure => have := hh.out.2.2; omega
          case rel => exact ⟨j + 1, z.tdiv 10, false, rfl, rfl, by go_num, ⟨G.out.1, G.out.2, by have := hh.out.2.2; omega, by omega⟩, hA, hb⟩
      · have hj : j = (s - t).toNat := by have := hh.out.2.2.2; omega
        have HF := Lib.hid (show z = n / (P10 (s - t).toNat : Int) ∧ b = (n % (P10 (s - t).toNat : Int) == 0) by rw [← hj]; exact ⟨hh.out.1, hh.out.2.1⟩)
        clear hj
        go_wp2
        go_ret3
        exact ⟨by rw [hv2.out, ← HF.out.1, ← HF.out.2]; rfl, hb⟩
theorem rat_any (n s t : Int) (w : World) : Calls Tryz.prog 34 #[decA n s, .int .i64 t] w fun e w' => e = .returned (atV n s t) ∧ Bel w w' := by
  by_cases h : 0 ≤ t ∧ t ≤ 6
  · by_cases hsn : SndD n s
    · exact rat_raw n s t h.1 h.2 hsn w
    · rw [show atV n s t = _ from if_pos h, if_neg hsn]
      have hs := Lib.hid (sndB_f hsn)
      have k1 : ¬ t < 0 := by omega
      have k2 : ¬ 6 < t := by omega
      clear hsn h
      go_enter Tryz.func34, Tryz.ntmps34
      go_wp2_with (go_at_call 61; refine (rsound_any n s _).mono ?_; rintro e W1 ⟨rfl, hb1⟩; rw [hs.out]; replace hb1 := ((Bel.refl w).alloc _).trans hb1)
      go_ret3
      exact ⟨rfl, hb1⟩
  · rw [show atV n s t = _ from if_neg h]
    by_cases h0 : 0 ≤ t
    · have k1 : ¬ t < 0 := by omega
      have k2 : 6 < t := by omega
      clear h h0
      go_enter Tryz.func34, Tryz.ntmps34
      go_wp2
      go_ret3
      exact ⟨rfl, (Bel.refl w).alloc _⟩
    · have k1 : t < 0 := by omega
      clear h h0
      go_enter Tryz.func34, Tryz.ntmps34
      go_wp2
      go_ret3
      exact ⟨rfl, (Bel.refl w).alloc _⟩
/-- A block in which n numbers stand from o on, free for a store. -/
def DRow (w : World) (b o n : Nat) (f : Nat → Nat) : Prop :=
  b < w.heap.size ∧ ∀ i, i < n → w.cell? ⟨b, o + i, none⟩ = some (.int .i64 (f i : Nat)) ∧ w.frozen? ⟨b, o + i, none⟩ = false
theorem DRow.keep {w w' : World} {b o n : Nat} {f : Nat → Nat} (h : DRow w b o n f) (hb : Bel w w') : DRow w' b o n f :=
  ⟨Nat.lt_of_lt_of_le h.1 hb.size, fun i hi => ⟨(hb.cells _ _ h.1).trans (h.2 i hi).1, (hb.frozens _ _ h.1).trans (h.2 i hi).2⟩⟩
theorem DRow.ext {w : World} {b o n : Nat} {f g : Nat → Nat} (h : DRow w b o n f) (hfg : ∀ i, i < n → f i = g i) : DRow w b o n g :=
  ⟨h.1, fun i hi => ⟨by rw [← hfg i hi]; exact (h.2 i hi).1, (h.2 i hi).2⟩⟩
theorem DRow.at0 {w : World} {b n : Nat} {f : Nat → Nat} (h : DRow w b 0 n f) {i : Nat} (hi : i < n) : w.cell? ⟨b, i, none⟩ = some (.int .i64 (f i : Nat)) ∧ w.frozen? ⟨b, i, none⟩ = false := by
  have := h.2 i hi
  rwa [Nat.zero_add] at this
theorem DRow.put {w : World} {b n : Nat} {f : Nat → Nat} (h : DRow w b 0 n f) (k v : Nat) (hk : k < n) : DRow (w.setCell ⟨b, k, none⟩ (.int .i64 (v : Nat))) b 0 n (upd f k v) := by
  refine ⟨by have := h.1; simpa using this, fun i hi => ?_⟩
  rw [Nat.zero_add]
  obtain ⟨h1, h2⟩ := h.at0 hi
  obtain ⟨h3, h4⟩ := h.at0 hk
  by_cases he : i = k
  · subst he
    rw [upd_at]
    exact ⟨by simp [go_sem, h1], by simp [go_sem, h2]⟩
  · rw [upd_ne _ _ _ _ he]
    have he' : ¬ k = i := fun h => he h.symm
    exact ⟨by simp [go_sem, h1, he, he'], by simp [go_sem, h2, he, he']⟩
theorem Bel.drewN {a b : World} (h : Bel a b) (n : Nat) : Bel a (b.drewN n) := Bel.trans h ⟨rfl, rfl, rfl, Nat.le_refl _, fun _ _ => rfl⟩
theorem DRow.same {w W : World} {b o n : Nat} {f : Nat → Nat} (h : DRow w b o n f) (hc : ∀ p, W.cell? p = w.cell? p) (hf : ∀ p, W.frozen? p = w.frozen? p) (hz : W.heap.size = w.heap.size) : DRow W b o n f :=
  ⟨by rw [hz]; exact h.1, fun i hi => by rw [hc, hf]; exact h.2 i hi⟩
theorem DRow.drewN {w : World} {b o n : Nat} {f : Nat → Nat} (h : DRow w b o n f) (k : Nat) : DRow (w.drewN k) b o n f := h.keep ((Bel.refl w).drewN k)
theorem DRow.drew {w : World} {b o n : Nat} {f : Nat → Nat} (h : DRow w b o n f) : DRow w.drew b o n f := h.keep (Bel.refl w).drew
/-- What a store elsewhere leaves. -/
theorem DRow.other {w : World} {b o n : Nat} {f : Nat → Nat} (h : DRow w b o n f) {a : Addr} (ha : b ≠ a.block) (v : Value) : DRow (w.setCell a v) b o n f := by
  refine ⟨by have := h.1; simpa using this, fun i hi => ?_⟩
  obtain ⟨h1, h2⟩ := h.2 i hi
  have e : ∀ o, (⟨b, o, none⟩ : Addr).block ≠ a.block := fun _ => ha
  exact ⟨by rw [← h1]; exact World.cell?_of_block (Deep.blk_setCell_other _ _ _ _ ha), by rw [← h2]; exact World.frozen?_of_block (Deep.blk_setCell_other _ _ _ _ ha)⟩
theorem made_row (w : World) (n : Nat) (t : TypeId) : DRow (w.alloc (.cells (madeCells #[.int .i64 0] n) t)) w.heap.size 0 n (fun _ => 0) := by
  have h := World.rowIs_made w (.int .i64 0) n t
  exact ⟨h.lt, fun i hi => by rw [Nat.zero_add]; exact ⟨h.cell hi, h.frozen i⟩⟩
theorem Tryz.underRow : Tryz.prog.underlying 146 = some (.slice 3) := by kernel_rfl
theorem Tryz.infoRow : (Tryz.prog.info? 3).map (fun i => (i.zero, i.size, i.bytes)) = some (some (.int .i64 0), 1, 8) := by kernel_rfl
theorem make_row (n : Nat) (hn : n ≤ 1000) (w : World) : (Instr.makeSlice 146 (.int .i64 n) (.int .i64 n)).run Tryz.prog w = .ok (.slice (some ⟨w.heap.size, 0, none⟩) n n) (w.alloc (.cells (madeCells #[.int .i64 0] n) 3)) :=
  run_make_row' 146 3 (.int .i64 0) 8 Tryz.underRow Tryz.infoRow rfl .i64 .i64 n (by omega) (by omega) w
theorem rsize_any (n : Int) (hn : small n) (w : World) : Calls Tryz.prog 154 #[.int .i64 n] w fun e w' => e = .returned (.int .i64 (n.natAbs : Int)) ∧ w' = w := by
  have h1 := hn.1
  have h2 := hn.2
  by_cases h : n < 0
  · have hv : Hid (-n = (n.natAbs : Int)) := by show _ = _; omega
    clear hn
    go_enter Tryz.func154, Tryz.ntmps154
    go_wp2
    go_ret
    exact ⟨by rw [← hv.out]; rfl, rfl⟩
  · have hv : Hid (n = (n.natAbs : Int)) := by show _ = _; omega
    clear hn
    go_enter Tryz.func154, Tryz.ntmps154
    go_wp2
    go_ret
    exact ⟨by (rw [← hv.out]) <;> rfl, rfl⟩
def below (f : Nat → Nat) (k : Nat) : Nat → Nat := fun i => if i < k then f i else 0
theorem below_upd (f : Nat → Nat) (k i : Nat) : upd (below f k) k (f k) i = below f (k + 1) i := by
  unfold upd below
  by_cases h : i = k
  · subst h; rw [if_pos rfl, if_pos (by omega)]
  · rw [if_neg h]
    by_cases h2 : i < k
    · rw [if_pos h2, if_pos (by omega)]
    · rw [if_neg h2, if_neg (by omega)]
set_option maxHeartbeats 1000000 in
theorem rdigits_any (x : Nat) (hx : x ≤ 999999999999) (w : World) : Calls Tryz.prog 153 #[.int .i64 x, .int .i64 12] w fun e w' => e = .returned (.slice (some ⟨w.heap.size, 0, none⟩) 12 12) ∧ DRow w' w.heap.size 0 12 (dg x) ∧ Bel w w' := by
  have hmk : ∀ w, (Instr.makeSlice 146 (.int .i64 12) (.int .i64 12)).run Tryz.prog w = .ok (.slice (some ⟨w.heap.size, 0, none⟩) 12 12) (w.alloc (.cells (madeCells #[.int .i64 0] 12) 3)) := make_row 12 (by omega)
  go_enter Tryz.func153, Tryz.ntmps153
  go_wp2
  have hD := made_row w 12 3
  have hb := (Bel.refl w).alloc (.cells (madeCells #[.int .i64 0] 12) 3)
  go_loopg [0, 6] 12 (fun g z i wr => ∃ k : Nat, k ≤ 12 ∧ z = .int .i64 ((x / 10 ^ k : Nat) : Int) ∧ i = .int .i64 k ∧ Hid (g = 12 - k) ∧ DRow wr w.heap.size 0 12 (below (dg x) k) ∧ Bel w wr)
  case atStart => exact ⟨0, by omega, by simp, rfl, rfl, hD.ext fun i hi => by simp [below], hb⟩
  case round =>
    clear hD hb hmk
    obtain ⟨k, hk, rfl, rfl, hh, hD, hb⟩ := hrel
    have hkk : (k : Int) ≤ 12 := by omega
    by_cases hlt : k < 12
    · obtain ⟨c1, c2⟩ := hD.at0 hlt
      have hle : ((x / 10 ^ k : Nat) : Int) ≤ 999999999999 := by have := Nat.div_le_self x (10 ^ k); omega
      have E := Lib.hid (show (((x / 10 ^ k : Nat) : Int) % 10 = ((dg x k : Nat) : Int)) ∧ ((x / 10 ^ k : Nat) : Int) / 10 = ((x / 10 ^ (k + 1) : Nat) : Int) from ⟨by rw [dg]; omega, by rw [div_succ]; omega⟩)
      generalize x / 10 ^ k = z at *
      go_wp2
      go_roundg (gk - 1)
      case measure => have := hh.out; omega
      case rel => exact ⟨k + 1, by omega, by rw [E.out.2], by go_num, (show _ = _ by have := hh.out; omega), by rw [E.out.1]; exact (hD.put k (dg x k) hlt).ext fun i _ => below_upd _ _ _, hb.setCell (Nat.le_refl _) _⟩
    · obtain rfl : k = 12 := by omega
      go_wp2
      go_ret
      exact ⟨rfl, hD.ext fun i hi => by simp [below, hi], hb⟩
theorem unt_abs (n s : Int) : (unt n s).natAbs = n.natAbs * P10 (6 - s).toNat := by
  unfold unt
  rw [Int.natAbs_mul]; rfl
theorem unt_sign (n s : Int) : (unt n s < 0 ↔ n < 0) ∧ (unt n s = 0 ↔ n = 0) := by
  have hp := P10_pos (6 - s).toNat
  unfold unt
  generalize P10 (6 - s).toNat = p at *
  constructor
  · constructor
    · intro h
      rcases Int.lt_or_le n 0 with h1 | h1
      · exact h1
      · have := Int.mul_nonneg h1 (show (0 : Int) ≤ p by omega); omega
    · intro h
      exact Int.mul_neg_of_neg_of_pos h (by omega)
  · rw [Int.mul_eq_zero]; omega
theorem Arr2.other {w : World} {b : Nat} {x y : Int} (h : Arr2 w b x y) {a : Addr} (ha : b ≠ a.block) (v : Value) : Arr2 (w.setCell a v) b x y := by
  obtain ⟨h1, h2, h3⟩ := h
  refine ⟨by simpa using h1, ?_, ?_⟩
  · rw [← h2]; exact World.cell?_of_block (Deep.blk_setCell_other _ _ _ _ ha)
  · rw [← h3]; exact World.cell?_of_block (Deep.blk_setCell_other _ _ _ _ ha)
theorem Sl2.other {w : World} {b : Nat} {x y : Int} (h : Sl2 w b x y) {a : Addr} (ha : b ≠ a.block) (v : Value) : Sl2 (w.setCell a v) b x y := by
  obtain ⟨h1, h2, h3⟩ := h
  refine ⟨h1.other ha v, ?_, ?_⟩
  · rw [← h2]; exact World.frozen?_of_block (Deep.blk_setCell_other _ _ _ _ ha)
  · rw [← h3]; exact World.frozen?_of_block (Deep.blk_setCell_other _ _ _ _ ha)
theorem size_list (s : ByteArray) : s.data.toList.length = s.size := by rw [Array.length_toList]; rfl
def lv (n : Int) (s : Nat) : Nat := n.natAbs * 10 ^ (12 - s)
theorem lv_dg {n : Int} {s : Nat} (hs : s ≤ 12) (k : Nat) : dg (lv n s) (k + (12 - s)) = dg n.natAbs k := dg_up _ _ _
theorem lv_low {n : Int} {s : Nat} (i : Nat) (h : i < 12 - s) : dg (lv n s) i = 0 := dg_low _ _ _ h
theorem lv_high {n : Int} {s : Nat} (h : small n) (i : Nat) (hi : 12 + (12 - s) ≤ i) : dg (lv n s) i = 0 := by
  refine dg_big _ _ ?_
  have h1 := h.1
  have h2 := h.2
  unfold lv
  have e : 10 ^ (12 + (12 - s)) = 10 ^ 12 * 10 ^ (12 - s) := Nat.pow_add ..
  have h3 : 10 ^ (12 + (12 - s)) ≤ 10 ^ i := Nat.pow_le_pow_right (by omega) hi
  have h4 : n.natAbs * 10 ^ (12 - s) < 10 ^ 12 * 10 ^ (12 - s) := Nat.mul_lt_mul_of_pos_right (by omega) (p10 _)
  omega
def LongOut (V : Nat) (w : World) (e : Ending) (w' : World) : Prop := ∃ g, e = .returned (.slice (some ⟨g, 0, none⟩) 60 60) ∧ w.heap.size ≤ g ∧ DRow w' g 0 60 (dg V) ∧ Bel w w'
set_option maxRecDepth 100000 in
set_option maxHeartbeats 2000000 in
theorem rlong_raw (n : Int) (s : Nat) (hn : small n) (hs : s ≤ 6) (w : World) : Calls Tryz.prog 129 #[.agg #[.int .i64 n, .int .i64 s]] w (LongOut (lv n s) w) := by
  have hmk : ∀ w, (Instr.makeSlice 146 (.int .i64 60) (.int .i64 60)).run Tryz.prog w = .ok (.slice (some ⟨w.heap.size, 0, none⟩) 60 60) (w.alloc (.cells (madeCells #[.int .i64 0] 60) 3)) := make_row 60 (by omega)
  have HS := Lib.hid fun w => rsize_any n hn w
  have hx : n.natAbs ≤ 999999999999 := by have := hn.1; have := hn.2; omega
  have HD := Lib.hid fun w => rdigits_any n.natAbs hx w
  have HN := Lib.hid hn
  have i1 : (s : Int) ≤ 6 := by omega
  clear hx hn
  go_enter Tryz.func129, Tryz.ntmps129
  go_upto_region 2 with (fail)
  refine under_name (((Bel.refl w).alloc _).alloc _) fun W hc hf hz hb => ?_
  have hA : Arr2 W w.heap.size n s := by simp [Arr2, hz, hc, hf, go_sem]
  have hO : DRow W (w.heap.size + 1) 0 60 (fun _ => 0) := by
    have h := (made_row (w.alloc (.cells #[.int .i64 n, .int .i64 s] 28)) 60 3).same hc hf hz
    simpa using h
  have hzz : W.heap.size = w.heap.size + 1 + 1 := by rw [hz]; simp
  have HZZ := Lib.hid hzz
  clear hc hf hz hmk hzz
  go_wp2_with (first
    | (go_at_call 154; refine (HS.out _).mono ?_; rintro e W1 ⟨rfl, rfl⟩)
    | (go_at_call 153; refine (HD.out _).mono ?_; rintro e W2 ⟨rfl, hX, hb1⟩; replace hA := hA.keep hb1; replace hO := hO.keep hb1; replace hb := hb.trans hb1; clear hb1))
  have hne1 : ¬ W1.heap.size = w.heap.size + 1 := by have := HZZ.out; omega
  have hne2 : ¬ w.heap.size + 1 = W1.heap.size := by have := HZZ.out; omega
  have HNE := Lib.hid (And.intro hne1 hne2)
  go_loopg [5] 12 (fun g i wr => ∃ k : Nat, k ≤ 12 ∧ i = .int .i64 k ∧ Hid (g = 12 - k) ∧ Arr2 wr w.heap.size n s ∧ DRow wr (w.heap.size + 1) 0 60 (below (dg (lv n s)) (k + (12 - s))) ∧ DRow wr W1.heap.size 0 12 (dg n.natAbs) ∧ Bel w wr)
  case atStart => exact ⟨0, by omega, rfl, rfl, hA, hO.ext fun i _ => by
    unfold below
    by_cases h : i < 0 + (12 - s)
    · rw [if_pos h, lv_low i (by omega)]
    · rw [if_neg h], hX, hb⟩
  case round =>
    clear hA hO hX hb
    obtain ⟨k, hk, rfl, hh, hA, hO, hX, hb⟩ := hrel
    by_cases hlt : k < 12
    · obtain ⟨c1, -⟩ := hX.at0 hlt
      obtain ⟨c2, c3⟩ := hO.at0 (show k + 12 - s < 60 by omega)
      have j1 : (k : Int) < 12 := by omega
      have E := Lib.hid (lv_dg (n := n) (show s ≤ 12 by omega) k)
      have E2 := Lib.hid (show k + 12 - s = k + (12 - s) by omega)
      generalize hd : dg n.natAbs k = d at *
      clear hd
      go_wp2
      go_region
      go_wp2
      go_roundg (gk - 1)
      case measure => have := hh.out; omega
      case rel => exact ⟨k + 1, by omega, by go_num, (show _ = _ by have := hh.out; omega), (hA.other (by simp) _).keep (Bel.refl _).drew, by
          rw [E2.out, ← E.out]
          exact ((hO.put (k + (12 - s)) _ (by omega)).ext fun i _ => by rw [below_upd, show k + (12 - s) + 1 = k + 1 + (12 - s) by omega]).drew,
        (hX.other hne1 _).drew, (hb.setCell (Nat.le_succ _) _).drew⟩
    · obtain rfl : k = 12 := by omega
      go_wp2
      go_ret
      exact ⟨_, rfl, Nat.le_succ _, hO.ext fun i _ => by
        unfold below
        by_cases h : i < 12 + (12 - s)
        · rw [if_pos h]
        · rw [if_neg h, lv_high HN.out i (by omega)], hb⟩
theorem rlong_any (n s : Int) (h : SndD n s) (w : World) : Calls Tryz.prog 129 #[.agg #[.int .i64 n, .int .i64 s]] w (LongOut (lv n s.toNat) w) := by
  have := rlong_raw n s.toNat h.2.2.1 (by have := h.2.1; omega) w
  rwa [show ((s.toNat : Nat) : Int) = s by have := h.1; omega] at this
theorem ret_bool {a b : Bool} (h : a = b) : Ending.returned (.bool a) = .returned (.bool b) := by rw [h]
set_option maxHeartbeats 2000000 in
theorem rless_any (b1 b2 x y : Nat) (hx0 : x < 10 ^ 60) (hy0 : y < 10 ^ 60) (w : World) (hx : DRow w b1 0 60 (dg x)) (hy : DRow w b2 0 60 (dg y)) :
    Calls Tryz.prog 128 #[.slice (some ⟨b1, 0, none⟩) 60 60, .slice (some ⟨b2, 0, none⟩) 60 60] w fun e w' => e = .returned (.bool (decide (x < y))) ∧ Bel w w' := by
  have H0 := Lib.hid (show x / 10 ^ 60 = y / 10 ^ 60 by rw [Nat.div_eq_of_lt hx0, Nat.div_eq_of_lt hy0])
  clear hx0 hy0
  go_enter Tryz.func128, Tryz.ntmps128
  go_wp2_with fail
  go_loopg [5] 60 (fun g i wr => ∃ (k : Nat) (z : Int), i = .int .i64 z ∧ Hid (z = (k : Int) - 1 ∧ k ≤ 60 ∧ g = k ∧ x / 10 ^ k = y / 10 ^ k) ∧ Bel w wr)
  case atStart => exact ⟨60, 59, rfl, ⟨rfl, Nat.le_refl _, rfl, H0.out⟩, Bel.refl w⟩
  case round =>
    obtain ⟨k, z, rfl, hh, hb⟩ := hrel
    obtain ⟨hz, hk, -, he⟩ := hh.out
    by_cases h0 : k = 0
    · subst h0
      obtain rfl : z = -1 := by omega
      have L := Lib.hid (show decide (x < y) = false by rw [decide_eq_false_iff_not]; simp at he; omega)
      clear hz hk he
      go_wp2
      go_ret
      exact ⟨ret_bool L.out.symm, hb⟩
    · obtain ⟨j, rfl⟩ : ∃ j, k = j + 1 := ⟨k - 1, by omega⟩
      obtain rfl : z = (j : Int) := by omega
      obtain ⟨c1, -⟩ := (hx.keep hb).at0 (show j < 60 by omega)
      obtain ⟨c2, -⟩ := (hy.keep hb).at0 (show j < 60 by omega)
      have j1 : (j : Int) < 60 := by omega
      have LD := Lib.hid (less_digit x y j he)
      have LS := Lib.hid (less_step x y j he)
      generalize dg x j = p at *
      generalize dg y j = q at *
      clear hz hk he h0
      by_cases hpq : p = q
      · subst hpq
        have L2 := Lib.hid (LS.out rfl)
        go_wp2
        go_quiet (fail)
        go_wp2
        go_roundg (gk - 1)
        case measure => have := hh.out.2.2.1; omega
        case rel => exact ⟨j, (j : Int) - 1, rfl, ⟨rfl, by omega, by have := hh.out.2.2.1; omega, L2.out⟩, hb.drewN _⟩
      · have L := Lib.hid (LD.out hpq)
        have e1 : ¬ (p : Int) = q := by omega
        have e2 : ((p : Int) != q) = true := by rw [bne_iff_ne]; exact e1
        clear hpq
        go_wp2
        go_quiet (fail)
        go_wp2
        go_quiet (fail)
        go_wp2
        go_ret
        exact ⟨ret_bool (by rw [decide_eq_decide, L.out] <;> omega), (hb.drewN _).drewN _⟩
theorem lv_unt {n s : Int} (h : SndD n s) : lv n s.toNat = (unt n s).natAbs * 10 ^ 6 := by
  obtain ⟨h1, h2, -, -⟩ := h
  rw [unt_abs, lv, show 12 - s.toNat = (6 - s).toNat + 6 by omega, Nat.pow_add, ← Nat.mul_assoc]
  rfl
theorem unt_lt {n s : Int} (h : SndD n s) : (unt n s).natAbs ≤ 1000000000000000000 := by
  have := unt_bd n s h; omega
theorem rlong_unt (n s : Int) (h : SndD n s) (w : World) : Calls Tryz.prog 129 #[.agg #[.int .i64 n, .int .i64 s]] w (LongOut ((unt n s).natAbs * 10 ^ 6) w) := by
  rw [← lv_unt h]; exact rlong_any n s h w
theorem sgn_abs {u v : Int} : (u < 0 → 0 ≤ v → sgn u v = -1) ∧ (0 ≤ u → v < 0 → sgn u v = 1) ∧ (0 ≤ u → 0 ≤ v → u.natAbs < v.natAbs → sgn u v = -1) ∧ (0 ≤ u → 0 ≤ v → v.natAbs < u.natAbs → sgn u v = 1) ∧
    (u < 0 → v < 0 → u.natAbs < v.natAbs → sgn u v = 1) ∧ (u < 0 → v < 0 → v.natAbs < u.natAbs → sgn u v = -1) ∧ ((u < 0 ↔ v < 0) → u.natAbs = v.natAbs → sgn u v = 0) := by
  unfold sgn
  refine ⟨fun _ _ => ?_, fun _ _ => ?_, fun _ _ _ => ?_, fun _ _ _ => ?_, fun _ _ _ => ?_, fun _ _ _ => ?_, fun _ _ => ?_⟩
  · rw [if_pos (by omega)]
  · rw [if_neg (by omega), if_pos (by omega)]
  · rw [if_pos (by omega)]
  · rw [if_neg (by omega), if_pos (by omega)]
  · rw [if_neg (by omega), if_pos (by omega)]
  · rw [if_pos (by omega)]
  · rw [if_neg (by omega), if_neg (by omega)]
set_option maxRecDepth 100000 in
set_option maxHeartbeats 4000000 in
theorem rcmp_bad (n s m t : Int) (h : ¬ (SndD n s ∧ SndD m t)) (w : World) : Calls Tryz.prog 100 #[decA n s, decA m t] w fun e w' => e = .returned (cmpV n s m t) ∧ Bel w w' := by
  have hv : Hid (cmpV n s m t = .tuple #[.int .i64 0, .int .i64 2]) := if_neg h
  have hs := snd_and h
  have c1 := Lib.hid fun w => rsound_any n s w
  have c2 := Lib.hid fun w => rsound_any m t w
  clear h
  cases h1 : sndB n s with
  | false =>
    have h1 := Lib.hid h1
    clear hs
    go_enter Tryz.func100, Tryz.ntmps100
    go_wp2_with fail
    refine under_call (((Bel.refl w).alloc _).alloc _) fun W hc hf hz hb => ?_
    have hA : Arr2 W w.heap.size n s := by simp [Arr2, hz, hc, hf, go_sem]
    clear hc hf hz
    go_wp2_with (go_at_call 61; refine (c1.out _).mono ?_; rintro e W1 ⟨rfl, hb1⟩; rw [h1.out]; replace hb := hb.trans hb1; clear hb1)
    go_ret2
    exact ⟨by (rw [hv.out]) <;> rfl, hb⟩
  | true =>
    have h2 := Lib.hid (show sndB m t = false by rw [h1] at hs; simpa using hs)
    have h1 := Lib.hid h1
    clear hs
    go_enter Tryz.func100, Tryz.ntmps100
    go_wp2_with fail
    refine under_call (((Bel.refl w).alloc _).alloc _) fun W hc hf hz hb => ?_
    have hA : Arr2 W w.heap.size n s := by simp [Arr2, hz, hc, hf, go_sem]
    have hB : Arr2 W (w.heap.size + 1) m t := by simp [Arr2, hz, hc, hf, go_sem]
    clear hc hf hz
    go_wp2_with (first
      | (go_at_call_of 61 (Value.agg #[Value.int .i64 n, Value.int .i64 s]); refine (c1.out _).mono ?_; rintro e W1 ⟨rfl, hb1⟩; rw [h1.out]; replace hB := hB.keep hb1; replace hb := hb.trans hb1; clear hb1 hA)
      | (go_at_call_of 61 (Value.agg #[Value.int .i64 m, Value.int .i64 t]); refine (c2.out _).mono ?_; rintro e W2 ⟨rfl, hb1⟩; rw [h2.out]; replace hb := hb.trans hb1; clear hb1))
    go_ret2
    exact ⟨by (rw [hv.out]) <;> rfl, hb⟩
set_option maxRecDepth 100000 in
set_option maxHeartbeats 16000000 in
theorem rcmp_good (n s m t : Int) (h : SndD n s ∧ SndD m t) (w : World) : Calls Tryz.prog 100 #[decA n s, decA m t] w fun e w' => e = .returned (cmpV n s m t) ∧ Bel w w' := by
  have hv : Hid (cmpV n s m t = .tuple #[.int .i64 (sgn (unt n s) (unt m t)), .int .i64 0]) := if_pos h
  have c1 := Lib.hid fun w => rsound_any n s w
  have c2 := Lib.hid fun w => rsound_any m t w
  have h1 := Lib.hid (sndB_t h.1)
  have h2 := Lib.hid (sndB_t h.2)
  have la := Lib.hid fun w => rlong_unt n s h.1 w
  have lb := Lib.hid fun w => rlong_unt m t h.2 w
  have HU := Lib.hid (show (unt n s).natAbs * 10 ^ 6 < 10 ^ 60 by have := unt_lt h.1; omega)
  have HV := Lib.hid (show (unt m t).natAbs * 10 ^ 6 < 10 ^ 60 by have := unt_lt h.2; omega)
  have hs1 := Lib.hid h.1
  have hs2 := Lib.hid h.2
  have SG := sgn_abs (u := unt n s) (v := unt m t)
  have zu := (unt_sign n s).1
  have zv := (unt_sign m t).1
  obtain ⟨⟨-, -, ⟨b1, b2⟩, -⟩, -, -, ⟨b3, b4⟩, -⟩ := h
  by_cases hn : n < 0
  · by_cases hm : m < 0
    · have key : True := trivial
      by_cases q1 : (unt n s).natAbs < (unt m t).natAbs
      · have L := Lib.hid (SG.2.2.2.2.1 (zu.2 (by omega)) (zv.2 (by omega)) q1)
        have r1 := Lib.hid (show decide ((unt n s).natAbs * 10 ^ 6 < (unt m t).natAbs * 10 ^ 6) = true by simp; omega)
        clear q1 zu zv SG
        go_enter Tryz.func100, Tryz.ntmps100
        go_wp2_with fail
        refine under_call (((Bel.refl w).alloc _).alloc _) fun W hc hf hz hb => ?_
        have hA : Arr2 W w.heap.size n s := by simp [Arr2, hz, hc, hf, go_sem]
        have hB : Arr2 W (w.heap.size + 1) m t := by simp [Arr2, hz, hc, hf, go_sem]
        clear hc hf hz
        go_wp2_with (first
          | (go_at_call_of 61 (Value.agg #[Value.int .i64 n, Value.int .i64 s]); refine (c1.out _).mono ?_; rintro e W1 ⟨rfl, hb1⟩; rw [h1.out]; replace hA := hA.keep hb1; replace hB := hB.keep hb1; replace hb := hb.trans hb1; clear hb1)
          | (go_at_call_of 61 (Value.agg #[Value.int .i64 m, Value.int .i64 t]); refine (c2.out _).mono ?_; rintro e W2 ⟨rfl, hb1⟩; rw [h2.out]; replace hA := hA.keep hb1; replace hB := hB.keep hb1; replace hb := hb.trans hb1; clear hb1))
        replace hA := hA.keep (Bel.refl _).drew; replace hB := hB.keep (Bel.refl _).drew; replace hb := hb.drew
        go_region_held3 (fun w' => Arr2 w' w.heap.size n s ∧ Arr2 w' (w.heap.size + 1) m t) (first | with_reducible exact ⟨hA, hB⟩ | (simp (maxDischargeDepth := 20) [Arr2, go_sem, hA, hB]; first | done | omega))
          (first
            | (go_at_call 129; have _u := hDa; refine (rlong_unt _ _ (by first | exact hs1.out | exact hs2.out) _).mono ?_; rintro e V2 ⟨gb, rfl, hgb, hDb, hb1⟩; replace hA := hA.keep hb1; replace hB := hB.keep hb1; replace hDa := hDa.keep hb1; replace hb := hb.trans hb1; clear hb1 hgb _u)
            | (go_at_call 129; refine (rlong_unt _ _ (by first | exact hs1.out | exact hs2.out) _).mono ?_; rintro e V1 ⟨ga, rfl, hga, hDa, hb1⟩; replace hA := hA.keep hb1; replace hB := hB.keep hb1; replace hb := hb.trans hb1; clear hb1 hga)
            | (go_at_call 128; refine (rless_any ga gb _ _ HU.out HV.out _ hDa hDb).mono ?_; rintro e V3 ⟨rfl, hb1⟩; rw [r1.out]; replace hA := hA.keep hb1; replace hB := hB.keep hb1; replace hb := hb.trans hb1; clear hb1 hDa hDb))
        go_wp2
        go_ret2
        exact ⟨by (rw [hv.out, L.out]) <;> rfl, hb⟩
      · have r1 := Lib.hid (show decide ((unt n s).natAbs * 10 ^ 6 < (unt m t).natAbs * 10 ^ 6) = false by simp; omega)
        by_cases q2 : (unt m t).natAbs < (unt n s).natAbs
        · have L := Lib.hid (SG.2.2.2.2.2.1 (zu.2 (by omega)) (zv.2 (by omega)) q2)
          have r2 := Lib.hid (show decide ((unt m t).natAbs * 10 ^ 6 < (unt n s).natAbs * 10 ^ 6) = true by simp; omega)
          clear q1 q2 zu zv SG
          go_enter Tryz.func100, Tryz.ntmps100
          go_wp2_with fail
          refine under_call (((Bel.refl w).alloc _).alloc _) fun W hc hf hz hb => ?_
          have hA : Arr2 W w.heap.size n s := by simp [Arr2, hz, hc, hf, go_sem]
          have hB : Arr2 W (w.heap.size + 1) m t := by simp [Arr2, hz, hc, hf, go_sem]
          clear hc hf hz
          go_wp2_with (first
            | (go_at_call_of 61 (Value.agg #[Value.int .i64 n, Value.int .i64 s]); refine (c1.out _).mono ?_; rintro e W1 ⟨rfl, hb1⟩; rw [h1.out]; replace hA := hA.keep hb1; replace hB := hB.keep hb1; replace hb := hb.trans hb1; clear hb1)
            | (go_at_call_of 61 (Value.agg #[Value.int .i64 m, Value.int .i64 t]); refine (c2.out _).mono ?_; rintro e W2 ⟨rfl, hb1⟩; rw [h2.out]; replace hA := hA.keep hb1; replace hB := hB.keep hb1; replace hb := hb.trans hb1; clear hb1))
          replace hA := hA.keep (Bel.refl _).drew; replace hB := hB.keep (Bel.refl _).drew; replace hb := hb.drew
          go_region_held3 (fun w' => Arr2 w' w.heap.size n s ∧ Arr2 w' (w.heap.size + 1) m t) (first | with_reducible exact ⟨hA, hB⟩ | (simp (maxDischargeDepth := 20) [Arr2, go_sem, hA, hB]; first | done | omega))
            (first
              | (go_at_call 129; have _u := hDa; refine (rlong_unt _ _ (by first | exact hs1.out | exact hs2.out) _).mono ?_; rintro e V2 ⟨gb, rfl, hgb, hDb, hb1⟩; replace hA := hA.keep hb1; replace hB := hB.keep hb1; replace hDa := hDa.keep hb1; replace hb := hb.trans hb1; clear hb1 hgb _u)
              | (go_at_call 129; refine (rlong_unt _ _ (by first | exact hs1.out | exact hs2.out) _).mono ?_; rintro e V1 ⟨ga, rfl, hga, hDa, hb1⟩; replace hA := hA.keep hb1; replace hB := hB.keep hb1; replace hb := hb.trans hb1; clear hb1 hga)
              | (go_at_call 128; refine (rless_any ga gb _ _ HU.out HV.out _ hDa hDb).mono ?_; rintro e V3 ⟨rfl, hb1⟩; rw [r1.out]; replace hA := hA.keep hb1; replace hB := hB.keep hb1; replace hb := hb.trans hb1; clear hb1 hDa hDb))
          go_wp2
          replace hA := hA.keep (Bel.refl _).drew; replace hB := hB.keep (Bel.refl _).drew; replace hb := hb.drew
          go_region_held3 (fun w' => Arr2 w' w.heap.size n s ∧ Arr2 w' (w.heap.size + 1) m t) (first | with_reducible exact ⟨hA, hB⟩ | (simp (maxDischargeDepth := 20) [Arr2, go_sem, hA, hB]; first | done | omega))
            (first
              | (go_at_call 129; have _u := hDa; refine (rlong_unt _ _ (by first | exact hs1.out | exact hs2.out) _).mono ?_; rintro e V2 ⟨gb, rfl, hgb, hDb, hb1⟩; replace hA := hA.keep hb1; replace hB := hB.keep hb1; replace hDa := hDa.keep hb1; replace hb := hb.trans hb1; clear hb1 hgb _u)
              | (go_at_call 129; refine (rlong_unt _ _ (by first | exact hs1.out | exact hs2.out) _).mono ?_; rintro e V1 ⟨ga, rfl, hga, hDa, hb1⟩; replace hA := hA.keep hb1; replace hB := hB.keep hb1; replace hb := hb.trans hb1; clear hb1 hga)
              | (go_at_call 128; refine (rless_any ga gb _ _ HV.out HU.out _ hDa hDb).mono ?_; rintro e V3 ⟨rfl, hb1⟩; rw [r2.out]; replace hA := hA.keep hb1; replace hB := hB.keep hb1; replace hb := hb.trans hb1; clear hb1 hDa hDb))
          go_wp2
          go_ret2
          exact ⟨by (rw [hv.out, L.out]) <;> rfl, hb⟩
        · have L := Lib.hid (SG.2.2.2.2.2.2 (by omega) (by omega))
          have r2 := Lib.hid (show decide ((unt m t).natAbs * 10 ^ 6 < (unt n s).natAbs * 10 ^ 6) = false by simp; omega)
          clear q1 q2 zu zv SG
          go_enter Tryz.func100, Tryz.ntmps100
          go_wp2_with fail
          refine under_call (((Bel.refl w).alloc _).alloc _) fun W hc hf hz hb => ?_
          have hA : Arr2 W w.heap.size n s := by simp [Arr2, hz, hc, hf, go_sem]
          have hB : Arr2 W (w.heap.size + 1) m t := by simp [Arr2, hz, hc, hf, go_sem]
          clear hc hf hz
          go_wp2_with (first
            | (go_at_call_of 61 (Value.agg #[Value.int .i64 n, Value.int .i64 s]); refine (c1.out _).mono ?_; rintro e W1 ⟨rfl, hb1⟩; rw [h1.out]; replace hA := hA.keep hb1; replace hB := hB.keep hb1; replace hb := hb.trans hb1; clear hb1)
            | (go_at_call_of 61 (Value.agg #[Value.int .i64 m, Value.int .i64 t]); refine (c2.out _).mono ?_; rintro e W2 ⟨rfl, hb1⟩; rw [h2.out]; replace hA := hA.keep hb1; replace hB := hB.keep hb1; replace hb := hb.trans hb1; clear hb1))
          replace hA := hA.keep (Bel.refl _).drew; replace hB := hB.keep (Bel.refl _).drew; replace hb := hb.drew
          go_region_held3 (fun w' => Arr2 w' w.heap.size n s ∧ Arr2 w' (w.heap.size + 1) m t) (first | with_reducible exact ⟨hA, hB⟩ | (simp (maxDischargeDepth := 20) [Arr2, go_sem, hA, hB]; first | done | omega))
            (first
              | (go_at_call 129; have _u := hDa; refine (rlong_unt _ _ (by first | exact hs1.out | exact hs2.out) _).mono ?_; rintro e V2 ⟨gb, rfl, hgb, hDb, hb1⟩; replace hA := hA.keep hb1; replace hB := hB.keep hb1; replace hDa := hDa.keep hb1; replace hb := hb.trans hb1; clear hb1 hgb _u)
              | (go_at_call 129; refine (rlong_unt _ _ (by first | exact hs1.out | exact hs2.out) _).mono ?_; rintro e V1 ⟨ga, rfl, hga, hDa, hb1⟩; replace hA := hA.keep hb1; replace hB := hB.keep hb1; replace hb := hb.trans hb1; clear hb1 hga)
              | (go_at_call 128; refine (rless_any ga gb _ _ HU.out HV.out _ hDa hDb).mono ?_; rintro e V3 ⟨rfl, hb1⟩; rw [r1.out]; replace hA := hA.keep hb1; replace hB := hB.keep hb1; replace hb := hb.trans hb1; clear hb1 hDa hDb))
          go_wp2
          replace hA := hA.keep (Bel.refl _).drew; replace hB := hB.keep (Bel.refl _).drew; replace hb := hb.drew
          go_region_held3 (fun w' => Arr2 w' w.heap.size n s ∧ Arr2 w' (w.heap.size + 1) m t) (first | with_reducible exact ⟨hA, hB⟩ | (simp (maxDischargeDepth := 20) [Arr2, go_sem, hA, hB]; first | done | omega))
            (first
              | (go_at_call 129; have _u := hDa; refine (rlong_unt _ _ (by first | exact hs1.out | exact hs2.out) _).mono ?_; rintro e V2 ⟨gb, rfl, hgb, hDb, hb1⟩; replace hA := hA.keep hb1; replace hB := hB.keep hb1; replace hDa := hDa.keep hb1; replace hb := hb.trans hb1; clear hb1 hgb _u)
              | (go_at_call 129; refine (rlong_unt _ _ (by first | exact hs1.out | exact hs2.out) _).mono ?_; rintro e V1 ⟨ga, rfl, hga, hDa, hb1⟩; replace hA := hA.keep hb1; replace hB := hB.keep hb1; replace hb := hb.trans hb1; clear hb1 hga)
              | (go_at_call 128; refine (rless_any ga gb _ _ HV.out HU.out _ hDa hDb).mono ?_; rintro e V3 ⟨rfl, hb1⟩; rw [r2.out]; replace hA := hA.keep hb1; replace hB := hB.keep hb1; replace hb := hb.trans hb1; clear hb1 hDa hDb))
          go_wp2
          go_ret2
          exact ⟨by (rw [hv.out, L.out]) <;> rfl, hb⟩

    · have L := Lib.hid (SG.1 (zu.2 hn) (by omega))
      have hm' : 0 ≤ m := by omega
      clear hm zu zv SG
      go_enter Tryz.func100, Tryz.ntmps100
      go_wp2_with fail
      refine under_call (((Bel.refl w).alloc _).alloc _) fun W hc hf hz hb => ?_
      have hA : Arr2 W w.heap.size n s := by simp [Arr2, hz, hc, hf, go_sem]
      have hB : Arr2 W (w.heap.size + 1) m t := by simp [Arr2, hz, hc, hf, go_sem]
      clear hc hf hz
      go_wp2_with (first
        | (go_at_call_of 61 (Value.agg #[Value.int .i64 n, Value.int .i64 s]); refine (c1.out _).mono ?_; rintro e W1 ⟨rfl, hb1⟩; rw [h1.out]; replace hA := hA.keep hb1; replace hB := hB.keep hb1; replace hb := hb.trans hb1; clear hb1)
        | (go_at_call_of 61 (Value.agg #[Value.int .i64 m, Value.int .i64 t]); refine (c2.out _).mono ?_; rintro e W2 ⟨rfl, hb1⟩; rw [h2.out]; replace hA := hA.keep hb1; replace hB := hB.keep hb1; replace hb := hb.trans hb1; clear hb1))
      go_wp2
      go_ret2
      exact ⟨by (rw [hv.out, L.out]) <;> rfl, hb⟩

  · by_cases hm : m < 0
    · have L := Lib.hid (SG.2.1 (by omega) (zv.2 hm))
      have hn' : 0 ≤ n := by omega
      clear hn zu zv SG
      go_enter Tryz.func100, Tryz.ntmps100
      go_wp2_with fail
      refine under_call (((Bel.refl w).alloc _).alloc _) fun W hc hf hz hb => ?_
      have hA : Arr2 W w.heap.size n s := by simp [Arr2, hz, hc, hf, go_sem]
      have hB : Arr2 W (w.heap.size + 1) m t := by simp [Arr2, hz, hc, hf, go_sem]
      clear hc hf hz
      go_wp2_with (first
        | (go_at_call_of 61 (Value.agg #[Value.int .i64 n, Value.int .i64 s]); refine (c1.out _).mono ?_; rintro e W1 ⟨rfl, hb1⟩; rw [h1.out]; replace hA := hA.keep hb1; replace hB := hB.keep hb1; replace hb := hb.trans hb1; clear hb1)
        | (go_at_call_of 61 (Value.agg #[Value.int .i64 m, Value.int .i64 t]); refine (c2.out _).mono ?_; rintro e W2 ⟨rfl, hb1⟩; rw [h2.out]; replace hA := hA.keep hb1; replace hB := hB.keep hb1; replace hb := hb.trans hb1; clear hb1))
      go_wp2
      go_ret2
      exact ⟨by (rw [hv.out, L.out]) <;> rfl, hb⟩

    · have hm' : 0 ≤ m := by omega
      have hn' : 0 ≤ n := by omega
      by_cases q1 : (unt n s).natAbs < (unt m t).natAbs
      · have L := Lib.hid (SG.2.2.1 (by omega) (by omega) q1)
        have r1 := Lib.hid (show decide ((unt n s).natAbs * 10 ^ 6 < (unt m t).natAbs * 10 ^ 6) = true by simp; omega)
        clear q1 zu zv SG
        go_enter Tryz.func100, Tryz.ntmps100
        go_wp2_with fail
        refine under_call (((Bel.refl w).alloc _).alloc _) fun W hc hf hz hb => ?_
        have hA : Arr2 W w.heap.size n s := by simp [Arr2, hz, hc, hf, go_sem]
        have hB : Arr2 W (w.heap.size + 1) m t := by simp [Arr2, hz, hc, hf, go_sem]
        clear hc hf hz
        go_wp2_with (first
          | (go_at_call_of 61 (Value.agg #[Value.int .i64 n, Value.int .i64 s]); refine (c1.out _).mono ?_; rintro e W1 ⟨rfl, hb1⟩; rw [h1.out]; replace hA := hA.keep hb1; replace hB := hB.keep hb1; replace hb := hb.trans hb1; clear hb1)
          | (go_at_call_of 61 (Value.agg #[Value.int .i64 m, Value.int .i64 t]); refine (c2.out _).mono ?_; rintro e W2 ⟨rfl, hb1⟩; rw [h2.out]; replace hA := hA.keep hb1; replace hB := hB.keep hb1; replace hb := hb.trans hb1; clear hb1))
        replace hA := hA.keep (Bel.refl _).drew; replace hB := hB.keep (Bel.refl _).drew; replace hb := hb.drew
        go_region_held3 (fun w' => Arr2 w' w.heap.size n s ∧ Arr2 w' (w.heap.size + 1) m t) (first | with_reducible exact ⟨hA, hB⟩ | (simp (maxDischargeDepth := 20) [Arr2, go_sem, hA, hB]; first | done | omega))
          (first
            | (go_at_call 129; have _u := hDa; refine (rlong_unt _ _ (by first | exact hs1.out | exact hs2.out) _).mono ?_; rintro e V2 ⟨gb, rfl, hgb, hDb, hb1⟩; replace hA := hA.keep hb1; replace hB := hB.keep hb1; replace hDa := hDa.keep hb1; replace hb := hb.trans hb1; clear hb1 hgb _u)
            | (go_at_call 129; refine (rlong_unt _ _ (by first | exact hs1.out | exact hs2.out) _).mono ?_; rintro e V1 ⟨ga, rfl, hga, hDa, hb1⟩; replace hA := hA.keep hb1; replace hB := hB.keep hb1; replace hb := hb.trans hb1; clear hb1 hga)
            | (go_at_call 128; refine (rless_any ga gb _ _ HU.out HV.out _ hDa hDb).mono ?_; rintro e V3 ⟨rfl, hb1⟩; rw [r1.out]; replace hA := hA.keep hb1; replace hB := hB.keep hb1; replace hb := hb.trans hb1; clear hb1 hDa hDb))
        go_wp2
        go_ret2
        exact ⟨by (rw [hv.out, L.out]) <;> rfl, hb⟩
      · have r1 := Lib.hid (show decide ((unt n s).natAbs * 10 ^ 6 < (unt m t).natAbs * 10 ^ 6) = false by simp; omega)
        by_cases q2 : (unt m t).natAbs < (unt n s).natAbs
        · have L := Lib.hid (SG.2.2.2.1 (by omega) (by omega) q2)
          have r2 := Lib.hid (show decide ((unt m t).natAbs * 10 ^ 6 < (unt n s).natAbs * 10 ^ 6) = true by simp; omega)
          clear q1 q2 zu zv SG
          go_enter Tryz.func100, Tryz.ntmps100
          go_wp2_with fail
          refine under_call (((Bel.refl w).alloc _).alloc _) fun W hc hf hz hb => ?_
          have hA : Arr2 W w.heap.size n s := by simp [Arr2, hz, hc, hf, go_sem]
          have hB : Arr2 W (w.heap.size + 1) m t := by simp [Arr2, hz, hc, hf, go_sem]
          clear hc hf hz
          go_wp2_with (first
            | (go_at_call_of 61 (Value.agg #[Value.int .i64 n, Value.int .i64 s]); refine (c1.out _).mono ?_; rintro e W1 ⟨rfl, hb1⟩; rw [h1.out]; replace hA := hA.keep hb1; replace hB := hB.keep hb1; replace hb := hb.trans hb1; clear hb1)
            | (go_at_call_of 61 (Value.agg #[Value.int .i64 m, Value.int .i64 t]); refine (c2.out _).mono ?_; rintro e W2 ⟨rfl, hb1⟩; rw [h2.out]; replace hA := hA.keep hb1; replace hB := hB.keep hb1; replace hb := hb.trans hb1; clear hb1))
          replace hA := hA.keep (Bel.refl _).drew; replace hB := hB.keep (Bel.refl _).drew; replace hb := hb.drew
          go_region_held3 (fun w' => Arr2 w' w.heap.size n s ∧ Arr2 w' (w.heap.size + 1) m t) (first | with_reducible exact ⟨hA, hB⟩ | (simp (maxDischargeDepth := 20) [Arr2, go_sem, hA, hB]; first | done | omega))
            (first
              | (go_at_call 129; have _u := hDa; refine (rlong_unt _ _ (by first | exact hs1.out | exact hs2.out) _).mono ?_; rintro e V2 ⟨gb, rfl, hgb, hDb, hb1⟩; replace hA := hA.keep hb1; replace hB := hB.keep hb1; replace hDa := hDa.keep hb1; replace hb := hb.trans hb1; clear hb1 hgb _u)
              | (go_at_call 129; refine (rlong_unt _ _ (by first | exact hs1.out | exact hs2.out) _).mono ?_; rintro e V1 ⟨ga, rfl, hga, hDa, hb1⟩; replace hA := hA.keep hb1; replace hB := hB.keep hb1; replace hb := hb.trans hb1; clear hb1 hga)
              | (go_at_call 128; refine (rless_any ga gb _ _ HU.out HV.out _ hDa hDb).mono ?_; rintro e V3 ⟨rfl, hb1⟩; rw [r1.out]; replace hA := hA.keep hb1; replace hB := hB.keep hb1; replace hb := hb.trans hb1; clear hb1 hDa hDb))
          go_wp2
          replace hA := hA.keep (Bel.refl _).drew; replace hB := hB.keep (Bel.refl _).drew; replace hb := hb.drew
          go_region_held3 (fun w' => Arr2 w' w.heap.size n s ∧ Arr2 w' (w.heap.size + 1) m t) (first | with_reducible exact ⟨hA, hB⟩ | (simp (maxDischargeDepth := 20) [Arr2, go_sem, hA, hB]; first | done | omega))
            (first
              | (go_at_call 129; have _u := hDa; refine (rlong_unt _ _ (by first | exact hs1.out | exact hs2.out) _).mono ?_; rintro e V2 ⟨gb, rfl, hgb, hDb, hb1⟩; replace hA := hA.keep hb1; replace hB := hB.keep hb1; replace hDa := hDa.keep hb1; replace hb := hb.trans hb1; clear hb1 hgb _u)
              | (go_at_call 129; refine (rlong_unt _ _ (by first | exact hs1.out | exact hs2.out) _).mono ?_; rintro e V1 ⟨ga, rfl, hga, hDa, hb1⟩; replace hA := hA.keep hb1; replace hB := hB.keep hb1; replace hb := hb.trans hb1; clear hb1 hga)
              | (go_at_call 128; refine (rless_any ga gb _ _ HV.out HU.out _ hDa hDb).mono ?_; rintro e V3 ⟨rfl, hb1⟩; rw [r2.out]; replace hA := hA.keep hb1; replace hB := hB.keep hb1; replace hb := hb.trans hb1; clear hb1 hDa hDb))
          go_wp2
          go_ret2
          exact ⟨by (rw [hv.out, L.out]) <;> rfl, hb⟩
        · have L := Lib.hid (SG.2.2.2.2.2.2 (by omega) (by omega))
          have r2 := Lib.hid (show decide ((unt m t).natAbs * 10 ^ 6 < (unt n s).natAbs * 10 ^ 6) = false by simp; omega)
          clear q1 q2 zu zv SG
          go_enter Tryz.func100, Tryz.ntmps100
          go_wp2_with fail
          refine under_call (((Bel.refl w).alloc _).alloc _) fun W hc hf hz hb => ?_
          have hA : Arr2 W w.heap.size n s := by simp [Arr2, hz, hc, hf, go_sem]
          have hB : Arr2 W (w.heap.size + 1) m t := by simp [Arr2, hz, hc, hf, go_sem]
          clear hc hf hz
          go_wp2_with (first
            | (go_at_call_of 61 (Value.agg #[Value.int .i64 n, Value.int .i64 s]); refine (c1.out _).mono ?_; rintro e W1 ⟨rfl, hb1⟩; rw [h1.out]; replace hA := hA.keep hb1; replace hB := hB.keep hb1; replace hb := hb.trans hb1; clear hb1)
            | (go_at_call_of 61 (Value.agg #[Value.int .i64 m, Value.int .i64 t]); refine (c2.out _).mono ?_; rintro e W2 ⟨rfl, hb1⟩; rw [h2.out]; replace hA := hA.keep hb1; replace hB := hB.keep hb1; replace hb := hb.trans hb1; clear hb1))
          replace hA := hA.keep (Bel.refl _).drew; replace hB := hB.keep (Bel.refl _).drew; replace hb := hb.drew
          go_region_held3 (fun w' => Arr2 w' w.heap.size n s ∧ Arr2 w' (w.heap.size + 1) m t) (first | with_reducible exact ⟨hA, hB⟩ | (simp (maxDischargeDepth := 20) [Arr2, go_sem, hA, hB]; first | done | omega))
            (first
              | (go_at_call 129; have _u := hDa; refine (rlong_unt _ _ (by first | exact hs1.out | exact hs2.out) _).mono ?_; rintro e V2 ⟨gb, rfl, hgb, hDb, hb1⟩; replace hA := hA.keep hb1; replace hB := hB.keep hb1; replace hDa := hDa.keep hb1; replace hb := hb.trans hb1; clear hb1 hgb _u)
              | (go_at_call 129; refine (rlong_unt _ _ (by first | exact hs1.out | exact hs2.out) _).mono ?_; rintro e V1 ⟨ga, rfl, hga, hDa, hb1⟩; replace hA := hA.keep hb1; replace hB := hB.keep hb1; replace hb := hb.trans hb1; clear hb1 hga)
              | (go_at_call 128; refine (rless_any ga gb _ _ HU.out HV.out _ hDa hDb).mono ?_; rintro e V3 ⟨rfl, hb1⟩; rw [r1.out]; replace hA := hA.keep hb1; replace hB := hB.keep hb1; replace hb := hb.trans hb1; clear hb1 hDa hDb))
          go_wp2
          replace hA := hA.keep (Bel.refl _).drew; replace hB := hB.keep (Bel.refl _).drew; replace hb := hb.drew
          go_region_held3 (fun w' => Arr2 w' w.heap.size n s ∧ Arr2 w' (w.heap.size + 1) m t) (first | with_reducible exact ⟨hA, hB⟩ | (simp (maxDischargeDepth := 20) [Arr2, go_sem, hA, hB]; first | done | omega))
            (first
              | (go_at_call 129; have _u := hDa; refine (rlong_unt _ _ (by first | exact hs1.out | exact hs2.out) _).mono ?_; rintro e V2 ⟨gb, rfl, hgb, hDb, hb1⟩; replace hA := hA.keep hb1; replace hB := hB.keep hb1; replace hDa := hDa.keep hb1; replace hb := hb.trans hb1; clear hb1 hgb _u)
              | (go_at_call 129; refine (rlong_unt _ _ (by first | exact hs1.out | exact hs2.out) _).mono ?_; rintro e V1 ⟨ga, rfl, hga, hDa, hb1⟩; replace hA := hA.keep hb1; replace hB := hB.keep hb1; replace hb := hb.trans hb1; clear hb1 hga)
              | (go_at_call 128; refine (rless_any ga gb _ _ HV.out HU.out _ hDa hDb).mono ?_; rintro e V3 ⟨rfl, hb1⟩; rw [r2.out]; replace hA := hA.keep hb1; replace hB := hB.keep hb1; replace hb := hb.trans hb1; clear hb1 hDa hDb))
          go_wp2
          go_ret2
          exact ⟨by (rw [hv.out, L.out]) <;> rfl, hb⟩
theorem rcmp_any (n s m t : Int) (w : World) : Calls Tryz.prog 100 #[decA n s, decA m t] w fun e w' => e = .returned (cmpV n s m t) ∧ Bel w w' := by
  by_cases h : SndD n s ∧ SndD m t
  · exact rcmp_good n s m t h w
  · exact rcmp_bad n s m t h w
def badV : Value := .tuple #[.int .i64 0, .int .i64 5]
def sgn_C (r : Nat) : Bool := r == 9 || r == 10 || r == 13 || (decide (32 ≤ r) && decide (r ≤ 0xD7FF)) || (decide (0xE000 ≤ r) && decide (r ≤ 0xFFFD)) || (decide (0x10000 ≤ r) && decide (r ≤ 0x10FFFF))
/-- As Go ranges over a string: g the bytes from here on, m how many are left. -/
def dec (g : Nat → Nat) (m : Nat) : Nat × Nat :=
  if g 0 < 0x80 then (g 0, 1)
  else if g 0 / 32 = 6 ∧ (1 < m ∧ g 1 / 64 = 2) then
    (if 0x80 ≤ g 0 % 32 * 64 + g 1 % 64 then (g 0 % 32 * 64 + g 1 % 64, 2) else (0xFFFD, 1))
  else if g 0 / 16 = 14 ∧ (1 < m ∧ g 1 / 64 = 2) ∧ (2 < m ∧ g 2 / 64 = 2) then
    (if 0x800 ≤ g 0 % 16 * 4096 + g 1 % 64 * 64 + g 2 % 64 ∧ (g 0 % 16 * 4096 + g 1 % 64 * 64 + g 2 % 64 < 0xD800 ∨ 0xE000 ≤ g 0 % 16 * 4096 + g 1 % 64 * 64 + g 2 % 64) then
      (g 0 % 16 * 4096 + g 1 % 64 * 64 + g 2 % 64, 3) else (0xFFFD, 1))
  else if g 0 / 8 = 30 ∧ (1 < m ∧ g 1 / 64 = 2) ∧ (2 < m ∧ g 2 / 64 = 2) ∧ (3 < m ∧ g 3 / 64 = 2) then
    (if 0x10000 ≤ g 0 % 8 * 262144 + g 1 % 64 * 4096 + g 2 % 64 * 64 + g 3 % 64 ∧ g 0 % 8 * 262144 + g 1 % 64 * 4096 + g 2 % 64 * 64 + g 3 % 64 ≤ 0x10FFFF then
      (g 0 % 8 * 262144 + g 1 % 64 * 4096 + g 2 % 64 * 64 + g 3 % 64, 4) else (0xFFFD, 1))
  else (0xFFFD, 1)
/-- As the document looks: 0 for none. -/
def first (g : Nat → Nat) (m : Nat) : Nat × Nat :=
  if g 0 < 0x80 then (if sgn_C (g 0) = true then (g 0, 1) else (0, 0))
  else if 0xC0 ≤ g 0 ∧ g 0 < 0xE0 then
    (if 1 < m ∧ 0x80 ≤ g 1 ∧ g 1 < 0xC0 ∧ 0x80 ≤ (g 0 - 0xC0) * 64 + (g 1 - 0x80) ∧ sgn_C ((g 0 - 0xC0) * 64 + (g 1 - 0x80)) = true then ((g 0 - 0xC0) * 64 + (g 1 - 0x80), 2) else (0, 0))
  else if 0xE0 ≤ g 0 ∧ g 0 < 0xF0 then
    (if 2 < m ∧ 0x80 ≤ g 1 ∧ g 1 < 0xC0 ∧ 0x80 ≤ g 2 ∧ g 2 < 0xC0 ∧ 0x800 ≤ ((g 0 - 0xE0) * 64 + (g 1 - 0x80)) * 64 + (g 2 - 0x80) ∧ sgn_C (((g 0 - 0xE0) * 64 + (g 1 - 0x80)) * 64 + (g 2 - 0x80)) = true then
      (((g 0 - 0xE0) * 64 + (g 1 - 0x80)) * 64 + (g 2 - 0x80), 3) else (0, 0))
  else if 0xF0 ≤ g 0 ∧ g 0 < 0xF8 then
    (if 3 < m ∧ 0x80 ≤ g 1 ∧ g 1 < 0xC0 ∧ 0x80 ≤ g 2 ∧ g 2 < 0xC0 ∧ 0x80 ≤ g 3 ∧ g 3 < 0xC0 ∧ 0x10000 ≤ (((g 0 - 0xF0) * 64 + (g 1 - 0x80)) * 64 + (g 2 - 0x80)) * 64 + (g 3 - 0x80) ∧
        sgn_C ((((g 0 - 0xF0) * 64 + (g 1 - 0x80)) * 64 + (g 2 - 0x80)) * 64 + (g 3 - 0x80)) = true then
      ((((g 0 - 0xF0) * 64 + (g 1 - 0x80)) * 64 + (g 2 - 0x80)) * 64 + (g 3 - 0x80), 4) else (0, 0))
  else (0, 0)
/-- Whether the bytes are U+FFFD's own. -/
def own (g : Nat → Nat) (m : Nat) : Bool := decide (2 < m) && decide (g 0 = 0xEF) && decide (g 1 = 0xBF) && decide (g 2 = 0xBD)
/-- What the program holds for a sign that may stand. -/
def may (g : Nat → Nat) (m : Nat) : Bool := sgn_C (dec g m).1 && !(decide ((dec g m).1 = 0xFFFD) && !own g m)
theorem sgn_iff (r : Nat) : sgn_C r = true ↔ (r = 9 ∨ r = 10 ∨ r = 13 ∨ (32 ≤ r ∧ r ≤ 0xD7FF) ∨ (0xE000 ≤ r ∧ r ≤ 0xFFFD) ∨ (0x10000 ≤ r ∧ r ≤ 0x10FFFF)) := by
  unfold sgn_C
  simp only [Bool.or_eq_true, Bool.and_eq_true, beq_iff_eq, decide_eq_true_eq]
  omega
theorem own_iff (g : Nat → Nat) (m : Nat) : own g m = true ↔ (2 < m ∧ g 0 = 0xEF ∧ g 1 = 0xBF ∧ g 2 = 0xBD) := by
  unfold own
  simp only [Bool.and_eq_true, decide_eq_true_eq]
  omega
theorem may_iff (g : Nat → Nat) (m : Nat) : may g m = true ↔ (sgn_C (dec g m).1 = true ∧ ((dec g m).1 = 0xFFFD → own g m = true)) := by
  unfold may
  cases sgn_C (dec g m).1 <;> cases own g m <;> by_cases h : (dec g m).1 = 0xFFFD <;> simp [h]
theorem pair (g : Nat → Nat) (m : Nat) (h0 : ∀ i, g i < 256) (P : Prop) [Decidable P] (r n : Nat) (hd : dec g m = if P then (r, n) else (0xFFFD, 1)) (hP : P → (r = 0xFFFD → own g m = true)) (hN : ¬ P → own g m = false) :
    (if may g m = true then dec g m else (0, 0)) = if P ∧ sgn_C r = true then (r, n) else (0, 0) := by
  by_cases hp : P
  · rw [if_pos hp] at hd
    by_cases hs : sgn_C r = true
    · rw [if_pos ((may_iff g m).2 (by rw [hd]; exact ⟨hs, hP hp⟩)), if_pos ⟨hp, hs⟩, hd]
    · rw [if_neg (fun h => hs (by have := ((may_iff g m).1 h).1; rwa [hd] at this)), if_neg (fun h => hs h.2)]
  · rw [if_neg hp] at hd
    rw [if_neg (fun h => by
      have := ((may_iff g m).1 h).2 (by rw [hd])
      rw [hN hp] at this
      cases this), if_neg (fun h => hp h.1)]
theorem own_no {g : Nat → Nat} {m : Nat} (h : ¬ (2 < m ∧ g 0 = 0xEF ∧ g 1 = 0xBF ∧ g 2 = 0xBD)) : own g m = false := by
  cases ho : own g m with
  | false => rfl
  | true => exact absurd ((own_iff g m).1 ho) h
theorem first_is (g : Nat → Nat) (m : Nat) (h0 : ∀ i, g i < 256) (hm : 0 < m) : (if may g m = true then dec g m else (0, 0)) = first g m := by
  have a0 := h0 0
  have a1 := h0 1
  have a2 := h0 2
  have a3 := h0 3
  by_cases c1 : g 0 < 0x80
  · have hd : dec g m = if True then (g 0, 1) else (0xFFFD, 1) := by rw [dec, if_pos c1, if_pos trivial]
    rw [pair g m h0 True _ _ hd (fun _ h => by omega) (fun h => absurd trivial h), first, if_pos c1]
    simp
  · by_cases c2 : g 0 / 32 = 6
    · have e : g 0 % 32 * 64 + g 1 % 64 = g 0 % 32 * 64 + g 1 % 64 := rfl
      have hd : dec g m = if ((1 < m ∧ g 1 / 64 = 2) ∧ 0x80 ≤ g 0 % 32 * 64 + g 1 % 64) then (g 0 % 32 * 64 + g 1 % 64, 2) else (0xFFFD, 1) := by
        rw [dec, if_neg c1]
        by_cases c3 : 1 < m ∧ g 1 / 64 = 2
        · rw [if_pos ⟨c2, c3⟩]
          by_cases c4 : 0x80 ≤ g 0 % 32 * 64 + g 1 % 64
          · rw [if_pos c4, if_pos ⟨c3, c4⟩]
          · rw [if_neg c4, if_neg (fun h => c4 h.2)]
        · rw [if_neg (fun h => c3 h.2), if_neg (by omega), if_neg (by omega), if_neg (fun h => c3 h.1)]
      rw [pair g m h0 _ _ _ hd (fun _ h => by omega) (fun _ => own_no (by omega)), first, if_neg c1, if_pos (show 0xC0 ≤ g 0 ∧ g 0 < 0xE0 by omega)]
      by_cases c3 : 1 < m ∧ g 1 / 64 = 2
      · have e1 : (g 0 - 0xC0) * 64 + (g 1 - 0x80) = g 0 % 32 * 64 + g 1 % 64 := by omega
        rw [e1]
        have : (((1 < m ∧ g 1 / 64 = 2) ∧ 0x80 ≤ g 0 % 32 * 64 + g 1 % 64) ∧ sgn_C (g 0 % 32 * 64 + g 1 % 64) = true) ↔ (1 < m ∧ 0x80 ≤ g 1 ∧ g 1 < 0xC0 ∧ 0x80 ≤ g 0 % 32 * 64 + g 1 % 64 ∧ sgn_C (g 0 % 32 * 64 + g 1 % 64) = true) := by
          constructor
          · rintro ⟨⟨⟨x, y⟩, z⟩, u⟩; exact ⟨x, by omega, by omega, z, u⟩
          · rintro ⟨x, y, y', z, u⟩; exact ⟨⟨⟨x, by omega⟩, z⟩, u⟩
        by_cases hq : (1 < m ∧ 0x80 ≤ g 1 ∧ g 1 < 0xC0 ∧ 0x80 ≤ g 0 % 32 * 64 + g 1 % 64 ∧ sgn_C (g 0 % 32 * 64 + g 1 % 64) = true)
        · rw [if_pos hq, if_pos (this.2 hq)]
        · rw [if_neg hq, if_neg (fun h => hq (this.1 h))]
      · rw [if_neg (fun h => c3 h.1.1), if_neg (fun h => c3 ⟨h.1, by omega⟩)]
    · by_cases c5 : g 0 / 16 = 14
      · have hd : dec g m = if (((1 < m ∧ g 1 / 64 = 2) ∧ (2 < m ∧ g 2 / 64 = 2)) ∧ 0x800 ≤ g 0 % 16 * 4096 + g 1 % 64 * 64 + g 2 % 64 ∧ (g 0 % 16 * 4096 + g 1 % 64 * 64 + g 2 % 64 < 0xD800 ∨ 0xE000 ≤ g 0 % 16 * 4096 + g 1 % 64 * 64 + g 2 % 64)) then (g 0 % 16 * 4096 + g 1 % 64 * 64 + g 2 % 64, 3) else (0xFFFD, 1) := by
          rw [dec, if_neg c1, if_neg (fun h => c2 h.1)]
          by_cases c3 : (1 < m ∧ g 1 / 64 = 2) ∧ (2 < m ∧ g 2 / 64 = 2)
          · rw [if_pos ⟨c5, c3⟩]
            by_cases c4 : 0x800 ≤ g 0 % 16 * 4096 + g 1 % 64 * 64 + g 2 % 64 ∧ (g 0 % 16 * 4096 + g 1 % 64 * 64 + g 2 % 64 < 0xD800 ∨ 0xE000 ≤ g 0 % 16 * 4096 + g 1 % 64 * 64 + g 2 % 64)
            · rw [if_pos c4, if_pos ⟨c3, c4⟩]
            · rw [if_neg c4, if_neg (fun h => c4 h.2)]
          · rw [if_neg (fun h => c3 h.2), if_neg (by omega), if_neg (fun h => c3 h.1)]
        rw [pair g m h0 _ _ _ hd (fun h h' => (own_iff g m).2 (by omega)) (fun h => own_no (by omega)), first, if_neg c1, if_neg (show ¬ (0xC0 ≤ g 0 ∧ g 0 < 0xE0) by omega), if_pos (show 0xE0 ≤ g 0 ∧ g 0 < 0xF0 by omega)]
        by_cases c3 : (1 < m ∧ g 1 / 64 = 2) ∧ (2 < m ∧ g 2 / 64 = 2)
        · have e1 : ((g 0 - 0xE0) * 64 + (g 1 - 0x80)) * 64 + (g 2 - 0x80) = g 0 % 16 * 4096 + g 1 % 64 * 64 + g 2 % 64 := by omega
          rw [e1]
          generalize g 0 % 16 * 4096 + g 1 % 64 * 64 + g 2 % 64 = r
          have := sgn_iff r
          by_cases hs : sgn_C r = true
          · have hr := this.1 hs
            by_cases h8 : 0x800 ≤ r
            · rw [if_pos ⟨⟨c3, h8, by omega⟩, hs⟩, if_pos ⟨by omega, by omega, by omega, by omega, by omega, h8, hs⟩]
            · rw [if_neg (fun h => h8 h.1.2.1), if_neg (fun h => h8 h.2.2.2.2.2.1)]
          · rw [if_neg (fun h => hs h.2), if_neg (fun h => hs h.2.2.2.2.2.2)]
        · rw [if_neg (fun h => c3 h.1.1), if_neg (fun h => c3 (by omega))]
      · by_cases c6 : g 0 / 8 = 30
        · have hd : dec g m = if (((1 < m ∧ g 1 / 64 = 2) ∧ (2 < m ∧ g 2 / 64 = 2) ∧ (3 < m ∧ g 3 / 64 = 2)) ∧ 0x10000 ≤ g 0 % 8 * 262144 + g 1 % 64 * 4096 + g 2 % 64 * 64 + g 3 % 64 ∧ g 0 % 8 * 262144 + g 1 % 64 * 4096 + g 2 % 64 * 64 + g 3 % 64 ≤ 0x10FFFF) then (g 0 % 8 * 262144 + g 1 % 64 * 4096 + g 2 % 64 * 64 + g 3 % 64, 4) else (0xFFFD, 1) := by
            rw [dec, if_neg c1, if_neg (fun h => c2 h.1), if_neg (fun h => c5 h.1)]
            by_cases c3 : (1 < m ∧ g 1 / 64 = 2) ∧ (2 < m ∧ g 2 / 64 = 2) ∧ (3 < m ∧ g 3 / 64 = 2)
            · rw [if_pos ⟨c6, c3⟩]
              by_cases c4 : 0x10000 ≤ g 0 % 8 * 262144 + g 1 % 64 * 4096 + g 2 % 64 * 64 + g 3 % 64 ∧ g 0 % 8 * 262144 + g 1 % 64 * 4096 + g 2 % 64 * 64 + g 3 % 64 ≤ 0x10FFFF
              · rw [if_pos c4, if_pos ⟨c3, c4⟩]
              · rw [if_neg c4, if_neg (fun h => c4 h.2)]
            · rw [if_neg (fun h => c3 h.2), if_neg (fun h => c3 h.1)]
          rw [pair g m h0 _ _ _ hd (fun h h' => by omega) (fun h => own_no (by omega)), first, if_neg c1, if_neg (show ¬ (0xC0 ≤ g 0 ∧ g 0 < 0xE0) by omega), if_neg (show ¬ (0xE0 ≤ g 0 ∧ g 0 < 0xF0) by omega), if_pos (show 0xF0 ≤ g 0 ∧ g 0 < 0xF8 by omega)]
          by_cases c3 : (1 < m ∧ g 1 / 64 = 2) ∧ (2 < m ∧ g 2 / 64 = 2) ∧ (3 < m ∧ g 3 / 64 = 2)
          · have e1 : (((g 0 - 0xF0) * 64 + (g 1 - 0x80)) * 64 + (g 2 - 0x80)) * 64 + (g 3 - 0x80) = g 0 % 8 * 262144 + g 1 % 64 * 4096 + g 2 % 64 * 64 + g 3 % 64 := by omega
            rw [e1]
            generalize g 0 % 8 * 262144 + g 1 % 64 * 4096 + g 2 % 64 * 64 + g 3 % 64 = r
            have := sgn_iff r
            by_cases hs : sgn_C r = true
            · have hr := this.1 hs
              by_cases h8 : 0x10000 ≤ r
              · rw [if_pos ⟨⟨c3, h8, by omega⟩, hs⟩, if_pos ⟨by omega, by omega, by omega, by omega, by omega, by omega, by omega, h8, hs⟩]
              · rw [if_neg (fun h => h8 h.1.2.1), if_neg (fun h => h8 h.2.2.2.2.2.2.2.1)]
            · rw [if_neg (fun h => hs h.2), if_neg (fun h => hs h.2.2.2.2.2.2.2.2)]
          · rw [if_neg (fun h => c3 h.1.1), if_neg (fun h => c3 (by omega))]
        · have hd : dec g m = if False then (0, 0) else (0xFFFD, 1) := by
            rw [dec, if_neg c1, if_neg (fun h => c2 h.1), if_neg (fun h => c5 h.1), if_neg (fun h => c6 h.1), if_neg (fun h => h)]
          rw [pair g m h0 False _ _ hd (fun h => h.elim) (fun _ => own_no (by omega)), first, if_neg c1, if_neg (show ¬ (0xC0 ≤ g 0 ∧ g 0 < 0xE0) by omega), if_neg (show ¬ (0xE0 ≤ g 0 ∧ g 0 < 0xF0) by omega), if_neg (show ¬ (0xF0 ≤ g 0 ∧ g 0 < 0xF8) by omega)]
          simp
/-- The bytes from a place on. -/
def gOf (s : ByteArray) (pos i : Nat) : Nat := (s.get! (pos + i)).toNat
theorem gOf_lt (s : ByteArray) (pos i : Nat) : gOf s pos i < 256 := (s.get! (pos + i)).toNat_lt
theorem ite_ext {P Q : Prop} [Decidable P] [Decidable Q] {α : Type} {a b c d : α} (h : P ↔ Q) (h1 : Q → a = c) (h2 : ¬ Q → b = d) : (if P then a else b) = if Q then c else d := by
  by_cases hq : Q
  · rw [if_pos (h.2 hq), if_pos hq, h1 hq]
  · rw [if_neg (fun hp => hq (h.1 hp)), if_neg hq, h2 hq]
theorem decode_is (s : ByteArray) (pos : Nat) (h : pos < s.size) : Utf8.decode s pos = dec (gOf s pos) (s.size - pos) := by
  have a0 := gOf_lt s pos 0
  have a1 := gOf_lt s pos 1
  have a2 := gOf_lt s pos 2
  have a3 := gOf_lt s pos 3
  have c : ∀ k, (decide (pos + k < s.size) && gOf s pos k / 64 == 2) = decide (k < s.size - pos ∧ gOf s pos k / 64 = 2) := by
    intro k
    rw [Bool.eq_iff_iff]
    simp only [Bool.and_eq_true, decide_eq_true_eq, beq_iff_eq]
    omega
  have e : Utf8.decode s pos = (
    if gOf s pos 0 < 0x80 then (gOf s pos 0, 1)
    else if (gOf s pos 0 / 32 == 6 && (decide (pos + 1 < s.size) && gOf s pos 1 / 64 == 2)) = true then
      (if gOf s pos 0 % 32 * 64 + gOf s pos 1 % 64 ≥ 0x80 then (gOf s pos 0 % 32 * 64 + gOf s pos 1 % 64, 2) else (Utf8.runeError, 1))
    else if (gOf s pos 0 / 16 == 14 && (decide (pos + 1 < s.size) && gOf s pos 1 / 64 == 2) && (decide (pos + 2 < s.size) && gOf s pos 2 / 64 == 2)) = true then
      (if (decide (gOf s pos 0 % 16 * 4096 + gOf s pos 1 % 64 * 64 + gOf s pos 2 % 64 ≥ 0x800) && Utf8.valid (gOf s pos 0 % 16 * 4096 + gOf s pos 1 % 64 * 64 + gOf s pos 2 % 64 : Nat)) = true then (gOf s pos 0 % 16 * 4096 + gOf s pos 1 % 64 * 64 + gOf s pos 2 % 64, 3) else (Utf8.runeError, 1))
    else if (gOf s pos 0 / 8 == 30 && (decide (pos + 1 < s.size) && gOf s pos 1 / 64 == 2) && (decide (pos + 2 < s.size) && gOf s pos 2 / 64 == 2) && (decide (pos + 3 < s.size) && gOf s pos 3 / 64 == 2)) = true then
      (if (decide (gOf s pos 0 % 8 * 262144 + gOf s pos 1 % 64 * 4096 + gOf s pos 2 % 64 * 64 + gOf s pos 3 % 64 ≥ 0x10000) && Utf8.valid (gOf s pos 0 % 8 * 262144 + gOf s pos 1 % 64 * 4096 + gOf s pos 2 % 64 * 64 + gOf s pos 3 % 64 : Nat)) = true then (gOf s pos 0 % 8 * 262144 + gOf s pos 1 % 64 * 4096 + gOf s pos 2 % 64 * 64 + gOf s pos 3 % 64, 4) else (Utf8.runeError, 1))
    else (Utf8.runeError, 1)) := rfl
  rw [e, c 1, c 2, c 3]
  have v : ∀ r : Nat, Utf8.valid (r : Int) = true ↔ (r < 0xD800 ∨ (0xE000 ≤ r ∧ r ≤ 0x10FFFF)) := by
    intro r
    unfold Utf8.valid
    simp only [Bool.or_eq_true, Bool.and_eq_true, decide_eq_true_eq]
    omega
  simp only [Bool.and_eq_true, decide_eq_true_eq, beq_iff_eq, v]
  unfold dec Utf8.runeError
  generalize gOf s pos 0 = x0 at *
  generalize gOf s pos 1 = x1 at *
  generalize gOf s pos 2 = x2 at *
  generalize gOf s pos 3 = x3 at *
  refine ite_ext Iff.rfl (fun _ => rfl) fun h1 => ite_ext Iff.rfl (fun _ => ite_ext Iff.rfl (fun _ => rfl) fun _ => rfl) fun h2 => ite_ext (by rw [and_assoc]) (fun h3 => ?_) fun h3 => ite_ext (by rw [and_assoc, and_assoc]) (fun h5 => ?_) fun _ => rfl
  · have hb : x0 % 16 * 4096 + x1 % 64 * 64 + x2 % 64 ≤ 0xFFFF := by omega
    revert hb
    generalize x0 % 16 * 4096 + x1 % 64 * 64 + x2 % 64 = r
    intro hb
    exact ite_ext (by omega) (fun _ => rfl) fun _ => rfl
  · generalize x0 % 8 * 262144 + x1 % 64 * 4096 + x2 % 64 * 64 + x3 % 64 = r
    exact ite_ext (by omega) (fun _ => rfl) fun _ => rfl
/-- Whether a sign that may stand begins at a place, and how many bytes it has. -/
def okAt (s : ByteArray) (pos : Nat) : Bool := may (gOf s pos) (s.size - pos)
def wdAt (s : ByteArray) (pos : Nat) : Nat := (dec (gOf s pos) (s.size - pos)).2
def badFrom (s : ByteArray) : Nat → Nat → Int
  | 0, _ => -1
  | f + 1, pos => if pos < s.size then (if okAt s pos = true then badFrom s f (pos + wdAt s pos) else pos) else -1
def badV_C (s : ByteArray) : Int := badFrom s s.size 0
set_option maxRecDepth 100000 in
set_option maxHeartbeats 4000000 in
theorem rsign_any (r : Nat) (hr : r ≤ 2147483647) (w : World) : Calls Tryz.prog 177 #[.int .i64 r] w fun e w' => e = .returned (.bool (sgn_C r)) ∧ w' = w := by
  have hi : (r : Int) ≤ 2147483647 := by omega
  have hc : (r < 9) ∨ (r = 9) ∨ (r = 10) ∨ (10 < r ∧ r < 13) ∨ (r = 13) ∨ (13 < r ∧ r < 32) ∨ (32 ≤ r ∧ r ≤ 55295) ∨ (55295 < r ∧ r < 57344) ∨ (57344 ≤ r ∧ r ≤ 65533) ∨ (65533 < r ∧ r < 65536) ∨ (65536 ≤ r ∧ r ≤ 1114111) ∨ (1114111 < r) := by omega
  have hs := sgn_iff r
  rcases hc with h | h | h | h | h | h | h | h | h | h | h | h
  · have L := Lib.hid (show sgn_C r = false from by rw [Bool.eq_false_iff]; exact fun h' => by have := hs.1 h'; omega)
    have e9 : ((r : Int) == 9) = false := by rw [beq_eq_false_iff_ne]; omega
    have e10 : ((r : Int) == 10) = false := by rw [beq_eq_false_iff_ne]; omega
    have e13 : ((r : Int) == 13) = false := by rw [beq_eq_false_iff_ne]; omega
    have g32 : decide ((32 : Int) ≤ r) = false := by exact decide_eq_false (by omega)
    have g57344 : decide ((57344 : Int) ≤ r) = false := by exact decide_eq_false (by omega)
    have g65536 : decide ((65536 : Int) ≤ r) = false := by exact decide_eq_false (by omega)
    have l55295 : decide ((r : Int) ≤ 55295) = true := by exact decide_eq_true (by omega)
    have l65533 : decide ((r : Int) ≤ 65533) = true := by exact decide_eq_true (by omega)
    have l1114111 : decide ((r : Int) ≤ 1114111) = true := by exact decide_eq_true (by omega)
    clear hs h hr hi
    go_enter Tryz.func177, Tryz.ntmps177
    go_wp2
    go_ret
    exact ⟨by (rw [L.out]) <;> rfl, rfl⟩
  · have L := Lib.hid (show sgn_C r = true from hs.2 (by omega))
    subst h
    clear hs hr hi
    go_enter Tryz.func177, Tryz.ntmps177
    go_wp2
    go_ret
    exact ⟨by (rw [L.out]) <;> rfl, rfl⟩
  · have L := Lib.hid (show sgn_C r = true from hs.2 (by omega))
    subst h
    clear hs hr hi
    go_enter Tryz.func177, Tryz.ntmps177
    go_wp2
    go_ret
    exact ⟨by (rw [L.out]) <;> rfl, rfl⟩
  · have L := Lib.hid (show sgn_C r = false from by rw [Bool.eq_false_iff]; exact fun h' => by have := hs.1 h'; omega)
    have e9 : ((r : Int) == 9) = false := by rw [beq_eq_false_iff_ne]; omega
    have e10 : ((r : Int) == 10) = false := by rw [beq_eq_false_iff_ne]; omega
    have e13 : ((r : Int) == 13) = false := by rw [beq_eq_false_iff_ne]; omega
    have g32 : decide ((32 : Int) ≤ r) = false := by exact decide_eq_false (by omega)
    have g57344 : decide ((57344 : Int) ≤ r) = false := by exact decide_eq_false (by omega)
    have g65536 : decide ((65536 : Int) ≤ r) = false := by exact decide_eq_false (by omega)
    have l55295 : decide ((r : Int) ≤ 55295) = true := by exact decide_eq_true (by omega)
    have l65533 : decide ((r : Int) ≤ 65533) = true := by exact decide_eq_true (by omega)
    have l1114111 : decide ((r : Int) ≤ 1114111) = true := by exact decide_eq_true (by omega)
    clear hs h hr hi
    go_enter Tryz.func177, Tryz.ntmps177
    go_wp2
    go_ret
    exact ⟨by (rw [L.out]) <;> rfl, rfl⟩
  · have L := Lib.hid (show sgn_C r = true from hs.2 (by omega))
    subst h
    clear hs hr hi
    go_enter Tryz.func177, Tryz.ntmps177
    go_wp2
    go_ret
    exact ⟨by (rw [L.out]) <;> rfl, rfl⟩
  · have L := Lib.hid (show sgn_C r = false from by rw [Bool.eq_false_iff]; exact fun h' => by have := hs.1 h'; omega)
    have e9 : ((r : Int) == 9) = false := by rw [beq_eq_false_iff_ne]; omega
    have e10 : ((r : Int) == 10) = false := by rw [beq_eq_false_iff_ne]; omega
    have e13 : ((r : Int) == 13) = false := by rw [beq_eq_false_iff_ne]; omega
    have g32 : decide ((32 : Int) ≤ r) = false := by exact decide_eq_false (by omega)
    have g57344 : decide ((57344 : Int) ≤ r) = false := by exact decide_eq_false (by omega)
    have g65536 : decide ((65536 : Int) ≤ r) = false := by exact decide_eq_false (by omega)
    have l55295 : decide ((r : Int) ≤ 55295) = true := by exact decide_eq_true (by omega)
    have l65533 : decide ((r : Int) ≤ 65533) = true := by exact decide_eq_true (by omega)
    have l1114111 : decide ((r : Int) ≤ 1114111) = true := by exact decide_eq_true (by omega)
    clear hs h hr hi
    go_enter Tryz.func177, Tryz.ntmps177
    go_wp2
    go_ret
    exact ⟨by (rw [L.out]) <;> rfl, rfl⟩
  · have L := Lib.hid (show sgn_C r = true from hs.2 (by omega))
    have e9 : ((r : Int) == 9) = false := by rw [beq_eq_false_iff_ne]; omega
    have e10 : ((r : Int) == 10) = false := by rw [beq_eq_false_iff_ne]; omega
    have e13 : ((r : Int) == 13) = false := by rw [beq_eq_false_iff_ne]; omega
    have g32 : decide ((32 : Int) ≤ r) = true := by exact decide_eq_true (by omega)
    have g57344 : decide ((57344 : Int) ≤ r) = false := by exact decide_eq_false (by omega)
    have g65536 : decide ((65536 : Int) ≤ r) = false := by exact decide_eq_false (by omega)
    have l55295 : decide ((r : Int) ≤ 55295) = true := by exact decide_eq_true (by omega)
    have l65533 : decide ((r : Int) ≤ 65533) = true := by exact decide_eq_true (by omega)
    have l1114111 : decide ((r : Int) ≤ 1114111) = true := by exact decide_eq_true (by omega)
    clear hs h hr hi
    go_enter Tryz.func177, Tryz.ntmps177
    go_wp2
    go_ret
    exact ⟨by (rw [L.out]) <;> rfl, rfl⟩
  · have L := Lib.hid (show sgn_C r = false from by rw [Bool.eq_false_iff]; exact fun h' => by have := hs.1 h'; omega)
    have e9 : ((r : Int) == 9) = false := by rw [beq_eq_false_iff_ne]; omega
    have e10 : ((r : Int) == 10) = false := by rw [beq_eq_false_iff_ne]; omega
    have e13 : ((r : Int) == 13) = false := by rw [beq_eq_false_iff_ne]; omega
    have g32 : decide ((32 : Int) ≤ r) = true := by exact decide_eq_true (by omega)
    have g57344 : decide ((57344 : Int) ≤ r) = false := by exact decide_eq_false (by omega)
    have g65536 : decide ((65536 : Int) ≤ r) = false := by exact decide_eq_false (by omega)
    have l55295 : decide ((r : Int) ≤ 55295) = false := by exact decide_eq_false (by omega)
    have l65533 : decide ((r : Int) ≤ 65533) = true := by exact decide_eq_true (by omega)
    have l1114111 : decide ((r : Int) ≤ 1114111) = true := by exact decide_eq_true (by omega)
    clear hs h hr hi
    go_enter Tryz.func177, Tryz.ntmps177
    go_wp2
    go_ret
    exact ⟨by (rw [L.out]) <;> rfl, rfl⟩
  · have L := Lib.hid (show sgn_C r = true from hs.2 (by omega))
    have e9 : ((r : Int) == 9) = false := by rw [beq_eq_false_iff_ne]; omega
    have e10 : ((r : Int) == 10) = false := by rw [beq_eq_false_iff_ne]; omega
    have e13 : ((r : Int) == 13) = false := by rw [beq_eq_false_iff_ne]; omega
    have g32 : decide ((32 : Int) ≤ r) = true := by exact decide_eq_true (by omega)
    have g57344 : decide ((57344 : Int) ≤ r) = true := by exact decide_eq_true (by omega)
    have g65536 : decide ((65536 : Int) ≤ r) = false := by exact decide_eq_false (by omega)
    have l55295 : decide ((r : Int) ≤ 55295) = false := by exact decide_eq_false (by omega)
    have l65533 : decide ((r : Int) ≤ 65533) = true := by exact decide_eq_true (by omega)
    have l1114111 : decide ((r : Int) ≤ 1114111) = true := by exact decide_eq_true (by omega)
    clear hs h hr hi
    go_enter Tryz.func177, Tryz.ntmps177
    go_wp2
    go_ret
    exact ⟨by (rw [L.out]) <;> rfl, rfl⟩
  · have L := Lib.hid (show sgn_C r = false from by rw [Bool.eq_false_iff]; exact fun h' => by have := hs.1 h'; omega)
    have e9 : ((r : Int) == 9) = false := by rw [beq_eq_false_iff_ne]; omega
    have e10 : ((r : Int) == 10) = false := by rw [beq_eq_false_iff_ne]; omega
    have e13 : ((r : Int) == 13) = false := by rw [beq_eq_false_iff_ne]; omega
    have g32 : decide ((32 : Int) ≤ r) = true := by exact decide_eq_true (by omega)
    have g57344 : decide ((57344 : Int) ≤ r) = true := by exact decide_eq_true (by omega)
    have g65536 : decide ((65536 : Int) ≤ r) = false := by exact decide_eq_false (by omega)
    have l55295 : decide ((r : Int) ≤ 55295) = false := by exact decide_eq_false (by omega)
    have l65533 : decide ((r : Int) ≤ 65533) = false := by exact decide_eq_false (by omega)
    have l1114111 : decide ((r : Int) ≤ 1114111) = true := by exact decide_eq_true (by omega)
    clear hs h hr hi
    go_enter Tryz.func177, Tryz.ntmps177
    go_wp2
    go_ret
    exact ⟨by (rw [L.out]) <;> rfl, rfl⟩
  · have L := Lib.hid (show sgn_C r = true from hs.2 (by omega))
    have e9 : ((r : Int) == 9) = false := by rw [beq_eq_false_iff_ne]; omega
    have e10 : ((r : Int) == 10) = false := by rw [beq_eq_false_iff_ne]; omega
    have e13 : ((r : Int) == 13) = false := by rw [beq_eq_false_iff_ne]; omega
    have g32 : decide ((32 : Int) ≤ r) = true := by exact decide_eq_true (by omega)
    have g57344 : decide ((57344 : Int) ≤ r) = true := by exact decide_eq_true (by omega)
    have g65536 : decide ((65536 : Int) ≤ r) = true := by exact decide_eq_true (by omega)
    have l55295 : decide ((r : Int) ≤ 55295) = false := by exact decide_eq_false (by omega)
    have l65533 : decide ((r : Int) ≤ 65533) = false := by exact decide_eq_false (by omega)
    have l1114111 : decide ((r : Int) ≤ 1114111) = true := by exact decide_eq_true (by omega)
    clear hs h hr hi
    go_enter Tryz.func177, Tryz.ntmps177
    go_wp2
    go_ret
    exact ⟨by (rw [L.out]) <;> rfl, rfl⟩
  · have L := Lib.hid (show sgn_C r = false from by rw [Bool.eq_false_iff]; exact fun h' => by have := hs.1 h'; omega)
    have e9 : ((r : Int) == 9) = false := by rw [beq_eq_false_iff_ne]; omega
    have e10 : ((r : Int) == 10) = false := by rw [beq_eq_false_iff_ne]; omega
    have e13 : ((r : Int) == 13) = false := by rw [beq_eq_false_iff_ne]; omega
    have g32 : decide ((32 : Int) ≤ r) = true := by exact decide_eq_true (by omega)
    have g57344 : decide ((57344 : Int) ≤ r) = true := by exact decide_eq_true (by omega)
    have g65536 : decide ((65536 : Int) ≤ r) = true := by exact decide_eq_true (by omega)
    have l55295 : decide ((r : Int) ≤ 55295) = false := by exact decide_eq_false (by omega)
    have l65533 : decide ((r : Int) ≤ 65533) = false := by exact decide_eq_false (by omega)
    have l1114111 : decide ((r : Int) ≤ 1114111) = false := by exact decide_eq_false (by omega)
    clear hs h hr hi
    go_enter Tryz.func177, Tryz.ntmps177
    go_wp2
    go_ret
    exact ⟨by (rw [L.out]) <;> rfl, rfl⟩
set_option maxRecDepth 100000 in
set_option maxHeartbeats 4000000 in
theorem valid_any (r : Nat) (hr : r ≤ 2147483647) (w : World) : Calls Tryz.prog 118 #[.int .i32 r] w fun e w' => e = .returned (.bool (sgn_C r)) ∧ w' = w := by
  have hi : (r : Int) ≤ 2147483647 := by omega
  have hc : (r < 9) ∨ (r = 9) ∨ (r = 10) ∨ (10 < r ∧ r < 13) ∨ (r = 13) ∨ (13 < r ∧ r < 32) ∨ (32 ≤ r ∧ r ≤ 55295) ∨ (55295 < r ∧ r < 57344) ∨ (57344 ≤ r ∧ r ≤ 65533) ∨ (65533 < r ∧ r < 65536) ∨ (65536 ≤ r ∧ r ≤ 1114111) ∨ (1114111 < r) := by omega
  have hs := sgn_iff r
  rcases hc with h | h | h | h | h | h | h | h | h | h | h | h
  · have L := Lib.hid (show sgn_C r = false from by rw [Bool.eq_false_iff]; exact fun h' => by have := hs.1 h'; omega)
    have e9 : ((r : Int) == 9) = false := by rw [beq_eq_false_iff_ne]; omega
    have e10 : ((r : Int) == 10) = false := by rw [beq_eq_false_iff_ne]; omega
    have e13 : ((r : Int) == 13) = false := by rw [beq_eq_false_iff_ne]; omega
    have g32 : decide ((32 : Int) ≤ r) = false := by exact decide_eq_false (by omega)
    have g57344 : decide ((57344 : Int) ≤ r) = false := by exact decide_eq_false (by omega)
    have g65536 : decide ((65536 : Int) ≤ r) = false := by exact decide_eq_false (by omega)
    have l55295 : decide ((r : Int) ≤ 55295) = true := by exact decide_eq_true (by omega)
    have l65533 : decide ((r : Int) ≤ 65533) = true := by exact decide_eq_true (by omega)
    have l1114111 : decide ((r : Int) ≤ 1114111) = true := by exact decide_eq_true (by omega)
    clear hs h hr hi
    go_enter Tryz.func118, Tryz.ntmps118
    go_wp2
    go_ret
    exact ⟨by (rw [L.out]) <;> rfl, rfl⟩
  · have L := Lib.hid (show sgn_C r = true from hs.2 (by omega))
    subst h
    clear hs hr hi
    go_enter Tryz.func118, Tryz.ntmps118
    go_wp2
    go_ret
    exact ⟨by (rw [L.out]) <;> rfl, rfl⟩
  · have L := Lib.hid (show sgn_C r = true from hs.2 (by omega))
    subst h
    clear hs hr hi
    go_enter Tryz.func118, Tryz.ntmps118
    go_wp2
    go_ret
    exact ⟨by (rw [L.out]) <;> rfl, rfl⟩
  · have L := Lib.hid (show sgn_C r = false from by rw [Bool.eq_false_iff]; exact fun h' => by have := hs.1 h'; omega)
    have e9 : ((r : Int) == 9) = false := by rw [beq_eq_false_iff_ne]; omega
    have e10 : ((r : Int) == 10) = false := by rw [beq_eq_false_iff_ne]; omega
    have e13 : ((r : Int) == 13) = false := by rw [beq_eq_false_iff_ne]; omega
    have g32 : decide ((32 : Int) ≤ r) = false := by exact decide_eq_false (by omega)
    have g57344 : decide ((57344 : Int) ≤ r) = false := by exact decide_eq_false (by omega)
    have g65536 : decide ((65536 : Int) ≤ r) = false := by exact decide_eq_false (by omega)
    have l55295 : decide ((r : Int) ≤ 55295) = true := by exact decide_eq_true (by omega)
    have l65533 : decide ((r : Int) ≤ 65533) = true := by exact decide_eq_true (by omega)
    have l1114111 : decide ((r : Int) ≤ 1114111) = true := by exact decide_eq_true (by omega)
    clear hs h hr hi
    go_enter Tryz.func118, Tryz.ntmps118
    go_wp2
    go_ret
    exact ⟨by (rw [L.out]) <;> rfl, rfl⟩
  · have L := Lib.hid (show sgn_C r = true from hs.2 (by omega))
    subst h
    clear hs hr hi
    go_enter Tryz.func118, Tryz.ntmps118
    go_wp2
    go_ret
    exact ⟨by (rw [L.out]) <;> rfl, rfl⟩
  · have L := Lib.hid (show sgn_C r = false from by rw [Bool.eq_false_iff]; exact fun h' => by have := hs.1 h'; omega)
    have e9 : ((r : Int) == 9) = false := by rw [beq_eq_false_iff_ne]; omega
    have e10 : ((r : Int) == 10) = false := by rw [beq_eq_false_iff_ne]; omega
    have e13 : ((r : Int) == 13) = false := by rw [beq_eq_false_iff_ne]; omega
    have g32 : decide ((32 : Int) ≤ r) = false := by exact decide_eq_false (by omega)
    have g57344 : decide ((57344 : Int) ≤ r) = false := by exact decide_eq_false (by omega)
    have g65536 : decide ((65536 : Int) ≤ r) = false := by exact decide_eq_false (by omega)
    have l55295 : decide ((r : Int) ≤ 55295) = true := by exact decide_eq_true (by omega)
    have l65533 : decide ((r : Int) ≤ 65533) = true := by exact decide_eq_true (by omega)
    have l1114111 : decide ((r : Int) ≤ 1114111) = true := by exact decide_eq_true (by omega)
    clear hs h hr hi
    go_enter Tryz.func118, Tryz.ntmps118
    go_wp2
    go_ret
    exact ⟨by (rw [L.out]) <;> rfl, rfl⟩
  · have L := Lib.hid (show sgn_C r = true from hs.2 (by omega))
    have e9 : ((r : Int) == 9) = false := by rw [beq_eq_false_iff_ne]; omega
    have e10 : ((r : Int) == 10) = false := by rw [beq_eq_false_iff_ne]; omega
    have e13 : ((r : Int) == 13) = false := by rw [beq_eq_false_iff_ne]; omega
    have g32 : decide ((32 : Int) ≤ r) = true := by exact decide_eq_true (by omega)
    have g57344 : decide ((57344 : Int) ≤ r) = false := by exact decide_eq_false (by omega)
    have g65536 : decide ((65536 : Int) ≤ r) = false := by exact decide_eq_false (by omega)
    have l55295 : decide ((r : Int) ≤ 55295) = true := by exact decide_eq_true (by omega)
    have l65533 : decide ((r : Int) ≤ 65533) = true := by exact decide_eq_true (by omega)
    have l1114111 : decide ((r : Int) ≤ 1114111) = true := by exact decide_eq_true (by omega)
    clear hs h hr hi
    go_enter Tryz.func118, Tryz.ntmps118
    go_wp2
    go_ret
    exact ⟨by (rw [L.out]) <;> rfl, rfl⟩
  · have L := Lib.hid (show sgn_C r = false from by rw [Bool.eq_false_iff]; exact fun h' => by have := hs.1 h'; omega)
    have e9 : ((r : Int) == 9) = false := by rw [beq_eq_false_iff_ne]; omega
    have e10 : ((r : Int) == 10) = false := by rw [beq_eq_false_iff_ne]; omega
    have e13 : ((r : Int) == 13) = false := by rw [beq_eq_false_iff_ne]; omega
    have g32 : decide ((32 : Int) ≤ r) = true := by exact decide_eq_true (by omega)
    have g57344 : decide ((57344 : Int) ≤ r) = false := by exact decide_eq_false (by omega)
    have g65536 : decide ((65536 : Int) ≤ r) = false := by exact decide_eq_false (by omega)
    have l55295 : decide ((r : Int) ≤ 55295) = false := by exact decide_eq_false (by omega)
    have l65533 : decide ((r : Int) ≤ 65533) = true := by exact decide_eq_true (by omega)
    have l1114111 : decide ((r : Int) ≤ 1114111) = true := by exact decide_eq_true (by omega)
    clear hs h hr hi
    go_enter Tryz.func118, Tryz.ntmps118
    go_wp2
    go_ret
    exact ⟨by (rw [L.out]) <;> rfl, rfl⟩
  · have L := Lib.hid (show sgn_C r = true from hs.2 (by omega))
    have e9 : ((r : Int) == 9) = false := by rw [beq_eq_false_iff_ne]; omega
    have e10 : ((r : Int) == 10) = false := by rw [beq_eq_false_iff_ne]; omega
    have e13 : ((r : Int) == 13) = false := by rw [beq_eq_false_iff_ne]; omega
    have g32 : decide ((32 : Int) ≤ r) = true := by exact decide_eq_true (by omega)
    have g57344 : decide ((57344 : Int) ≤ r) = true := by exact decide_eq_true (by omega)
    have g65536 : decide ((65536 : Int) ≤ r) = false := by exact decide_eq_false (by omega)
    have l55295 : decide ((r : Int) ≤ 55295) = false := by exact decide_eq_false (by omega)
    have l65533 : decide ((r : Int) ≤ 65533) = true := by exact decide_eq_true (by omega)
    have l1114111 : decide ((r : Int) ≤ 1114111) = true := by exact decide_eq_true (by omega)
    clear hs h hr hi
    go_enter Tryz.func118, Tryz.ntmps118
    go_wp2
    go_ret
    exact ⟨by (rw [L.out]) <;> rfl, rfl⟩
  · have L := Lib.hid (show sgn_C r = false from by rw [Bool.eq_false_iff]; exact fun h' => by have := hs.1 h'; omega)
    have e9 : ((r : Int) == 9) = false := by rw [beq_eq_false_iff_ne]; omega
    have e10 : ((r : Int) == 10) = false := by rw [beq_eq_false_iff_ne]; omega
    have e13 : ((r : Int) == 13) = false := by rw [beq_eq_false_iff_ne]; omega
    have g32 : decide ((32 : Int) ≤ r) = true := by exact decide_eq_true (by omega)
    have g57344 : decide ((57344 : Int) ≤ r) = true := by exact decide_eq_true (by omega)
    have g65536 : decide ((65536 : Int) ≤ r) = false := by exact decide_eq_false (by omega)
    have l55295 : decide ((r : Int) ≤ 55295) = false := by exact decide_eq_false (by omega)
    have l65533 : decide ((r : Int) ≤ 65533) = false := by exact decide_eq_false (by omega)
    have l1114111 : decide ((r : Int) ≤ 1114111) = true := by exact decide_eq_true (by omega)
    clear hs h hr hi
    go_enter Tryz.func118, Tryz.ntmps118
    go_wp2
    go_ret
    exact ⟨by (rw [L.out]) <;> rfl, rfl⟩
  · have L := Lib.hid (show sgn_C r = true from hs.2 (by omega))
    have e9 : ((r : Int) == 9) = false := by rw [beq_eq_false_iff_ne]; omega
    have e10 : ((r : Int) == 10) = false := by rw [beq_eq_false_iff_ne]; omega
    have e13 : ((r : Int) == 13) = false := by rw [beq_eq_false_iff_ne]; omega
    have g32 : decide ((32 : Int) ≤ r) = true := by exact decide_eq_true (by omega)
    have g57344 : decide ((57344 : Int) ≤ r) = true := by exact decide_eq_true (by omega)
    have g65536 : decide ((65536 : Int) ≤ r) = true := by exact decide_eq_true (by omega)
    have l55295 : decide ((r : Int) ≤ 55295) = false := by exact decide_eq_false (by omega)
    have l65533 : decide ((r : Int) ≤ 65533) = false := by exact decide_eq_false (by omega)
    have l1114111 : decide ((r : Int) ≤ 1114111) = true := by exact decide_eq_true (by omega)
    clear hs h hr hi
    go_enter Tryz.func118, Tryz.ntmps118
    go_wp2
    go_ret
    exact ⟨by (rw [L.out]) <;> rfl, rfl⟩
  · have L := Lib.hid (show sgn_C r = false from by rw [Bool.eq_false_iff]; exact fun h' => by have := hs.1 h'; omega)
    have e9 : ((r : Int) == 9) = false := by rw [beq_eq_false_iff_ne]; omega
    have e10 : ((r : Int) == 10) = false := by rw [beq_eq_false_iff_ne]; omega
    have e13 : ((r : Int) == 13) = false := by rw [beq_eq_false_iff_ne]; omega
    have g32 : decide ((32 : Int) ≤ r) = true := by exact decide_eq_true (by omega)
    have g57344 : decide ((57344 : Int) ≤ r) = true := by exact decide_eq_true (by omega)
    have g65536 : decide ((65536 : Int) ≤ r) = true := by exact decide_eq_true (by omega)
    have l55295 : decide ((r : Int) ≤ 55295) = false := by exact decide_eq_false (by omega)
    have l65533 : decide ((r : Int) ≤ 65533) = false := by exact decide_eq_false (by omega)
    have l1114111 : decide ((r : Int) ≤ 1114111) = false := by exact decide_eq_false (by omega)
    clear hs h hr hi
    go_enter Tryz.func118, Tryz.ntmps118
    go_wp2
    go_ret
    exact ⟨by (rw [L.out]) <;> rfl, rfl⟩
/-- Whether a text begins with the three bytes of U+FFFD. -/
def ownB (s : ByteArray) : Bool := Lib.hasPrefix s.data.toList [239, 191, 189]
theorem hasPrefix_any (s : ByteArray) (w : World) : Calls Tryz.prog 133 #[.string s, .string ⟨#[239, 191, 189]⟩] w fun e w' => e = .returned (.bool (ownB s)) ∧ w' = w :=
  Tryz.strings_HasPrefix s ⟨#[239, 191, 189]⟩ w
def brokenB (s : ByteArray) (r : Nat) : Bool := decide (r = 65533) && !ownB s
set_option maxRecDepth 100000 in
theorem broken_any (s : ByteArray) (r : Nat) (hr : r ≤ 2147483647) (w : World) : Calls Tryz.prog 119 #[.string s, .int .i32 r] w fun e w' => e = .returned (.bool (brokenB s r)) ∧ w' = w := by
  by_cases h : r = 65533
  · have L := Lib.hid (show brokenB s r = !ownB s by rw [brokenB, h]; simp)
    subst h
    clear hr
    go_enter Tryz.func119, Tryz.ntmps119
    go_wp2_with (go_at_call 133; refine (hasPrefix_any _ _).mono ?_; rintro e W1 ⟨rfl, rfl⟩)
    go_ret
    exact ⟨by (rw [L.out]) <;> rfl, rfl⟩
  · have L := Lib.hid (show brokenB s r = false by rw [brokenB, decide_eq_false h]; rfl)
    have e1 : ((r : Int) == 65533) = false := by rw [beq_eq_false_iff_ne]; omega
    clear h hr
    go_enter Tryz.func119, Tryz.ntmps119
    go_wp2_with fail
    go_ret
    exact ⟨by (rw [L.out]) <;> rfl, rfl⟩
theorem get_list (s : ByteArray) (k : Nat) : s.get! k = s.data.toList.getD k 0 := by
  obtain ⟨⟨l⟩⟩ := s
  show (Array.mk l)[k]! = _
  rw [List.getD_eq_getElem?_getD]
  by_cases h : k < l.length
  · simp [h]
  · simp [h]; rfl
theorem gOf_list (s : ByteArray) (pos i : Nat) : gOf s pos i = ((s.data.toList.drop pos).getD i 0).toNat := by
  rw [gOf, get_list, List.getD_eq_getElem?_getD, List.getD_eq_getElem?_getD, List.getElem?_drop]
theorem ext_end_C (s : ByteArray) (a : Nat) : (s.extract a s.size).data.toList = s.data.toList.drop a := by
  rw [Lib.extract_data, List.take_of_length_le]
  rw [List.length_drop, Array.length_toList]
  exact Nat.le_refl _
theorem size_list_C (s : ByteArray) : s.data.toList.length = s.size := by rw [Array.length_toList]; rfl
theorem u8_nat (a : UInt8) (n : Nat) (hn : n < 256) : (a.toNat = n) ↔ a = UInt8.ofNat n := by
  constructor
  · intro h; exact UInt8.toNat_inj.mp (by rw [UInt8.toNat_ofNat']; omega)
  · rintro rfl; rw [UInt8.toNat_ofNat']; omega
theorem own_ext (s : ByteArray) (pos : Nat) : ownB (s.extract pos s.size) = own (gOf s pos) (s.size - pos) := by
  have hl : (s.data.toList.drop pos).length = s.size - pos := by rw [List.length_drop, size_list_C]
  rw [Bool.eq_iff_iff, own_iff, ownB, ext_end_C, gOf_list, gOf_list, gOf_list, ← hl]
  generalize s.data.toList.drop pos = l
  unfold Lib.hasPrefix
  match l with
  | [] => simp [List.isPrefixOf]
  | [a] => simp [List.isPrefixOf]
  | [a, b] => simp [List.isPrefixOf]
  | a :: b :: c :: r =>
    simp only [List.isPrefixOf, Bool.and_true, Bool.and_eq_true, beq_iff_eq, List.getD_cons_zero, List.getD_cons_succ, List.length_cons]
    rw [u8_nat a 0xEF (by omega), u8_nat b 0xBF (by omega), u8_nat c 0xBD (by omega)]
    constructor
    · rintro ⟨h1, h2, h3⟩; exact ⟨by omega, h1.symm, h2.symm, h3.symm⟩
    · rintro ⟨-, h1, h2, h3⟩; exact ⟨h1.symm, h2.symm, h3.symm⟩
theorem okAt_is (s : ByteArray) (pos : Nat) : okAt s pos = (sgn_C (dec (gOf s pos) (s.size - pos)).1 && !brokenB (s.extract pos s.size) (dec (gOf s pos) (s.size - pos)).1) := by
  unfold okAt may brokenB
  rw [own_ext]
theorem wd_pos (s : ByteArray) (pos : Nat) : 1 ≤ wdAt s pos := by
  unfold wdAt dec
  repeat' split
  all_goals simp
set_option maxRecDepth 100000 in
set_option maxHeartbeats 4000000 in
theorem bad_any (s : ByteArray) (hs : s.size ≤ 9223372036854775807) (w : World) : Calls Tryz.prog 90 #[.string s] w fun e w' => e = .returned (.int .i64 (badV_C s)) ∧ Bel w w' := by
  go_enter Tryz.func90, Tryz.ntmps90
  go_wp2
  have hit0 : (w.iter s 0).heap[w.heap.size]? = some (.stringIter s 0) := World.iter_heap w s 0
  have hb0 : Bel w (w.iter s 0) := (Bel.refl w).alloc _
  have HB := Lib.hid (And.intro hit0 hb0)
  clear hit0 hb0
  go_loopg [] s.size (fun g wr => ∃ pos fuel : Nat, Hid (wr.heap[w.heap.size]? = some (.stringIter s pos)) ∧ Bel w wr ∧ Hid (badV_C s = badFrom s fuel pos ∧ s.size ≤ fuel + pos ∧ g = s.size - pos))
  case atStart => exact ⟨0, s.size, HB.out.1, HB.out.2, ⟨rfl, by omega, rfl⟩⟩
  case round =>
    obtain ⟨pos, fuel, hit, hb, hh⟩ := hrel
    by_cases hp : pos < s.size
    · have hd := decode_is s pos hp
      have hr := decode_le s pos
      have hok := okAt_is s pos
      obtain ⟨r, hr0⟩ : ∃ r, r = (dec (gOf s pos) (s.size - pos)).1 := ⟨_, rfl⟩
      rw [hd, ← hr0] at hr
      rw [← hr0] at hok
      have hr' := hr
      have hnx0 : ∀ ty, (Instr.next (.pointer (some ⟨w.heap.size, 0, none⟩)) true ty).run Tryz.prog wr = .ok (.tuple #[.bool true, .int .i64 pos, .int .i32 (r : Nat)]) (wr.iterAt w.heap.size s (pos + wdAt s pos)) := fun ty => by
        have h := Lib.run_next_any_at (P := Tryz.prog) wr w.heap.size s pos ty hit.out hp
        rw [hd, ← hr0] at h
        exact h
      have hit2 := Lib.hid (Lib.iterAt_heap wr w.heap.size s pos (pos + wdAt s pos) hit.out)
      have hb2 : Bel w (wr.iterAt w.heap.size s (pos + wdAt s pos)) := Lib.below_iterAt hb (k := w.heap.size) (Nat.le_refl _) s _
      obtain ⟨W2, hW2⟩ : ∃ W2, W2 = wr.iterAt w.heap.size s (pos + wdAt s pos) := ⟨_, rfl⟩
      rw [← hW2] at hit2 hb2
      have hnx : ∀ ty, (Instr.next (.pointer (some ⟨w.heap.size, 0, none⟩)) true ty).run Tryz.prog wr = .ok (.tuple #[.bool true, .int .i64 pos, .int .i32 (r : Nat)]) W2 := fun ty => by rw [hW2]; exact hnx0 ty
      obtain ⟨f, rfl⟩ : ∃ f, fuel = f + 1 := ⟨fuel - 1, by have := hh.out.2.1; omega⟩
      have hstep := hh.out.1
      rw [badFrom, if_pos hp] at hstep
      have hwd := wd_pos s pos
      have HOK := Lib.hid hok
      have HST := Lib.hid hstep
      have HWD := Lib.hid hwd
      have i1 : (pos : Int) < s.size := by omega
      have i2 : (s.size : Int) ≤ 9223372036854775807 := by omega
      clear hd hr hok hr0 hnx0 hW2 hstep hwd hb
      cases hv : sgn_C r with
      | false =>
        have HV := Lib.hid hv
        have L := Lib.hid (show badV_C s = pos by rw [HST.out, HOK.out, hv]; rfl)
        have HK := HV
        clear hv
        go_wp2_with (first
          | (go_at_call 118; refine (valid_any r hr' _).mono ?_; rintro e V1 ⟨rfl, rfl⟩; rw [HV.out])
          | (go_at_call 119; refine (broken_any _ r hr' _).mono ?_; rintro e V2 ⟨rfl, rfl⟩; rw [HK.out]))
        go_ret
        exact ⟨by (rw [L.out]) <;> rfl, hb2⟩
      | true =>
        have HV := Lib.hid hv
        cases hk : brokenB (s.extract pos s.size) r with
        | true =>
          have HK := Lib.hid hk
          have L := Lib.hid (show badV_C s = pos by rw [HST.out, HOK.out, hv, hk]; rfl)
          clear hv hk
          go_wp2_with (first
            | (go_at_call 118; refine (valid_any r hr' _).mono ?_; rintro e V1 ⟨rfl, rfl⟩; rw [HV.out])
            | (go_at_call 119; refine (broken_any _ r hr' _).mono ?_; rintro e V2 ⟨rfl, rfl⟩; rw [HK.out]))
          go_ret
          exact ⟨by (rw [L.out]) <;> rfl, hb2⟩
        | false =>
          have HK := Lib.hid hk
          have L := Lib.hid (show badV_C s = badFrom s f (pos + wdAt s pos) by rw [HST.out, HOK.out, hv, hk]; rfl)
          clear hv hk
          go_wp2_with (first
            | (go_at_call 118; refine (valid_any r hr' _).mono ?_; rintro e V1 ⟨rfl, rfl⟩; rw [HV.out])
            | (go_at_call 119; refine (broken_any _ r hr' _).mono ?_; rintro e V2 ⟨rfl, rfl⟩; rw [HK.out]))
          go_roundg (s.size - (pos + wdAt s pos))
          case measure => have := hh.out.2.2; have := HWD.out; omega
          case rel => exact ⟨pos + wdAt s pos, f, hit2, hb2, ⟨L.out, by have := hh.out.2.1; have := HWD.out; omega, rfl⟩⟩
    · have hnx : ∀ ty, (Instr.next (.pointer (some ⟨w.heap.size, 0, none⟩)) true ty).run Tryz.prog wr = .ok (.tuple #[.bool false]) wr := fun ty => Lib.run_next_end_at wr w.heap.size s pos ty hit.out hp
      have L := Lib.hid (show badV_C s = -1 by
        rw [hh.out.1]
        cases fuel with
        | zero => rfl
        | succ f => rw [badFrom, if_neg hp])
      go_wp2
      go_ret
      exact ⟨by (rw [L.out]) <;> rfl, hb⟩
def accF (r0 : Nat) (g : Nat → Nat) : Nat → Nat
  | 0 => r0
  | k + 1 => accF r0 g k * 64 + (g (k + 1) - 0x80)
def conts (g : Nat → Nat) (k : Nat) : Prop := ∀ i, 1 ≤ i → i ≤ k → 0x80 ≤ g i ∧ g i < 0xC0
instance (g : Nat → Nat) (k : Nat) : Decidable (conts g k) := by
  have : conts g k ↔ ∀ i, i < k → 0x80 ≤ g (i + 1) ∧ g (i + 1) < 0xC0 := by
    constructor
    · intro h i hi; exact h (i + 1) (by omega) (by omega)
    · intro h i h1 h2
      have := h (i - 1) (by omega)
      rwa [show i - 1 + 1 = i by omega] at this
  exact decidable_of_iff _ this.symm
/-- What comes out of so many bytes. -/
def firstT (r0 n least : Nat) (g : Nat → Nat) (m : Nat) : Nat × Nat :=
  if n ≤ m ∧ conts g (n - 1) ∧ least ≤ accF r0 g (n - 1) ∧ sgn_C (accF r0 g (n - 1)) = true then (accF r0 g (n - 1), n) else (0, 0)
theorem conts1 (g : Nat → Nat) : conts g 0 := fun i h1 h2 => by omega
theorem conts_s (g : Nat → Nat) (k : Nat) : conts g (k + 1) ↔ conts g k ∧ 0x80 ≤ g (k + 1) ∧ g (k + 1) < 0xC0 := by
  constructor
  · intro h; exact ⟨fun i h1 h2 => h i h1 (by omega), h (k + 1) (by omega) (by omega)⟩
  · rintro ⟨h, h'⟩ i h1 h2
    by_cases hi : i = k + 1
    · subst hi; exact h'
    · exact h i h1 (by omega)
theorem first_T (g : Nat → Nat) (m : Nat) (hm : 0 < m) : first g m = if g 0 < 0x80 then firstT (g 0) 1 0 g m else if 0xC0 ≤ g 0 ∧ g 0 < 0xE0 then firstT (g 0 - 0xC0) 2 0x80 g m
    else if 0xE0 ≤ g 0 ∧ g 0 < 0xF0 then firstT (g 0 - 0xE0) 3 0x800 g m else if 0xF0 ≤ g 0 ∧ g 0 < 0xF8 then firstT (g 0 - 0xF0) 4 0x10000 g m else (0, 0) := by
  unfold first firstT
  refine ite_ext Iff.rfl (fun _ => ite_ext ?_ (fun _ => rfl) fun _ => rfl) fun _ => ite_ext Iff.rfl (fun _ => ite_ext ?_ (fun _ => rfl) fun _ => rfl) fun _ => ite_ext Iff.rfl (fun _ => ite_ext ?_ (fun _ => rfl) fun _ => rfl) fun _ => ite_ext Iff.rfl (fun _ => ite_ext ?_ (fun _ => rfl) fun _ => rfl) fun _ => rfl
  · exact ⟨fun h => ⟨hm, conts1 g, Nat.zero_le _, h⟩, fun h => h.2.2.2⟩
  · rw [show (2 : Nat) - 1 = 0 + 1 from rfl, conts_s]
    exact ⟨fun ⟨a, b, c, d, e⟩ => ⟨a, ⟨conts1 g, b, c⟩, d, e⟩, fun ⟨a, ⟨_, b, c⟩, d, e⟩ => ⟨a, b, c, d, e⟩⟩
  · rw [show (3 : Nat) - 1 = 0 + 1 + 1 from rfl, conts_s, conts_s]
    exact ⟨fun ⟨a, b, c, b', c', d, e⟩ => ⟨a, ⟨⟨conts1 g, b, c⟩, b', c'⟩, d, e⟩, fun ⟨a, ⟨⟨_, b, c⟩, b', c'⟩, d, e⟩ => ⟨a, b, c, b', c', d, e⟩⟩
  · rw [show (4 : Nat) - 1 = 0 + 1 + 1 + 1 from rfl, conts_s, conts_s, conts_s]
    exact ⟨fun ⟨a, b, c, b', c', b'', c'', d, e⟩ => ⟨a, ⟨⟨⟨conts1 g, b, c⟩, b', c'⟩, b'', c''⟩, d, e⟩, fun ⟨a, ⟨⟨⟨_, b, c⟩, b', c'⟩, b'', c''⟩, d, e⟩ => ⟨a, b, c, b', c', b'', c'', d, e⟩⟩
theorem gOf_at (s : ByteArray) (i : Nat) (h : i < s.size) : (s[i]'h).toNat = gOf s 0 i := by
  rw [gOf, Nat.zero_add, get_list, List.getD_eq_getElem?_getD, List.getElem?_eq_getElem (by rw [size_list_C]; exact h)]; rfl
theorem acc_bd (r0 : Nat) (g : Nat → Nat) (h : r0 ≤ 127) (hg : ∀ i, g i < 256) (k : Nat) (hk : k ≤ 3) : accF r0 g k ≤ 40000000 := by
  have st : ∀ j, accF r0 g (j + 1) ≤ accF r0 g j * 64 + 127 := fun j => by
    have := hg (j + 1)
    show accF r0 g j * 64 + (g (j + 1) - 0x80) ≤ _
    omega
  have s0 : accF r0 g 0 ≤ 127 := h
  have s1 : accF r0 g 1 ≤ accF r0 g 0 * 64 + 127 := st 0
  have s2 : accF r0 g 2 ≤ accF r0 g 1 * 64 + 127 := st 1
  have s3 : accF r0 g 3 ≤ accF r0 g 2 * 64 + 127 := st 2
  have hc : k = 0 ∨ k = 1 ∨ k = 2 ∨ k = 3 := by omega
  rcases hc with rfl | rfl | rfl | rfl <;> omega
set_option maxRecDepth 100000 in
set_option maxHeartbeats 8000000 in
theorem rfirst_any (s : ByteArray) (h0 : 0 < s.size) (hs : s.size ≤ 9223372036854775807) (w : World) : Calls Tryz.prog 152 #[.string s] w fun e w' => e = .returned (.tuple #[.int .i64 ((first (gOf s 0) s.size).1 : Nat), .int .i64 ((first (gOf s 0) s.size).2 : Nat)]) ∧ w' = w := by
  have hF := first_T (gOf s 0) s.size h0
  have hg := gOf_lt s 0
  have e0 := gOf_at s 0 h0
  have i0 : (0 : Int) < s.size := by omega
  have i1 : (s.size : Int) ≤ 9223372036854775807 := by omega
  have b0 := hg 0
  have HG := Lib.hid hg
  have HA := Lib.hid (gOf_at s)
  by_cases c5 : gOf s 0 0 < 0x80 ∨ (0xC0 ≤ gOf s 0 0 ∧ gOf s 0 0 < 0xF8)
  · have hc4 : (gOf s 0 0 < 0x80) ∨ (0xC0 ≤ gOf s 0 0 ∧ gOf s 0 0 < 0xE0) ∨ (0xE0 ≤ gOf s 0 0 ∧ gOf s 0 0 < 0xF0) ∨ (0xF0 ≤ gOf s 0 0 ∧ gOf s 0 0 < 0xF8) := by omega
    clear c5
    rcases hc4 with cc | cc | cc | cc
    · have hT : first (gOf s 0) s.size = firstT (gOf s 0 0) 1 0 (gOf s 0) s.size := by rw [hF, if_pos cc]
      obtain ⟨R, hR⟩ : ∃ R, R = gOf s 0 0 := ⟨_, rfl⟩
      rw [← hR] at hT
      have hRi : (s[0].toNat : Int) = (R : Int) := by omega
      have hR127 : R ≤ 127 := by omega
      have b1 : (0 : Int) ≤ s[0].toNat := by omega
      have b2 : (s[0].toNat : Int) < 128 := by omega
      have BD := Lib.hid (fun k hk => acc_bd R (gOf s 0) hR127 HG.out k hk)
      have HT := Lib.hid hT
      have HRI := Lib.hid hRi
      have RB := Lib.hid hR127
      clear hF hT hRi hR127 hR cc hg b0 e0
      by_cases hm : (s.size : Int) < 1
      · have L := Lib.hid (show first (gOf s 0) s.size = (0, 0) by rw [HT.out, firstT, if_neg (fun h => by have := h.1; omega)])
        go_enter Tryz.func152, Tryz.ntmps152
        go_wp2
        go_ret2
        exact ⟨by (rw [L.out]) <;> rfl, rfl⟩
      · go_enter Tryz.func152, Tryz.ntmps152
        go_wp2_with fail
        go_loopg [6, 8] 1 (fun g v6 v8 wr => ∃ k : Nat, v6 = .int .i64 ((accF R (gOf s 0) k : Nat) : Int) ∧ v8 = .int .i64 ((k : Int) + 1) ∧ Hid (k ≤ 1 - 1 ∧ conts (gOf s 0) k ∧ g = 1 - k) ∧ wr = w)
        case atStart => exact ⟨0, by first | rw [HRI.out]; rfl | (rw [← HRI.out]; rfl), rfl, ⟨by omega, conts1 _, rfl⟩, rfl⟩
        case round =>
          obtain ⟨k, rfl, rfl, hh, rfl⟩ := hrel
          obtain ⟨hk, hct, -⟩ := hh.out
          have hbd := BD.out k (by omega)
          have hbi : ((accF R (gOf s 0) k : Nat) : Int) ≤ 40000000 := by omega
          by_cases hlt : k + 1 < 1
          · have hks : k + 1 < s.size := by omega
            have hga := HA.out (k + 1) hks
            have hg1 := HG.out (k + 1)
            have CS := Lib.hid (conts_s (gOf s 0) k)
            have HAC := Lib.hid (show accF R (gOf s 0) (k + 1) = accF R (gOf s 0) k * 64 + (gOf s 0 (k + 1) - 0x80) from rfl)
            have k1 : (k : Int) + 1 < 1 := by omega
            have k2 : (k : Int) + 1 < s.size := by omega
            rw [← hga] at CS HAC hg1
            obtain ⟨a, ha⟩ : ∃ a, a = accF R (gOf s 0) k := ⟨_, rfl⟩
            rw [← ha] at hbi HAC ⊢
            have k3 : (s[k + 1].toNat : Int) ≤ 255 := by omega
            by_cases hc : 0x80 ≤ s[k + 1].toNat ∧ s[k + 1].toNat < 0xC0
            · obtain ⟨hc1, hc2⟩ := hc
              have k4 : (128 : Int) ≤ s[k + 1].toNat := by omega
              have k5 : (s[k + 1].toNat : Int) < 192 := by omega
              have NC := Lib.hid (CS.out.2 ⟨hct, hc1, hc2⟩)
              have E := Lib.hid (show (a : Int) * 64 + (s[k + 1].toNat : Int) - 128 = ((accF R (gOf s 0) (k + 1) : Nat) : Int) by rw [HAC.out]; omega)
              clear hbd ha hga hg1 hc1 hc2 hk hct
              exfalso; omega
            · have L := Lib.hid (show first (gOf s 0) s.size = (0, 0) by
                rw [HT.out, firstT, if_neg (fun h => hc (by rw [hga]; exact h.2.1 (k + 1) (by omega) (by omega)))])
              have k4 : (s[k + 1].toNat : Int) < 128 ∨ (192 : Int) ≤ s[k + 1].toNat := by omega
              clear hbd ha hga hg1 hc hk hct
              rcases k4 with k4 | k4
              all_goals
                exfalso; omega
          · obtain rfl : k = 1 - 1 := by omega
            have hsg := fun w => rsign_any (accF R (gOf s 0) (1 - 1)) (by omega) w
            have HF2 := Lib.hid (show firstT R 1 0 (gOf s 0) s.size = if 1 ≤ s.size ∧ conts (gOf s 0) (1 - 1) ∧ 0 ≤ accF R (gOf s 0) (1 - 1) ∧ sgn_C (accF R (gOf s 0) (1 - 1)) = true then (accF R (gOf s 0) (1 - 1), 1) else (0, 0) from rfl)
            obtain ⟨a, ha⟩ : ∃ a, a = accF R (gOf s 0) (1 - 1) := ⟨_, rfl⟩
            rw [← ha] at hbi hsg HF2 ⊢
            have HSG := Lib.hid hsg
            have HCT := Lib.hid hct
            clear hbd ha hsg hk hct
            have hns : 1 ≤ s.size := by omega
            cases hsv : sgn_C a with
            | false =>
              have HSV := Lib.hid hsv
              have L := Lib.hid (show first (gOf s 0) s.size = (0, 0) by rw [HT.out, HF2.out, if_neg (fun h => by have := h.2.2.2; rw [hsv] at this; cases this)])
              clear hsv hns
              by_cases hl : (a : Int) < 0
              · exfalso; omega
              · go_wp2_with (go_at_call 177; refine (HSG.out _).mono ?_; rintro e W1 ⟨rfl, rfl⟩; rw [HSV.out])
                go_ret2
                exact ⟨by (rw [L.out]) <;> rfl, rfl⟩
            | true =>
              have HSV := Lib.hid hsv
              by_cases hl : (a : Int) < 0
              · exfalso; omega
              · have L := Lib.hid (show first (gOf s 0) s.size = (a, 1) by rw [HT.out, HF2.out, if_pos ⟨hns, HCT.out, by omega, hsv⟩])
                clear hsv hns
                go_wp2_with (go_at_call 177; refine (HSG.out _).mono ?_; rintro e W1 ⟨rfl, rfl⟩; rw [HSV.out])
                go_ret2
                exact ⟨by (rw [L.out]) <;> rfl, rfl⟩
    · have hT : first (gOf s 0) s.size = firstT (gOf s 0 0 - 0xC0) 2 128 (gOf s 0) s.size := by rw [hF, if_neg (by omega), if_pos cc]
      obtain ⟨R, hR⟩ : ∃ R, R = gOf s 0 0 - 0xC0 := ⟨_, rfl⟩
      rw [← hR] at hT
      have hRi : (s[0].toNat : Int) - 192 = (R : Int) := by omega
      have hR127 : R ≤ 127 := by omega
      have b1 : (192 : Int) ≤ s[0].toNat := by omega
      have b2 : (s[0].toNat : Int) < 224 := by omega
      have BD := Lib.hid (fun k hk => acc_bd R (gOf s 0) hR127 HG.out k hk)
      have HT := Lib.hid hT
      have HRI := Lib.hid hRi
      have RB := Lib.hid hR127
      clear hF hT hRi hR127 hR cc hg b0 e0
      by_cases hm : (s.size : Int) < 2
      · have L := Lib.hid (show first (gOf s 0) s.size = (0, 0) by rw [HT.out, firstT, if_neg (fun h => by have := h.1; omega)])
        go_enter Tryz.func152, Tryz.ntmps152
        go_wp2
        go_ret2
        exact ⟨by (rw [L.out]) <;> rfl, rfl⟩
      · go_enter Tryz.func152, Tryz.ntmps152
        go_wp2_with fail
        go_loopg [6, 8] 2 (fun g v6 v8 wr => ∃ k : Nat, v6 = .int .i64 ((accF R (gOf s 0) k : Nat) : Int) ∧ v8 = .int .i64 ((k : Int) + 1) ∧ Hid (k ≤ 2 - 1 ∧ conts (gOf s 0) k ∧ g = 2 - k) ∧ wr = w)
        case atStart => exact ⟨0, by first | rw [HRI.out]; rfl | (rw [← HRI.out]; rfl), rfl, ⟨by omega, conts1 _, rfl⟩, rfl⟩
        case round =>
          obtain ⟨k, rfl, rfl, hh, rfl⟩ := hrel
          obtain ⟨hk, hct, -⟩ := hh.out
          have hbd := BD.out k (by omega)
          have hbi : ((accF R (gOf s 0) k : Nat) : Int) ≤ 40000000 := by omega
          by_cases hlt : k + 1 < 2
          · have hks : k + 1 < s.size := by omega
            have hga := HA.out (k + 1) hks
            have hg1 := HG.out (k + 1)
            have CS := Lib.hid (conts_s (gOf s 0) k)
            have HAC := Lib.hid (show accF R (gOf s 0) (k + 1) = accF R (gOf s 0) k * 64 + (gOf s 0 (k + 1) - 0x80) from rfl)
            have k1 : (k : Int) + 1 < 2 := by omega
            have k2 : (k : Int) + 1 < s.size := by omega
            rw [← hga] at CS HAC hg1
            obtain ⟨a, ha⟩ : ∃ a, a = accF R (gOf s 0) k := ⟨_, rfl⟩
            rw [← ha] at hbi HAC ⊢
            have k3 : (s[k + 1].toNat : Int) ≤ 255 := by omega
            by_cases hc : 0x80 ≤ s[k + 1].toNat ∧ s[k + 1].toNat < 0xC0
            · obtain ⟨hc1, hc2⟩ := hc
              have k4 : (128 : Int) ≤ s[k + 1].toNat := by omega
              have k5 : (s[k + 1].toNat : Int) < 192 := by omega
              have NC := Lib.hid (CS.out.2 ⟨hct, hc1, hc2⟩)
              have E := Lib.hid (show (a : Int) * 64 + (s[k + 1].toNat : Int) - 128 = ((accF R (gOf s 0) (k + 1) : Nat) : Int) by rw [HAC.out]; omega)
              clear hbd ha hga hg1 hc1 hc2 hk hct
              · go_wp2
                go_roundg (gk - 1)
                case measure => have := hh.out.2.2; omega
                case rel => exact ⟨k + 1, by rw [E.out], by go_num, ⟨by omega, NC.out, by have := hh.out.2.2; omega⟩, rfl⟩
            · have L := Lib.hid (show first (gOf s 0) s.size = (0, 0) by
                rw [HT.out, firstT, if_neg (fun h => hc (by rw [hga]; exact h.2.1 (k + 1) (by omega) (by omega)))])
              have k4 : (s[k + 1].toNat : Int) < 128 ∨ (192 : Int) ≤ s[k + 1].toNat := by omega
              clear hbd ha hga hg1 hc hk hct
              rcases k4 with k4 | k4
              all_goals
                · go_wp2
                  go_ret2
                  exact ⟨by (rw [L.out]) <;> rfl, rfl⟩
          · obtain rfl : k = 2 - 1 := by omega
            have hsg := fun w => rsign_any (accF R (gOf s 0) (2 - 1)) (by omega) w
            have HF2 := Lib.hid (show firstT R 2 128 (gOf s 0) s.size = if 2 ≤ s.size ∧ conts (gOf s 0) (2 - 1) ∧ 128 ≤ accF R (gOf s 0) (2 - 1) ∧ sgn_C (accF R (gOf s 0) (2 - 1)) = true then (accF R (gOf s 0) (2 - 1), 2) else (0, 0) from rfl)
            obtain ⟨a, ha⟩ : ∃ a, a = accF R (gOf s 0) (2 - 1) := ⟨_, rfl⟩
            rw [← ha] at hbi hsg HF2 ⊢
            have HSG := Lib.hid hsg
            have HCT := Lib.hid hct
            clear hbd ha hsg hk hct
            have hns : 2 ≤ s.size := by omega
            cases hsv : sgn_C a with
            | false =>
              have HSV := Lib.hid hsv
              have L := Lib.hid (show first (gOf s 0) s.size = (0, 0) by rw [HT.out, HF2.out, if_neg (fun h => by have := h.2.2.2; rw [hsv] at this; cases this)])
              clear hsv hns
              by_cases hl : (a : Int) < 128
              · · go_wp2_with fail
                  go_ret2
                  exact ⟨by (rw [L.out]) <;> rfl, rfl⟩
              · go_wp2_with (go_at_call 177; refine (HSG.out _).mono ?_; rintro e W1 ⟨rfl, rfl⟩; rw [HSV.out])
                go_ret2
                exact ⟨by (rw [L.out]) <;> rfl, rfl⟩
            | true =>
              have HSV := Lib.hid hsv
              by_cases hl : (a : Int) < 128
              · · have L := Lib.hid (show first (gOf s 0) s.size = (0, 0) by rw [HT.out, HF2.out, if_neg (fun h => by have := h.2.2.1; omega)])
                  clear hsv hns
                  go_wp2_with fail
                  go_ret2
                  exact ⟨by (rw [L.out]) <;> rfl, rfl⟩
              · have L := Lib.hid (show first (gOf s 0) s.size = (a, 2) by rw [HT.out, HF2.out, if_pos ⟨hns, HCT.out, by omega, hsv⟩])
                clear hsv hns
                go_wp2_with (go_at_call 177; refine (HSG.out _).mono ?_; rintro e W1 ⟨rfl, rfl⟩; rw [HSV.out])
                go_ret2
                exact ⟨by (rw [L.out]) <;> rfl, rfl⟩
    · have hT : first (gOf s 0) s.size = firstT (gOf s 0 0 - 0xE0) 3 2048 (gOf s 0) s.size := by rw [hF, if_neg (by omega), if_neg (by omega), if_pos cc]
      obtain ⟨R, hR⟩ : ∃ R, R = gOf s 0 0 - 0xE0 := ⟨_, rfl⟩
      rw [← hR] at hT
      have hRi : (s[0].toNat : Int) - 224 = (R : Int) := by omega
      have hR127 : R ≤ 127 := by omega
      have b1 : (224 : Int) ≤ s[0].toNat := by omega
      have b2 : (s[0].toNat : Int) < 240 := by omega
      have BD := Lib.hid (fun k hk => acc_bd R (gOf s 0) hR127 HG.out k hk)
      have HT := Lib.hid hT
      have HRI := Lib.hid hRi
      have RB := Lib.hid hR127
      clear hF hT hRi hR127 hR cc hg b0 e0
      by_cases hm : (s.size : Int) < 3
      · have L := Lib.hid (show first (gOf s 0) s.size = (0, 0) by rw [HT.out, firstT, if_neg (fun h => by have := h.1; omega)])
        go_enter Tryz.func152, Tryz.ntmps152
        go_wp2
        go_ret2
        exact ⟨by (rw [L.out]) <;> rfl, rfl⟩
      · go_enter Tryz.func152, Tryz.ntmps152
        go_wp2_with fail
        go_loopg [6, 8] 3 (fun g v6 v8 wr => ∃ k : Nat, v6 = .int .i64 ((accF R (gOf s 0) k : Nat) : Int) ∧ v8 = .int .i64 ((k : Int) + 1) ∧ Hid (k ≤ 3 - 1 ∧ conts (gOf s 0) k ∧ g = 3 - k) ∧ wr = w)
        case atStart => exact ⟨0, by first | rw [HRI.out]; rfl | (rw [← HRI.out]; rfl), rfl, ⟨by omega, conts1 _, rfl⟩, rfl⟩
        case round =>
          obtain ⟨k, rfl, rfl, hh, rfl⟩ := hrel
          obtain ⟨hk, hct, -⟩ := hh.out
          have hbd := BD.out k (by omega)
          have hbi : ((accF R (gOf s 0) k : Nat) : Int) ≤ 40000000 := by omega
          by_cases hlt : k + 1 < 3
          · have hks : k + 1 < s.size := by omega
            have hga := HA.out (k + 1) hks
            have hg1 := HG.out (k + 1)
            have CS := Lib.hid (conts_s (gOf s 0) k)
            have HAC := Lib.hid (show accF R (gOf s 0) (k + 1) = accF R (gOf s 0) k * 64 + (gOf s 0 (k + 1) - 0x80) from rfl)
            have k1 : (k : Int) + 1 < 3 := by omega
            have k2 : (k : Int) + 1 < s.size := by omega
            rw [← hga] at CS HAC hg1
            obtain ⟨a, ha⟩ : ∃ a, a = accF R (gOf s 0) k := ⟨_, rfl⟩
            rw [← ha] at hbi HAC ⊢
            have k3 : (s[k + 1].toNat : Int) ≤ 255 := by omega
            by_cases hc : 0x80 ≤ s[k + 1].toNat ∧ s[k + 1].toNat < 0xC0
            · obtain ⟨hc1, hc2⟩ := hc
              have k4 : (128 : Int) ≤ s[k + 1].toNat := by omega
              have k5 : (s[k + 1].toNat : Int) < 192 := by omega
              have NC := Lib.hid (CS.out.2 ⟨hct, hc1, hc2⟩)
              have E := Lib.hid (show (a : Int) * 64 + (s[k + 1].toNat : Int) - 128 = ((accF R (gOf s 0) (k + 1) : Nat) : Int) by rw [HAC.out]; omega)
              clear hbd ha hga hg1 hc1 hc2 hk hct
              · go_wp2
                go_roundg (gk - 1)
                case measure => have := hh.out.2.2; omega
                case rel => exact ⟨k + 1, by rw [E.out], by go_num, ⟨by omega, NC.out, by have := hh.out.2.2; omega⟩, rfl⟩
            · have L := Lib.hid (show first (gOf s 0) s.size = (0, 0) by
                rw [HT.out, firstT, if_neg (fun h => hc (by rw [hga]; exact h.2.1 (k + 1) (by omega) (by omega)))])
              have k4 : (s[k + 1].toNat : Int) < 128 ∨ (192 : Int) ≤ s[k + 1].toNat := by omega
              clear hbd ha hga hg1 hc hk hct
              rcases k4 with k4 | k4
              all_goals
                · go_wp2
                  go_ret2
                  exact ⟨by (rw [L.out]) <;> rfl, rfl⟩
          · obtain rfl : k = 3 - 1 := by omega
            have hsg := fun w => rsign_any (accF R (gOf s 0) (3 - 1)) (by omega) w
            have HF2 := Lib.hid (show firstT R 3 2048 (gOf s 0) s.size = if 3 ≤ s.size ∧ conts (gOf s 0) (3 - 1) ∧ 2048 ≤ accF R (gOf s 0) (3 - 1) ∧ sgn_C (accF R (gOf s 0) (3 - 1)) = true then (accF R (gOf s 0) (3 - 1), 3) else (0, 0) from rfl)
            obtain ⟨a, ha⟩ : ∃ a, a = accF R (gOf s 0) (3 - 1) := ⟨_, rfl⟩
            rw [← ha] at hbi hsg HF2 ⊢
            have HSG := Lib.hid hsg
            have HCT := Lib.hid hct
            clear hbd ha hsg hk hct
            have hns : 3 ≤ s.size := by omega
            cases hsv : sgn_C a with
            | false =>
              have HSV := Lib.hid hsv
              have L := Lib.hid (show first (gOf s 0) s.size = (0, 0) by rw [HT.out, HF2.out, if_neg (fun h => by have := h.2.2.2; rw [hsv] at this; cases this)])
              clear hsv hns
              by_cases hl : (a : Int) < 2048
              · · go_wp2_with fail
                  go_ret2
                  exact ⟨by (rw [L.out]) <;> rfl, rfl⟩
              · go_wp2_with (go_at_call 177; refine (HSG.out _).mono ?_; rintro e W1 ⟨rfl, rfl⟩; rw [HSV.out])
                go_ret2
                exact ⟨by (rw [L.out]) <;> rfl, rfl⟩
            | true =>
              have HSV := Lib.hid hsv
              by_cases hl : (a : Int) < 2048
              · · have L := Lib.hid (show first (gOf s 0) s.size = (0, 0) by rw [HT.out, HF2.out, if_neg (fun h => by have := h.2.2.1; omega)])
                  clear hsv hns
                  go_wp2_with fail
                  go_ret2
                  exact ⟨by (rw [L.out]) <;> rfl, rfl⟩
              · have L := Lib.hid (show first (gOf s 0) s.size = (a, 3) by rw [HT.out, HF2.out, if_pos ⟨hns, HCT.out, by omega, hsv⟩])
                clear hsv hns
                go_wp2_with (go_at_call 177; refine (HSG.out _).mono ?_; rintro e W1 ⟨rfl, rfl⟩; rw [HSV.out])
                go_ret2
                exact ⟨by (rw [L.out]) <;> rfl, rfl⟩
    · have hT : first (gOf s 0) s.size = firstT (gOf s 0 0 - 0xF0) 4 65536 (gOf s 0) s.size := by rw [hF, if_neg (by omega), if_neg (by omega), if_neg (by omega), if_pos cc]
      obtain ⟨R, hR⟩ : ∃ R, R = gOf s 0 0 - 0xF0 := ⟨_, rfl⟩
      rw [← hR] at hT
      have hRi : (s[0].toNat : Int) - 240 = (R : Int) := by omega
      have hR127 : R ≤ 127 := by omega
      have b1 : (240 : Int) ≤ s[0].toNat := by omega
      have b2 : (s[0].toNat : Int) < 248 := by omega
      have BD := Lib.hid (fun k hk => acc_bd R (gOf s 0) hR127 HG.out k hk)
      have HT := Lib.hid hT
      have HRI := Lib.hid hRi
      have RB := Lib.hid hR127
      clear hF hT hRi hR127 hR cc hg b0 e0
      by_cases hm : (s.size : Int) < 4
      · have L := Lib.hid (show first (gOf s 0) s.size = (0, 0) by rw [HT.out, firstT, if_neg (fun h => by have := h.1; omega)])
        go_enter Tryz.func152, Tryz.ntmps152
        go_wp2
        go_ret2
        exact ⟨by (rw [L.out]) <;> rfl, rfl⟩
      · go_enter Tryz.func152, Tryz.ntmps152
        go_wp2_with fail
        go_loopg [6, 8] 4 (fun g v6 v8 wr => ∃ k : Nat, v6 = .int .i64 ((accF R (gOf s 0) k : Nat) : Int) ∧ v8 = .int .i64 ((k : Int) + 1) ∧ Hid (k ≤ 4 - 1 ∧ conts (gOf s 0) k ∧ g = 4 - k) ∧ wr = w)
        case atStart => exact ⟨0, by first | rw [HRI.out]; rfl | (rw [← HRI.out]; rfl), rfl, ⟨by omega, conts1 _, rfl⟩, rfl⟩
        case round =>
          obtain ⟨k, rfl, rfl, hh, rfl⟩ := hrel
          obtain ⟨hk, hct, -⟩ := hh.out
          have hbd := BD.out k (by omega)
          have hbi : ((accF R (gOf s 0) k : Nat) : Int) ≤ 40000000 := by omega
          by_cases hlt : k + 1 < 4
          · have hks : k + 1 < s.size := by omega
            have hga := HA.out (k + 1) hks
            have hg1 := HG.out (k + 1)
            have CS := Lib.hid (conts_s (gOf s 0) k)
            have HAC := Lib.hid (show accF R (gOf s 0) (k + 1) = accF R (gOf s 0) k * 64 + (gOf s 0 (k + 1) - 0x80) from rfl)
            have k1 : (k : Int) + 1 < 4 := by omega
            have k2 : (k : Int) + 1 < s.size := by omega
            rw [← hga] at CS HAC hg1
            obtain ⟨a, ha⟩ : ∃ a, a = accF R (gOf s 0) k := ⟨_, rfl⟩
            rw [← ha] at hbi HAC ⊢
            have k3 : (s[k + 1].toNat : Int) ≤ 255 := by omega
            by_cases hc : 0x80 ≤ s[k + 1].toNat ∧ s[k + 1].toNat < 0xC0
            · obtain ⟨hc1, hc2⟩ := hc
              have k4 : (128 : Int) ≤ s[k + 1].toNat := by omega
              have k5 : (s[k + 1].toNat : Int) < 192 := by omega
              have NC := Lib.hid (CS.out.2 ⟨hct, hc1, hc2⟩)
              have E := Lib.hid (show (a : Int) * 64 + (s[k + 1].toNat : Int) - 128 = ((accF R (gOf s 0) (k + 1) : Nat) : Int) by rw [HAC.out]; omega)
              clear hbd ha hga hg1 hc1 hc2 hk hct
              · go_wp2
                go_roundg (gk - 1)
                case measure => have := hh.out.2.2; omega
                case rel => exact ⟨k + 1, by rw [E.out], by go_num, ⟨by omega, NC.out, by have := hh.out.2.2; omega⟩, rfl⟩
            · have L := Lib.hid (show first (gOf s 0) s.size = (0, 0) by
                rw [HT.out, firstT, if_neg (fun h => hc (by rw [hga]; exact h.2.1 (k + 1) (by omega) (by omega)))])
              have k4 : (s[k + 1].toNat : Int) < 128 ∨ (192 : Int) ≤ s[k + 1].toNat := by omega
              clear hbd ha hga hg1 hc hk hct
              rcases k4 with k4 | k4
              all_goals
                · go_wp2
                  go_ret2
                  exact ⟨by (rw [L.out]) <;> rfl, rfl⟩
          · obtain rfl : k = 4 - 1 := by omega
            have hsg := fun w => rsign_any (accF R (gOf s 0) (4 - 1)) (by omega) w
            have HF2 := Lib.hid (show firstT R 4 65536 (gOf s 0) s.size = if 4 ≤ s.size ∧ conts (gOf s 0) (4 - 1) ∧ 65536 ≤ accF R (gOf s 0) (4 - 1) ∧ sgn_C (accF R (gOf s 0) (4 - 1)) = true then (accF R (gOf s 0) (4 - 1), 4) else (0, 0) from rfl)
            obtain ⟨a, ha⟩ : ∃ a, a = accF R (gOf s 0) (4 - 1) := ⟨_, rfl⟩
            rw [← ha] at hbi hsg HF2 ⊢
            have HSG := Lib.hid hsg
            have HCT := Lib.hid hct
            clear hbd ha hsg hk hct
            have hns : 4 ≤ s.size := by omega
            cases hsv : sgn_C a with
            | false =>
              have HSV := Lib.hid hsv
              have L := Lib.hid (show first (gOf s 0) s.size = (0, 0) by rw [HT.out, HF2.out, if_neg (fun h => by have := h.2.2.2; rw [hsv] at this; cases this)])
              clear hsv hns
              by_cases hl : (a : Int) < 65536
              · · go_wp2_with fail
                  go_ret2
                  exact ⟨by (rw [L.out]) <;> rfl, rfl⟩
              · go_wp2_with (go_at_call 177; refine (HSG.out _).mono ?_; rintro e W1 ⟨rfl, rfl⟩; rw [HSV.out])
                go_ret2
                exact ⟨by (rw [L.out]) <;> rfl, rfl⟩
            | true =>
              have HSV := Lib.hid hsv
              by_cases hl : (a : Int) < 65536
              · · have L := Lib.hid (show first (gOf s 0) s.size = (0, 0) by rw [HT.out, HF2.out, if_neg (fun h => by have := h.2.2.1; omega)])
                  clear hsv hns
                  go_wp2_with fail
                  go_ret2
                  exact ⟨by (rw [L.out]) <;> rfl, rfl⟩
              · have L := Lib.hid (show first (gOf s 0) s.size = (a, 4) by rw [HT.out, HF2.out, if_pos ⟨hns, HCT.out, by omega, hsv⟩])
                clear hsv hns
                go_wp2_with (go_at_call 177; refine (HSG.out _).mono ?_; rintro e W1 ⟨rfl, rfl⟩; rw [HSV.out])
                go_ret2
                exact ⟨by (rw [L.out]) <;> rfl, rfl⟩
  · have L := Lib.hid (show first (gOf s 0) s.size = (0, 0) by
      rw [hF, if_neg (fun h => c5 (.inl h)), if_neg (fun h => c5 (.inr (by omega))), if_neg (fun h => c5 (.inr (by omega))), if_neg (fun h => c5 (.inr (by omega)))])
    have b1 : (128 : Int) ≤ s[0].toNat := by omega
    have b2 : (s[0].toNat : Int) < 192 ∨ (248 : Int) ≤ s[0].toNat := by omega
    have b3 : (s[0].toNat : Int) ≤ 255 := by omega
    clear hF c5 hg e0 b0
    rcases b2 with b2 | b2
    all_goals
      go_enter Tryz.func152, Tryz.ntmps152
      go_wp2
      go_ret2
      exact ⟨by (rw [L.out]) <;> rfl, rfl⟩
theorem firstT_le (r0 n least : Nat) (g : Nat → Nat) (m : Nat) : (firstT r0 n least g m).2 ≤ m := by
  unfold firstT
  split
  · rename_i h; exact h.1
  · exact Nat.zero_le _
theorem first_le (g : Nat → Nat) (m : Nat) (hm : 0 < m) : (first g m).2 ≤ m := by
  rw [first_T g m hm]
  split
  · exact firstT_le ..
  · split
    · exact firstT_le ..
    · split
      · exact firstT_le ..
      · split
        · exact firstT_le ..
        · exact Nat.zero_le _
theorem gOf_ext (s : ByteArray) (pos : Nat) : gOf (s.extract pos s.size) 0 = gOf s pos := by
  funext i
  rw [gOf_list, gOf_list, List.drop_zero, ext_end_C]
theorem first_ok (s : ByteArray) (pos : Nat) (h : pos < s.size) : (first (gOf s pos) (s.size - pos)).2 = if okAt s pos = true then wdAt s pos else 0 := by
  rw [← first_is (gOf s pos) (s.size - pos) (gOf_lt s pos) (by omega)]
  unfold okAt wdAt
  split <;> rfl
theorem ext_size (s : ByteArray) (pos : Nat) : (s.extract pos s.size).size = s.size - pos := by simp [ByteArray.size_extract]
set_option maxRecDepth 100000 in
set_option maxHeartbeats 4000000 in
theorem rbad_any (s : ByteArray) (hs : s.size ≤ 9223372036854775807) (w : World) : Calls Tryz.prog 127 #[.string s] w fun e w' => e = .returned (.int .i64 (badV_C s)) ∧ w' = w := by
  have hsi : (s.size : Int) ≤ 9223372036854775807 := by omega
  go_enter Tryz.func127, Tryz.ntmps127
  go_wp2_with fail
  go_loopg [3] s.size (fun g v wr => ∃ pos fuel : Nat, v = .int .i64 pos ∧ pos ≤ s.size ∧ Hid (badV_C s = badFrom s fuel pos ∧ s.size ≤ fuel + pos ∧ g = s.size - pos) ∧ wr = w)
  case atStart => exact ⟨0, s.size, rfl, Nat.zero_le _, ⟨rfl, by omega, rfl⟩, rfl⟩
  case round =>
    obtain ⟨pos, fuel, rfl, hpl, hh, rfl⟩ := hrel
    by_cases hp : pos < s.size
    · have hz : 0 < (s.extract pos s.size).size := by rw [ext_size]; omega
      have hc := fun w => rfirst_any (s.extract pos s.size) hz (by rw [ext_size]; omega) w
      rw [gOf_ext, ext_size] at hc
      have hle := first_le (gOf s pos) (s.size - pos) (by omega)
      have hok := first_ok s pos hp
      obtain ⟨f, rfl⟩ : ∃ f, fuel = f + 1 := ⟨fuel - 1, by have := hh.out.2.1; omega⟩
      have hstep := hh.out.1
      rw [badFrom, if_pos hp] at hstep
      have hwd := wd_pos s pos
      obtain ⟨a, ha⟩ : ∃ a, a = (first (gOf s pos) (s.size - pos)).1 := ⟨_, rfl⟩
      obtain ⟨n, hn⟩ : ∃ n, n = (first (gOf s pos) (s.size - pos)).2 := ⟨_, rfl⟩
      rw [← ha, ← hn] at hc
      rw [← hn] at hle hok
      have HC := Lib.hid hc
      have i1 : (pos : Int) < s.size := by omega
      have i2 : (n : Int) + pos ≤ s.size := by omega
      cases hv : okAt s pos with
      | false =>
        rw [hv, if_neg (by decide)] at hok
        rw [hv, if_neg (by decide)] at hstep
        have L := Lib.hid hstep
        subst hok
        clear hstep hwd hle hc ha hn hv hz
        go_wp2_with (go_at_call 152; refine (HC.out _).mono ?_; rintro e W1 ⟨rfl, rfl⟩)
        go_ret
        exact ⟨by (rw [L.out]) <;> rfl, rfl⟩
      | true =>
        rw [hv, if_pos rfl] at hok
        rw [hv, if_pos rfl] at hstep
        have L := Lib.hid (show badV_C s = badFrom s f (pos + n) by rw [hstep, hok])
        have n1 : (1 : Int) ≤ n := by omega
        have e1 : ((n : Int) == 0) = false := by rw [beq_eq_false_iff_ne]; omega
        clear hstep hwd hle hc ha hn hv hok hz
        go_wp2_with (go_at_call 152; refine (HC.out _).mono ?_; rintro e W1 ⟨rfl, rfl⟩)
        go_roundg (s.size - (pos + n))
        case measure => have := hh.out.2.2; omega
        case rel => exact ⟨pos + n, f, by go_num, by omega, ⟨L.out, by have := hh.out.2.1; omega, rfl⟩, rfl⟩
    · have L := Lib.hid (show badV_C s = -1 by
        rw [hh.out.1]
        cases fuel with
        | zero => rfl
        | succ f => rw [badFrom, if_neg hp])
      go_wp2_with fail
      go_ret
      exact ⟨by (rw [L.out]) <;> rfl, rfl⟩
def goodB (s : ByteArray) : Bool := decide (badV_C s = -1)
theorem badFrom_sg (s : ByteArray) (f : Nat) : ∀ pos, badFrom s f pos = -1 ∨ 0 ≤ badFrom s f pos := by
  induction f with
  | zero => intro pos; exact .inl rfl
  | succ f ih =>
    intro pos
    unfold badFrom
    split
    · split
      · exact ih _
      · exact .inr (by omega)
    · exact .inl rfl
theorem good_any (s : ByteArray) (hs : s.size ≤ 9223372036854775807) (w : World) : Calls Tryz.prog 58 #[.string s] w fun e w' => e = .returned (.bool (goodB s)) ∧ Bel w w' := by
  have hc := fun w => bad_any s hs w
  have h1 := badFrom_sg s s.size 0
  have L := Lib.hid (show goodB s = (badV_C s == -1) from rfl)
  obtain ⟨z, hz⟩ : ∃ z, z = badV_C s := ⟨_, rfl⟩
  rw [← hz] at hc L
  have HC := Lib.hid hc
  clear hc h1 hz
  go_enter Tryz.func58, Tryz.ntmps58
  go_wp2_with (go_at_call 90; refine (HC.out _).mono ?_; rintro e W1 ⟨rfl, hb⟩)
  go_ret
  exact ⟨by (rw [L.out]) <;> rfl, hb⟩
theorem rgood_any (s : ByteArray) (hs : s.size ≤ 9223372036854775807) (w : World) : Calls Tryz.prog 99 #[.string s] w fun e w' => e = .returned (.bool (goodB s)) ∧ w' = w := by
  have hc := fun w => rbad_any s hs w
  have h1 : badV_C s = -1 ∨ 0 ≤ badV_C s := badFrom_sg s s.size 0
  obtain ⟨z, hz⟩ : ∃ z, z = badV_C s := ⟨_, rfl⟩
  have L := Lib.hid (show goodB s = decide (z < 0) by rw [hz, goodB, decide_eq_decide]; omega)
  rw [← hz] at hc
  have HC := Lib.hid hc
  clear hc h1 hz
  go_enter Tryz.func99, Tryz.ntmps99
  go_wp2_with (go_at_call 127; refine (HC.out _).mono ?_; rintro e W1 ⟨rfl, rfl⟩)
  go_ret
  exact ⟨by (rw [L.out]) <;> rfl, rfl⟩
end
end Go.Proofs.YtpmmbcobjibpeaaGreatDoor
