import Derived.Test.YtjckpkamhdbcnaaGreatDoorZa
import Derived.Test.YtjckpkamhdbcnaaGreatDoorShelf
import Derived.Lib.Repeat
import Derived.Deep.LoopGhost
import Derived.Deep.CutBlock
import Derived.Deep.DeepCutAuto
import Derived.Lib.AtoiErrMem
import Derived.Deep.OwnRows
import Derived.Deep.QuietTactic
import Derived.BigQuiet
import Derived.Laws.RangeAny
import Derived.Lib.OthersKept
namespace Go.Proofs.YtjckpkamhdbcnaaGreatDoor
set_option maxRecDepth 100000
set_option maxHeartbeats 64000000
set_option linter.unusedSimpArgs false
set_option linter.unusedVariables false
section
def small (n : Int) : Prop := -999999999999 <= n /\ n <= 999999999999
instance (n : Int) : Decidable (small n) := inferInstanceAs (Decidable (_ /\ _))
def SndD (n s : Int) : Prop := 0 <= s /\ s <= 6 /\ small n /\ (s = 0 \/ n % 10 ≠ 0)
instance (n s : Int) : Decidable (SndD n s) := inferInstanceAs (Decidable (_ /\ _))
def trim (m : Nat) : Nat -> Nat × Nat
 | 0 => (m, 0)
 | s + 1 => if m % 10 = 0 then trim (m / 10) s else (m, s + 1)
theorem Qdm (s : Nat) : ∀ m, (trim m s).1 <= m /\ (trim m s).2 <= s := by
 induction s with
 | zero => intro m; simp [trim]
 | succ k ih =>
  intro m
  unfold trim
  split
  ·have := ih (m / 10); have := Nat.div_le_self m 10; omega
  simp
theorem Qdw (m s : Nat) (h : m % 10 ≠ 0) : trim m s = (m, s) := by
 cases s with
 | zero => rfl
 | succ k => unfold trim; rw [iN h]
theorem Qcn (m s : Nat) (h : m % 10 = 0) : trim m (s + 1) = trim (m / 10) s := by
 rw [trim]; rw [iP h]
theorem p10 (i : Nat) : 0 < 10 ^ i := Nat.pow_pos (by omega)
def P10 (k : Nat) : Nat := 10 ^ k
theorem Qw6 : P10 0 = 1 := rfl
theorem Qvp (k : Nat) : P10 (k + 1) = P10 k * 10 := Nat.pow_succ ..
theorem Qdn (k : Nat) : 0 < P10 k := p10 k
theorem Qmb {a b : Nat} (h : a <= b) : P10 a <= P10 b := Nat.pow_le_pow_right (by omega) h
theorem Qse {k : Nat} (h : k <= 18) : P10 k <= 1000000000000000000 := Qmb h
theorem Qs4 {k : Nat} (h : k <= 6) : P10 k <= 1000000 := Qmb h
end
section
open Go.RowKit
theorem Qmc (k : Nat) (hk : k <= 18) (w : World) : Calls Tryz.prog 119 #[.int .i64 k] w fun e w' => e = .returned (.int .i64 (P10 k)) /\ Bel w w' := by
 go_enter Tryz.func119, Tryz.ntmps119
 go_wp2
 go_loop [3, 5] (fun p i => ∃ j : Nat, j <= k /\ i = .int .i64 j /\ p = .int .i64 (P10 j)) (fun _ i => k - (intOf i).toNat)
 case atStart => exact ⟨0, Nat.zero_le _, rfl, by rw [Qw6]; rfl⟩
 case round =>
  obtain ⟨j, hj, rfl, rfl⟩ := hrel
  have h1 := Qse (show j <= 18 by omega)
  by_cases hlt : j < k
  ·have h2 := Qse (show j + 1 <= 18 by omega)
   have hs := Hd (Qvp j)
   have h3 : P10 j * 10 <= 1000000000000000000 := by rw [← hs.out]; exact h2
   clear h2
   go_wp2
   go_round
   case rel => exact ⟨j + 1, by omega, by go_num, by rw [hs.out]; go_num⟩
   case measure => simp [intOf]; omega
  obtain rfl : j = k := by omega
  go_wp2
  go_ret
  exact ⟨rfl, Bel.refl _⟩
def smallB (n : Int) : Bool := decide (small n)
theorem Qfd (n : Int) (w : World) : Calls Tryz.prog 71 #[.int .i64 n] w fun e w' => e = .returned (.bool (smallB n)) /\ Bel w w' := by
 have hl : Hid (smallB n = decide (-999999999999 <= n /\ n <= 999999999999)) := rfl
 by_cases h1 : -999999999999 <= n
 ·go_enter Tryz.func71, Tryz.ntmps71
  go_wp2
  go_ret
  exact ⟨by rw [hl.out]; simp [h1], Bel.refl _⟩
 have hf := Hd (show decide (-999999999999 <= n /\ n <= 999999999999) = false from dF fun h => h1 h.1)
 go_enter Tryz.func71, Tryz.ntmps71
 go_wp2
 go_ret
 exact ⟨by rw [hl.out, hf.out]; rfl, Bel.refl _⟩
abbrev Arr2 (w : World) (b : Nat) (x y : Int) : Prop :=
 b < w.heap.size /\ w.cell? ⟨b, 0, none⟩ = some (.int .i64 x) /\ w.cell? ⟨b, 1, none⟩ = some (.int .i64 y)
theorem Arr2.keep {w w' : World} {b : Nat} {x y : Int} (h : Arr2 w b x y) (hb : Bel w w') : Arr2 w' b x y := by
 obtain ⟨h0, h1, h2⟩ := h
 exact ⟨lL h0 hb.size, (hb.cells _ _ h0).trans h1, (hb.cells _ _ h0).trans h2⟩
def sndB (n s : Int) : Bool := decide (SndD n s)
theorem tmod10 (n : Int) : (n.tmod 10 != 0) = decide (n % 10 ≠ 0) := by
 have : n.tmod 10 = 0 ↔ n % 10 = 0 := by rw [← Int.dvd_iff_emod_eq_zero, Int.dvd_iff_tmod_eq_zero]
 rw [Bool.eq_iff_iff]; simp [this]
theorem Qdx (n s : Int) (w : World) : Calls Tryz.prog 41 #[.agg #[.int .i64 n, .int .i64 s]] w fun e w' => e = .returned (.bool (sndB n s)) /\ Bel w w' := by
 by_cases h : 0 <= s /\ s <= 6
 ·obtain ⟨h0, h6⟩ := h
  have k1 : decide (s < 0) = false := by simp; omega
  have k2 : decide (6 < s) = false := by simp; omega
  have k2' : decide (s > 6) = false := k2
  cases hs : smallB n with
  | true =>
   have hs' : small n := by simpa [smallB] using hs
   by_cases hz : s = 0
   ·have k3 : (s == 0) = true := by simp [hz]
    have hl : Hid (sndB n s = true) := by
     unfold Hid sndB; exact dT ⟨h0, h6, hs', .inl hz⟩
    clear hz h0 h6 hs'
    go_enter Tryz.func41, Tryz.ntmps41
    go_wp2_with (go_at_call 71; refine (Qfd n _).mono ?_; rintro e W1 ⟨rfl, hb1⟩; rw [hs]; have hc := hb1.cells; have := hb1.lt1)
    go_ret
    exact ⟨by rw [hl.out]; rfl, ((Bel.refl w).alloc _).trans hb1⟩
   ·have k3 : (s == 0) = false := by simp [hz]
    have hl : Hid (sndB n s = (n.tmod 10 != 0)) := by
     unfold Hid sndB; rw [tmod10]; simp only [SndD, h0, h6, hs', hz, true_and, false_or]
    clear hz h0 h6 hs'
    go_enter Tryz.func41, Tryz.ntmps41
    go_wp2_with (go_at_call 71; refine (Qfd n _).mono ?_; rintro e W1 ⟨rfl, hb1⟩; rw [hs]; have hc := hb1.cells; have := hb1.lt1)
    go_ret
    exact ⟨by (rw [hl.out]) <;> rfl, ((Bel.refl w).alloc _).trans hb1⟩
  | false =>
   have hl : Hid (sndB n s = false) := by
    unfold Hid sndB; exact dF fun h => by simp [smallB, h.2.2.1] at hs
   clear h0 h6
   go_enter Tryz.func41, Tryz.ntmps41
   go_wp2_with (go_at_call 71; refine (Qfd n _).mono ?_; rintro e W1 ⟨rfl, hb1⟩; rw [hs])
   go_ret
   exact ⟨by rw [hl.out]; rfl, ((Bel.refl w).alloc _).trans hb1⟩
 have hl : Hid (sndB n s = false) := by
  unfold Hid sndB; exact dF fun h' => h ⟨h'.1, h'.2.1⟩
 by_cases h0 : 0 <= s
 ·have k1 : decide (s < 0) = false := by simp; omega
  have k2 : decide (6 < s) = true := by simp; omega
  clear h
  go_enter Tryz.func41, Tryz.ntmps41
  go_wp2
  go_ret
  exact ⟨by rw [hl.out]; rfl, (Bel.refl w).alloc _⟩
 have k1 : decide (s < 0) = true := by simp; omega
 clear h
 go_enter Tryz.func41, Tryz.ntmps41
 go_wp2
 go_ret
 exact ⟨by rw [hl.out]; rfl, (Bel.refl w).alloc _⟩
abbrev Ar6 (w : World) (b : Nat) (x : Bool) (h l r o : Nat) (s : Int) : Prop :=
 b < w.heap.size /\ w.cell? ⟨b, 0, none⟩ = some (.bool x) /\ w.cell? ⟨b, 1, none⟩ = some (.int .u64 h) /\ w.cell? ⟨b, 2, none⟩ = some (.int .u64 l) /\
 w.cell? ⟨b, 3, none⟩ = some (.int .u64 r) /\ w.cell? ⟨b, 4, none⟩ = some (.int .u64 o) /\ w.cell? ⟨b, 5, none⟩ = some (.int .i64 s)
abbrev Fr6 (w : World) (b : Nat) : Prop := w.frozen? ⟨b, 0, none⟩ = false /\ w.frozen? ⟨b, 1, none⟩ = false /\ w.frozen? ⟨b, 2, none⟩ = false /\
 w.frozen? ⟨b, 3, none⟩ = false /\ w.frozen? ⟨b, 4, none⟩ = false /\ w.frozen? ⟨b, 5, none⟩ = false
abbrev Sl6 (w : World) (b : Nat) (x : Bool) (h l r o : Nat) (s : Int) : Prop := Ar6 w b x h l r o s /\ Fr6 w b
theorem Sl6.keep {w w' : World} {b : Nat} {x : Bool} {h l r o : Nat} {s : Int} (k : Sl6 w b x h l r o s) (hb : Bel w w') : Sl6 w' b x h l r o s := by
 obtain ⟨⟨h0, h1, h2, h3, h4, h5, h6⟩, hf⟩ := k
 refine ⟨⟨lL h0 hb.size, (hb.cells _ _ h0).trans h1, (hb.cells _ _ h0).trans h2, (hb.cells _ _ h0).trans h3, (hb.cells _ _ h0).trans h4, (hb.cells _ _ h0).trans h5, (hb.cells _ _ h0).trans h6⟩, ?_⟩
 simp only [Fr6, hb.frozens _ _ h0]
 exact hf
abbrev Fr2 (w : World) (b : Nat) : Prop := w.frozen? ⟨b, 0, none⟩ = false /\ w.frozen? ⟨b, 1, none⟩ = false
abbrev Sl2 (w : World) (b : Nat) (x y : Int) : Prop := Arr2 w b x y /\ Fr2 w b
theorem Sl2.keep {w w' : World} {b : Nat} {x y : Int} (k : Sl2 w b x y) (hb : Bel w w') : Sl2 w' b x y := by
 refine ⟨k.1.keep hb, ?_⟩
 simp only [Fr2, hb.frozens _ _ k.1.1]
 exact k.2
theorem Qbq (n : Int) : IntKind.u64.wrap n = n % 18446744073709551616 := by rw [IntKind.wrap_u64]
theorem Qgl {a b : Int} (h : a = b) : Ending.returned (.int .u64 a) = Ending.returned (.int .u64 b) := by rw [h]
theorem Qps (n : Int) (hn : In64 n) (w : World) : Calls Tryz.prog 156 #[.int .i64 n] w fun e w' => e = .returned (.int .u64 (n.natAbs : Int)) /\ Bel w w' := by
 obtain ⟨h0, h1⟩ := hn
 by_cases h : n < 0
 ·go_enter Tryz.func156, Tryz.ntmps156
  go_wp2
  go_ret
  exact ⟨Qgl (by rw [Qbq, Qbq]; omega), Bel.refl _⟩
 go_enter Tryz.func156, Tryz.ntmps156
 go_wp2
 go_ret
 exact ⟨Qgl (by omega), Bel.refl _⟩
abbrev wideV (neg : Bool) (hi lo rest of : Nat) (s : Int) : Value := .agg #[.bool neg, .int .u64 hi, .int .u64 lo, .int .u64 rest, .int .u64 of, .int .i64 s]
theorem Qb8 (n s : Int) (hn : In64 n) (w : World) : Calls Tryz.prog 115 #[.int .i64 n, .int .i64 s] w fun e w' => e = .returned (wideV (decide (n < 0)) 0 n.natAbs 0 1 s) /\ Bel w w' := by
 go_enter Tryz.func115, Tryz.ntmps115
 go_wp2_with fail
 refine Qac ((Bel.refl w).alloc _) fun W hc hf hz hb => ?_
 have hw : Sl6 W w.heap.size false 0 0 0 0 0 := by simp [Sl6, Ar6, Fr6, hz, hc, hf, go_sem]
 clear hc hf hz
 go_wp2_with (go_at_call 156; refine (Qps n hn _).mono ?_; rintro e W1 ⟨rfl, hb1⟩; replace hw := hw.keep hb1; replace hb := hb.trans hb1; clear hb1)
 refine pR (by simp [results, Tryz.results115, go_sem, hw]; try rfl) rfl ⟨rfl, ?_⟩
 exact (((((hb.setCell (by simp) _).setCell (by simp) _).setCell (by simp) _).setCell (by simp) _).setCell (by simp) _).setCell (by simp) _
end
section
theorem Qmd {y1 y0 u c q r : Nat} (hq : q * y1 + r = u) : (q * (y1 * 4294967296 + y0) > u * 4294967296 + c) ↔ (q * y0 > 4294967296 * r + c) := by
 subst hq
 rw [Nat.mul_add, ← Nat.mul_assoc]
 omega
theorem Qme {y u c q : Nat} (hy : 0 < y) : ((u * 4294967296 + c) / y < q) ↔ q * y > u * 4294967296 + c := by
 rw [Nat.div_lt_iff_lt_mul hy]
theorem Qvq {y u c : Nat} (hu : u < y) (hc : c < 4294967296) : (u * 4294967296 + c) / y < 4294967296 := by
 rw [Nat.div_lt_iff_lt_mul (by omega), Nat.mul_comm 4294967296 y]
 have := Nat.mul_le_mul_right 4294967296 (show u + 1 <= y from hu)
 rw [Nat.add_mul] at this
 omega
structure Guess (y1 y0 u c q r : Nat) : Prop where
 sum : q * y1 + r = u
 ge : (u * 4294967296 + c) / (y1 * 4294967296 + y0) <= q
 le : q <= 4294967297
 lo : r < 4294967296
theorem Qmf {y1 y0 u c : Nat} (h1 : 2147483648 <= y1) (h1' : y1 < 4294967296) (h0 : y0 < 4294967296) (hu : u < y1 * 4294967296 + y0) (hc : c < 4294967296) : Guess y1 y0 u c (u / y1) (u % y1) := by
 have hs := Nat.div_add_mod u y1
 have hm := Nat.mod_lt u (show 0 < y1 by omega)
 refine ⟨by rw [Nat.mul_comm]; omega, ?_, ?_, by omega⟩
 ·refine Nat.le_of_not_lt fun h => ?_
  have h2 : u / y1 + 1 <= (u * 4294967296 + c) / (y1 * 4294967296 + y0) := h
  rw [Nat.le_div_iff_mul_le (by omega)] at h2
  have h3 : u < (u / y1 + 1) * y1 := by rw [Nat.add_mul, Nat.mul_comm]; omega
  have h4 : (u / y1 + 1) * (y1 * 4294967296) = (u / y1 + 1) * y1 * 4294967296 := by rw [Nat.mul_assoc]
  rw [Nat.mul_add, h4] at h2
  have h5 := Nat.mul_le_mul_right 4294967296 (show u + 1 <= (u / y1 + 1) * y1 from h3)
  rw [Nat.add_mul] at h5
  omega
 have : u / y1 < 4294967298 := by
  rw [Nat.div_lt_iff_lt_mul (by omega)]
  omega
 omega
theorem Qc4 {y1 y0 u c q r : Nat} (h1 : 2147483648 <= y1) (g : Guess y1 y0 u c q r) :
  ((u * 4294967296 + c) / (y1 * 4294967296 + y0) < q) ↔ q * y0 > 4294967296 * r + c := by
 rw [Qme (by omega), Qmd g.sum]
theorem Qf4 {y1 y0 u c q r : Nat} (g : Guess y1 y0 u c q r) (h : ¬ (u * 4294967296 + c) / (y1 * 4294967296 + y0) < q) : q = (u * 4294967296 + c) / (y1 * 4294967296 + y0) := by
 have := g.ge
 exact Nat.le_antisymm (Nat.le_of_not_lt h) this
theorem Qhi {y1 y0 u c q r : Nat} (h1 : 2147483648 <= y1) (h0 : y0 < 4294967296) (g : Guess y1 y0 u c q r) (h : (u * 4294967296 + c) / (y1 * 4294967296 + y0) < q) :
  (q - 1) * y1 + (r + y1) = u /\ 1 <= q /\ (r + y1 < 4294967296 -> Guess y1 y0 u c (q - 1) (r + y1)) /\ (4294967296 <= r + y1 -> q - 1 = (u * 4294967296 + c) / (y1 * 4294967296 + y0)) := by
 have hq : 1 <= q := Nat.lt_of_le_of_lt (Nat.zero_le _) h
 have hs : (q - 1) * y1 + (r + y1) = u := by
  have := g.sum
  obtain ⟨p, rfl⟩ : ∃ p, q = p + 1 := ⟨q - 1, by omega⟩
  rw [Nat.add_mul] at this
  rw [Nat.add_sub_cancel]
  omega
 refine ⟨hs, hq, fun hl => ⟨hs, Nat.le_sub_one_of_lt h, by have := g.le; omega, hl⟩, fun hl => ?_⟩
 by_cases hlt : (u * 4294967296 + c) / (y1 * 4294967296 + y0) < q - 1
 ·rw [Qme (by omega), Qmd hs] at hlt
  have := g.le
  have h2 : (q - 1) * y0 <= 4294967296 * y0 := Nat.mul_le_mul_right _ (by omega)
  have h3 : 4294967296 * y0 <= 4294967296 * 4294967295 := Nat.mul_le_mul_left _ (by omega)
  omega
 omega
theorem Qjs {y u c q R : Nat} (h : q * y + R = u * 4294967296 + c) (hR : R < 18446744073709551616) :
  (((u * 4294967296 % 18446744073709551616 + c) % 18446744073709551616 : Nat) - ((q * y % 18446744073709551616 : Nat)) : Int) % 18446744073709551616 = (R : Int) := by
 omega
theorem Qs5 {hi lo s : Nat} (hs : s <= 63) (hlo : lo < 18446744073709551616) :
  (hi * 18446744073709551616 + lo) * 2 ^ s = (hi * 2 ^ s + lo / 2 ^ (64 - s)) * 18446744073709551616 + lo * 2 ^ s % 18446744073709551616 := by
 have h : 18446744073709551616 = 2 ^ s * 2 ^ (64 - s) := by rw [← Nat.pow_add, show s + (64 - s) = 64 by omega]
 have h2 : lo * 2 ^ s / 18446744073709551616 = lo / 2 ^ (64 - s) := by
  rw [h, Nat.mul_comm lo, Nat.mul_div_mul_left _ _ (Nat.pow_pos (by omega))]
 have h3 := Nat.div_add_mod (lo * 2 ^ s) 18446744073709551616
 rw [h2] at h3
 rw [Nat.add_mul, Nat.add_mul, Nat.mul_right_comm hi]
 omega
theorem Qpt {X a b y : Nat} (hy : 0 < y) (h : X = a * 18446744073709551616 + b) (ha : a < y) :
  let c1 := b / 4294967296; let c0 := b % 4294967296
  let q1 := (a * 4294967296 + c1) / y; let r1 := (a * 4294967296 + c1) % y
  let q0 := (r1 * 4294967296 + c0) / y; let r0 := (r1 * 4294967296 + c0) % y
  X / y = q1 * 4294967296 + q0 /\ X % y = r0 := by
 intro c1 c0 q1 r1 q0 r0
 have e1 : y * q1 + r1 = a * 4294967296 + c1 := Nat.div_add_mod _ _
 have e0 : y * q0 + r0 = r1 * 4294967296 + c0 := Nat.div_add_mod _ _
 have hr : r0 < y := Nat.mod_lt _ hy
 have hX : X = y * (q1 * 4294967296 + q0) + r0 := by
  rw [h, Nat.mul_add, ← Nat.mul_assoc]
  have hb : 4294967296 * c1 + c0 = b := Nat.div_add_mod b 4294967296
  clear_value c1 c0 q1 r1 q0 r0
  omega
 constructor
 ·rw [hX, Nat.mul_add_div hy, Nat.div_eq_of_lt hr, Nat.add_zero]
 rw [hX, Nat.mul_add_mod, Nat.mod_eq_of_lt hr]
end
section
open Go.RowKit
theorem lz_t (y : Nat) (h1 : 1 <= y) (h2 : y < 18446744073709551616) (w : World) : Calls Tryz.prog 197 #[.int .u64 y] w fun e w' => ∃ s : Nat, s <= 63 /\ y * 2 ^ s < 18446744073709551616 /\ 9223372036854775808 <= y * 2 ^ s /\ e = .returned (.int .i64 s) /\ w = w' := by
 refine (Tryz.bits_LeadingZeros64 (y : Int) w (by omega) (by omega)).mono fun e w' ⟨he, hw⟩ => ?_
 obtain ⟨h3, h4, h5⟩ := Lib.bitLenAux_bounds 64 y h2 (by omega)
 have hL : Lib.bitLenAux 64 y <= 64 := by
  rcases Nat.lt_or_ge 64 (Lib.bitLenAux 64 y) with h | h
  ·have := Nat.pow_le_pow_right (n := 2) (by omega) (show 64 <= Lib.bitLenAux 64 y - 1 by omega)
   have e : (2 : Nat) ^ 64 = 18446744073709551616 := by decide
   omega
  exact h
 have hb : Lib.bitLen ((y : Int)).toNat = Lib.bitLenAux 64 y := rfl
 refine ⟨64 - Lib.bitLenAux 64 y, by omega, ?_, ?_, ?_, hw.symm⟩
 ·have := Nat.mul_lt_mul_of_pos_right h5 (Nat.pow_pos (n := 64 - Lib.bitLenAux 64 y) (show 0 < 2 by omega))
  rw [← Nat.pow_add, show Lib.bitLenAux 64 y + (64 - Lib.bitLenAux 64 y) = 64 by omega] at this
  exact this
 ·have := Nat.mul_le_mul_right (2 ^ (64 - Lib.bitLenAux 64 y)) h4
  rw [← Nat.pow_add, show Lib.bitLenAux 64 y - 1 + (64 - Lib.bitLenAux 64 y) = 63 by omega] at this
  exact this
 rw [he, hb]
 exact congrArg (fun z => Ending.returned (.int .i64 z)) (by omega)
theorem maskN (a : Nat) (ha : a < 18446744073709551616) : bits .and .u64 (a : Int) 4294967295 = ((a % 4294967296 : Nat) : Int) := by
 have h := bits_and_u64_nat a 4294967295 ha (by omega)
 have e : a &&& 4294967295 = a % 4294967296 := Nat.and_two_pow_sub_one_eq_mod a 32
 rw [e] at h
 exact h
theorem Qgm (a s : Nat) : (a : Int) * 2 ^ s = ((a * 2 ^ s : Nat) : Int) := by rw [Int.natCast_mul, Int.natCast_pow]; rfl
theorem Qeu (a s : Nat) : (a : Int) / 2 ^ s = ((a / 2 ^ s : Nat) : Int) := by rw [Int.natCast_ediv, Int.natCast_pow]; rfl
theorem wrapM (a : Nat) : IntKind.u64.wrap (a : Int) = ((a % 18446744073709551616 : Nat) : Int) := by rw [IntKind.wrap_u64]; omega
theorem Qvr (h s l : Nat) (hs : s <= 63) (hh : h * 2 ^ s < 18446744073709551616) (hl : l < 2 ^ s) : bits .or .u64 ((h * 2 ^ s : Nat) : Int) (l : Int) = ((h * 2 ^ s + l : Nat) : Int) := by
 have h2 : 2 ^ s <= 2 ^ 63 := Nat.pow_le_pow_right (by omega) hs
 have h4 : (2 : Nat) ^ 63 = 9223372036854775808 := by decide
 have h3 := bits_or_u64_nat (h * 2 ^ s) l hh (by omega)
 rw [h3, Nat.mul_comm, Nat.two_pow_add_eq_or_of_lt hl]
theorem Qe1 {a b : Nat} (ha : a < 4294967296) (hb : b < 4294967296) : a * b < 18446744073709551616 := by
 have := Nat.mul_le_mul (show a <= 4294967295 by omega) (show b <= 4294967295 by omega)
 omega
theorem Qpu (hi lo y : Nat) (h0 : 1 <= hi) (h1 : hi < y) (h2 : y < 18446744073709551616) (h3 : lo < 18446744073709551616) (w : World) :
  Calls Tryz.prog 181 #[.int .u64 hi, .int .u64 lo, .int .u64 y] w fun e w' => e = .returned (.tuple #[.int .u64 ((hi * 18446744073709551616 + lo) / y : Nat), .int .u64 ((hi * 18446744073709551616 + lo) % y : Nat)]) /\ Bel w w' := by
 have k1 : ((y : Int) == 0) = false := by simp; omega
 have k2 : decide (y <= hi) = false := by simp; omega
 have k3 : ((hi : Int) == 0) = false := by simp; omega
 go_enter Tryz.func181, Tryz.ntmps181
 go_wp2_with fail
 refine (lz_t y (by omega) (by omega) _).mono ?_; rintro e W1 ⟨s, hs1, hs2, hs3, rfl, rfl⟩
 have hps : 0 < 2 ^ s := Nat.pow_pos (by omega)
 have hhs : hi * 2 ^ s < y * 2 ^ s := by rw [Nat.mul_lt_mul_right hps]; exact h1
 have hll : lo / 2 ^ (64 - s) < 2 ^ s := by
  rw [Nat.div_lt_iff_lt_mul (Nat.pow_pos (by omega)), ← Nat.pow_add, show s + (64 - s) = 64 by omega]
  exact h3
 have hbig := Hd (Qs5 (hi := hi) (lo := lo) (s := s) hs1 h3)
 have hltop : hi * 2 ^ s + lo / 2 ^ (64 - s) < y * 2 ^ s := by
  have := Nat.mul_le_mul_right (2 ^ s) (show hi + 1 <= y from h1)
  rw [Nat.add_mul] at this
  omega
 have e1 : IntKind.u64.wrap ((y : Int) * 2 ^ s) = ((y * 2 ^ s : Nat) : Int) := by
  rw [Qgm, wrapM, Nat.mod_eq_of_lt hs2]
 have e4 : bits .or .u64 (IntKind.u64.wrap ((hi : Int) * 2 ^ s)) ((lo : Int) / 2 ^ (64 - s)) = ((hi * 2 ^ s + lo / 2 ^ (64 - s) : Nat) : Int) := by
  rw [Qgm, wrapM, Nat.mod_eq_of_lt (by omega), Qeu, Qvr _ _ _ hs1 (by omega) hll]
 have e5 : IntKind.u64.wrap ((lo : Int) * 2 ^ s) = ((lo * 2 ^ s % 18446744073709551616 : Nat) : Int) := by
  rw [Qgm, wrapM]
 obtain ⟨U, hU⟩ : ∃ U, U = hi * 2 ^ s + lo / 2 ^ (64 - s) := ⟨_, rfl⟩
 obtain ⟨V, hV⟩ : ∃ V, V = lo * 2 ^ s % 18446744073709551616 := ⟨_, rfl⟩
 obtain ⟨Y, hY⟩ : ∃ Y, Y = y * 2 ^ s := ⟨_, rfl⟩
 have hVb : V < 18446744073709551616 := by rw [hV]; exact Nat.mod_lt _ (by omega)
 rw [← hY] at hs2 hs3 e1 hltop
 rw [← hU] at e4 hltop
 rw [← hV] at e5
 clear hhs hll
 obtain ⟨y1, hy1⟩ : ∃ y1, y1 = Y / 4294967296 := ⟨_, rfl⟩
 obtain ⟨y0, hy0⟩ : ∃ y0, y0 = Y % 4294967296 := ⟨_, rfl⟩
 obtain ⟨v1, hv1⟩ : ∃ v1, v1 = V / 4294967296 := ⟨_, rfl⟩
 obtain ⟨v0, hv0⟩ : ∃ v0, v0 = V % 4294967296 := ⟨_, rfl⟩
 have e2 : (Y : Int) / 4294967296 = y1 := by omega
 have e3 : bits .and .u64 (Y : Int) 4294967295 = y0 := by rw [maskN Y hs2, hy0]
 have e6 : (V : Int) / 4294967296 = v1 := by omega
 have e7 : bits .and .u64 (V : Int) 4294967295 = v0 := by rw [maskN V hVb, hv0]
 have b1 : 2147483648 <= y1 := by omega
 have b1' : y1 < 4294967296 := by omega
 have b0 : y0 < 4294967296 := by omega
 have bv1 : v1 < 4294967296 := by omega
 have bv0 : v0 < 4294967296 := by omega
 have hYs : Y = y1 * 4294967296 + y0 := by omega
 have hUY : U < y1 * 4294967296 + y0 := by omega
 have G0 := Qmf b1 b1' b0 hUY bv1
 obtain ⟨q, hq⟩ : ∃ q, q = U / y1 := ⟨_, rfl⟩
 obtain ⟨r, hr⟩ : ∃ r, r = U % y1 := ⟨_, rfl⟩
 rw [← hq, ← hr] at G0
 have e8 : (U : Int) / (y1 : Int) = q := by rw [hq]; rfl
 have gs := G0.sum
 obtain ⟨P, hP⟩ : ∃ P, P = q * y1 := ⟨_, rfl⟩
 have e9 : IntKind.u64.wrap ((q : Int) * (y1 : Int)) = P := by
  rw [← Int.natCast_mul, wrapM, ← hP, Nat.mod_eq_of_lt (by omega)]
 have e10 : (U : Int) - (P : Int) = r := by omega
 have HY := Hd hY
 have HYs := Hd hYs
 have HV := Hd (show 4294967296 * v1 + v0 = V by omega)
 have HU := Hd hU
 have HVV := Hd hV
 have gle := G0.le
 have i1 : (2147483648 : Int) <= (y1 : Int) := by omega
 have i2 : (y1 : Int) <= 4294967295 := by omega
 have i3 : (y0 : Int) <= 4294967295 := by omega
 have i4 : (v1 : Int) <= 4294967295 := by omega
 have i5 : (v0 : Int) <= 4294967295 := by omega
 have i6 : (U : Int) <= 18446744073709551615 := by omega
 have i7 : (q : Int) <= 4294967297 := by omega
 have i8 : (r : Int) <= 4294967295 := by have := G0.lo; omega
 have i9 : (P : Int) <= U := by omega
 have i10 : (s : Int) <= 63 := by omega
 have i11 : (Y : Int) <= 18446744073709551615 := by omega
 have i12 : (lo : Int) <= 18446744073709551615 := by omega
 have N := Hd (And.intro b1 (And.intro b1' (And.intro b0 (And.intro bv1 (And.intro bv0 (And.intro hUY (And.intro hs2 (And.intro h2 h1))))))))
 have HG0 := Hd G0
 clear hY hYs hy1 hy0 hv1 hv0 hU hV hq hr hP gs b1 b1' b0 bv1 bv0 hUY hs2 hs3 hltop gle G0 hVb hps h3
 go_upto_block 0 with (fail)
 clear e1 e2 e3 e4 e5 e6 e7 e8 e9 e10 i9 i12
 obtain ⟨b1, b1', b0, bv1, bv0, hUY, hs2, -⟩ := N.out
 have hX : (U * 4294967296 + v1) / (y1 * 4294967296 + y0) < 4294967296 := Qvq hUY bv1
 obtain ⟨Q1, hQ1⟩ : ∃ Q1, Q1 = (U * 4294967296 + v1) / (y1 * 4294967296 + y0) := ⟨_, rfl⟩
 have HQ1 := Hd hQ1
 rw [← hQ1] at hX
 have iQ : (Q1 : Int) <= 4294967295 := by omega
 clear hX hQ1 b1 b1' b0 bv1 bv0 hUY hs2
 go_cut [15] (fun q' wx => q' = .int .u64 Q1 /\ wx = w)
 case first =>
  go_wp2_with fail
  go_loopg [15, 16] q (fun g q' r' wr => ∃ a b : Nat, q' = .int .u64 a /\ r' = .int .u64 b /\ Guess y1 y0 U v1 a b /\ g = a /\ wr = w)
  case atStart => exact ⟨q, r, rfl, rfl, HG0.out, rfl, rfl⟩
  case round =>
   obtain ⟨a, b, rfl, rfl, G, hg, rfl⟩ := hrel
   obtain ⟨b1, b1', b0, bv1, bv0, hUY, hs2, -⟩ := N.out
   have j1 : (b : Int) <= 4294967295 := by have := G.lo; omega
   have j2 : (a : Int) <= 4294967297 := by have := G.le; omega
   have Hg := Hd hg
   clear hg
   obtain ⟨T, hT⟩ : ∃ T, T = a * y0 := ⟨_, rfl⟩
   by_cases hov : (U * 4294967296 + v1) / (y1 * 4294967296 + y0) < a
   ·obtain ⟨-, d1, d2, d3⟩ := Qhi b1 b0 G hov
    have ht := (Qc4 b1 G).1 hov
    rw [← hT] at ht
    have j3 : (4294967296 : Int) * b + v1 < T := by omega
    have j4 : (1 : Int) <= a := by omega
    have H2 := Hd d2
    have H3 := Hd d3
    have HQ : Hid (4294967296 <= b + y1 -> a - 1 = Q1) := fun h => (H3.out h).trans HQ1.out.symm
    have t1 : (a : Int) <= 4294967295 -> IntKind.u64.wrap ((a : Int) * (y0 : Int)) = T := fun h => by
     rw [← Int.natCast_mul, wrapM, ← hT, Nat.mod_eq_of_lt (by rw [hT]; exact Qe1 (by omega) b0)]
    have T1 := Hd t1
    clear t1 hT d1 d2 d3 hov ht b1 b1' b0 bv1 bv0 hUY hs2
    by_cases hbr : (4294967296 : Int) <= b + y1
    ·have hfin := Hd (HQ.out (by omega))
     by_cases h4 : (4294967296 : Int) <= a
     ·go_wp2
      go_meet
      exact ⟨by rw [← hfin.out]; go_num, rfl⟩
     have t1 := T1.out (by omega)
     go_wp2
     go_meet
     exact ⟨by rw [← hfin.out]; go_num, rfl⟩
    have G1 := Hd (H2.out (by omega))
    by_cases h4 : (4294967296 : Int) <= a
    ·go_wp2
     go_roundg (gk - 1)
     case measure => have := Hg.out; omega
     case rel => exact ⟨a - 1, b + y1, by go_num, by go_num, G1.out, by have := Hg.out; omega, rfl⟩
    have t1 := T1.out (by omega)
    go_wp2
    go_roundg (gk - 1)
    case measure => have := Hg.out; omega
    case rel => exact ⟨a - 1, b + y1, by go_num, by go_num, G1.out, by have := Hg.out; omega, rfl⟩
   have hfin := Hd ((Qf4 G hov).trans HQ1.out.symm)
   have ht : ¬ 4294967296 * b + v1 < a * y0 := fun h => hov ((Qc4 b1 G).2 h)
   rw [← hT] at ht
   have j3 : (T : Int) <= (4294967296 : Int) * b + v1 := by omega
   have h4 : ¬ (4294967296 : Int) <= a := by rw [hfin.out]; omega
   have t1 : IntKind.u64.wrap ((a : Int) * (y0 : Int)) = T := by
    rw [← Int.natCast_mul, wrapM, ← hT, Nat.mod_eq_of_lt (by rw [hT]; exact Qe1 (by omega) b0)]
   clear hT hov ht b1 b1' b0 bv1 bv0 hUY hs2
   go_wp2
   go_meet
   exact ⟨by rw [hfin.out], rfl⟩
 case rest =>
  obtain ⟨rfl, rfl⟩ := hcut
  clear HG0 i7 i8
  obtain ⟨b1, b1', b0, bv1, bv0, hUY, hs2, h2, h1⟩ := N.out
  have hQ1 := HQ1.out
  rw [← HYs.out] at hQ1
  obtain ⟨R, hR⟩ : ∃ R, R = (U * 4294967296 + v1) % Y := ⟨_, rfl⟩
  have hYpos : 0 < Y := by have := HYs.out; omega
  have hRY : R < Y := by rw [hR]; exact Nat.mod_lt _ hYpos
  have hsum : Q1 * Y + R = U * 4294967296 + v1 := by
   have := Nat.div_add_mod (U * 4294967296 + v1) Y
   rw [← hQ1, ← hR, Nat.mul_comm] at this
   exact this
  have f1 : IntKind.u64.wrap ((U : Int) * 4294967296) = ((U * 4294967296 % 18446744073709551616 : Nat) : Int) := by rw [Qbq]; omega
  obtain ⟨a1, ha1⟩ : ∃ a1, a1 = U * 4294967296 % 18446744073709551616 := ⟨_, rfl⟩
  rw [← ha1] at f1
  have f2 : IntKind.u64.wrap ((a1 : Int) + v1) = (((a1 + v1) % 18446744073709551616 : Nat) : Int) := by rw [Qbq]; omega
  obtain ⟨a2, ha2⟩ : ∃ a2, a2 = (a1 + v1) % 18446744073709551616 := ⟨_, rfl⟩
  rw [← ha2] at f2
  have f3 : IntKind.u64.wrap ((Q1 : Int) * Y) = ((Q1 * Y % 18446744073709551616 : Nat) : Int) := by rw [← Int.natCast_mul, wrapM]
  obtain ⟨a3, ha3⟩ : ∃ a3, a3 = Q1 * Y % 18446744073709551616 := ⟨_, rfl⟩
  rw [← ha3] at f3
  have f4 : IntKind.u64.wrap ((a2 : Int) - a3) = (R : Int) := by
   rw [Qbq, ha2, ha3, ha1]
   exact Qjs hsum (by omega)
  have hRy : R < y1 * 4294967296 + y0 := by have := HYs.out; omega
  have G0 := Qmf b1 b1' b0 hRy bv0
  obtain ⟨q0, hq⟩ : ∃ q0, q0 = R / y1 := ⟨_, rfl⟩
  obtain ⟨r0, hr⟩ : ∃ r0, r0 = R % y1 := ⟨_, rfl⟩
  rw [← hq, ← hr] at G0
  have e8 : (R : Int) / (y1 : Int) = q0 := by rw [hq]; rfl
  have gs := G0.sum
  obtain ⟨P0, hP⟩ : ∃ P0, P0 = q0 * y1 := ⟨_, rfl⟩
  have e9 : IntKind.u64.wrap ((q0 : Int) * (y1 : Int)) = P0 := by
   rw [← Int.natCast_mul, wrapM, ← hP, Nat.mod_eq_of_lt (by omega)]
  have e10 : (R : Int) - (P0 : Int) = r0 := by omega
  have gle := G0.le
  have l7 : (q0 : Int) <= 4294967297 := by omega
  have l8 : (r0 : Int) <= 4294967295 := by have := G0.lo; omega
  have l9 : (P0 : Int) <= R := by omega
  have l10 : (R : Int) <= 18446744073709551615 := by omega
  have N1 := Hd (And.intro hRY hRy)
  have HG0 := Hd G0
  have HR := Hd hR
  have H1 := Hd hQ1
  clear hQ1 hR hYpos hRY hsum ha1 ha2 ha3 hRy G0 hq hr gs hP gle b1 b1' b0 bv1 bv0 hUY hs2 h2 h1
  go_upto_block 2 with (fail)
  clear f1 f2 f3 f4 e8 e9 e10 l9
  obtain ⟨b1, b1', b0, bv1, bv0, hUY, hs2, -⟩ := N.out
  have hX : (R * 4294967296 + v0) / (y1 * 4294967296 + y0) < 4294967296 := Qvq N1.out.2 bv0
  obtain ⟨Q0, hQ0⟩ : ∃ Q0, Q0 = (R * 4294967296 + v0) / (y1 * 4294967296 + y0) := ⟨_, rfl⟩
  have HQ0 := Hd hQ0
  rw [← hQ0] at hX
  have iQ0 : (Q0 : Int) <= 4294967295 := by omega
  clear hX hQ0 b1 b1' b0 bv1 bv0 hUY hs2
  go_cut [18] (fun q' wx => q' = .int .u64 Q0 /\ wx = wc)
  case first =>
   go_wp2_with fail
   go_loopg [18, 16] q0 (fun g q' r' wr => ∃ a b : Nat, q' = .int .u64 a /\ r' = .int .u64 b /\ Guess y1 y0 R v0 a b /\ g = a /\ wr = wc)
   case atStart => exact ⟨q0, r0, rfl, rfl, HG0.out, rfl, rfl⟩
   case round =>
    obtain ⟨a, b, rfl, rfl, G, hg, rfl⟩ := hrel
    obtain ⟨b1, b1', b0, bv1, bv0, hUY, hs2, -⟩ := N.out
    have j1 : (b : Int) <= 4294967295 := by have := G.lo; omega
    have j2 : (a : Int) <= 4294967297 := by have := G.le; omega
    have Hg := Hd hg
    clear hg
    obtain ⟨T, hT⟩ : ∃ T, T = a * y0 := ⟨_, rfl⟩
    by_cases hov : (R * 4294967296 + v0) / (y1 * 4294967296 + y0) < a
    ·obtain ⟨-, d1, d2, d3⟩ := Qhi b1 b0 G hov
     have ht := (Qc4 b1 G).1 hov
     rw [← hT] at ht
     have j3 : (4294967296 : Int) * b + v0 < T := by omega
     have j4 : (1 : Int) <= a := by omega
     have H2 := Hd d2
     have H3 := Hd d3
     have HQ : Hid (4294967296 <= b + y1 -> a - 1 = Q0) := fun h => (H3.out h).trans HQ0.out.symm
     have t1 : (a : Int) <= 4294967295 -> IntKind.u64.wrap ((a : Int) * (y0 : Int)) = T := fun h => by
      rw [← Int.natCast_mul, wrapM, ← hT, Nat.mod_eq_of_lt (by rw [hT]; exact Qe1 (by omega) b0)]
     have T1 := Hd t1
     clear t1 hT d1 d2 d3 hov ht b1 b1' b0 bv1 bv0 hUY hs2
     by_cases hbr : (4294967296 : Int) <= b + y1
     ·have hfin := Hd (HQ.out (by omega))
      by_cases h4 : (4294967296 : Int) <= a
      ·go_wp2
       go_meet
       exact ⟨by rw [← hfin.out]; go_num, rfl⟩
      have t1 := T1.out (by omega)
      go_wp2
      go_meet
      exact ⟨by rw [← hfin.out]; go_num, rfl⟩
     have G1 := Hd (H2.out (by omega))
     by_cases h4 : (4294967296 : Int) <= a
     ·go_wp2
      go_roundg (gk - 1)
      case measure => have := Hg.out; omega
      case rel => exact ⟨a - 1, b + y1, by go_num, by go_num, G1.out, by have := Hg.out; omega, rfl⟩
     have t1 := T1.out (by omega)
     go_wp2
     go_roundg (gk - 1)
     case measure => have := Hg.out; omega
     case rel => exact ⟨a - 1, b + y1, by go_num, by go_num, G1.out, by have := Hg.out; omega, rfl⟩
    have hfin := Hd ((Qf4 G hov).trans HQ0.out.symm)
    have ht : ¬ 4294967296 * b + v0 < a * y0 := fun h => hov ((Qc4 b1 G).2 h)
    rw [← hT] at ht
    have j3 : (T : Int) <= (4294967296 : Int) * b + v0 := by omega
    have h4 : ¬ (4294967296 : Int) <= a := by rw [hfin.out]; omega
    have t1 : IntKind.u64.wrap ((a : Int) * (y0 : Int)) = T := by
     rw [← Int.natCast_mul, wrapM, ← hT, Nat.mod_eq_of_lt (by rw [hT]; exact Qe1 (by omega) b0)]
    clear hT hov ht b1 b1' b0 bv1 bv0 hUY hs2
    go_wp2
    go_meet
    exact ⟨by rw [hfin.out], rfl⟩
  case rest =>
   obtain ⟨rfl, rfl⟩ := hcut
   clear HG0 l7 l8
   obtain ⟨b1, b1', b0, bv1, bv0, hUY, hs2, h2, h1⟩ := N.out
   obtain ⟨hRY, -⟩ := N1.out
   have hQ0 := HQ0.out
   rw [← HYs.out] at hQ0
   obtain ⟨R0, hR0⟩ : ∃ R0, R0 = (R * 4294967296 + v0) % Y := ⟨_, rfl⟩
   have hYpos : 0 < Y := by omega
   have hR0Y : R0 < Y := by rw [hR0]; exact Nat.mod_lt _ hYpos
   have hsum : Q0 * Y + R0 = R * 4294967296 + v0 := by
    have := Nat.div_add_mod (R * 4294967296 + v0) Y
    rw [← hQ0, ← hR0, Nat.mul_comm] at this
    exact this
   have f1 : IntKind.u64.wrap ((R : Int) * 4294967296) = ((R * 4294967296 % 18446744073709551616 : Nat) : Int) := by rw [Qbq]; omega
   obtain ⟨a1, ha1⟩ : ∃ a1, a1 = R * 4294967296 % 18446744073709551616 := ⟨_, rfl⟩
   rw [← ha1] at f1
   have f2 : IntKind.u64.wrap ((a1 : Int) + v0) = (((a1 + v0) % 18446744073709551616 : Nat) : Int) := by rw [Qbq]; omega
   obtain ⟨a2, ha2⟩ : ∃ a2, a2 = (a1 + v0) % 18446744073709551616 := ⟨_, rfl⟩
   rw [← ha2] at f2
   have f3 : IntKind.u64.wrap ((Q0 : Int) * Y) = ((Q0 * Y % 18446744073709551616 : Nat) : Int) := by rw [← Int.natCast_mul, wrapM]
   obtain ⟨a3, ha3⟩ : ∃ a3, a3 = Q0 * Y % 18446744073709551616 := ⟨_, rfl⟩
   rw [← ha3] at f3
   have f4 : IntKind.u64.wrap ((a2 : Int) - a3) = (R0 : Int) := by
    rw [Qbq, ha2, ha3, ha1]
    exact Qjs hsum (by omega)
   have f5 : (R0 : Int) / 2 ^ s = ((R0 / 2 ^ s : Nat) : Int) := Qeu _ _
   obtain ⟨Z, hZ⟩ : ∃ Z, Z = R0 / 2 ^ s := ⟨_, rfl⟩
   rw [← hZ] at f5
   have l11 : (R0 : Int) <= 18446744073709551615 := by omega
   have hv0 : v0 = V % 4294967296 := by have := HV.out; omega
   have hv1 : v1 = V / 4294967296 := by have := HV.out; omega
   have hUY' : U < Y := by rw [← HYs.out] at hUY; exact hUY
   have two := Qpt (b := V) hYpos rfl hUY'
   simp only at two
   rw [← hv1, ← hv0, ← H1.out, ← HR.out, ← hQ0, ← hR0] at two
   have hbig' := hbig.out
   rw [← HU.out, ← HVV.out] at hbig'
   rw [← hbig', HY.out] at two
   have p2 : 0 < 2 ^ s := Nat.pow_pos (by omega)
   rw [Nat.mul_div_mul_right _ _ p2, Nat.mul_mod_mul_right] at two
   have hZ' : Z = (hi * 18446744073709551616 + lo) % y := by rw [hZ, ← two.2, Nat.mul_div_cancel _ p2]
   have E1 := Hd two.1
   have E2 := Hd hZ'
   clear two hZ' hbig' hv0 hv1 hUY' hZ hR0 hYpos hR0Y hsum ha1 ha2 ha3 p2 b1 b1' b0 bv1 bv0 hUY hs2 h2 h1 hQ0 hRY
   go_wp2
   go_ret2
   exact ⟨by rw [E1.out, ← E2.out]; go_num, Bel.refl _⟩
theorem Qpv (lo y : Nat) (h1 : 1 <= y) (h2 : y < 18446744073709551616) (h3 : lo < 18446744073709551616) (w : World) :
  Calls Tryz.prog 181 #[.int .u64 0, .int .u64 lo, .int .u64 y] w fun e w' => e = .returned (.tuple #[.int .u64 (lo / y : Nat), .int .u64 (lo % y : Nat)]) /\ Bel w w' := by
 have k1 : ((y : Int) == 0) = false := by simp; omega
 have k0 : (y == 0) = false := by simp; omega
 have k00 : decide (y = 0) = false := by simp; omega
 have k2 : decide ((y : Int) <= 0) = false := by simp; omega
 have k22 : decide (y <= 0) = false := by simp; omega
 have k4 : ((0 : Int) == 0) = true := rfl
 have e1 : (lo : Int) / (y : Int) = ((lo / y : Nat) : Int) := (Int.natCast_ediv ..).symm
 have e2 : (lo : Int) % (y : Int) = ((lo % y : Nat) : Int) := (Int.natCast_emod ..).symm
 have i1 : (1 : Int) <= y := by omega
 have i2 : (lo : Int) <= 18446744073709551615 := by omega
 have i3 : ¬ (y : Int) = 0 := by omega
 have p1 : lo / y <= lo := Nat.div_le_self _ _
 have p2 : lo % y <= lo := Nat.mod_le _ _
 generalize lo / y = p at *
 generalize lo % y = q at *
 have e3 : IntKind.u64.wrap (p : Int) = p := by rw [wrapM, Nat.mod_eq_of_lt (by omega)]
 have e4 : IntKind.u64.wrap (q : Int) = q := by rw [wrapM, Nat.mod_eq_of_lt (by omega)]
 clear h1 h2 h3 p1 p2
 go_enter Tryz.func181, Tryz.ntmps181
 go_wp2
 have E2 := Hd e2
 clear e2
 go_region
 go_wp2
 go_ret2
 exact ⟨by rw [← E2.out]; rfl, (Bel.refl _).drew⟩
theorem Qmg (hi lo y : Nat) (h1 : hi < y) (h2 : y < 18446744073709551616) (h3 : lo < 18446744073709551616) (w : World) :
  Calls Tryz.prog 181 #[.int .u64 hi, .int .u64 lo, .int .u64 y] w fun e w' => e = .returned (.tuple #[.int .u64 ((hi * 18446744073709551616 + lo) / y : Nat), .int .u64 ((hi * 18446744073709551616 + lo) % y : Nat)]) /\ Bel w w' := by
 rcases Nat.eq_zero_or_pos hi with rfl | h
 ·rw [Nat.zero_mul, Nat.zero_add]; exact Qpv lo y (by omega) h2 h3 w
 exact Qpu hi lo y h h1 h2 h3 w
def whi (m : Nat) : Nat := m / 18446744073709551616
def wlo (m : Nat) : Nat := m % 18446744073709551616
theorem Qpw (m d : Nat) (hd : 0 < d) : whi m / d = whi (m / d) /\ ((whi m % d) * 18446744073709551616 + wlo m) / d = wlo (m / d) /\ ((whi m % d) * 18446744073709551616 + wlo m) % d = m % d := by
 have h1 := Nat.div_add_mod m 18446744073709551616
 have h2 := Nat.div_add_mod (whi m) d
 have h3 : wlo m < 18446744073709551616 := Nat.mod_lt _ (by omega)
 have hr : whi m % d < d := Nat.mod_lt _ hd
 have hM : m = d * (whi m / d * 18446744073709551616) + (whi m % d * 18446744073709551616 + wlo m) := by
  rw [← Nat.mul_assoc]
  unfold whi wlo at *
  generalize m / 18446744073709551616 % d = a at *
  generalize d * (m / 18446744073709551616 / d) = b at *
  omega
 have hX : (whi m % d * 18446744073709551616 + wlo m) / d < 18446744073709551616 := by
  rw [Nat.div_lt_iff_lt_mul hd, Nat.mul_comm 18446744073709551616 d]
  have := Nat.mul_le_mul_right 18446744073709551616 (show whi m % d + 1 <= d from hr)
  rw [Nat.add_mul] at this
  omega
 have hD : m / d = whi m / d * 18446744073709551616 + (whi m % d * 18446744073709551616 + wlo m) / d := by
  conv => lhs; rw [hM]
  rw [Nat.mul_add_div hd]
 refine ⟨?_, ?_, ?_⟩
 ·show _ = m / d / 18446744073709551616
  rw [hD, Nat.mul_comm (whi m / d), Nat.mul_add_div (by omega), Nat.div_eq_of_lt hX, Nat.add_zero]
 ·show _ = m / d % 18446744073709551616
  rw [hD, Nat.mul_comm (whi m / d), Nat.mul_add_mod, Nat.mod_eq_of_lt hX]
 conv => rhs; rw [hM]
 rw [Nat.mul_add_mod]
theorem Qdy {m : Nat} (h : m < 18446744073709551616) : whi m = 0 := Nat.div_eq_of_lt h
theorem Qdz {m : Nat} (h : m < 18446744073709551616) : wlo m = m := Nat.mod_eq_of_lt h
theorem Qmh {m : Nat} (h : m < 340282366920938463463374607431768211456) : whi m <= 18446744073709551615 := by unfold whi; omega
theorem Qvs (m : Nat) : wlo m <= 18446744073709551615 := by unfold wlo; omega
abbrev wideM (neg : Bool) (m rest of : Nat) (s : Int) : Value := wideV neg (whi m) (wlo m) rest of s
theorem Qil (x : Bool) (hi lo r o d p a q rr : Nat) (s : Int) (h1 : 1 <= d) (hhi : hi <= 18446744073709551615) (hp : hi / d = p) (ha : hi % d = a)
  (hc : ∀ w, Calls Tryz.prog 181 #[.int .u64 a, .int .u64 lo, .int .u64 d] w fun e w' => e = .returned (.tuple #[.int .u64 q, .int .u64 rr]) /\ Bel w w') (w : World) :
  Calls Tryz.prog 158 #[wideV x hi lo r o s, .int .u64 d] w fun e w' => e = .returned (wideV x p q rr d s) /\ Bel w w' := by
 have e1 : (hi : Int) / (d : Int) = p := by rw [← hp]; exact (Int.natCast_ediv ..).symm
 have e2 : (hi : Int) % (d : Int) = a := by rw [← ha]; exact (Int.natCast_emod ..).symm
 have l1 : p <= hi := hp ▸ Nat.div_le_self _ _
 have l2 : a <= hi := ha ▸ Nat.mod_le _ _
 have i1 : (1 : Int) <= d := by omega
 have i3 : ¬ (d : Int) = 0 := by omega
 have i2 : (hi : Int) <= 18446744073709551615 := by omega
 have e3 : IntKind.u64.wrap (p : Int) = p := by rw [wrapM, Nat.mod_eq_of_lt (by omega)]
 have e4 : IntKind.u64.wrap (a : Int) = a := by rw [wrapM, Nat.mod_eq_of_lt (by omega)]
 have HC := Hd hc
 have E2 := Hd e2
 clear hc hp ha h1 hhi l1 l2 e2
 go_enter Tryz.func158, Tryz.ntmps158
 go_wp2_with fail
 refine uN (((Bel.refl w).alloc _).alloc _) fun W hc hf hz hb => ?_
 have hA : Sl6 W w.heap.size x hi lo r o s := by simp [Sl6, Ar6, Fr6, hz, hc, hf, go_sem]
 have hB : Sl6 W (w.heap.size + 1) false 0 0 0 0 0 := by simp [Sl6, Ar6, Fr6, hz, hc, hf, go_sem]
 clear hc hf hz
 go_region
 rw [E2.out]
 replace hA := hA.keep (Bel.refl W).drew; replace hB := hB.keep (Bel.refl W).drew; replace hb := hb.drew
 generalize W.drew = W at *
 go_wp2_with (go_at_call 181; refine (HC.out _).mono ?_; rintro e W1 ⟨rfl, hb1⟩
              replace hA := Sl6.keep (show Sl6 (W.setCell ⟨w.heap.size, 1, none⟩ (.int .u64 p)) w.heap.size x p lo r o s by simp [Sl6, Ar6, Fr6, go_sem, hA]) hb1
              replace hB := Sl6.keep (show Sl6 (W.setCell ⟨w.heap.size, 1, none⟩ (.int .u64 p)) (w.heap.size + 1) false 0 0 0 0 0 by simp [Sl6, Ar6, Fr6, go_sem, hB]) hb1
              replace hb := (hb.setCell (p := ⟨w.heap.size, 1, none⟩) (by simp) (.int .u64 p)).trans hb1; clear hb1)
 refine pR (by simp [results, Tryz.results158, go_sem, hA, hB]; try rfl) rfl ⟨rfl, ?_⟩
 exact Bel.y
theorem Qdo (x : Bool) (m r o d : Nat) (s : Int) (hm : m < 340282366920938463463374607431768211456) (h1 : 1 <= d) (h2 : d < 18446744073709551616) (w : World) :
  Calls Tryz.prog 158 #[wideM x m r o s, .int .u64 d] w fun e w' => e = .returned (wideM x (m / d) (m % d) d s) /\ Bel w w' := by
 obtain ⟨q1, q2, q3⟩ := Qpw m d (by omega)
 refine Qil x (whi m) (wlo m) r o d (whi (m / d)) (whi m % d) (wlo (m / d)) (m % d) s h1 (Qmh hm) q1 rfl (fun w => ?_) w
 have hc := Qmg (whi m % d) (wlo m) d (Nat.mod_lt _ (by omega)) h2 (Nat.lt_succ_of_le (Qvs m)) w
 rw [q2, q3] at hc
 exact hc
def big128 : Nat := 340282366920938463463374607431768211456
theorem Qim (x : Bool) (m s : Nat) (hm : m < big128) (hs : s <= 100) (w : World) :
  Calls Tryz.prog 159 #[wideM x m 0 1 s] w fun e w' => e = .returned (wideM x (trim m s).1 0 1 ((trim m s).2 : Nat)) /\ Bel w w' := by
 have hs' : (s : Int) <= 100 := by omega
 have Hm := Hd hm
 clear hm hs
 go_enter Tryz.func159, Tryz.ntmps159
 go_wp2_with fail
 refine uN (((Bel.refl w).alloc _).alloc _) fun W hc hf hz hb => ?_
 have hA : Sl6 W w.heap.size x (whi m) (wlo m) 0 1 s := by simp [Sl6, Ar6, Fr6, hz, hc, hf, go_sem]
 have hB : Sl6 W (w.heap.size + 1) false 0 0 0 0 0 := by simp [Sl6, Ar6, Fr6, hz, hc, hf, go_sem]
 clear hc hf hz
 go_loopg [] s (fun g wr => ∃ m' s' : Nat, Hid (trim m s = trim m' s' /\ m' < big128 /\ g = s') /\ (s' : Int) <= 100 /\ Sl6 wr w.heap.size x (whi m') (wlo m') 0 1 s' /\ Sl6 wr (w.heap.size + 1) false 0 0 0 0 0 /\ Bel w wr)
 case atStart => exact ⟨m, s, ⟨rfl, Hm.out, rfl⟩, hs', hA, hB, hb⟩
 case round =>
  clear hA hB hb hs'
  obtain ⟨m', s', hh, hs', hA, hB, hb⟩ := hrel
  by_cases h0 : (0 : Int) < s'
  ·obtain ⟨j, hj⟩ : ∃ j, s' = j + 1 := ⟨s' - 1, by omega⟩
   have hd := fun w => Qdo x m' 0 1 10 s' hh.out.2.1 (by omega) (by omega) w
   by_cases hz : m' % 10 = 0
   ·rw [hz] at hd
    have HD := Hd hd
    have hnext : Hid (trim m s = trim (m' / 10) j /\ m' / 10 < big128) := ⟨by rw [hh.out.1, hj, Qcn _ _ hz], Nat.lt_of_le_of_lt (Nat.div_le_self _ _) hh.out.2.1⟩
    have hz1 : (((0 : Nat) : Int) != 0) = false := rfl
    have HJ := Hd hj
    clear hd hz hj
    go_wp2_with (go_at_call 158; refine (HD.out _).mono ?_; rintro e W1 ⟨rfl, hb1⟩
                 replace hA := hA.keep hb1; replace hB := hB.keep hb1; replace hb := hb.trans hb1; clear hb1)
    go_roundg j
    case measure => have := hh.out.2.2; have := HJ.out; omega
    case rel => 
     refine ⟨m' / 10, j, ⟨hnext.out.1, hnext.out.2, rfl⟩, by have := HJ.out; omega, ?_, by simp (maxDischargeDepth := 20) [Sl6, Ar6, Fr6, go_sem, hA, hB], by exact Bel.y⟩
     have hj2 : (s' : Int) - 1 = j := by have := HJ.out; omega
     simp (maxDischargeDepth := 20) [Sl6, Ar6, Fr6, go_sem, hA, hj2]
   have HD := Hd hd
   have hfin : Hid (trim m s = (m', s')) := by rw [Hid, hh.out.1, Qdw _ _ hz]
   have hz1 : (((m' % 10 : Nat) : Int) != 0) = true := by simp; omega
   have hz2 : decide (m' % 10 = 0) = false := by simpa using hz
   clear hd hz hj
   go_wp2_with (go_at_call 158; refine (HD.out _).mono ?_; rintro e W1 ⟨rfl, hb1⟩
                replace hA := hA.keep hb1; replace hB := hB.keep hb1; replace hb := hb.trans hb1; clear hb1)
   refine pR (by simp [results, Tryz.results159, go_sem, hA, hB]; try rfl) rfl ⟨by (rw [hfin.out]) <;> rfl, ?_⟩
   exact Bel.y
  have hfin : Hid (trim m s = (m', s')) := by
   obtain rfl : s' = 0 := by omega
   rw [Hid, hh.out.1]; rfl
  go_wp2
  refine pR (by simp [results, Tryz.results159, go_sem, hA, hB]; try rfl) rfl ⟨by (rw [hfin.out]) <;> rfl, ?_⟩
  exact Bel.y
def decV (x : Bool) (m s : Nat) : Value :=
 if 999999999999 < (trim m s).1 then .tuple #[.agg #[.int .i64 0, .int .i64 0], .int .i64 3]
 else .tuple #[.agg #[.int .i64 (if x = true then -((trim m s).1 : Int) else (trim m s).1), .int .i64 ((trim m s).2 : Nat)], .int .i64 0]
theorem Qs6 (x : Bool) (m s m' s' : Nat) (ht : trim m s = (m', s')) (hm : m < big128) (hs : s <= 100) (w : World) :
  Calls Tryz.prog 118 #[wideM x m 0 1 s] w fun e w' => e = .returned (decV x m s) /\ Bel w w' := by
 have hl : Hid (decV x m s = if 999999999999 < m' then .tuple #[.agg #[.int .i64 0, .int .i64 0], .int .i64 3]
   else .tuple #[.agg #[.int .i64 (if x = true then -(m' : Int) else m'), .int .i64 (s' : Nat)], .int .i64 0]) := by rw [Hid, decV, ht]
 have hc := fun w => Qim x m s hm hs w
 rw [ht] at hc
 have HC := Hd hc
 clear hc
 have ha : ∀ W : World, Bel w W -> Sl6 W w.heap.size x (whi m) (wlo m) 0 1 s -> True := fun _ _ _ => trivial
 clear ha
 by_cases hbig : 999999999999 < m'
 ·rw [hl.out, iP hbig]
  have hm' : m' < big128 := by have := (Qdm s m).1; rw [ht] at this; simp only at this; omega
  by_cases hh : 18446744073709551616 <= m'
  ·have k1 : ((whi m' : Int) != 0) = true := by
    have : 0 < whi m' := Nat.div_pos hh (by omega)
    simp; omega
   have k2 : decide (whi m' = 0) = false := by
    have : 0 < whi m' := Nat.div_pos hh (by omega)
    simp; omega
   clear ht hm hs hbig hh hm'
   go_enter Tryz.func118, Tryz.ntmps118
   go_wp2_with fail
   refine Qac (((Bel.refl w).alloc _).alloc _) fun W hc hf hz hb => ?_
   have hA : Sl6 W w.heap.size x (whi m) (wlo m) 0 1 s := by simp [Sl6, Ar6, Fr6, hz, hc, hf, go_sem]
   have hB : Sl2 W (w.heap.size + 1) 0 0 := by simp [Sl2, Arr2, Fr2, hz, hc, hf, go_sem]
   clear hc hf hz
   go_wp2_with (go_at_call 159; refine (HC.out _).mono ?_; rintro e W1 ⟨rfl, hb1⟩
                replace hA := hA.keep hb1; replace hB := hB.keep hb1; replace hb := hb.trans hb1; clear hb1)
   refine pR (by simp [results, Tryz.results118, go_sem, hA, hB]; try rfl) rfl ⟨rfl, ?_⟩
   exact Bel.y
  have k0 := Qdy (show m' < 18446744073709551616 by omega)
  have k1 := Qdz (show m' < 18446744073709551616 by omega)
  have hbig' : (999999999999 : Int) < m' := by omega
  clear ht hm hs hbig hh hm'
  go_enter Tryz.func118, Tryz.ntmps118
  go_wp2_with fail
  refine Qac (((Bel.refl w).alloc _).alloc _) fun W hc hf hz hb => ?_
  have hA : Sl6 W w.heap.size x (whi m) (wlo m) 0 1 s := by simp [Sl6, Ar6, Fr6, hz, hc, hf, go_sem]
  have hB : Sl2 W (w.heap.size + 1) 0 0 := by simp [Sl2, Arr2, Fr2, hz, hc, hf, go_sem]
  clear hc hf hz
  go_wp2_with (go_at_call 159; refine (HC.out _).mono ?_; rintro e W1 ⟨rfl, hb1⟩
               replace hA := hA.keep hb1; replace hB := hB.keep hb1; replace hb := hb.trans hb1; clear hb1)
  refine pR (by simp [results, Tryz.results118, go_sem, hA, hB]; try rfl) rfl ⟨rfl, ?_⟩
  exact Bel.y
 rw [hl.out, iN hbig]
 have k0 := Qdy (show m' < 18446744073709551616 by omega)
 have k1 := Qdz (show m' < 18446744073709551616 by omega)
 have hbig' : (m' : Int) <= 999999999999 := by omega
 clear ht hm hs hbig
 cases x with
 | true =>
  go_enter Tryz.func118, Tryz.ntmps118
  go_wp2_with fail
  refine Qac (((Bel.refl w).alloc _).alloc _) fun W hc hf hz hb => ?_
  have hA : Sl6 W w.heap.size true (whi m) (wlo m) 0 1 s := by simp [Sl6, Ar6, Fr6, hz, hc, hf, go_sem]
  have hB : Sl2 W (w.heap.size + 1) 0 0 := by simp [Sl2, Arr2, Fr2, hz, hc, hf, go_sem]
  clear hc hf hz
  go_wp2_with (go_at_call 159; refine (HC.out _).mono ?_; rintro e W1 ⟨rfl, hb1⟩
               replace hA := hA.keep hb1; replace hB := hB.keep hb1; replace hb := hb.trans hb1; clear hb1)
  refine pR (by simp [results, Tryz.results118, go_sem, hA, hB]; try rfl) rfl ⟨rfl, ?_⟩
  exact Bel.y
 | false =>
  go_enter Tryz.func118, Tryz.ntmps118
  go_wp2_with fail
  refine Qac (((Bel.refl w).alloc _).alloc _) fun W hc hf hz hb => ?_
  have hA : Sl6 W w.heap.size false (whi m) (wlo m) 0 1 s := by simp [Sl6, Ar6, Fr6, hz, hc, hf, go_sem]
  have hB : Sl2 W (w.heap.size + 1) 0 0 := by simp [Sl2, Arr2, Fr2, hz, hc, hf, go_sem]
  clear hc hf hz
  go_wp2_with (go_at_call 159; refine (HC.out _).mono ?_; rintro e W1 ⟨rfl, hb1⟩
               replace hA := hA.keep hb1; replace hB := hB.keep hb1; replace hb := hb.trans hb1; clear hb1)
  refine pR (by simp [results, Tryz.results118, go_sem, hA, hB]; try rfl) rfl ⟨rfl, ?_⟩
  exact Bel.y
theorem Qgn (x : Bool) (m s : Nat) (hm : m < big128) (hs : s <= 100) (w : World) :
  Calls Tryz.prog 118 #[wideM x m 0 1 s] w fun e w' => e = .returned (decV x m s) /\ Bel w w' :=
 Qs6 x m s _ _ rfl hm hs w
def DecsAt (w : World) (b : Nat) (l : List (Int × Int)) : Prop :=
 b < w.heap.size /\ ∀ (i : Nat) (h : i < l.length), w.cell? ⟨b, i * 2, none⟩ = some (.int .i64 l[i].1) /\ w.cell? ⟨b, i * 2 + 1, none⟩ = some (.int .i64 l[i].2)
theorem DecsAt.keep {w w' : World} {b : Nat} {l : List (Int × Int)} (h : DecsAt w b l) (hb : Bel w w') : DecsAt w' b l :=
 ⟨lL h.1 hb.size, fun i hi => ⟨(hb.cells _ _ h.1).trans (h.2 i hi).1, (hb.cells _ _ h.1).trans (h.2 i hi).2⟩⟩
def allSnd (l : List (Int × Int)) : Bool := l.all fun p => sndB p.1 p.2
theorem Qd0 {α : Type} (f : α -> Bool) (l : List α) (k : Nat) (h : k < l.length) : (l.take (k + 1)).all f = ((l.take k).all f && f l[k]) := by
 rw [List.take_succ_eq_append_getElem h, List.all_append]; simp
theorem Qhj {α : Type} (f : α -> Bool) (l : List α) (k : Nat) (h : k < l.length) (hf : f l[k] = false) : l.all f = false := by
 rw [Bool.eq_false_iff]
 intro ha
 rw [List.all_eq_true] at ha
 have := ha l[k] (List.getElem_mem h)
 rw [hf] at this
 cases this
theorem Qev (b : Nat) (l : List (Int × Int)) (c : Nat) (hl : l.length <= 1000000) (w : World) (hd : DecsAt w b l) :
  Calls Tryz.prog 114 #[.slice (some ⟨b, 0, none⟩) l.length c] w fun e w' => e = .returned (.bool (allSnd l)) /\ Bel w w' := by
 go_enter Tryz.func114, Tryz.ntmps114
 go_wp2
 go_loopg [7] l.length (fun g i wr => ∃ k : Nat, k <= l.length /\ i = .int .i64 k /\ Hid ((l.take k).all (fun p => sndB p.1 p.2) = true /\ g = l.length - k) /\ Bel w wr)
 case atStart => exact ⟨0, Nat.zero_le _, rfl, ⟨rfl, rfl⟩, Bel.refl _⟩
 case round =>
  obtain ⟨k, hk, rfl, hh, hb⟩ := hrel
  by_cases hlt : k < l.length
  ·have hcell := (hd.keep hb).2 k hlt
   obtain ⟨c1, c2⟩ := hcell
   have hlt' := (hd.keep hb).1
   have hs := fun w => Qdx l[k].1 l[k].2 w
   obtain ⟨x, hx⟩ : ∃ x, x = l[k].1 := ⟨_, rfl⟩
   obtain ⟨y, hy⟩ : ∃ y, y = l[k].2 := ⟨_, rfl⟩
   rw [← hx, ← hy] at hs
   rw [← hx] at c1
   rw [← hy] at c2
   cases hv : sndB x y with
   | true =>
    rw [hv] at hs
    have HS := Hd hs
    have hn : Hid ((l.take (k + 1)).all (fun p => sndB p.1 p.2) = true) := by
     rw [Hid, Qd0 _ _ _ hlt, hh.out.1, ← hx, ← hy, hv]; rfl
    clear hs hx hy hv
    go_wp2_with (go_at_call 41; refine (HS.out _).mono ?_; rintro e W1 ⟨rfl, hb1⟩; replace hb := (hb.alloc _).trans hb1; clear hb1)
    go_roundg (gk - 1)
    case measure => have := hh.out.2; omega
    case rel => exact ⟨k + 1, by omega, by go_num, ⟨hn.out, by have := hh.out.2; omega⟩, hb⟩
   | false =>
    rw [hv] at hs
    have HS := Hd hs
    have hn : Hid (allSnd l = false) := Qhj _ _ _ hlt (by rw [← hx, ← hy, hv])
    clear hs hx hy hv
    go_wp2_with (go_at_call 41; refine (HS.out _).mono ?_; rintro e W1 ⟨rfl, hb1⟩; replace hb := (hb.alloc _).trans hb1; clear hb1)
    go_ret
    exact ⟨by (rw [hn.out]) <;> rfl, hb⟩
  have hn : Hid (allSnd l = true) := by
   have h := hh.out.1
   rw [List.take_of_length_le (by omega)] at h
   exact h
  go_wp2
  go_ret
  exact ⟨by (rw [hn.out]) <;> rfl, hb⟩
theorem decs1 {w : World} {b : Nat} {x y : Int} (hb : b < w.heap.size) (h0 : w.cell? ⟨b, 0, none⟩ = some (.int .i64 x)) (h1 : w.cell? ⟨b, 1, none⟩ = some (.int .i64 y)) : DecsAt w b [(x, y)] := by
 refine ⟨hb, fun i hi => ?_⟩
 obtain rfl : i = 0 := by simp at hi; omega
 exact ⟨h0, h1⟩
theorem Qeh (x y : Int) (b : Nat) (w : World) (hd : DecsAt w b [(x, y)]) :
  Calls Tryz.prog 114 #[.slice (some ⟨b, 0, none⟩) 1 1] w fun e w' => e = .returned (.bool (sndB x y)) /\ Bel w w' :=
 (Qev b [(x, y)] 1 (by simp) w hd).mono fun e w' ⟨he, hb⟩ => ⟨by rw [he]; simp [allSnd], hb⟩
abbrev errV (k : Int) : Value := .tuple #[.agg #[.int .i64 0, .int .i64 0], .int .i64 k]
abbrev decA (n s : Int) : Value := .agg #[.int .i64 n, .int .i64 s]
theorem Qbf {n s : Int} (h : SndD n s) : sndB n s = true := dT h
theorem Qjt {n s : Int} (h : ¬ SndD n s) : sndB n s = false := dF h
theorem Qco (x : Bool) (m s : Nat) : ∃ a b e, decV x m s = .tuple #[decA a b, .int .i64 e] := by
 unfold decV
 split
 ·exact ⟨_, _, _, rfl⟩
 exact ⟨_, _, _, rfl⟩
def makeV (n s : Int) : Value := if 0 <= s /\ s <= 6 /\ small n then decV (decide (n < 0)) n.natAbs s.toNat else errV 3
def negV (n s : Int) : Value := if SndD n s then .tuple #[decA (-n) s, .int .i64 0] else errV 2
theorem wide0 {x : Bool} {m : Nat} {r o : Nat} {s : Int} (h : m < 18446744073709551616) : wideM x m r o s = wideV x 0 m r o s := by
 show wideV x (whi m) (wlo m) r o s = _
 rw [Qdy h, Qdz h]
def dgt (n k : Nat) : UInt8 := UInt8.ofNat (48 + n / k % 10)
theorem dec1 (n : Nat) (h : n < 10) : Lib.decDigits n = [dgt n 1] := by rw [Lib.decDigits, dif_pos h]; simp [dgt, Nat.mod_eq_of_lt h]
theorem decS (n : Nat) (h : 10 <= n) : Lib.decDigits n = Lib.decDigits (n / 10) ++ [dgt n 1] := by rw [Lib.decDigits, dif_neg (by omega)]; simp [dgt]
theorem Qei (k : Nat) : ∀ n, n < 10 ^ (k + 1) -> (Lib.decDigits n).length <= k + 1 := by
 induction k with
 | zero => intro n h; rw [dec1 n (by simpa using h)]; simp
 | succ k ih =>
  intro n h
  by_cases h1 : n < 10
  ·rw [dec1 n h1]; simp
  rw [decS n (by omega), lA]
  have := ih (n / 10) (by rw [Nat.div_lt_iff_lt_mul (by omega)]; rw [Nat.pow_succ] at h; exact h)
  simp; omega
def padL (k n : Nat) : List UInt8 := Lib.repeatL [48] (k - (Lib.decDigits n).length) ++ Lib.decDigits n
theorem Qmi (a b : List UInt8) : (⟨a.toArray⟩ : ByteArray) ++ ⟨b.toArray⟩ = ⟨(a ++ b).toArray⟩ := by
 exact ByteArray.ext (by simp [ByteArray.data_append])
def txtL (neg : Bool) (x s : Nat) : List UInt8 := (if neg = true then [45] else []) ++ (Lib.decDigits (x / P10 s) ++ (if s = 0 then [] else 46 :: padL s (x % P10 s)))
def Qay (l : List UInt8) : List UInt8 := l.takeWhile (· != 46)
def Qa4 (l : List UInt8) : List UInt8 := (l.dropWhile (· != 46)).drop 1
def has46 (l : List UInt8) : Bool := !(l.dropWhile (· != 46)).isEmpty
theorem idx46 (l : List UInt8) : Lib.indexByte l 46 = if has46 l = true then ((Qay l).length : Int) else -1 := by
 induction l with
 | nil => rfl
 | cons c r ih =>
  unfold Lib.indexByte Qay has46
  by_cases h : c = 46
  ·subst h; simp
  have hc : (c == 46) = false := by simpa using h
  have hc2 : (c != 46) = true := by simpa using h
  simp only [hc, Bool.false_eq_true, if_false, List.takeWhile_cons, hc2, if_true, List.dropWhile_cons]
  rw [ih]
  unfold has46 Qay
  cases hd : (r.dropWhile (· != 46)).isEmpty
  ·simp
  simp
theorem Qmj (l : List UInt8) (h : has46 l = true) : l = Qay l ++ 46 :: Qa4 l := by
 have h1 := List.takeWhile_append_dropWhile (p := (· != (46 : UInt8))) (l := l)
 unfold has46 at h
 unfold Qay Qa4
 cases hd : l.dropWhile (· != 46) with
 | nil => rw [hd] at h; cases h
 | cons c r =>
  have hc : c = 46 := by
   have := List.head_dropWhile_not (p := (· != (46 : UInt8))) (l := l) (by rw [hd]; simp)
   simp [hd] at this
   exact this
  subst hc
  rw [hd] at h1
  simpa using h1.symm
theorem Qmk (l : List UInt8) (h : has46 l = false) : Qay l = l := by
 have h1 := List.takeWhile_append_dropWhile (p := (· != (46 : UInt8))) (l := l)
 unfold has46 at h
 have : l.dropWhile (· != 46) = [] := by simpa using h
 rw [this, List.append_nil] at h1
 exact h1
theorem Qin (s : ByteArray) (w : World) : Calls Tryz.prog 220 #[.string s, .int .u8 46] w fun e w' => e = .returned (.int .i64 (if has46 s.data.toList = true then ((Qay s.data.toList).length : Int) else -1)) /\ w' = w :=
 (Tryz.stringslite_IndexByte s 46 w).mono fun e w' ⟨he, hw⟩ => ⟨by rw [he, ← idx46]; rfl, hw⟩
theorem Qml (s : ByteArray) (w : World) : Calls Tryz.prog 206 #[.string s, .string ⟨#[46]⟩] w fun e w' => e = .returned (.int .i64 (if has46 s.data.toList = true then ((Qay s.data.toList).length : Int) else -1)) /\ Bel w w' := by
 have c1 := Hd fun w => Qin s w
 by_cases h : s = ⟨#[46]⟩
 ·subst h
  have k1 : ([46] == (⟨#[46]⟩ : ByteArray).toList) = true := by rw [ByteArray.toList_eq]; decide
  have hv : Hid ((if has46 ((⟨#[46]⟩ : ByteArray).data.toList) = true then ((Qay ((⟨#[46]⟩ : ByteArray).data.toList)).length : Int) else -1) = 0) := by
   show _ = _
   decide
  rw [hv.out]
  set_option maxRecDepth 100000 in
  go_enter Tryz.func206, Tryz.ntmps206
  set_option maxRecDepth 100000 in
  go_wp2_with (go_at_call 220; refine (c1.out _).mono ?_; rintro e W1 ⟨rfl, rfl⟩)
  go_ret
  exact ⟨rfl, Bel.refl _⟩
 have k1 : ([46] == s.toList) = false := by
  rw [Bool.eq_false_iff]
  intro h2
  rw [beq_iff_eq] at h2
  exact h ((Qba s ⟨#[46]⟩).1 (by rw [← h2, ByteArray.toList_eq]))
 generalize (if has46 s.data.toList = true then ((Qay s.data.toList).length : Int) else -1) = v at *
 clear h
 set_option maxRecDepth 100000 in
 go_enter Tryz.func206, Tryz.ntmps206
 set_option maxRecDepth 100000 in
 go_wp2_with (go_at_call 220; refine (c1.out _).mono ?_; rintro e W1 ⟨rfl, rfl⟩)
 go_ret
 exact ⟨rfl, Bel.refl _⟩
theorem Qs7 (s : ByteArray) (hsz : s.size <= 9223372036854775807) (w : World) : Calls Tryz.prog 171 #[.string s, .string ⟨#[46]⟩] w fun e w' =>
  e = .returned (.tuple #[.string ⟨(Qay s.data.toList).toArray⟩, .string ⟨(Qa4 s.data.toList).toArray⟩, .bool (has46 s.data.toList)]) /\ Bel w w' := by
 have c1 := Qml s
 have inner : ∀ w, Calls Tryz.prog 190 #[.string s, .string ⟨#[46]⟩] w fun e w' =>
   e = .returned (.tuple #[.string ⟨(Qay s.data.toList).toArray⟩, .string ⟨(Qa4 s.data.toList).toArray⟩, .bool (has46 s.data.toList)]) /\ Bel w w' := by
  intro w
  cases h : has46 s.data.toList with
  | false =>
   rw [h] at c1
   have C1 := Hd c1
   have hv : Hid ((⟨(Qay s.data.toList).toArray⟩ : ByteArray) = s /\ (Qa4 s.data.toList) = []) := ⟨by rw [Qmk _ h], by
    unfold has46 at h
    unfold Qa4
    have : s.data.toList.dropWhile (· != 46) = [] := by simpa using h
    rw [this]; rfl⟩
   clear c1 h
   rw [hv.out.1, hv.out.2]
   go_enter Tryz.func190, Tryz.ntmps190
   go_wp2_with (go_at_call 206; refine (C1.out _).mono ?_; rintro e W1 ⟨rfl, hb1⟩)
   go_ret3
   exact ⟨rfl, hb1⟩
  | true =>
   rw [h] at c1
   have hba := Qmj _ h
   obtain ⟨i, hi⟩ : ∃ i, i = (Qay s.data.toList).length := ⟨_, rfl⟩
   have C1 := Hd (show ∀ w, Calls Tryz.prog 206 #[.string s, .string ⟨#[46]⟩] w fun e w' => e = .returned (.int .i64 (i : Int)) /\ Bel w w' by rw [hi]; exact c1)
   have hlen : s.size = i + 1 + (Qa4 s.data.toList).length := by
    have h2 := congrArg List.length hba
    rw [lA, List.length_cons, Array.length_toList] at h2
    rw [hi]
    show s.data.size = _
    omega
   have hv1 : Hid (s.extract 0 i = ⟨(Qay s.data.toList).toArray⟩) := by
    refine ByteArray.ext ?_
    rw [ByteArray.data_extract]
    apply Array.toList_inj.1
    rw [Array.toList_extract]
    conv => lhs; rw [hba]
    simp [hi]
   have hv2 : Hid (s.extract (i + 1) s.size = ⟨(Qa4 s.data.toList).toArray⟩) := by
    refine ByteArray.ext ?_
    rw [ByteArray.data_extract]
    apply Array.toList_inj.1
    rw [Array.toList_extract]
    conv => lhs; rw [hba]
    rw [hlen, hi]
    simp
   have i1 : i + 1 <= s.size := by omega
   have i2 : (i : Int) + 1 <= s.size := by omega
   have i3 : (i : Int) <= s.size := by omega
   have i4 : (0 : Int) <= (i : Int) := by omega
   have w1 : IntKind.i64.wrap ((i : Int) + 1) = (i : Int) + 1 := by rw [IntKind.wrap_i64]; omega
   have i5 : ((i : Int) + 1).toNat = i + 1 := by omega
   clear c1 h hba hi hlen
   go_enter Tryz.func190, Tryz.ntmps190
   go_wp2_with (go_at_call 206; refine (C1.out _).mono ?_; rintro e W1 ⟨rfl, hb1⟩)
   go_region
   all_goals
    go_wp2
    go_ret3
    exact ⟨by rw [hv1.out, hv2.out]; rfl, hb1.drew⟩
 have IN := Hd inner
 clear inner c1
 go_enter Tryz.func171, Tryz.ntmps171
 go_wp2_with (go_at_call 190; refine (IN.out _).mono ?_; rintro e W1 ⟨rfl, hb1⟩)
 go_ret3
 exact ⟨rfl, hb1⟩
def dB (c : UInt8) : Bool := decide (48 <= c.toNat /\ c.toNat <= 57)
def dOk (l : List UInt8) : Bool := l.all dB
def digB (l : List UInt8) : Bool := dOk l && !l.isEmpty
theorem Qmm {l : List UInt8} (h : dOk l = false) : digB l = false := by rw [digB, h]; rfl
theorem Qvt (l : List UInt8) (k : Nat) (h : k < l.length) (hf : dB l[k] = false) : dOk l = false := Qhj _ _ _ h hf
theorem Qc5 (s : ByteArray) (hsz : s.size <= 9223372036854775807) (w : World) : Calls Tryz.prog 185 #[.string s] w fun e w' => e = .returned (.bool (digB s.data.toList)) /\ Bel w w' := by
 go_enter Tryz.func185, Tryz.ntmps185
 go_wp2
 go_loop [6] (fun i => ∃ k : Nat, k <= s.size /\ i = .int .i64 k /\ Hid ((s.data.toList.take k).all dB = true)) (fun i => s.size - (intOf i).toNat)
 case atStart => exact ⟨0, Nat.zero_le _, rfl, rfl⟩
 case round =>
  obtain ⟨k, hk, rfl, hh⟩ := hrel
  by_cases hlt : k < s.size
  ·have hlt' : k < s.data.toList.length := by rw [Array.length_toList]; exact hlt
   have hg : s.data.toList[k] = s[k] := rfl
   have HO := Hd (Qd0 dB s.data.toList k hlt')
   have HN := Hd (Qvt s.data.toList k hlt')
   rw [hg] at HO HN
   by_cases h1 : 48 <= s[k].toNat
   ·have b1 : decide ((s[k].toNat : Int) < 48) = false := by simp; omega
    by_cases h2 : s[k].toNat <= 57
    ·have b2 : decide (57 < (s[k].toNat : Int)) = false := by simp; omega
     have HB := Hd (show dB s[k] = true by simp [dB, h1, h2])
     clear h1 h2 hg
     go_wp2
     go_round
     case rel => exact ⟨k + 1, by omega, by go_num, by rw [Hid, HO.out, hh.out, HB.out]; rfl⟩
     case measure => simp [intOf]; omega
    have b2 : decide (57 < (s[k].toNat : Int)) = true := by simp; omega
    have HB := Hd (Qmm (HN.out (by simp [dB]; omega)))
    clear h1 h2 hg
    go_wp2
    go_ret
    exact ⟨by rw [HB.out]; rfl, Bel.refl _⟩
   have b1 : decide ((s[k].toNat : Int) < 48) = true := by simp; omega
   have HB := Hd (Qmm (HN.out (by simp [dB]; omega)))
   clear h1 hg
   go_wp2
   go_ret
   exact ⟨by rw [HB.out]; rfl, Bel.refl _⟩
  have HD := Hd (show dOk s.data.toList = true by
   have h := hh.out
   rw [List.take_of_length_le (by rw [Array.length_toList]; show s.size <= k; omega)] at h
   exact h)
  have HE : Hid ((!s.toList.isEmpty) = digB s.data.toList) := by rw [Hid, digB, HD.out, ByteArray.toList_eq]; rfl
  go_wp2
  go_ret
  exact ⟨by rw [← HE.out]; rfl, Bel.refl _⟩
def trimR (l : List UInt8) : List UInt8 := Lib.trimRightB l 48
def numL (l : List UInt8) : Nat := l.foldl (fun a c => a * 10 + (c.toNat - 48)) 0
theorem Qmn (l : List UInt8) : ∀ a, dOk l = true -> l.foldl (fun a c => a * 10 + (c.toNat - 48)) a + 1 <= (a + 1) * 10 ^ l.length := by
 induction l with
 | nil => intro a _; simp
 | cons c r ih =>
  intro a h
  simp only [dOk, List.all_cons, bA] at h
  have hc := h.1
  simp only [dB, decide_eq_true_eq] at hc
  have := ih (a * 10 + (c.toNat - 48)) h.2
  simp only [List.foldl_cons, List.length_cons, Nat.pow_succ]
  refine Nat.le_trans this ?_
  have h2 : a * 10 + (c.toNat - 48) + 1 <= (a + 1) * 10 := by omega
  calc (a * 10 + (c.toNat - 48) + 1) * 10 ^ r.length <= ((a + 1) * 10) * 10 ^ r.length := Nat.mul_le_mul_right _ h2
   _ = (a + 1) * (10 ^ r.length * 10) := by rw [Nat.mul_assoc, Nat.mul_comm 10]
theorem Qs8 (l : List UInt8) (h : dOk l = true) (hl : l.length <= 18) : numL l < 1000000000000000000 := by
 have := Qmn l 0 h
 have h2 : 10 ^ l.length <= 10 ^ 18 := Nat.pow_le_pow_right (by omega) hl
 unfold numL
 omega
theorem Qio (l : List UInt8) : ∀ a, dOk l = true -> Lib.decFrom a l = some (l.foldl (fun a c => a * 10 + (c.toNat - 48)) a) := by
 induction l with
 | nil => intro a _; rfl
 | cons c r ih =>
  intro a h
  simp only [dOk, List.all_cons, bA] at h
  have hc := h.1
  simp only [dB, decide_eq_true_eq] at hc
  have hv : Lib.digitVal c = some (c.toNat - 48) := iP hc
  rw [List.foldl_cons, ← ih _ h.2]
  simp only [Lib.decFrom, hv]
theorem Qpx (l : List UInt8) (h : digB l = true) : Lib.atoi l = some ((numL l : Nat) : Int) := by
 unfold digB at h
 rw [bA] at h
 obtain ⟨h1, h2⟩ := h
 cases l with
 | nil => cases h2
 | cons c r =>
  have hc : dB c = true := by simp [dOk] at h1; exact h1.1
  simp only [dB, decide_eq_true_eq] at hc
  have n1 : (c == 45) = false := by
   rw [bN]
   rintro rfl
   simp at hc
  have n2 : (c == 43) = false := by
   rw [bN]
   rintro rfl
   simp at hc
  unfold Lib.atoi
  simp only [n1, n2, Bool.false_eq_true, if_false]
  unfold Lib.decNat
  simp only [List.isEmpty_cons, Bool.false_eq_true, if_false]
  rw [Qio _ _ h1]
  rfl
theorem Qmo (a b : List UInt8) : dOk (a ++ b) = (dOk a && dOk b) := by simp [dOk]
theorem Qju (l : List UInt8) (h : dOk l = true) : dOk (trimR l) = true := by
 simp only [dOk, List.all_eq_true] at h ⊢
 intro x hx
 refine h x ?_
 unfold trimR Lib.trimRightB at hx
 rw [List.mem_reverse] at hx
 have := (List.dropWhile_suffix (p := (· == (48 : UInt8))) (l := l.reverse)).subset hx
 exact List.mem_reverse.1 this
theorem Qjv (l : List UInt8) (h : has46 l = false) : Qa4 l = [] := by
 unfold has46 at h
 unfold Qa4
 have : l.dropWhile (· != 46) = [] := by simpa using h
 rw [this]; rfl
def partsV (mn : Bool) (W P : List UInt8) (pt : Bool) : Value :=
 if digB W = false \/ (1 < W.length /\ W[0]? = some 48) \/ (pt = true /\ digB P = false) then errV 5
 else if 12 < W.length \/ 6 < (trimR P).length then errV 3
 else decV (mn && decide (0 < numL (W ++ trimR P))) (numL (W ++ trimR P)) (trimR P).length
def parseV (l : List UInt8) : Value :=
 partsV (Lib.hasPrefix l [45]) (Qay (Lib.trimPrefix l [45])) (Qa4 (Lib.trimPrefix l [45])) (has46 (Lib.trimPrefix l [45]))
theorem idx0 {W : ByteArray} (h : 0 < W.size) : W.data.toList[0]? = some (W[0]'h) := by
 rw [gE (by rw [Array.length_toList]; exact h)]; rfl
theorem Qip {b : UInt8} : ((b.toNat : Int) == 48) = decide (b = 48) := by
 rw [Bool.eq_iff_iff]
 simp only [beq_iff_eq, decide_eq_true_eq]
 constructor
 ·intro h
  exact UInt8.toNat_inj.mp (by have : b.toNat = 48 := by omega
                               rw [this]; rfl)
 rintro rfl; rfl
theorem Qmp (s B W P : ByteArray) (mn pt : Bool)
  (c1 : ∀ w, Calls Tryz.prog 170 #[.string s, .string ⟨#[45]⟩] w fun e w' => e = .returned (.tuple #[.string B, .bool mn]) /\ w' = w)
  (c2 : ∀ w, Calls Tryz.prog 171 #[.string B, .string ⟨#[46]⟩] w fun e w' => e = .returned (.tuple #[.string W, .string P, .bool pt]) /\ Bel w w')
  (hW : W.size <= 9223372036854775807) (hP : P.size <= 9223372036854775807)
  (hbad : digB W.data.toList = false \/ (digB W.data.toList = true /\ 1 < W.size /\ W.data.toList[0]? = some 48) \/ (digB W.data.toList = true /\ ¬ (1 < W.size /\ W.data.toList[0]? = some 48) /\ pt = true /\ digB P.data.toList = false)) (w : World) :
  Calls Tryz.prog 166 #[.string s] w fun e w' => e = .returned (errV 5) /\ Bel w w' := by
 have C1 := Hd c1
 have C2 := Hd c2
 have d1 := Hd fun w => Qc5 W hW w
 have d2 := Hd fun w => Qc5 P hP w
 clear c1 c2 hP
 rcases hbad with h | ⟨h, h2, h3⟩ | ⟨h, h2, rfl, h4⟩
 ·rw [h] at d1
  clear h
  set_option maxRecDepth 100000 in
  go_enter Tryz.func166, Tryz.ntmps166
  go_wp2_with fail
  refine Qac ((Bel.refl w).alloc _) fun W0 hc hf hz hb => ?_
  have hR : Sl2 W0 w.heap.size 0 0 := by simp [Sl2, Arr2, Fr2, hz, hc, hf, go_sem]
  clear hc hf hz
  set_option maxRecDepth 100000 in
  go_wp2_with (first
   | (go_at_call 170; refine (C1.out _).mono ?_; rintro e W1 ⟨rfl, rfl⟩)
   | (go_at_call 171; refine (C2.out _).mono ?_; rintro e W2 ⟨rfl, hb1⟩; replace hR := hR.keep hb1; replace hb := hb.trans hb1; clear hb1)
   | (go_at_call_of 185 (Value.string W); refine (d1.out _).mono ?_; rintro e W3 ⟨rfl, hb1⟩; replace hR := hR.keep hb1; replace hb := hb.trans hb1; clear hb1))
  refine pR (by simp [results, Tryz.results166, go_sem, hR]; try rfl) rfl ⟨rfl, ?_⟩
  exact Bel.y
 ·rw [h] at d1
  have h0 : 0 < W.size := by omega
  have hx : (((W[0]'h0).toNat : Int) == 48) = true := by
   rw [Qip]
   rw [idx0 h0] at h3
   simpa using h3
  have i1 : (1 : Int) < W.size := by omega
  clear h h3
  set_option maxRecDepth 100000 in
  go_enter Tryz.func166, Tryz.ntmps166
  go_wp2_with fail
  refine Qac ((Bel.refl w).alloc _) fun W0 hc hf hz hb => ?_
  have hR : Sl2 W0 w.heap.size 0 0 := by simp [Sl2, Arr2, Fr2, hz, hc, hf, go_sem]
  clear hc hf hz
  set_option maxRecDepth 100000 in
  go_wp2_with (first
   | (go_at_call 170; refine (C1.out _).mono ?_; rintro e W1 ⟨rfl, rfl⟩)
   | (go_at_call 171; refine (C2.out _).mono ?_; rintro e W2 ⟨rfl, hb1⟩; replace hR := hR.keep hb1; replace hb := hb.trans hb1; clear hb1)
   | (go_at_call_of 185 (Value.string W); refine (d1.out _).mono ?_; rintro e W3 ⟨rfl, hb1⟩; replace hR := hR.keep hb1; replace hb := hb.trans hb1; clear hb1))
  refine pR (by simp [results, Tryz.results166, go_sem, hR]; try rfl) rfl ⟨rfl, ?_⟩
  exact Bel.y
 rw [h] at d1
 rw [h4] at d2
 by_cases h1 : 1 < W.size
 ·have h0 : 0 < W.size := by omega
  have hx : (((W[0]'h0).toNat : Int) == 48) = false := by
   rw [Qip, decide_eq_false_iff_not]
   intro hh
   exact h2 ⟨h1, by rw [idx0 h0, hh]⟩
  have i1 : (1 : Int) < W.size := by omega
  clear h h2 h4
  set_option maxRecDepth 100000 in
  go_enter Tryz.func166, Tryz.ntmps166
  go_wp2_with fail
  refine Qac ((Bel.refl w).alloc _) fun W0 hc hf hz hb => ?_
  have hR : Sl2 W0 w.heap.size 0 0 := by simp [Sl2, Arr2, Fr2, hz, hc, hf, go_sem]
  clear hc hf hz
  set_option maxRecDepth 100000 in
  go_wp2_with (first
   | (go_at_call 170; refine (C1.out _).mono ?_; rintro e W1 ⟨rfl, rfl⟩)
   | (go_at_call 171; refine (C2.out _).mono ?_; rintro e W2 ⟨rfl, hb1⟩; replace hR := hR.keep hb1; replace hb := hb.trans hb1; clear hb1)
   | (go_at_call_of 185 (Value.string W); refine (d1.out _).mono ?_; rintro e W3 ⟨rfl, hb1⟩; replace hR := hR.keep hb1; replace hb := hb.trans hb1; clear hb1)
   | (go_at_call_of 185 (Value.string P); refine (d2.out _).mono ?_; rintro e W4 ⟨rfl, hb1⟩; replace hR := hR.keep hb1; replace hb := hb.trans hb1; clear hb1))
  refine pR (by simp [results, Tryz.results166, go_sem, hR]; try rfl) rfl ⟨rfl, ?_⟩
  exact Bel.y
 have i1 : ¬ (1 : Int) < W.size := by omega
 have i2 : decide (1 < W.size) = false := by simpa using h1
 clear h h2 h4
 set_option maxRecDepth 100000 in
 go_enter Tryz.func166, Tryz.ntmps166
 go_wp2_with fail
 refine Qac ((Bel.refl w).alloc _) fun W0 hc hf hz hb => ?_
 have hR : Sl2 W0 w.heap.size 0 0 := by simp [Sl2, Arr2, Fr2, hz, hc, hf, go_sem]
 clear hc hf hz
 set_option maxRecDepth 100000 in
 go_wp2_with (first
  | (go_at_call 170; refine (C1.out _).mono ?_; rintro e W1 ⟨rfl, rfl⟩)
  | (go_at_call 171; refine (C2.out _).mono ?_; rintro e W2 ⟨rfl, hb1⟩; replace hR := hR.keep hb1; replace hb := hb.trans hb1; clear hb1)
  | (go_at_call_of 185 (Value.string W); refine (d1.out _).mono ?_; rintro e W3 ⟨rfl, hb1⟩; replace hR := hR.keep hb1; replace hb := hb.trans hb1; clear hb1)
  | (go_at_call_of 185 (Value.string P); refine (d2.out _).mono ?_; rintro e W4 ⟨rfl, hb1⟩; replace hR := hR.keep hb1; replace hb := hb.trans hb1; clear hb1))
 refine pR (by simp [results, Tryz.results166, go_sem, hR]; try rfl) rfl ⟨rfl, ?_⟩
 exact Bel.y
theorem Qld (s B W P T : ByteArray) (mn pt : Bool)
  (c1 : ∀ w, Calls Tryz.prog 170 #[.string s, .string ⟨#[45]⟩] w fun e w' => e = .returned (.tuple #[.string B, .bool mn]) /\ w' = w)
  (c2 : ∀ w, Calls Tryz.prog 171 #[.string B, .string ⟨#[46]⟩] w fun e w' => e = .returned (.tuple #[.string W, .string P, .bool pt]) /\ Bel w w')
  (hW : W.size <= 9223372036854775807) (hP : P.size <= 9223372036854775807)
  (hd : digB W.data.toList = true) (hz0 : ¬ (1 < W.size /\ W.data.toList[0]? = some 48)) (hpt : pt = true -> digB P.data.toList = true)
  (c3 : ∀ w, Calls Tryz.prog 186 #[.string P, .string ⟨#[48]⟩] w fun e w' => e = .returned (.string T) /\ w' = w)
  (V : Value)
  (hfin : (V = errV 3 /\ (12 < W.size \/ 6 < T.size)) \/ (W.size <= 12 /\ T.size <= 6 /\ ∃ (m : Nat) (a b e : Int), m <= 1000000000000000000 /\ V = .tuple #[decA a b, .int .i64 e] /\
   (∀ w, Calls Tryz.prog 187 #[.string (W ++ T)] w fun e w' => e = .returned (.tuple #[.int .i64 (m : Int), .nilIface]) /\ Bel w w') /\
   (∀ w, Calls Tryz.prog 118 #[wideV (decide ((if mn = true then -(m : Int) else m) < 0)) 0 m 0 1 T.size] w fun e' w' => e' = .returned V /\ Bel w w'))) (w : World) :
  Calls Tryz.prog 166 #[.string s] w fun e w' => e = .returned V /\ Bel w w' := by
 have C1 := Hd c1
 have C2 := Hd c2
 have C3 := Hd c3
 have d1 := fun w => Qc5 W hW w
 rw [hd] at d1
 have D1 := Hd d1
 have D2 := Hd (show pt = true -> ∀ w, Calls Tryz.prog 185 #[.string P] w fun e w' => e = .returned (.bool true) /\ Bel w w' from fun h w => by have := Qc5 P hP w; rw [hpt h] at this; exact this)
 have HX : Hid (∀ h0 : 0 < W.size, 1 < W.size -> (((W[0]'h0).toNat : Int) == 48) = false) := fun h0 h1 => by
  rw [Qip, decide_eq_false_iff_not]
  intro hh
  exact hz0 ⟨h1, by rw [idx0 h0, hh]⟩
 have HF := Hd hfin
 clear c1 c2 c3 d1 hd hz0 hpt hP hfin
 go_enter Tryz.func166, Tryz.ntmps166
 go_wp2_with fail
 refine Qac ((Bel.refl w).alloc _) fun W0 hc hf hz hb => ?_
 have hR : Sl2 W0 w.heap.size 0 0 := by simp [Sl2, Arr2, Fr2, hz, hc, hf, go_sem]
 clear hc hf hz
 go_upto_region 3 with (first
  | (go_at_call 170; refine (C1.out _).mono ?_; rintro e W1 ⟨rfl, rfl⟩)
  | (go_at_call 171; refine (C2.out _).mono ?_; rintro e W2 ⟨rfl, hb1⟩; replace hR := hR.keep hb1; replace hb := hb.trans hb1; clear hb1))
 go_cut [42] (fun v wx => v = .bool false /\ Sl2 wx w.heap.size 0 0 /\ Bel w wx)
 case first =>
  clear HF
  by_cases h1 : 1 < W.size
  ·have h0 : 0 < W.size := by omega
   have hx := HX.out h0 h1
   have i1 : (1 : Int) < W.size := by omega
   cases pt with
   | true =>
    have d2 := Hd (D2.out rfl)
    clear D2
    go_wp2_with (first
     | (go_at_call_of 185 (Value.string W); refine (D1.out _).mono ?_; rintro e W3 ⟨rfl, hb1⟩; replace hR := hR.keep hb1; replace hb := hb.trans hb1; clear hb1)
     | (go_at_call_of 185 (Value.string P); refine (d2.out _).mono ?_; rintro e W4 ⟨rfl, hb1⟩; replace hR := hR.keep hb1; replace hb := hb.trans hb1; clear hb1))
    go_meet
    exact ⟨rfl, hR, hb⟩
   | false =>
    clear D2
    go_wp2_with (first
     | (go_at_call_of 185 (Value.string W); refine (D1.out _).mono ?_; rintro e W3 ⟨rfl, hb1⟩; replace hR := hR.keep hb1; replace hb := hb.trans hb1; clear hb1)
     | (go_at_call_of 185 (Value.string P); refine (d2.out _).mono ?_; rintro e W4 ⟨rfl, hb1⟩; replace hR := hR.keep hb1; replace hb := hb.trans hb1; clear hb1))
    go_meet
    exact ⟨rfl, hR, hb⟩
  have i1 : ¬ (1 : Int) < W.size := by omega
  have i2 : decide (1 < W.size) = false := by simpa using h1
  cases pt with
  | true =>
   have d2 := Hd (D2.out rfl)
   clear D2
   go_wp2_with (first
    | (go_at_call_of 185 (Value.string W); refine (D1.out _).mono ?_; rintro e W3 ⟨rfl, hb1⟩; replace hR := hR.keep hb1; replace hb := hb.trans hb1; clear hb1)
    | (go_at_call_of 185 (Value.string P); refine (d2.out _).mono ?_; rintro e W4 ⟨rfl, hb1⟩; replace hR := hR.keep hb1; replace hb := hb.trans hb1; clear hb1))
   go_meet
   exact ⟨rfl, hR, hb⟩
  | false =>
   clear D2
   go_wp2_with (first
    | (go_at_call_of 185 (Value.string W); refine (D1.out _).mono ?_; rintro e W3 ⟨rfl, hb1⟩; replace hR := hR.keep hb1; replace hb := hb.trans hb1; clear hb1)
    | (go_at_call_of 185 (Value.string P); refine (d2.out _).mono ?_; rintro e W4 ⟨rfl, hb1⟩; replace hR := hR.keep hb1; replace hb := hb.trans hb1; clear hb1))
   go_meet
   exact ⟨rfl, hR, hb⟩
 case rest =>
  obtain ⟨rfl, hR, hb⟩ := hcut
  clear D1 D2 HX C1 C2
  rcases HF.out with ⟨hV, hsz⟩ | ⟨h12, h6, m, a, b, e, hm, hV, ca, cd⟩
  ·clear HF
   by_cases h12 : 12 < W.size
   ·have k1 : (12 : Int) < W.size := by omega
    clear hsz h12
    go_wp2_with (go_at_call 186; refine (C3.out _).mono ?_; rintro e W1 ⟨rfl, rfl⟩)
    refine pR (by simp [results, Tryz.results166, go_sem, hR]; try rfl) rfl ⟨by rw [hV], ?_⟩
    exact Bel.y
   have k1 : ¬ (12 : Int) < W.size := by omega
   have k2 : (6 : Int) < T.size := by omega
   clear hsz h12
   go_wp2_with (go_at_call 186; refine (C3.out _).mono ?_; rintro e W1 ⟨rfl, rfl⟩)
   refine pR (by simp [results, Tryz.results166, go_sem, hR]; try rfl) rfl ⟨by rw [hV], ?_⟩
   exact Bel.y
  have k1 : ¬ (12 : Int) < W.size := by omega
  have k2 : ¬ (6 : Int) < T.size := by omega
  have k3 : ¬ 9223372036854775807 < W.size + T.size := by omega
  have CA := Hd ca
  have i3 : (m : Int) <= 1000000000000000000 := by omega
  subst hV
  clear ca h12 h6 hm
  clear HF
  cases mn with
  | true =>
   have cw := Hd fun w => Qb8 (-(m : Int)) T.size ⟨by omega, by omega⟩ w
   rw [show (-(m : Int)).natAbs = m by omega] at cw
   have CD := Hd cd
   simp only [if_true] at CD
   obtain ⟨d, hd⟩ : ∃ d, d = decide (-(m : Int) < 0) := ⟨_, rfl⟩
   rw [← hd] at cw CD
   clear cd hd
   go_wp2_with (first
    | (go_at_call 186; refine (C3.out _).mono ?_; rintro e W1 ⟨rfl, rfl⟩)
    | (go_at_call 187; refine (CA.out _).mono ?_; rintro e W2 ⟨rfl, hb1⟩; replace hR := hR.keep hb1; replace hb := hb.trans hb1; clear hb1)
    | (go_at_call 115; refine (cw.out _).mono ?_; rintro e W3 ⟨rfl, hb1⟩; replace hR := hR.keep hb1; replace hb := hb.trans hb1; clear hb1)
    | (go_at_call 118; refine (CD.out _).mono ?_; rintro e W4 ⟨rfl, hb1⟩; replace hR := hR.keep hb1; replace hb := hb.trans hb1; clear hb1))
   refine pR (by simp [results, Tryz.results166, go_sem, hR]; try rfl) rfl ⟨rfl, ?_⟩
   exact Bel.y
  | false =>
   have cw := Hd fun w => Qb8 (m : Int) T.size ⟨by omega, by omega⟩ w
   rw [show ((m : Int)).natAbs = m by omega] at cw
   have CD := Hd cd
   simp only [Bool.false_eq_true, if_false] at CD
   obtain ⟨d, hd⟩ : ∃ d, d = decide ((m : Int) < 0) := ⟨_, rfl⟩
   rw [← hd] at cw CD
   clear cd hd
   go_wp2_with (first
    | (go_at_call 186; refine (C3.out _).mono ?_; rintro e W1 ⟨rfl, rfl⟩)
    | (go_at_call 187; refine (CA.out _).mono ?_; rintro e W2 ⟨rfl, hb1⟩; replace hR := hR.keep hb1; replace hb := hb.trans hb1; clear hb1)
    | (go_at_call 115; refine (cw.out _).mono ?_; rintro e W3 ⟨rfl, hb1⟩; replace hR := hR.keep hb1; replace hb := hb.trans hb1; clear hb1)
    | (go_at_call 118; refine (CD.out _).mono ?_; rintro e W4 ⟨rfl, hb1⟩; replace hR := hR.keep hb1; replace hb := hb.trans hb1; clear hb1))
   refine pR (by simp [results, Tryz.results166, go_sem, hR]; try rfl) rfl ⟨rfl, ?_⟩
   exact Bel.y
theorem Qvu (l : List UInt8) (h : digB l = true) (hl : l.length <= 18) (w : World) : Calls Tryz.prog 187 #[.string ⟨l.toArray⟩] w fun e w' => e = .returned (.tuple #[.int .i64 (numL l : Int), .nilIface]) /\ Bel w w' :=
 (Tryz.strconv_Atoi ⟨l.toArray⟩ (numL l) (by simpa [ByteArray.size] using hl) (by simpa using Qpx l h) w).mono fun e w' ⟨he, t, hw⟩ => ⟨he, by rw [hw]; exact Lib.bytesWorld_below _ _ _⟩
theorem Qpy {a b : List UInt8} (h : digB a = true) (h2 : dOk b = true) : digB (a ++ b) = true := by
 unfold digB at *
 rw [bA] at h
 rw [Qmo, h.1, h2]
 cases a with
 | nil => exact absurd h.2 (by simp)
 | cons c r => rfl
theorem Qmq (s : ByteArray) (hs : s.size <= 9223372036854775807) (w : World) : Calls Tryz.prog 166 #[.string s] w fun e w' => e = .returned (parseV s.data.toList) /\ Bel w w' := by
 have c1 := fun w => Tryz.strings_CutPrefix s ⟨#[45]⟩ w
 obtain ⟨L, hL⟩ : ∃ L, L = Lib.trimPrefix s.data.toList [45] := ⟨_, rfl⟩
 have hLl : L.length <= s.size := by
  rw [hL]
  unfold Lib.trimPrefix
  split
  ·rw [List.length_drop, Array.length_toList]; show s.data.size - _ <= s.data.size; omega
  rw [Array.length_toList]; exact Nat.le_refl _
 have hbl : (Qay L).length + (Qa4 L).length <= L.length := by
  cases h : has46 L with
  | true => have := congrArg List.length (Qmj L h); simp at this; omega
  | false => rw [Qmk L h, Qjv L h]; simp
 have c2 := fun w => Qs7 ⟨L.toArray⟩ (show L.toArray.size <= _ by simp; omega) w
 have c3 := fun w => Tryz.strings_TrimRight_one ⟨(Qa4 L).toArray⟩ 48 (by decide) w (show (Qa4 L).toArray.size <= _ by simp; omega)
 simp only [List.toList_toArray] at c2 c3
 have hv : parseV s.data.toList = partsV (Lib.hasPrefix s.data.toList [45]) (Qay L) (Qa4 L) (has46 L) := by rw [hL]; rfl
 rw [hv]
 have hc1 : ∀ w, Calls Tryz.prog 170 #[.string s, .string ⟨#[45]⟩] w fun e w' => e = .returned (.tuple #[.string ⟨L.toArray⟩, .bool (Lib.hasPrefix s.data.toList [45])]) /\ w' = w := by rw [hL]; exact c1
 have szW : (⟨(Qay L).toArray⟩ : ByteArray).size = (Qay L).length := by simp [ByteArray.size]
 have szT : (⟨(trimR (Qa4 L)).toArray⟩ : ByteArray).size = (trimR (Qa4 L)).length := by simp [ByteArray.size]
 by_cases hbad : digB (Qay L) = false \/ (1 < (Qay L).length /\ (Qay L)[0]? = some 48) \/ (has46 L = true /\ digB (Qa4 L) = false)
 ·rw [show partsV _ _ _ _ = _ from iP hbad]
  refine Qmp s ⟨L.toArray⟩ ⟨(Qay L).toArray⟩ ⟨(Qa4 L).toArray⟩ _ _ hc1 c2 (by rw [szW]; omega) (show (Qa4 L).toArray.size <= _ by simp; omega) ?_ w
  rw [szW]
  show digB (Qay L) = false \/ (digB (Qay L) = true /\ 1 < (Qay L).length /\ (Qay L)[0]? = some 48) \/ (digB (Qay L) = true /\ ¬ (1 < (Qay L).length /\ (Qay L)[0]? = some 48) /\ has46 L = true /\ digB (Qa4 L) = false)
  cases h1 : digB (Qay L)
  ·exact .inl rfl
  by_cases h2 : 1 < (Qay L).length /\ (Qay L)[0]? = some 48
  ·exact .inr (.inl ⟨rfl, h2⟩)
  rcases hbad with h | h | h
  ·rw [h1] at h; cases h
  ·exact absurd h h2
  exact .inr (.inr ⟨rfl, h2, h⟩)
 rw [show partsV _ _ _ _ = _ from iN hbad]
 have hd : digB (Qay L) = true := by
  cases h : digB (Qay L)
  ·exact absurd (.inl h) hbad
  rfl
 have hpk : dOk (trimR (Qa4 L)) = true := by
  cases h : has46 L with
  | false => rw [Qjv L h]; rfl
  | true =>
   refine Qju _ ?_
   cases h2 : digB (Qa4 L)
   ·exact absurd (.inr (.inr ⟨h, h2⟩)) hbad
   unfold digB at h2; rw [bA] at h2; exact h2.1
 refine Qld s ⟨L.toArray⟩ ⟨(Qay L).toArray⟩ ⟨(Qa4 L).toArray⟩ ⟨(trimR (Qa4 L)).toArray⟩ _ _ hc1 c2 (by rw [szW]; omega) (show (Qa4 L).toArray.size <= _ by simp; omega) hd
  (by rw [szW]; exact fun h => hbad (.inr (.inl h))) (fun h => by
   cases h2 : digB (Qa4 L)
   ·exact absurd (.inr (.inr ⟨h, h2⟩)) hbad
   rfl) c3 _ ?_ w
 rw [szW, szT]
 by_cases hlen : 12 < (Qay L).length \/ 6 < (trimR (Qa4 L)).length
 ·exact .inl ⟨iP hlen, hlen⟩
 right
 rw [iN hlen]
 have hdig := Qpy hd hpk
 have hl18 : (Qay L ++ trimR (Qa4 L)).length <= 18 := by rw [lA]; omega
 have hnb := Qs8 _ (by have := hdig; unfold digB at this; rw [bA] at this; exact this.1) hl18
 obtain ⟨m, hm⟩ : ∃ m, m = numL (Qay L ++ trimR (Qa4 L)) := ⟨_, rfl⟩
 rw [← hm] at hnb ⊢
 obtain ⟨a, b, e, hsh⟩ := Qco (Lib.hasPrefix s.data.toList [45] && decide (0 < m)) m (trimR (Qa4 L)).length
 refine ⟨by omega, by omega, m, a, b, e, by omega, hsh, fun w => ?_, fun w => ?_⟩
 ·rw [Qmi, hm]; exact Qvu _ hdig hl18 w
 have := Qgn (Lib.hasPrefix s.data.toList [45] && decide (0 < m)) m (trimR (Qa4 L)).length (by unfold big128; omega) (by omega) w
 rw [wide0 (by omega)] at this
 have hb : decide ((if Lib.hasPrefix s.data.toList [45] = true then -(m : Int) else m) < 0) = (Lib.hasPrefix s.data.toList [45] && decide (0 < m)) := by
  cases Lib.hasPrefix s.data.toList [45]
  ·simp
  simp
 rw [hb]
 exact this
theorem Qf5 (x : Nat) (c : Int) (hc : c = 1 \/ c = -1) (s : Nat) (hx : x <= 999999999999) (hs : s <= 6) (w : World) :
  Calls Tryz.prog 70 #[.int .i64 (c * x), .int .i64 s] w fun e w' => e = .returned (.tuple #[decA (c * (trim x s).1) ((trim x s).2 : Nat), .int .i64 0]) /\ Bel w w' := by
 have k1 : -999999999999 <= c * (x : Int) /\ c * (x : Int) <= 999999999999 := by rcases hc with rfl | rfl <;> omega
 obtain ⟨k1, k2⟩ := k1
 have k3 : (s : Int) <= 6 := by omega
 have Hx := Hd hx
 clear hx hs
 go_enter Tryz.func70, Tryz.ntmps70
 go_wp2_with fail
 go_loopg [0, 1] s (fun g n t wr => ∃ m' s' : Nat, n = .int .i64 (c * m') /\ t = .int .i64 s' /\ Hid (trim x s = trim m' s' /\ m' <= x /\ g = s') /\ (s' : Int) <= 6 /\ Sl2 wr w.heap.size 0 0 /\ Bel w wr)
 case atStart => exact ⟨x, s, rfl, rfl, ⟨rfl, Nat.le_refl _, rfl⟩, k3, by simp [Sl2, Arr2, Fr2, go_sem], (Bel.refl w).alloc _⟩
 case round =>
  clear k1 k2 k3
  obtain ⟨m', s', rfl, rfl, hh, hs', hR, hb⟩ := hrel
  have hm : m' <= 999999999999 := Nat.le_trans hh.out.2.1 Hx.out
  have b1 : -999999999999 <= c * (m' : Int) := by rcases hc with rfl | rfl <;> omega
  have b2 : c * (m' : Int) <= 999999999999 := by rcases hc with rfl | rfl <;> omega
  have e1 : (c * (m' : Int)).tmod 10 = c * ((m' % 10 : Nat) : Int) := by
   rcases hc with rfl | rfl
   ·rw [Int.one_mul, Int.one_mul]; rfl
   rw [Int.neg_one_mul, Int.neg_tmod, Int.neg_one_mul]; rfl
  have e2 : (c * (m' : Int)).tdiv 10 = c * ((m' / 10 : Nat) : Int) := by
   rcases hc with rfl | rfl
   ·rw [Int.one_mul, Int.one_mul]; rfl
   rw [Int.neg_one_mul, Int.neg_tdiv, Int.neg_one_mul]; rfl
  have hc0 : c ≠ 0 := by rcases hc with rfl | rfl <;> decide
  by_cases h0 : (0 : Int) < s'
  ·obtain ⟨j, hj⟩ : ∃ j, s' = j + 1 := ⟨s' - 1, by omega⟩
   by_cases hz : m' % 10 = 0
   ·have e3 : ((c * (m' : Int)).tmod 10 == 0) = true := by rw [e1, hz]; simp
    have e4 : (c * (m' : Int)).tmod 10 = 0 := by rw [e1, hz]; simp
    have hnext : Hid (trim x s = trim (m' / 10) j /\ m' / 10 <= x) := ⟨by rw [hh.out.1, hj, Qcn _ _ hz], Nat.le_trans (Nat.div_le_self _ _) hh.out.2.1⟩
    have E2 := Hd e2
    have HJ := Hd hj
    generalize c * (m' : Int) = z at *
    clear e1 e2 hz hj hm hc0
    go_wp2
    go_roundg j
    case measure => have := hh.out.2.2; have := HJ.out; omega
    case rel => exact ⟨m' / 10, j, by rw [← E2.out], by have := HJ.out; go_num, ⟨hnext.out.1, hnext.out.2, rfl⟩, by have := HJ.out; omega, hR, hb⟩
   have e3 : ((c * (m' : Int)).tmod 10 == 0) = false := by
    rw [e1, bN]
    intro h
    rcases Int.mul_eq_zero.1 h with h | h
    ·exact hc0 h
    omega
   have e4 : ¬ (c * (m' : Int)).tmod 10 = 0 := by simpa using e3
   have hfin : Hid (trim x s = (m', s')) := by rw [Hid, hh.out.1, Qdw _ _ hz]
   have HZ := Hd (show c * (m' : Int) = c * m' from rfl)
   clear e1 e2 hz hj hm hc0
   go_wp2
   refine pR (by simp [results, Tryz.results70, go_sem, hR]; try rfl) rfl ⟨by (rw [hfin.out]) <;> rfl, ?_⟩
   exact Bel.y
  have hfin : Hid (trim x s = (m', s')) := by
   obtain rfl : s' = 0 := by omega
   rw [Hid, hh.out.1]; rfl
  clear e1 e2 hm hc0
  go_wp2
  refine pR (by simp [results, Tryz.results70, go_sem, hR]; try rfl) rfl ⟨by (rw [hfin.out]) <;> rfl, ?_⟩
  exact Bel.y
theorem Qmr (x : Bool) (m s : Nat) (h : m <= 999999999999) : decV x m s = .tuple #[decA (if x = true then -((trim m s).1 : Int) else (trim m s).1) ((trim m s).2 : Nat), .int .i64 0] := by
 have := (Qdm s m).1
 unfold decV
 rw [iN (by omega)]
theorem Qms (n s : Int) (w : World) : Calls Tryz.prog 70 #[.int .i64 n, .int .i64 s] w fun e w' => e = .returned (makeV n s) /\ Bel w w' := by
 by_cases h : 0 <= s /\ s <= 6 /\ small n
 ·rw [show makeV n s = _ from iP h]
  obtain ⟨h0, h6, h3, h4⟩ := h
  obtain ⟨k, rfl⟩ : ∃ k : Nat, s = k := ⟨s.toNat, by omega⟩
  rw [Qmr _ _ _ (by omega), show ((k : Int)).toNat = k by omega]
  by_cases hn : n < 0
  ·have := Qf5 n.natAbs (-1) (.inr rfl) k (by omega) (by omega) w
   rw [show (-1 : Int) * (n.natAbs : Int) = n by omega] at this
   rw [show decide (n < 0) = true by simpa using hn, iP rfl]
   rw [Int.neg_one_mul] at this
   exact this
  have := Qf5 n.natAbs 1 (.inl rfl) k (by omega) (by omega) w
  rw [show (1 : Int) * (n.natAbs : Int) = n by omega] at this
  rw [show decide (n < 0) = false by simpa using hn, iN (by decide)]
  rw [Int.one_mul] at this
  exact this
 rw [show makeV n s = _ from iN h]
 by_cases h0 : 0 <= s
 ·by_cases h6 : s <= 6
  ·by_cases h3 : n <= 999999999999
   ·have h4 : n < -999999999999 := by
     rcases Int.lt_or_le n (-999999999999) with h4 | h4
     ·exact h4
     exact absurd ⟨h0, h6, h4, h3⟩ h
    have k1 : ¬ s < 0 := by omega
    have k2 : ¬ 6 < s := by omega
    have k3 : ¬ 999999999999 < n := by omega
    clear h h3 h0 h6
    go_enter Tryz.func70, Tryz.ntmps70
    go_wp2
    refine pR (by simp [results, Tryz.results70, go_sem]; try rfl) rfl ⟨rfl, ?_⟩
    exact Bel.y
   have k1 : ¬ s < 0 := by omega
   have k2 : ¬ 6 < s := by omega
   have k3 : 999999999999 < n := by omega
   clear h h3 h0 h6
   go_enter Tryz.func70, Tryz.ntmps70
   go_wp2
   refine pR (by simp [results, Tryz.results70, go_sem]; try rfl) rfl ⟨rfl, ?_⟩
   exact Bel.y
  have k1 : ¬ s < 0 := by omega
  have k2 : 6 < s := by omega
  clear h h0 h6
  go_enter Tryz.func70, Tryz.ntmps70
  go_wp2
  refine pR (by simp [results, Tryz.results70, go_sem]; try rfl) rfl ⟨rfl, ?_⟩
  exact Bel.y
 have k1 : s < 0 := by omega
 clear h h0
 go_enter Tryz.func70, Tryz.ntmps70
 go_wp2
 refine pR (by simp [results, Tryz.results70, go_sem]; try rfl) rfl ⟨rfl, ?_⟩
 exact Bel.y
theorem Qpz (m s : Nat) : (trim m s).1 = m /\ (trim m s).2 = s ↔ (s = 0 \/ m % 10 ≠ 0) := by
 cases s with
 | zero => simp [trim]
 | succ k =>
  by_cases h : m % 10 = 0
  ·rw [Qcn _ _ h]
   have := (Qdm k (m / 10)).2
   constructor
   ·intro hh; omega
   rintro (hh | hh)
   ·omega
   exact absurd h hh
  rw [Qdw _ _ h]; simp [h]
theorem Qmt (n s : Int) : (∃ a b, makeV n s = .tuple #[decA a b, .int .i64 0] /\ (((a == n) && (b == s)) = sndB n s)) \/ (makeV n s = errV 3 /\ sndB n s = false) := by
 by_cases h : 0 <= s /\ s <= 6 /\ small n
 ·left
  obtain ⟨h0, h6, h3⟩ := h
  have h34 := h3
  obtain ⟨h3a, h4⟩ := h34
  rw [show makeV n s = _ from iP ⟨h0, h6, h3⟩, Qmr _ _ _ (by omega)]
  refine ⟨_, _, rfl, ?_⟩
  have ht := Qpz n.natAbs s.toNat
  have hle := Qdm s.toNat n.natAbs
  generalize trim n.natAbs s.toNat = p at *
  have e0 : sndB n s = true ↔ SndD n s := by simp [sndB]
  rw [Bool.eq_iff_iff, bA, beq_iff_eq, beq_iff_eq, e0]
  have e1 : n % 10 ≠ 0 ↔ n.natAbs % 10 ≠ 0 := by omega
  unfold SndD
  rw [e1]
  by_cases hn : n < 0
  ·have hd : decide (n < 0) = true := by simpa using hn
   simp only [hd, if_true]
   constructor
   ·rintro ⟨ha, hb⟩
    have := ht.1 ⟨by omega, by omega⟩
    refine ⟨h0, h6, h3, ?_⟩
    omega
   rintro ⟨-, -, -, hh⟩
   have := ht.2 (by omega)
   omega
  have hd : decide (n < 0) = false := by simpa using hn
  simp only [hd, Bool.false_eq_true, if_false]
  constructor
  ·rintro ⟨ha, hb⟩
   have := ht.1 ⟨by omega, by omega⟩
   refine ⟨h0, h6, h3, ?_⟩
   omega
  rintro ⟨-, -, -, hh⟩
  have := ht.2 (by omega)
  omega
 exact .inr ⟨iN h, Qjt fun hh => h ⟨hh.1, hh.2.1, hh.2.2.1⟩⟩
theorem Qai (n s : Int) (w : World) : Calls Tryz.prog 39 #[decA n s] w fun e w' => e = .returned (.bool (sndB n s)) /\ Bel w w' := by
 have c1 := fun w => Qms n s w
 rcases Qmt n s with ⟨a, b, hm, hs⟩ | ⟨hm, hs⟩
 ·rw [hm] at c1
  have C1 := Hd c1
  have HS := Hd hs
  clear c1 hm hs
  go_enter Tryz.func39, Tryz.ntmps39
  go_wp2_with fail
  refine Qac ((Bel.refl w).alloc _) fun W hc hf hz hb => ?_
  have hA : Sl2 W w.heap.size n s := by simp [Sl2, Arr2, Fr2, hz, hc, hf, go_sem]
  clear hc hf hz
  by_cases h1 : a = n
  ·subst h1
   go_wp2_with (go_at_call 70; refine (C1.out _).mono ?_; rintro e W1 ⟨rfl, hb1⟩; replace hA := hA.keep hb1; replace hb := hb.trans hb1; have hlt := hA.1.1; clear hb1)
   go_ret
   exact ⟨by rw [← HS.out]; simp, hb.alloc _⟩
  have k1 : (a == n) = false := by simpa using h1
  have hv : Hid (sndB n s = false) := by rw [Hid, ← HS.out, k1]; rfl
  clear h1
  go_wp2_with (go_at_call 70; refine (C1.out _).mono ?_; rintro e W1 ⟨rfl, hb1⟩; replace hA := hA.keep hb1; replace hb := hb.trans hb1; have hlt := hA.1.1; clear hb1)
  go_ret
  exact ⟨by rw [hv.out]; rfl, hb.alloc _⟩
 rw [hm] at c1
 rw [hs]
 have C1 := Hd c1
 clear c1 hm hs
 go_enter Tryz.func39, Tryz.ntmps39
 go_wp2_with fail
 refine Qac ((Bel.refl w).alloc _) fun W hc hf hz hb => ?_
 have hA : Sl2 W w.heap.size n s := by simp [Sl2, Arr2, Fr2, hz, hc, hf, go_sem]
 clear hc hf hz
 go_wp2_with (go_at_call 70; refine (C1.out _).mono ?_; rintro e W1 ⟨rfl, hb1⟩; replace hA := hA.keep hb1; replace hb := hb.trans hb1; have hlt := hA.1.1; clear hb1)
 go_ret
 exact ⟨rfl, hb.alloc _⟩
theorem Bel.drewN {a b : World} (h : Bel a b) (n : Nat) : Bel a (b.drewN n) := Bel.trans h ⟨rfl, rfl, rfl, Nat.le_refl _, fun _ _ => rfl⟩
theorem Qs9 (c : Nat) : (Lib.repeatL [48] c).length = c := by rw [Lib.repeatL_length]; simp
theorem Qmu (k n : Nat) (h : n < 10 ^ k) (hk : 0 < k) : (padL k n).length = k := by
 obtain ⟨j, rfl⟩ : ∃ j, k = j + 1 := ⟨k - 1, by omega⟩
 have := Qei j n h
 unfold padL
 rw [lA, Qs9]; omega
def leapB (y : Int) : Bool := decide (y % 4 = 0) && (decide (y % 100 ≠ 0) || decide (y % 400 = 0))
def lenM (y m : Int) : Int := if m = 2 then (if leapB y = true then 29 else 28) else if m = 4 \/ m = 6 \/ m = 9 \/ m = 11 then 30 else 31
def bef (y : Int) : Int := 365 * (y - 1) + (y - 1) / 4 - (y - 1) / 100 + (y - 1) / 400
theorem tmod0 (y k : Int) : y.tmod k = 0 ↔ y % k = 0 := by
 rw [← Int.dvd_iff_emod_eq_zero, Int.dvd_iff_tmod_eq_zero]
theorem Qjw (y : Int) (w : World) : Calls Tryz.prog 231 #[.int .i64 y] w fun e w' => e = .returned (.bool (leapB y)) /\ Bel w w' := by
 by_cases h4 : y % 4 = 0
 ·have e4 : (y.tmod 4 == 0) = true := by simp [tmod0, h4]
  by_cases h100 : y % 100 = 0
  ·have e100 : (y.tmod 100 != 0) = false := by simp [tmod0, h100]
   have hl : Hid (leapB y = decide (y % 400 = 0)) := by simp [Hid, leapB, h4, h100]
   by_cases h400 : y % 400 = 0
   ·have e400 : (y.tmod 400 == 0) = true := by simp [tmod0, h400]
    go_enter Tryz.func231, Tryz.ntmps231
    go_wp2
    go_ret
    exact ⟨by rw [hl.out]; simp [h400], Bel.refl _⟩
   have e400 : (y.tmod 400 == 0) = false := by simp [tmod0, h400]
   go_enter Tryz.func231, Tryz.ntmps231
   go_wp2
   go_ret
   exact ⟨by rw [hl.out]; simp [h400], Bel.refl _⟩
  have e100 : (y.tmod 100 != 0) = true := by simp [tmod0, h100]
  have hl : Hid (leapB y = true) := by simp [Hid, leapB, h4, h100]
  go_enter Tryz.func231, Tryz.ntmps231
  go_wp2
  go_ret
  exact ⟨by rw [hl.out]; rfl, Bel.refl _⟩
 have e4 : (y.tmod 4 == 0) = false := by simp [tmod0, h4]
 have hl : Hid (leapB y = false) := by simp [Hid, leapB, h4]
 go_enter Tryz.func231, Tryz.ntmps231
 go_wp2
 go_ret
 exact ⟨by rw [hl.out]; rfl, Bel.refl _⟩
theorem Qcp (y m : Int) : 28 <= lenM y m /\ lenM y m <= 31 := by
 unfold lenM
 repeat' split
 all_goals omega
theorem Qej (y m : Int) (w : World) : Calls Tryz.prog 222 #[.int .i64 y, .int .i64 m] w fun e w' => e = .returned (.int .i64 (lenM y m)) /\ Bel w w' := by
 by_cases h2 : m = 2
 ·subst h2
  have hl : Hid (lenM y 2 = if leapB y = true then 29 else 28) := by simp [Hid, lenM]
  cases hb : leapB y with
  | true =>
   go_enter Tryz.func222, Tryz.ntmps222
   go_wp2_with (go_at_call 231; refine (Qjw y _).mono ?_; rintro e w1 ⟨rfl, hb1⟩)
   go_ret
   exact ⟨by rw [hl.out, hb]; rfl, hb1⟩
  | false =>
   go_enter Tryz.func222, Tryz.ntmps222
   go_wp2_with (go_at_call 231; refine (Qjw y _).mono ?_; rintro e w1 ⟨rfl, hb1⟩)
   go_ret
   exact ⟨by rw [hl.out, hb]; rfl, hb1⟩
 by_cases h3 : m = 4 \/ m = 6 \/ m = 9 \/ m = 11
 ·have hl : Hid (lenM y m = 30) := by simp [Hid, lenM, h2, h3]
  rcases h3 with rfl | rfl | rfl | rfl
  all_goals
   go_enter Tryz.func222, Tryz.ntmps222
   go_wp2
   go_ret
   exact ⟨by rw [hl.out]; rfl, Bel.refl _⟩
 have hl : Hid (lenM y m = 31) := by simp [Hid, lenM, h2, h3]
 have g4 : m ≠ 4 := fun e => h3 (.inl e)
 have g6 : m ≠ 6 := fun e => h3 (.inr (.inl e))
 have g9 : m ≠ 9 := fun e => h3 (.inr (.inr (.inl e)))
 have g11 : m ≠ 11 := fun e => h3 (.inr (.inr (.inr e)))
 clear h3
 go_enter Tryz.func222, Tryz.ntmps222
 go_wp2
 go_ret
 exact ⟨by rw [hl.out]; rfl, Bel.refl _⟩
theorem Qsf (y : Int) (h1 : 1 <= y) (h2 : y <= 10000) : 0 <= bef y /\ bef y <= 3652059 := by unfold bef; omega
theorem Qle (y : Int) (h1 : 1 <= y) (h2 : y <= 10000) (w : World) : Calls Tryz.prog 223 #[.int .i64 y] w fun e w' => e = .returned (.int .i64 (bef y)) /\ Bel w w' := by
 have hl : Hid (bef y = 365 * (y - 1) + (y - 1) / 4 - (y - 1) / 100 + (y - 1) / 400) := rfl
 go_enter Tryz.func223, Tryz.ntmps223
 go_wp2
 go_ret
 exact ⟨by rw [hl.out]; rfl, Bel.refl _⟩
abbrev Arr3 (w : World) (b : Nat) (x y z : Int) : Prop :=
 b < w.heap.size /\ w.cell? ⟨b, 0, none⟩ = some (.int .i64 x) /\ w.cell? ⟨b, 1, none⟩ = some (.int .i64 y) /\ w.cell? ⟨b, 2, none⟩ = some (.int .i64 z)
theorem Arr3.keep {w w' : World} {b : Nat} {x y z : Int} (h : Arr3 w b x y z) (hb : Bel w w') : Arr3 w' b x y z := by
 obtain ⟨h0, h1, h2, h3⟩ := h
 exact ⟨lL h0 hb.size, (hb.cells _ _ h0).trans h1, (hb.cells _ _ h0).trans h2, (hb.cells _ _ h0).trans h3⟩
theorem Qjx (w : World) (x y z : Int) : Arr3 (w.alloc (.cells #[.int .i64 x, .int .i64 y, .int .i64 z] 207)) w.heap.size x y z := by
 simp [Arr3, go_sem]
def SoundD (a b c : Int) : Prop := 1 <= a /\ a <= 9999 /\ 1 <= b /\ b <= 12 /\ 1 <= c /\ c <= lenM a b
instance (a b c : Int) : Decidable (SoundD a b c) := inferInstanceAs (Decidable (_ /\ _))
def soundB (a b c : Int) : Bool := decide (SoundD a b c)
theorem Qfe (a b c : Int) (w : World) : Calls Tryz.prog 207 #[.agg #[.int .i64 a, .int .i64 b, .int .i64 c]] w fun e w' => e = .returned (.bool (soundB a b c)) /\ Bel w w' := by
 by_cases h : 1 <= a /\ a <= 9999 /\ 1 <= b /\ b <= 12
 ·obtain ⟨h1, h2, h3, h4⟩ := h
  have hl : Hid (soundB a b c = decide (1 <= c /\ c <= lenM a b)) := by simp [Hid, soundB, SoundD, h1, h2, h3, h4]
  go_enter Tryz.func207, Tryz.ntmps207
  go_wp2_with fail
  refine uN ((Bel.refl w).alloc _) fun W hc hf hz hb => ?_
  have hw : Arr3 W w.heap.size a b c := by simp [Arr3, hz, hc, go_sem]
  clear hc hf hz
  by_cases h5 : 1 <= c
  ·have h5' : decide (1 <= c) = true := by simpa using h5
   refine Qaw (S := (fun w' => Bel W w' /\ (∀ b o, b < W.heap.size -> w'.cell? ⟨b, o, none⟩ = W.cell? ⟨b, o, none⟩))) (by kernel_rfl) (by kernel_rfl) keep0 ?_
   repeat (first | (refine Qbg (by rfl) ?_; (try simp only [Act.put, List.setIfInBounds_toArray, List.set_cons_zero, List.set_cons_succ]))
                              | (refine Qa7 (by rfl) (fun w hS => by (try dsimp only at hS); go_simp; first | done | with_reducible rfl) ?_; (try simp only [Act.put, List.setIfInBounds_toArray, List.set_cons_zero, List.set_cons_succ]))
                              | (refine Qbo (f := 222) (by rfl) (fun w => by go_simp; first | done | with_reducible rfl) (fun w hS => (Qej a b w).mono fun e w' ⟨he, hb⟩ => ⟨he, keep1 hS hb⟩) ?_; (try simp only [Act.put, List.setIfInBounds_toArray, List.set_cons_zero, List.set_cons_succ])))
   refine Qbp fun W1 hS => ?_
   have hb1 := hb.trans hS.1
   clear hS
   go_wp2
   go_ret
   exact ⟨by rw [hl.out]; simp [h5], hb1⟩
  have h5' : decide (1 <= c) = false := by simpa using h5
  refine Qaw (S := (fun w' => Bel W w' /\ (∀ b o, b < W.heap.size -> w'.cell? ⟨b, o, none⟩ = W.cell? ⟨b, o, none⟩))) (by kernel_rfl) (by kernel_rfl) keep0 ?_
  repeat (first | (refine Qbg (by rfl) ?_; (try simp only [Act.put, List.setIfInBounds_toArray, List.set_cons_zero, List.set_cons_succ]))
                             | (refine Qa7 (by rfl) (fun w hS => by (try dsimp only at hS); go_simp; first | done | with_reducible rfl) ?_; (try simp only [Act.put, List.setIfInBounds_toArray, List.set_cons_zero, List.set_cons_succ]))
                             | (refine Qbo (f := 222) (by rfl) (fun w => by go_simp; first | done | with_reducible rfl) (fun w hS => (Qej a b w).mono fun e w' ⟨he, hb⟩ => ⟨he, keep1 hS hb⟩) ?_; (try simp only [Act.put, List.setIfInBounds_toArray, List.set_cons_zero, List.set_cons_succ])))
  refine Qbp fun W1 hS => ?_
  have hb1 := hb.trans hS.1
  clear hS
  go_wp2
  go_ret
  exact ⟨by rw [hl.out, dF (p := 1 <= c /\ c <= lenM a b) (fun hh => absurd hh.1 (by omega))]; rfl, hb1⟩
 have hl : Hid (soundB a b c = false) := by
  unfold Hid soundB SoundD
  exact dF fun h' => h ⟨h'.1, h'.2.1, h'.2.2.1, h'.2.2.2.1⟩
 by_cases h1 : 1 <= a
 ·by_cases h2 : a <= 9999
  ·by_cases h3 : 1 <= b
   ·have h4 : ¬ b <= 12 := fun h4 => h ⟨h1, h2, h3, h4⟩
    clear h
    have k1 : decide (a < 1) = false := by simp; omega
    have k2 : decide (9999 < a) = false := by simp; omega
    have k3 : decide (b < 1) = false := by simp; omega
    have k4 : decide (12 < b) = true := by simp; omega
    go_enter Tryz.func207, Tryz.ntmps207
    go_wp2
    go_ret
    exact ⟨by rw [hl.out]; rfl, (Bel.refl w).alloc _⟩
   clear h
   have k1 : decide (a < 1) = false := by simp; omega
   have k2 : decide (9999 < a) = false := by simp; omega
   have k3 : decide (b < 1) = true := by simp; omega
   go_enter Tryz.func207, Tryz.ntmps207
   go_wp2
   go_ret
   exact ⟨by rw [hl.out]; rfl, (Bel.refl w).alloc _⟩
  clear h
  have k1 : decide (a < 1) = false := by simp; omega
  have k2 : decide (9999 < a) = true := by simp; omega
  go_enter Tryz.func207, Tryz.ntmps207
  go_wp2
  go_ret
  exact ⟨by rw [hl.out]; rfl, (Bel.refl w).alloc _⟩
 clear h
 have k1 : decide (a < 1) = true := by simp; omega
 go_enter Tryz.func207, Tryz.ntmps207
 go_wp2
 go_ret
 exact ⟨by rw [hl.out]; rfl, (Bel.refl w).alloc _⟩
def feb (y : Int) : Int := if leapB y = true then 29 else 28
theorem Qvv (y : Int) : 28 <= feb y /\ feb y <= 29 := by unfold feb; split <;> omega
def cumM (y m : Int) : Int :=
 if m <= 1 then 0 else if m = 2 then 31 else if m = 3 then 31 + feb y else if m = 4 then 62 + feb y else if m = 5 then 92 + feb y else if m = 6 then 123 + feb y
 else if m = 7 then 153 + feb y else if m = 8 then 184 + feb y else if m = 9 then 215 + feb y else if m = 10 then 245 + feb y else if m = 11 then 276 + feb y else 306 + feb y
theorem Qjy (y m : Int) : lenM y m = if m = 2 then feb y else if m = 4 \/ m = 6 \/ m = 9 \/ m = 11 then 30 else 31 := rfl
theorem twelve (m : Int) (h1 : 1 <= m) (h2 : m <= 12) : m = 1 \/ m = 2 \/ m = 3 \/ m = 4 \/ m = 5 \/ m = 6 \/ m = 7 \/ m = 8 \/ m = 9 \/ m = 10 \/ m = 11 \/ m = 12 := by omega
theorem Qe2 (y m : Int) (h1 : 1 <= m) (h2 : m <= 11) : cumM y (m + 1) = cumM y m + lenM y m := by
 rw [Qjy]
 rcases twelve m h1 (by omega) with rfl | rfl | rfl | rfl | rfl | rfl | rfl | rfl | rfl | rfl | rfl | rfl <;> simp [cumM] <;> omega
theorem Qsg (y m : Int) (h2 : m <= 12) : 0 <= cumM y m /\ cumM y m <= 335 := by
 have := Qvv y
 by_cases h1 : 1 <= m
 ·rcases twelve m h1 h2 with rfl | rfl | rfl | rfl | rfl | rfl | rfl | rfl | rfl | rfl | rfl | rfl <;> simp [cumM] <;> omega
 simp [cumM, show m <= 1 by omega]
theorem Qhk (y : Int) : cumM y 1 = 0 := by simp [cumM]
theorem Qjz (y : Int) : leapB y = true ↔ (y % 4 = 0 /\ (y % 100 ≠ 0 \/ y % 400 = 0)) := by simp [leapB]
theorem Qj0 (y : Int) : bef (y + 1) = bef y + 337 + feb y := by
 unfold feb bef
 by_cases h : leapB y = true
 ·rw [iP h]; rw [Qjz] at h; omega
 rw [iN h]; rw [Qjz] at h; omega
theorem Qj1 (y : Int) : cumM y 12 + lenM y 12 = 337 + feb y := by simp [cumM, Qjy]; omega
def numD (a b c : Int) : Int := bef a + cumM a b + c - 1
theorem Qlf (a b c : Int) (h : SoundD a b c) (w : World) : Calls Tryz.prog 208 #[.agg #[.int .i64 a, .int .i64 b, .int .i64 c]] w fun e w' => e = .returned (.int .i64 (numD a b c)) /\ Bel w w' := by
 obtain ⟨h1, h2, h3, h4, h5, h6⟩ := h
 have h7 := Qcp a b
 have hb0 := Qsf a h1 (by omega)
 have hl : Hid (numD a b c = bef a + cumM a b + c - 1) := rfl
 go_enter Tryz.func208, Tryz.ntmps208
 go_wp2_with (go_at_call 223; refine (Qle a h1 (by omega) _).mono ?_; rintro e W1 ⟨rfl, hb1⟩)
 have hw1 := (Qjx w a b c).keep hb1
 replace hb1 := ((Bel.refl w).alloc _).trans hb1
 go_loopg [3, 4] 12 (fun g n i wr => ∃ k : Int, 1 <= k /\ k <= b /\ i = .int .i64 k /\ n = .int .i64 (bef a + cumM a k) /\ Bel W1 wr /\ (g : Int) = 13 - k)
 case atStart => exact ⟨1, by omega, by omega, rfl, by rw [Qhk]; go_num, Bel.refl _, by omega⟩
 case round =>
  obtain ⟨k, hk1, hk2, rfl, rfl, hbr, hg⟩ := hrel
  have hwr := hw1.keep hbr
  have hcb := Qsg a k (by omega)
  have hlb := Qcp a k
  by_cases hlt : k < b
  ·have hs := Hd (Qe2 a k hk1 (by omega))
   go_wp2_with (go_at_call 222; refine (Qej a k _).mono ?_; rintro e W2 ⟨rfl, hb2⟩)
   go_roundg (gk - 1)
   case measure => omega
   case rel => exact ⟨k + 1, by omega, by omega, rfl, by rw [hs.out]; go_num, hbr.trans hb2, by omega⟩
  obtain rfl : k = b := by omega
  go_wp2
  go_ret
  exact ⟨by rw [hl.out]; go_num, hb1.trans hbr⟩
theorem Qp0 {a b c : Int} (h : SoundD a b c) : soundB a b c = true := dT h
theorem Qp1 {a b c : Int} (h : ¬ SoundD a b c) : soundB a b c = false := dF h
def dayV (a b c : Int) : Value := if SoundD a b c then .tuple #[.int .i64 (numD a b c), .int .i64 0] else .tuple #[.int .i64 0, .int .i64 3]
theorem Qta (a b c : Int) (w : World) : Calls Tryz.prog 192 #[.int .i64 a, .int .i64 b, .int .i64 c] w fun e w' => e = .returned (dayV a b c) /\ Bel w w' := by
 by_cases h : SoundD a b c
 ·rw [show dayV a b c = .tuple #[.int .i64 (numD a b c), .int .i64 0] from iP h]
  have hs := Qp0 h
  have H := Hd h
  clear h
  go_enter Tryz.func192, Tryz.ntmps192
  go_wp2_with (first
   | (go_at_call 207; refine (Qfe a b c _).mono ?_; rintro e W1 ⟨rfl, hb1⟩
      have hw1 := (Qjx w a b c).keep hb1; replace hb1 := ((Bel.refl w).alloc _).trans hb1)
   | (go_at_call 208; refine (Qlf a b c H.out _).mono ?_; rintro e W2 ⟨rfl, hb2⟩))
  go_ret2
  exact ⟨rfl, hb1.trans hb2⟩
 rw [show dayV a b c = .tuple #[.int .i64 0, .int .i64 3] from iN h]
 have hs := Qp1 h
 clear h
 go_enter Tryz.func192, Tryz.ntmps192
 go_wp2_with (go_at_call 207; refine (Qfe a b c _).mono ?_; rintro e W1 ⟨rfl, hb1⟩
              replace hb1 := ((Bel.refl w).alloc _).trans hb1)
 go_ret2
 exact ⟨rfl, hb1⟩
abbrev Free3 (w : World) (b : Nat) : Prop := w.frozen? ⟨b, 0, none⟩ = false /\ w.frozen? ⟨b, 1, none⟩ = false /\ w.frozen? ⟨b, 2, none⟩ = false
theorem Free3.keep {w w' : World} {b : Nat} (h : Free3 w b) (hb : Bel w w') (hlt : b < w.heap.size) : Free3 w' b := by
 simp only [Free3, hb.frozens _ _ hlt]
 exact h
abbrev Sl3 (w : World) (b : Nat) (x y z : Int) : Prop := Arr3 w b x y z /\ Free3 w b
theorem Sl3.keep {w w' : World} {b : Nat} {x y z : Int} (h : Sl3 w b x y z) (hb : Bel w w') : Sl3 w' b x y z := ⟨h.1.keep hb, h.2.keep hb h.1.1⟩
theorem Qp2 (a b : Int) (h : a <= b) : bef a <= bef b := by unfold bef; omega
theorem Qp3 (y : Int) (n : Nat) (a : Int) (h1 : 1 <= a) (h2 : a + n <= 12) : cumM y a <= cumM y (a + n) := by
 induction n with
 | zero => simp
 | succ k ih =>
  have := Qe2 y (a + k) (by omega) (by omega)
  have hl := Qcp y (a + k)
  have := ih (by omega)
  rw [show a + ((k + 1 : Nat) : Int) = a + k + 1 by omega]
  omega
theorem Qmv (y a b : Int) (h1 : 1 <= a) (h : a <= b) (h2 : b <= 12) : cumM y a <= cumM y b := by
 have := Qp3 y (b - a).toNat a h1 (by omega)
 rwa [show a + ((b - a).toNat : Int) = b by omega] at this
theorem Qvw (a b c : Int) (h : SoundD a b c) : bef a + cumM a b <= numD a b c /\ numD a b c < bef a + cumM a b + lenM a b /\ bef a <= numD a b c /\ numD a b c < bef (a + 1) := by
 obtain ⟨h1, h2, h3, h4, h5, h6⟩ := h
 have := Qsg a b h4
 have hs := Qj0 a
 have hl := Qj1 a
 refine ⟨by unfold numD; omega, by unfold numD; omega, by unfold numD; omega, ?_⟩
 rw [hs]
 unfold numD
 by_cases hb : b = 12
 ·subst hb; omega
 have := Qe2 a b h3 (by omega)
 have := Qmv a (b + 1) 12 (by omega) (by omega) (by omega)
 have := Qcp a 12
 omega
theorem Qp4 (a b c : Int) (h : SoundD a b c) (hn : numD a b c < 3652058) : ∃ a' b' c', SoundD a' b' c' /\ numD a' b' c' = numD a b c + 1 /\
  ((a' = a /\ b' = b /\ c' = c + 1) \/ (a' = a /\ b' = b + 1 /\ c' = 1 /\ 28 <= c) \/ (a' = a + 1 /\ b' = 1 /\ c' = 1 /\ b = 12 /\ c = 31)) := by
 obtain ⟨h1, h2, h3, h4, h5, h6⟩ := h
 by_cases hc : c < lenM a b
 ·exact ⟨a, b, c + 1, ⟨h1, h2, h3, h4, by omega, by omega⟩, by unfold numD; omega, .inl ⟨rfl, rfl, rfl⟩⟩
 have hl := Qcp a b
 by_cases hb : b < 12
 ·have := Qe2 a b h3 (by omega)
  have hl' := Qcp a (b + 1)
  exact ⟨a, b + 1, 1, ⟨h1, h2, by omega, by omega, by omega, by omega⟩, by unfold numD; omega, .inr (.inl ⟨rfl, rfl, rfl, by omega⟩)⟩
 obtain rfl : b = 12 := by omega
 have hs := Qj0 a
 have hl2 := Qj1 a
 have hl' := Qcp (a + 1) 1
 have h12 : lenM a 12 = 31 := by simp [lenM]
 have hf := Qhk (a + 1)
 have ha : a <= 9998 := by
  by_cases hh : a = 9999
  ·subst hh
   have : bef 9999 = 3651694 := by decide
   unfold numD at hn
   have : feb 9999 = 28 := by decide
   omega
  omega
 exact ⟨a + 1, 1, 1, ⟨by omega, by omega, by omega, by omega, by omega, by omega⟩, by unfold numD; omega, .inr (.inr ⟨rfl, rfl, rfl, rfl, by omega⟩)⟩
theorem Qtb (n : Nat) (h : n <= 3652058) : ∃ a b c, SoundD a b c /\ numD a b c = n := by
 induction n with
 | zero => exact ⟨1, 1, 1, by decide, by decide⟩
 | succ k ih =>
  obtain ⟨a, b, c, hs, hn⟩ := ih (by omega)
  obtain ⟨a', b', c', hs', hn', -⟩ := Qp4 a b c hs (by omega)
  exact ⟨a', b', c', hs', by omega⟩
theorem Qtc (a b c : Int) (h : SoundD a b c) : 0 <= numD a b c /\ numD a b c <= 3652058 := by
 have k := Qvw a b c h
 have := Qp2 (a + 1) 10000 (by have := h.2.1; omega)
 have : bef 10000 = 3652059 := by decide
 have := Qsf a h.1 (by have := h.2.1; omega)
 omega
open Classical in
noncomputable def theDate (n : Int) : Int × Int × Int := if h : ∃ p : Int × Int × Int, SoundD p.1 p.2.1 p.2.2 /\ numD p.1 p.2.1 p.2.2 = n then Classical.choose h else (0, 0, 0)
noncomputable def dY (n : Int) : Int := (theDate n).1
noncomputable def dM (n : Int) : Int := (theDate n).2.1
noncomputable def dD (n : Int) : Int := (theDate n).2.2
theorem Qmw (n : Int) (h1 : 0 <= n) (h2 : n <= 3652058) : SoundD (dY n) (dM n) (dD n) /\ numD (dY n) (dM n) (dD n) = n := by
 obtain ⟨a, b, c, hs, hn⟩ := Qtb n.toNat (by omega)
 have h : ∃ p : Int × Int × Int, SoundD p.1 p.2.1 p.2.2 /\ numD p.1 p.2.1 p.2.2 = n := ⟨(a, b, c), hs, by simp only; omega⟩
 unfold dY dM dD theDate
 rw [dif_pos h]
 exact Classical.choose_spec h
noncomputable def dateV (n : Int) : Value := if 0 <= n /\ n <= 3652058 then .tuple #[.int .i64 (dY n), .int .i64 (dM n), .int .i64 (dD n), .int .i64 0] else .tuple #[.int .i64 0, .int .i64 0, .int .i64 0, .int .i64 3]
def Qbb (n k : Nat) : UInt8 := UInt8.ofNat (48 + n / k % 10)
def txt (y m d : Nat) : ByteArray := ⟨#[Qbb y 1000, Qbb y 100, Qbb y 10, Qbb y 1, 45, Qbb m 10, Qbb m 1, 45, Qbb d 10, Qbb d 1]⟩
noncomputable def dtx (n : Int) : ByteArray := txt (dY n).toNat (dM n).toNat (dD n).toNat
noncomputable def Qtd (n : Int) : Value := if 0 <= n /\ n <= 3652058 then .tuple #[.string (dtx n), .int .i64 0] else .tuple #[.string ⟨#[]⟩, .int .i64 3]
def dB_Y (c : UInt8) : Bool := decide (48 <= c.toNat /\ c.toNat <= 57)
def Qbr (l : List UInt8) : Bool := l.all dB_Y
def Qar (l : List UInt8) : Nat := l.foldl (fun a c => a * 10 + (c.toNat - 48)) 0
theorem Qmx (l : List UInt8) (c : UInt8) : Qar (l ++ [c]) = Qar l * 10 + (c.toNat - 48) := by simp [Qar, List.foldl_append]
theorem Qp5 (l : List UInt8) (c : UInt8) : Qbr (l ++ [c]) = (Qbr l && dB_Y c) := by simp [Qbr]
theorem Qmy (l : List UInt8) : ∀ a, Qbr l = true -> l.foldl (fun a c => a * 10 + (c.toNat - 48)) a + 1 <= (a + 1) * 10 ^ l.length := by
 induction l with
 | nil => intro a _; simp
 | cons c r ih =>
  intro a h
  simp only [Qbr, List.all_cons, bA] at h
  have hc := h.1
  simp only [dB_Y, decide_eq_true_eq] at hc
  have := ih (a * 10 + (c.toNat - 48)) h.2
  simp only [List.foldl_cons, List.length_cons, Nat.pow_succ]
  refine Nat.le_trans this ?_
  have h2 : a * 10 + (c.toNat - 48) + 1 <= (a + 1) * 10 := by omega
  calc (a * 10 + (c.toNat - 48) + 1) * 10 ^ r.length <= ((a + 1) * 10) * 10 ^ r.length := Nat.mul_le_mul_right _ h2
   _ = (a + 1) * (10 ^ r.length * 10) := by rw [Nat.mul_assoc, Nat.mul_comm 10]
theorem Qmz (l : List UInt8) (h : Qbr l = true) (hl : l.length <= 4) : Qar l <= 9999 := by
 have := Qmy l 0 h
 have h2 : 10 ^ l.length <= 10 ^ 4 := Nat.pow_le_pow_right (by omega) hl
 unfold Qar
 omega
theorem Qm0 (s : ByteArray) (k : Nat) (h : k < s.size) : s.data.toList.take (k + 1) = s.data.toList.take k ++ [s[k]] := by
 rw [List.take_succ_eq_append_getElem (by simpa using h)]; rfl
def numV (l : List UInt8) : Value := if Qbr l = true then .tuple #[.int .i64 (Qar l), .bool true] else .tuple #[.int .i64 0, .bool false]
theorem Qp6 (l : List UInt8) (k : Nat) (h : Qbr l = true) : Qbr (l.take k) = true := by
 simp only [Qbr, List.all_eq_true] at h ⊢
 exact fun x hx => h x (List.mem_of_mem_take hx)
theorem Qc6 (s : ByteArray) (hs : s.size <= 4) (w : World) : Calls Tryz.prog 191 #[.string s] w fun e w' => e = .returned (numV s.data.toList) /\ Bel w w' := by
 go_enter Tryz.func191, Tryz.ntmps191
 go_wp2
 go_loop [4, 8] (fun n i => ∃ k : Nat, k <= s.size /\ i = .int .i64 k /\ n = .int .i64 (Qar (s.data.toList.take k)) /\ Qbr (s.data.toList.take k) = true) (fun _ i => s.size - (intOf i).toNat)
 case atStart => exact ⟨0, Nat.zero_le _, rfl, rfl, rfl⟩
 case round =>
  obtain ⟨k, hk, rfl, rfl, hok⟩ := hrel
  by_cases hlt : k < s.size
  ·have hbd := Qmz _ hok (by have := List.length_take_le k s.data.toList; omega)
   have hts := Qm0 s k hlt
   have HS := Hd (show Qar (s.data.toList.take (k + 1)) = _ by rw [hts, Qmx])
   have HO := Hd (show Qbr (s.data.toList.take (k + 1)) = (true && dB_Y s[k]) by rw [hts, Qp5, hok])
   have HK := Hd (Qp6 s.data.toList (k + 1))
   clear hts hok
   by_cases h1 : 48 <= s[k].toNat
   ·have b1 : decide ((s[k].toNat : Int) < 48) = false := by simp; omega
    by_cases h2 : s[k].toNat <= 57
    ·have b2 : decide (57 < (s[k].toNat : Int)) = false := by simp; omega
     have HB := Hd (show dB_Y s[k] = true by simp [dB_Y, h1, h2])
     go_wp2
     go_round
     case rel => exact ⟨k + 1, by omega, by go_num, by rw [HS.out]; go_num, by rw [HO.out, HB.out]; rfl⟩
     case measure => simp [intOf]; omega
    have b2 : decide (57 < (s[k].toNat : Int)) = true := by simp; omega
    have HB : Hid (numV s.data.toList = .tuple #[.int .i64 0, .bool false]) :=
     iN fun h => by have := HK.out h; rw [HO.out] at this; simp [dB_Y] at this; omega
    go_wp2
    go_ret2
    exact ⟨by rw [HB.out]; rfl, Bel.refl _⟩
   have b1 : decide ((s[k].toNat : Int) < 48) = true := by simp; omega
   have HB : Hid (numV s.data.toList = .tuple #[.int .i64 0, .bool false]) :=
     iN fun h => by have := HK.out h; rw [HO.out] at this; simp [dB_Y] at this; omega
   go_wp2
   go_ret2
   exact ⟨by rw [HB.out]; rfl, Bel.refl _⟩
  have hall : s.data.toList.take k = s.data.toList := List.take_of_length_le (by simp; omega)
  have HB : Hid (numV s.data.toList = .tuple #[.int .i64 (Qar (s.data.toList.take k)), .bool true]) := by rw [hall] at hok ⊢; exact iP hok
  clear hall hok
  go_wp2
  go_ret2
  exact ⟨by rw [HB.out]; rfl, Bel.refl _⟩
def badV : Value := .tuple #[.int .i64 0, .int .i64 5]
def parseL (a b c d f g i j : UInt8) : Value :=
 if Qbr [a, b, c, d] = true /\ Qbr [f, g] = true /\ Qbr [i, j] = true then dayV (Qar [a, b, c, d]) (Qar [f, g]) (Qar [i, j]) else badV
def Qax (s : ByteArray) : Value :=
 match s.data.toList with
 | [a, b, c, d, e, f, g, h, i, j] => if e = 45 /\ h = 45 then parseL a b c d f g i j else badV
 | _ => badV
theorem ten (s : ByteArray) (h : s.size = 10) : ∃ a b c d e f g h i j, s = ⟨#[a, b, c, d, e, f, g, h, i, j]⟩ := by
 obtain ⟨⟨l⟩⟩ := s
 have hl : l.length = 10 := h
 match l, hl with
 | [a, b, c, d, e, f, g, h, i, j], _ => exact ⟨a, b, c, d, e, f, g, h, i, j, rfl⟩
theorem Qhl (s : ByteArray) (h : ¬ s.size = 10) : Qax s = badV := by
 obtain ⟨⟨l⟩⟩ := s
 unfold Qax
 split
 ·rename_i hl; simp only at hl; subst hl; exact absurd rfl h
 rfl
theorem Qvx {e : UInt8} (h : ¬ e = 45) : ((e.toNat : Int) != 45) = true := by
 simp only [bne_iff_ne, ne_eq]
 exact fun h' => h (UInt8.toNat_inj.mp (by have : e.toNat = 45 := by omega
                                           rw [this]; rfl))
theorem Qiq (s : ByteArray) (w : World) : Calls Tryz.prog 172 #[.string s] w fun e w' => e = .returned (Qax s) /\ Bel w w' := by
 by_cases hs : s.size = 10
 ·obtain ⟨a, b, c, d, e, f, g, h, i, j, hs'⟩ := ten s hs
  have i4 : s[4]'(by omega) = e := by subst hs'; rfl
  have i7 : s[7]'(by omega) = h := by subst hs'; rfl
  have hnl : ¬ s.size < 4 := by omega
  by_cases he : e = 45
  ·subst he
   have c4 : ((s[4]'(by omega)).toNat : Int) = 45 := by rw [i4]; rfl
   by_cases hh : h = 45
   ·subst hh
    have c7 : ((s[7]'(by omega)).toNat : Int) = 45 := by rw [i7]; rfl
    rw [show Qax s = parseL a b c d f g i j by rw [hs']; simp [Qax]]
    have x1 : s.extract 0 4 = ⟨#[a, b, c, d]⟩ := by rw [hs']; exact ByteArray.ext (by simp [ByteArray.data_extract])
    have x2 : s.extract 5 7 = ⟨#[f, g]⟩ := by rw [hs']; exact ByteArray.ext (by simp [ByteArray.data_extract])
    have x3 : s.extract 8 10 = ⟨#[i, j]⟩ := by rw [hs']; exact ByteArray.ext (by simp [ByteArray.data_extract])
    have ix0 : ∀ w, Sem.run Tryz.prog (Instr.index 116 (.agg #[.string ⟨#[a, b, c, d]⟩, .string ⟨#[f, g]⟩, .string ⟨#[i, j]⟩]) (.int .i64 0)) w = .ok (.string ⟨#[a, b, c, d]⟩) w := fun w => by kernel_rfl
    have ix1 : ∀ w, Sem.run Tryz.prog (Instr.index 116 (.agg #[.string ⟨#[a, b, c, d]⟩, .string ⟨#[f, g]⟩, .string ⟨#[i, j]⟩]) (.int .i64 1)) w = .ok (.string ⟨#[f, g]⟩) w := fun w => by kernel_rfl
    have ix2 : ∀ w, Sem.run Tryz.prog (Instr.index 116 (.agg #[.string ⟨#[a, b, c, d]⟩, .string ⟨#[f, g]⟩, .string ⟨#[i, j]⟩]) (.int .i64 2)) w = .ok (.string ⟨#[i, j]⟩) w := fun w => by kernel_rfl
    clear hs' i4 i7
    go_enter Tryz.func172, Tryz.ntmps172
    go_wp2_with fail
    go_region
    go_wp2_with fail
    refine uN (((Bel.refl w).alloc _).drew) fun W hc hf hz hb => ?_
    have hA : Sl3 W w.heap.size 0 0 0 := by simp [Sl3, Arr3, Free3, hz, hc, hf, go_sem]
    clear hc hf hz
    go_loopg [29] 3 (fun g' i' wr => Bel w wr /\
     ((i' = .int .i64 0 /\ Sl3 wr w.heap.size 0 0 0 /\ g' = 3) \/
      (i' = .int .i64 1 /\ Sl3 wr w.heap.size (Qar [a, b, c, d]) 0 0 /\ g' = 2 /\ Hid (Qbr [a, b, c, d] = true)) \/
      (i' = .int .i64 2 /\ Sl3 wr w.heap.size (Qar [a, b, c, d]) (Qar [f, g]) 0 /\ g' = 1 /\ Hid (Qbr [a, b, c, d] = true /\ Qbr [f, g] = true)) \/
      (i' = .int .i64 3 /\ Sl3 wr w.heap.size (Qar [a, b, c, d]) (Qar [f, g]) (Qar [i, j]) /\ g' = 0 /\ Hid (Qbr [a, b, c, d] = true /\ Qbr [f, g] = true /\ Qbr [i, j] = true))))
    case atStart => exact ⟨hb, .inl ⟨rfl, hA, rfl⟩⟩
    case round =>
     clear hb hA
     obtain ⟨hb, ⟨rfl, hA, hg⟩ | ⟨rfl, hA, hg, hd⟩ | ⟨rfl, hA, hg, hd⟩ | ⟨rfl, hA, hg, hd⟩⟩ := hrel
     ·have Hg := Hd hg
      clear hg
      by_cases hok : Qbr [a, b, c, d] = true
      ·have hnum : ∀ w, Calls Tryz.prog 191 #[.string ⟨#[a, b, c, d]⟩] w fun e w' => e = .returned (.tuple #[.int .i64 (Qar [a, b, c, d]), .bool true]) /\ Bel w w' := fun w => by
        rw [← show numV [a, b, c, d] = .tuple #[.int .i64 (Qar [a, b, c, d]), .bool true] from iP hok]
        exact Qc6 ⟨#[a, b, c, d]⟩ (by simp [ByteArray.size]) w
       have Hok := Hd hok
       clear hok
       go_wp2_with (go_at_call 191; refine (hnum _).mono ?_; rintro e w2 ⟨rfl, hb2⟩
                    replace hA := hA.keep hb2; replace hb := hb.trans hb2; clear hb2)
       go_roundg 2
       case measure => have := Hg.out; omega
       case rel => exact ⟨hb.setCell (by simp) _, .inr (.inl ⟨rfl, by simp [Sl3, Arr3, Free3, go_sem, hA], rfl, Hok⟩)⟩
      have hnum : ∀ w, Calls Tryz.prog 191 #[.string ⟨#[a, b, c, d]⟩] w fun e w' => e = .returned (.tuple #[.int .i64 0, .bool false]) /\ Bel w w' := fun w => by
       rw [← show numV [a, b, c, d] = .tuple #[.int .i64 0, .bool false] from iN hok]
       exact Qc6 ⟨#[a, b, c, d]⟩ (by simp [ByteArray.size]) w
      have hbad := Hd (show parseL a b c d f g i j = .tuple #[.int .i64 0, .int .i64 5] from iN fun h => hok h.1)
      clear hok
      go_wp2_with (go_at_call 191; refine (hnum _).mono ?_; rintro e w2 ⟨rfl, hb2⟩
                   replace hA := hA.keep hb2; replace hb := hb.trans hb2; clear hb2)
      go_ret2
      exact ⟨by rw [hbad.out]; rfl, hb⟩
     ·have Hg := Hd hg
      clear hg
      by_cases hok : Qbr [f, g] = true
      ·have hnum : ∀ w, Calls Tryz.prog 191 #[.string ⟨#[f, g]⟩] w fun e w' => e = .returned (.tuple #[.int .i64 (Qar [f, g]), .bool true]) /\ Bel w w' := fun w => by
        rw [← show numV [f, g] = .tuple #[.int .i64 (Qar [f, g]), .bool true] from iP hok]
        exact Qc6 ⟨#[f, g]⟩ (by simp [ByteArray.size]) w
       have Hok := Hd hok
       clear hok
       go_wp2_with (go_at_call 191; refine (hnum _).mono ?_; rintro e w2 ⟨rfl, hb2⟩
                    replace hA := hA.keep hb2; replace hb := hb.trans hb2; clear hb2)
       go_roundg 1
       case measure => have := Hg.out; omega
       case rel => exact ⟨hb.setCell (by simp) _, .inr (.inr (.inl ⟨rfl, by simp [Sl3, Arr3, Free3, go_sem, hA], rfl, ⟨hd.out, Hok.out⟩⟩))⟩
      have hnum : ∀ w, Calls Tryz.prog 191 #[.string ⟨#[f, g]⟩] w fun e w' => e = .returned (.tuple #[.int .i64 0, .bool false]) /\ Bel w w' := fun w => by
       rw [← show numV [f, g] = .tuple #[.int .i64 0, .bool false] from iN hok]
       exact Qc6 ⟨#[f, g]⟩ (by simp [ByteArray.size]) w
      have hbad := Hd (show parseL a b c d f g i j = .tuple #[.int .i64 0, .int .i64 5] from iN fun h => hok h.2.1)
      clear hok
      go_wp2_with (go_at_call 191; refine (hnum _).mono ?_; rintro e w2 ⟨rfl, hb2⟩
                   replace hA := hA.keep hb2; replace hb := hb.trans hb2; clear hb2)
      go_ret2
      exact ⟨by rw [hbad.out]; rfl, hb⟩
     ·have Hg := Hd hg
      clear hg
      by_cases hok : Qbr [i, j] = true
      ·have hnum : ∀ w, Calls Tryz.prog 191 #[.string ⟨#[i, j]⟩] w fun e w' => e = .returned (.tuple #[.int .i64 (Qar [i, j]), .bool true]) /\ Bel w w' := fun w => by
        rw [← show numV [i, j] = .tuple #[.int .i64 (Qar [i, j]), .bool true] from iP hok]
        exact Qc6 ⟨#[i, j]⟩ (by simp [ByteArray.size]) w
       have Hok := Hd hok
       clear hok
       go_wp2_with (go_at_call 191; refine (hnum _).mono ?_; rintro e w2 ⟨rfl, hb2⟩
                    replace hA := hA.keep hb2; replace hb := hb.trans hb2; clear hb2)
       go_roundg 0
       case measure => have := Hg.out; omega
       case rel => exact ⟨hb.setCell (by simp) _, .inr (.inr (.inr ⟨rfl, by simp [Sl3, Arr3, Free3, go_sem, hA], rfl, ⟨hd.out.1, hd.out.2, Hok.out⟩⟩))⟩
      have hnum : ∀ w, Calls Tryz.prog 191 #[.string ⟨#[i, j]⟩] w fun e w' => e = .returned (.tuple #[.int .i64 0, .bool false]) /\ Bel w w' := fun w => by
       rw [← show numV [i, j] = .tuple #[.int .i64 0, .bool false] from iN hok]
       exact Qc6 ⟨#[i, j]⟩ (by simp [ByteArray.size]) w
      have hbad := Hd (show parseL a b c d f g i j = .tuple #[.int .i64 0, .int .i64 5] from iN fun h => hok h.2.2)
      clear hok
      go_wp2_with (go_at_call 191; refine (hnum _).mono ?_; rintro e w2 ⟨rfl, hb2⟩
                   replace hA := hA.keep hb2; replace hb := hb.trans hb2; clear hb2)
      go_ret2
      exact ⟨by rw [hbad.out]; rfl, hb⟩
     have hok : parseL a b c d f g i j = dayV (Qar [a, b, c, d]) (Qar [f, g]) (Qar [i, j]) := iP hd.out
     have Hok := Hd hok
     clear hok
     have hv : ∃ x y, dayV (Qar [a, b, c, d]) (Qar [f, g]) (Qar [i, j]) = .tuple #[.int .i64 x, .int .i64 y] := by
      unfold dayV
      split
      ·exact ⟨_, _, rfl⟩
      exact ⟨_, _, rfl⟩
     obtain ⟨x, y, hxy⟩ := hv
     have Hxy := Hd hxy
     have hday := Qta (Qar [a, b, c, d]) (Qar [f, g]) (Qar [i, j])
     rw [hxy] at hday
     clear hxy
     go_wp2_with (go_at_call 192; refine (hday _).mono ?_; rintro e w2 ⟨rfl, hb2⟩
                  replace hb := hb.trans hb2; clear hb2)
     go_ret2
     exact ⟨by rw [Hok.out, Hxy.out]; rfl, hb⟩
   rw [show Qax s = badV by rw [hs']; simp [Qax, hh]]
   have b1 : (((s[7]'(by omega)).toNat : Int) != 45) = true := by rw [i7]; exact Qvx hh
   clear hh i4 i7 hs'
   unfold badV
   go_enter Tryz.func172, Tryz.ntmps172
   go_wp2
   go_ret2
   exact ⟨rfl, Bel.refl _⟩
  rw [show Qax s = badV by rw [hs']; simp [Qax, he]]
  have b1 : (((s[4]'(by omega)).toNat : Int) != 45) = true := by rw [i4]; exact Qvx he
  clear he i4 i7 hs'
  unfold badV
  go_enter Tryz.func172, Tryz.ntmps172
  go_wp2
  go_ret2
  exact ⟨rfl, Bel.refl _⟩
 rw [Qhl s hs]
 have b1 : (((s.size : Nat) : Int) != 10) = true := by simp; omega
 clear hs
 unfold badV
 go_enter Tryz.func172, Tryz.ntmps172
 go_wp2
 go_ret2
 exact ⟨rfl, Bel.refl _⟩
theorem Qir (n k : Nat) : (Qbb n k).toNat = 48 + n / k % 10 := by
 unfold Qbb
 rw [UInt8.toNat_ofNat']
 omega
theorem Qm1 (n k : Nat) : dB_Y (Qbb n k) = true := by simp only [dB_Y, Qir, decide_eq_true_eq]; omega
theorem Qvy (n : Nat) (h : n < 10000) : Qar [Qbb n 1000, Qbb n 100, Qbb n 10, Qbb n 1] = n := by
 simp only [Qar, List.foldl_cons, List.foldl_nil, Qir]; omega
theorem Qsh (n : Nat) (h : n < 100) : Qar [Qbb n 10, Qbb n 1] = n := by
 simp only [Qar, List.foldl_cons, List.foldl_nil, Qir]; omega
theorem Qm2 (y m d : Nat) (hy : y < 10000) (hm : m < 100) (hd : d < 100) : Qax (txt y m d) = dayV y m d := by
 have : Qax (txt y m d) = parseL (Qbb y 1000) (Qbb y 100) (Qbb y 10) (Qbb y 1) (Qbb m 10) (Qbb m 1) (Qbb d 10) (Qbb d 1) := by simp [Qax, txt]
 rw [this, parseL, iP ⟨by simp [Qbr, Qm1], by simp [Qbr, Qm1], by simp [Qbr, Qm1]⟩, Qvy y hy, Qsh m hm, Qsh d hd]
theorem back (n : Int) (h1 : 0 <= n) (h2 : n <= 3652058) : dateV n = .tuple #[.int .i64 (dY n), .int .i64 (dM n), .int .i64 (dD n), .int .i64 0] /\
  dayV (dY n) (dM n) (dD n) = .tuple #[.int .i64 n, .int .i64 0] /\ Qtd n = .tuple #[.string (dtx n), .int .i64 0] /\
  Qax (dtx n) = .tuple #[.int .i64 n, .int .i64 0] /\ (dtx n).size = 10 := by
 obtain ⟨hs, hn⟩ := Qmw n h1 h2
 have hs' := hs
 obtain ⟨s1, s2, s3, s4, s5, s6⟩ := hs'
 have s7 := Qcp (dY n) (dM n)
 have hd : dayV (dY n) (dM n) (dD n) = .tuple #[.int .i64 n, .int .i64 0] := by rw [show dayV (dY n) (dM n) (dD n) = _ from iP hs, hn]
 refine ⟨iP ⟨h1, h2⟩, hd, iP ⟨h1, h2⟩, ?_, rfl⟩
 unfold dtx
 rw [Qm2 _ _ _ (by omega) (by omega) (by omega), show ((dY n).toNat : Int) = dY n by omega, show ((dM n).toNat : Int) = dM n by omega, show ((dD n).toNat : Int) = dD n by omega, hd]
def Qa0 (r : Nat) : Bool := r == 9 || r == 10 || r == 13 || (decide (32 <= r) && decide (r <= 0xD7FF)) || (decide (0xE000 <= r) && decide (r <= 0xFFFD)) || (decide (0x10000 <= r) && decide (r <= 0x10FFFF))
def dec (g : Nat -> Nat) (m : Nat) : Nat × Nat :=
 if g 0 < 0x80 then (g 0, 1)
 else if g 0 / 32 = 6 /\ (1 < m /\ g 1 / 64 = 2) then
  (if 0x80 <= g 0 % 32 * 64 + g 1 % 64 then (g 0 % 32 * 64 + g 1 % 64, 2) else (0xFFFD, 1))
 else if g 0 / 16 = 14 /\ (1 < m /\ g 1 / 64 = 2) /\ (2 < m /\ g 2 / 64 = 2) then
  (if 0x800 <= g 0 % 16 * 4096 + g 1 % 64 * 64 + g 2 % 64 /\ (g 0 % 16 * 4096 + g 1 % 64 * 64 + g 2 % 64 < 0xD800 \/ 0xE000 <= g 0 % 16 * 4096 + g 1 % 64 * 64 + g 2 % 64) then
   (g 0 % 16 * 4096 + g 1 % 64 * 64 + g 2 % 64, 3) else (0xFFFD, 1))
 else if g 0 / 8 = 30 /\ (1 < m /\ g 1 / 64 = 2) /\ (2 < m /\ g 2 / 64 = 2) /\ (3 < m /\ g 3 / 64 = 2) then
  (if 0x10000 <= g 0 % 8 * 262144 + g 1 % 64 * 4096 + g 2 % 64 * 64 + g 3 % 64 /\ g 0 % 8 * 262144 + g 1 % 64 * 4096 + g 2 % 64 * 64 + g 3 % 64 <= 0x10FFFF then
   (g 0 % 8 * 262144 + g 1 % 64 * 4096 + g 2 % 64 * 64 + g 3 % 64, 4) else (0xFFFD, 1))
 else (0xFFFD, 1)
def first (g : Nat -> Nat) (m : Nat) : Nat × Nat :=
 if g 0 < 0x80 then (if Qa0 (g 0) = true then (g 0, 1) else (0, 0))
 else if 0xC0 <= g 0 /\ g 0 < 0xE0 then
  (if 1 < m /\ 0x80 <= g 1 /\ g 1 < 0xC0 /\ 0x80 <= (g 0 - 0xC0) * 64 + (g 1 - 0x80) /\ Qa0 ((g 0 - 0xC0) * 64 + (g 1 - 0x80)) = true then ((g 0 - 0xC0) * 64 + (g 1 - 0x80), 2) else (0, 0))
 else if 0xE0 <= g 0 /\ g 0 < 0xF0 then
  (if 2 < m /\ 0x80 <= g 1 /\ g 1 < 0xC0 /\ 0x80 <= g 2 /\ g 2 < 0xC0 /\ 0x800 <= ((g 0 - 0xE0) * 64 + (g 1 - 0x80)) * 64 + (g 2 - 0x80) /\ Qa0 (((g 0 - 0xE0) * 64 + (g 1 - 0x80)) * 64 + (g 2 - 0x80)) = true then
   (((g 0 - 0xE0) * 64 + (g 1 - 0x80)) * 64 + (g 2 - 0x80), 3) else (0, 0))
 else if 0xF0 <= g 0 /\ g 0 < 0xF8 then
  (if 3 < m /\ 0x80 <= g 1 /\ g 1 < 0xC0 /\ 0x80 <= g 2 /\ g 2 < 0xC0 /\ 0x80 <= g 3 /\ g 3 < 0xC0 /\ 0x10000 <= (((g 0 - 0xF0) * 64 + (g 1 - 0x80)) * 64 + (g 2 - 0x80)) * 64 + (g 3 - 0x80) /\
    Qa0 ((((g 0 - 0xF0) * 64 + (g 1 - 0x80)) * 64 + (g 2 - 0x80)) * 64 + (g 3 - 0x80)) = true then
   ((((g 0 - 0xF0) * 64 + (g 1 - 0x80)) * 64 + (g 2 - 0x80)) * 64 + (g 3 - 0x80), 4) else (0, 0))
 else (0, 0)
def own (g : Nat -> Nat) (m : Nat) : Bool := decide (2 < m) && decide (g 0 = 0xEF) && decide (g 1 = 0xBF) && decide (g 2 = 0xBD)
def may (g : Nat -> Nat) (m : Nat) : Bool := Qa0 (dec g m).1 && !(decide ((dec g m).1 = 0xFFFD) && !own g m)
theorem Qdp (r : Nat) : Qa0 r = true ↔ (r = 9 \/ r = 10 \/ r = 13 \/ (32 <= r /\ r <= 0xD7FF) \/ (0xE000 <= r /\ r <= 0xFFFD) \/ (0x10000 <= r /\ r <= 0x10FFFF)) := by
 unfold Qa0
 simp only [Bool.or_eq_true, bA, beq_iff_eq, decide_eq_true_eq]
 omega
theorem Qis (g : Nat -> Nat) (m : Nat) : own g m = true ↔ (2 < m /\ g 0 = 0xEF /\ g 1 = 0xBF /\ g 2 = 0xBD) := by
 unfold own
 simp only [bA, decide_eq_true_eq]
 omega
def gOf (s : ByteArray) (pos i : Nat) : Nat := (s.get! (pos + i)).toNat
theorem Qb9 (s : ByteArray) (pos i : Nat) : gOf s pos i < 256 := (s.get! (pos + i)).toNat_lt
theorem Qbm {P Q : Prop} [Decidable P] [Decidable Q] {α : Type} {a b c d : α} (h : P ↔ Q) (h1 : Q -> a = c) (h2 : ¬ Q -> b = d) : (if P then a else b) = if Q then c else d := by
 by_cases hq : Q
 ·rw [iP (h.2 hq), iP hq, h1 hq]
 rw [iN (fun hp => hq (h.1 hp)), iN hq, h2 hq]
theorem Qhm (s : ByteArray) (pos : Nat) (h : pos < s.size) : Utf8.decode s pos = dec (gOf s pos) (s.size - pos) := by
 have a0 := Qb9 s pos 0
 have a1 := Qb9 s pos 1
 have a2 := Qb9 s pos 2
 have a3 := Qb9 s pos 3
 have c : ∀ k, (decide (pos + k < s.size) && gOf s pos k / 64 == 2) = decide (k < s.size - pos /\ gOf s pos k / 64 = 2) := by
  intro k
  rw [Bool.eq_iff_iff]
  simp only [bA, decide_eq_true_eq, beq_iff_eq]
  omega
 have e : Utf8.decode s pos = (
  if gOf s pos 0 < 0x80 then (gOf s pos 0, 1)
  else if (gOf s pos 0 / 32 == 6 && (decide (pos + 1 < s.size) && gOf s pos 1 / 64 == 2)) = true then
   (if gOf s pos 0 % 32 * 64 + gOf s pos 1 % 64 >= 0x80 then (gOf s pos 0 % 32 * 64 + gOf s pos 1 % 64, 2) else (Utf8.runeError, 1))
  else if (gOf s pos 0 / 16 == 14 && (decide (pos + 1 < s.size) && gOf s pos 1 / 64 == 2) && (decide (pos + 2 < s.size) && gOf s pos 2 / 64 == 2)) = true then
   (if (decide (gOf s pos 0 % 16 * 4096 + gOf s pos 1 % 64 * 64 + gOf s pos 2 % 64 >= 0x800) && Utf8.valid (gOf s pos 0 % 16 * 4096 + gOf s pos 1 % 64 * 64 + gOf s pos 2 % 64 : Nat)) = true then (gOf s pos 0 % 16 * 4096 + gOf s pos 1 % 64 * 64 + gOf s pos 2 % 64, 3) else (Utf8.runeError, 1))
  else if (gOf s pos 0 / 8 == 30 && (decide (pos + 1 < s.size) && gOf s pos 1 / 64 == 2) && (decide (pos + 2 < s.size) && gOf s pos 2 / 64 == 2) && (decide (pos + 3 < s.size) && gOf s pos 3 / 64 == 2)) = true then
   (if (decide (gOf s pos 0 % 8 * 262144 + gOf s pos 1 % 64 * 4096 + gOf s pos 2 % 64 * 64 + gOf s pos 3 % 64 >= 0x10000) && Utf8.valid (gOf s pos 0 % 8 * 262144 + gOf s pos 1 % 64 * 4096 + gOf s pos 2 % 64 * 64 + gOf s pos 3 % 64 : Nat)) = true then (gOf s pos 0 % 8 * 262144 + gOf s pos 1 % 64 * 4096 + gOf s pos 2 % 64 * 64 + gOf s pos 3 % 64, 4) else (Utf8.runeError, 1))
  else (Utf8.runeError, 1)) := rfl
 rw [e, c 1, c 2, c 3]
 have v : ∀ r : Nat, Utf8.valid (r : Int) = true ↔ (r < 0xD800 \/ (0xE000 <= r /\ r <= 0x10FFFF)) := by
  intro r
  unfold Utf8.valid
  simp only [Bool.or_eq_true, bA, decide_eq_true_eq]
  omega
 simp only [bA, decide_eq_true_eq, beq_iff_eq, v]
 unfold dec Utf8.runeError
 generalize gOf s pos 0 = x0 at *
 generalize gOf s pos 1 = x1 at *
 generalize gOf s pos 2 = x2 at *
 generalize gOf s pos 3 = x3 at *
 refine Qbm Iff.rfl (fun _ => rfl) fun h1 => Qbm Iff.rfl (fun _ => Qbm Iff.rfl (fun _ => rfl) fun _ => rfl) fun h2 => Qbm (by rw [and_assoc]) (fun h3 => ?_) fun h3 => Qbm (by rw [and_assoc, and_assoc]) (fun h5 => ?_) fun _ => rfl
 ·have hb : x0 % 16 * 4096 + x1 % 64 * 64 + x2 % 64 <= 0xFFFF := by omega
  revert hb
  generalize x0 % 16 * 4096 + x1 % 64 * 64 + x2 % 64 = r
  intro hb
  exact Qbm (by omega) (fun _ => rfl) fun _ => rfl
 generalize x0 % 8 * 262144 + x1 % 64 * 4096 + x2 % 64 * 64 + x3 % 64 = r
 exact Qbm (by omega) (fun _ => rfl) fun _ => rfl
def okAt (s : ByteArray) (pos : Nat) : Bool := may (gOf s pos) (s.size - pos)
def wdAt (s : ByteArray) (pos : Nat) : Nat := (dec (gOf s pos) (s.size - pos)).2
def badFrom (s : ByteArray) : Nat -> Nat -> Int
 | 0, _ => -1
 | f + 1, pos => if pos < s.size then (if okAt s pos = true then badFrom s f (pos + wdAt s pos) else pos) else -1
def Qd1 (s : ByteArray) : Int := badFrom s s.size 0
theorem Qff (r : Nat) (hr : r <= 2147483647) (w : World) : Calls Tryz.prog 100 #[.int .i32 r] w fun e w' => e = .returned (.bool (Qa0 r)) /\ w' = w := by
 have hi : (r : Int) <= 2147483647 := by omega
 have hc : (r < 9) \/ (r = 9) \/ (r = 10) \/ (10 < r /\ r < 13) \/ (r = 13) \/ (13 < r /\ r < 32) \/ (32 <= r /\ r <= 55295) \/ (55295 < r /\ r < 57344) \/ (57344 <= r /\ r <= 65533) \/ (65533 < r /\ r < 65536) \/ (65536 <= r /\ r <= 1114111) \/ (1114111 < r) := by omega
 have hs := Qdp r
 rcases hc with h | h | h | h | h | h | h | h | h | h | h | h
 ·have L := Hd (show Qa0 r = false from by rw [Bool.eq_false_iff]; exact fun h' => by have := hs.1 h'; omega)
  have e9 : ((r : Int) == 9) = false := by rw [bN]; omega
  have e10 : ((r : Int) == 10) = false := by rw [bN]; omega
  have e13 : ((r : Int) == 13) = false := by rw [bN]; omega
  have g32 : decide ((32 : Int) <= r) = false := by exact dF (by omega)
  have g57344 : decide ((57344 : Int) <= r) = false := by exact dF (by omega)
  have g65536 : decide ((65536 : Int) <= r) = false := by exact dF (by omega)
  have l55295 : decide ((r : Int) <= 55295) = true := by exact dT (by omega)
  have l65533 : decide ((r : Int) <= 65533) = true := by exact dT (by omega)
  have l1114111 : decide ((r : Int) <= 1114111) = true := by exact dT (by omega)
  clear hs h hr hi
  go_enter Tryz.func100, Tryz.ntmps100
  go_wp2
  go_ret
  exact ⟨by (rw [L.out]) <;> rfl, rfl⟩
 ·have L := Hd (show Qa0 r = true from hs.2 (by omega))
  subst h
  clear hs hr hi
  go_enter Tryz.func100, Tryz.ntmps100
  go_wp2
  go_ret
  exact ⟨by (rw [L.out]) <;> rfl, rfl⟩
 ·have L := Hd (show Qa0 r = true from hs.2 (by omega))
  subst h
  clear hs hr hi
  go_enter Tryz.func100, Tryz.ntmps100
  go_wp2
  go_ret
  exact ⟨by (rw [L.out]) <;> rfl, rfl⟩
 ·have L := Hd (show Qa0 r = false from by rw [Bool.eq_false_iff]; exact fun h' => by have := hs.1 h'; omega)
  have e9 : ((r : Int) == 9) = false := by rw [bN]; omega
  have e10 : ((r : Int) == 10) = false := by rw [bN]; omega
  have e13 : ((r : Int) == 13) = false := by rw [bN]; omega
  have g32 : decide ((32 : Int) <= r) = false := by exact dF (by omega)
  have g57344 : decide ((57344 : Int) <= r) = false := by exact dF (by omega)
  have g65536 : decide ((65536 : Int) <= r) = false := by exact dF (by omega)
  have l55295 : decide ((r : Int) <= 55295) = true := by exact dT (by omega)
  have l65533 : decide ((r : Int) <= 65533) = true := by exact dT (by omega)
  have l1114111 : decide ((r : Int) <= 1114111) = true := by exact dT (by omega)
  clear hs h hr hi
  go_enter Tryz.func100, Tryz.ntmps100
  go_wp2
  go_ret
  exact ⟨by (rw [L.out]) <;> rfl, rfl⟩
 ·have L := Hd (show Qa0 r = true from hs.2 (by omega))
  subst h
  clear hs hr hi
  go_enter Tryz.func100, Tryz.ntmps100
  go_wp2
  go_ret
  exact ⟨by (rw [L.out]) <;> rfl, rfl⟩
 ·have L := Hd (show Qa0 r = false from by rw [Bool.eq_false_iff]; exact fun h' => by have := hs.1 h'; omega)
  have e9 : ((r : Int) == 9) = false := by rw [bN]; omega
  have e10 : ((r : Int) == 10) = false := by rw [bN]; omega
  have e13 : ((r : Int) == 13) = false := by rw [bN]; omega
  have g32 : decide ((32 : Int) <= r) = false := by exact dF (by omega)
  have g57344 : decide ((57344 : Int) <= r) = false := by exact dF (by omega)
  have g65536 : decide ((65536 : Int) <= r) = false := by exact dF (by omega)
  have l55295 : decide ((r : Int) <= 55295) = true := by exact dT (by omega)
  have l65533 : decide ((r : Int) <= 65533) = true := by exact dT (by omega)
  have l1114111 : decide ((r : Int) <= 1114111) = true := by exact dT (by omega)
  clear hs h hr hi
  go_enter Tryz.func100, Tryz.ntmps100
  go_wp2
  go_ret
  exact ⟨by (rw [L.out]) <;> rfl, rfl⟩
 ·have L := Hd (show Qa0 r = true from hs.2 (by omega))
  have e9 : ((r : Int) == 9) = false := by rw [bN]; omega
  have e10 : ((r : Int) == 10) = false := by rw [bN]; omega
  have e13 : ((r : Int) == 13) = false := by rw [bN]; omega
  have g32 : decide ((32 : Int) <= r) = true := by exact dT (by omega)
  have g57344 : decide ((57344 : Int) <= r) = false := by exact dF (by omega)
  have g65536 : decide ((65536 : Int) <= r) = false := by exact dF (by omega)
  have l55295 : decide ((r : Int) <= 55295) = true := by exact dT (by omega)
  have l65533 : decide ((r : Int) <= 65533) = true := by exact dT (by omega)
  have l1114111 : decide ((r : Int) <= 1114111) = true := by exact dT (by omega)
  clear hs h hr hi
  go_enter Tryz.func100, Tryz.ntmps100
  go_wp2
  go_ret
  exact ⟨by (rw [L.out]) <;> rfl, rfl⟩
 ·have L := Hd (show Qa0 r = false from by rw [Bool.eq_false_iff]; exact fun h' => by have := hs.1 h'; omega)
  have e9 : ((r : Int) == 9) = false := by rw [bN]; omega
  have e10 : ((r : Int) == 10) = false := by rw [bN]; omega
  have e13 : ((r : Int) == 13) = false := by rw [bN]; omega
  have g32 : decide ((32 : Int) <= r) = true := by exact dT (by omega)
  have g57344 : decide ((57344 : Int) <= r) = false := by exact dF (by omega)
  have g65536 : decide ((65536 : Int) <= r) = false := by exact dF (by omega)
  have l55295 : decide ((r : Int) <= 55295) = false := by exact dF (by omega)
  have l65533 : decide ((r : Int) <= 65533) = true := by exact dT (by omega)
  have l1114111 : decide ((r : Int) <= 1114111) = true := by exact dT (by omega)
  clear hs h hr hi
  go_enter Tryz.func100, Tryz.ntmps100
  go_wp2
  go_ret
  exact ⟨by (rw [L.out]) <;> rfl, rfl⟩
 ·have L := Hd (show Qa0 r = true from hs.2 (by omega))
  have e9 : ((r : Int) == 9) = false := by rw [bN]; omega
  have e10 : ((r : Int) == 10) = false := by rw [bN]; omega
  have e13 : ((r : Int) == 13) = false := by rw [bN]; omega
  have g32 : decide ((32 : Int) <= r) = true := by exact dT (by omega)
  have g57344 : decide ((57344 : Int) <= r) = true := by exact dT (by omega)
  have g65536 : decide ((65536 : Int) <= r) = false := by exact dF (by omega)
  have l55295 : decide ((r : Int) <= 55295) = false := by exact dF (by omega)
  have l65533 : decide ((r : Int) <= 65533) = true := by exact dT (by omega)
  have l1114111 : decide ((r : Int) <= 1114111) = true := by exact dT (by omega)
  clear hs h hr hi
  go_enter Tryz.func100, Tryz.ntmps100
  go_wp2
  go_ret
  exact ⟨by (rw [L.out]) <;> rfl, rfl⟩
 ·have L := Hd (show Qa0 r = false from by rw [Bool.eq_false_iff]; exact fun h' => by have := hs.1 h'; omega)
  have e9 : ((r : Int) == 9) = false := by rw [bN]; omega
  have e10 : ((r : Int) == 10) = false := by rw [bN]; omega
  have e13 : ((r : Int) == 13) = false := by rw [bN]; omega
  have g32 : decide ((32 : Int) <= r) = true := by exact dT (by omega)
  have g57344 : decide ((57344 : Int) <= r) = true := by exact dT (by omega)
  have g65536 : decide ((65536 : Int) <= r) = false := by exact dF (by omega)
  have l55295 : decide ((r : Int) <= 55295) = false := by exact dF (by omega)
  have l65533 : decide ((r : Int) <= 65533) = false := by exact dF (by omega)
  have l1114111 : decide ((r : Int) <= 1114111) = true := by exact dT (by omega)
  clear hs h hr hi
  go_enter Tryz.func100, Tryz.ntmps100
  go_wp2
  go_ret
  exact ⟨by (rw [L.out]) <;> rfl, rfl⟩
 ·have L := Hd (show Qa0 r = true from hs.2 (by omega))
  have e9 : ((r : Int) == 9) = false := by rw [bN]; omega
  have e10 : ((r : Int) == 10) = false := by rw [bN]; omega
  have e13 : ((r : Int) == 13) = false := by rw [bN]; omega
  have g32 : decide ((32 : Int) <= r) = true := by exact dT (by omega)
  have g57344 : decide ((57344 : Int) <= r) = true := by exact dT (by omega)
  have g65536 : decide ((65536 : Int) <= r) = true := by exact dT (by omega)
  have l55295 : decide ((r : Int) <= 55295) = false := by exact dF (by omega)
  have l65533 : decide ((r : Int) <= 65533) = false := by exact dF (by omega)
  have l1114111 : decide ((r : Int) <= 1114111) = true := by exact dT (by omega)
  clear hs h hr hi
  go_enter Tryz.func100, Tryz.ntmps100
  go_wp2
  go_ret
  exact ⟨by (rw [L.out]) <;> rfl, rfl⟩
 have L := Hd (show Qa0 r = false from by rw [Bool.eq_false_iff]; exact fun h' => by have := hs.1 h'; omega)
 have e9 : ((r : Int) == 9) = false := by rw [bN]; omega
 have e10 : ((r : Int) == 10) = false := by rw [bN]; omega
 have e13 : ((r : Int) == 13) = false := by rw [bN]; omega
 have g32 : decide ((32 : Int) <= r) = true := by exact dT (by omega)
 have g57344 : decide ((57344 : Int) <= r) = true := by exact dT (by omega)
 have g65536 : decide ((65536 : Int) <= r) = true := by exact dT (by omega)
 have l55295 : decide ((r : Int) <= 55295) = false := by exact dF (by omega)
 have l65533 : decide ((r : Int) <= 65533) = false := by exact dF (by omega)
 have l1114111 : decide ((r : Int) <= 1114111) = false := by exact dF (by omega)
 clear hs h hr hi
 go_enter Tryz.func100, Tryz.ntmps100
 go_wp2
 go_ret
 exact ⟨by (rw [L.out]) <;> rfl, rfl⟩
def ownB (s : ByteArray) : Bool := Lib.hasPrefix s.data.toList [239, 191, 189]
theorem Qgo (s : ByteArray) (w : World) : Calls Tryz.prog 147 #[.string s, .string ⟨#[239, 191, 189]⟩] w fun e w' => e = .returned (.bool (ownB s)) /\ w' = w :=
 Tryz.strings_HasPrefix s ⟨#[239, 191, 189]⟩ w
def brokenB (s : ByteArray) (r : Nat) : Bool := decide (r = 65533) && !ownB s
theorem Qek (s : ByteArray) (r : Nat) (hr : r <= 2147483647) (w : World) : Calls Tryz.prog 101 #[.string s, .int .i32 r] w fun e w' => e = .returned (.bool (brokenB s r)) /\ w' = w := by
 by_cases h : r = 65533
 ·have L := Hd (show brokenB s r = !ownB s by rw [brokenB, h]; simp)
  subst h
  clear hr
  go_enter Tryz.func101, Tryz.ntmps101
  go_wp2_with (go_at_call 147; refine (Qgo _ _).mono ?_; rintro e W1 ⟨rfl, rfl⟩)
  go_ret
  exact ⟨by (rw [L.out]) <;> rfl, rfl⟩
 have L := Hd (show brokenB s r = false by rw [brokenB, dF h]; rfl)
 have e1 : ((r : Int) == 65533) = false := by rw [bN]; omega
 clear h hr
 go_enter Tryz.func101, Tryz.ntmps101
 go_wp2_with fail
 go_ret
 exact ⟨by (rw [L.out]) <;> rfl, rfl⟩
theorem Qj2 (s : ByteArray) (k : Nat) : s.get! k = s.data.toList.getD k 0 := by
 obtain ⟨⟨l⟩⟩ := s
 show (Array.mk l)[k]! = _
 rw [List.getD_eq_getElem?_getD]
 by_cases h : k < l.length
 ·simp [h]
 simp [h]; rfl
theorem Qd2 (s : ByteArray) (pos i : Nat) : gOf s pos i = ((s.data.toList.drop pos).getD i 0).toNat := by
 rw [gOf, Qj2, List.getD_eq_getElem?_getD, List.getD_eq_getElem?_getD, List.getElem?_drop]
theorem Qm3 (s : ByteArray) (a : Nat) : (s.extract a s.size).data.toList = s.data.toList.drop a := by
 rw [Lib.extract_data, List.take_of_length_le]
 rw [List.length_drop, Array.length_toList]
 exact Nat.le_refl _
theorem Qbn (s : ByteArray) : s.data.toList.length = s.size := by rw [Array.length_toList]; rfl
theorem Qm4 (a : UInt8) (n : Nat) (hn : n < 256) : (a.toNat = n) ↔ a = UInt8.ofNat n := by
 constructor
 ·intro h; exact UInt8.toNat_inj.mp (by rw [UInt8.toNat_ofNat']; omega)
 rintro rfl; rw [UInt8.toNat_ofNat']; omega
theorem Qte (s : ByteArray) (pos : Nat) : ownB (s.extract pos s.size) = own (gOf s pos) (s.size - pos) := by
 have hl : (s.data.toList.drop pos).length = s.size - pos := by rw [List.length_drop, Qbn]
 rw [Bool.eq_iff_iff, Qis, ownB, Qm3, Qd2, Qd2, Qd2, ← hl]
 generalize s.data.toList.drop pos = l
 unfold Lib.hasPrefix
 match l with
 | [] => simp [List.isPrefixOf]
 | [a] => simp [List.isPrefixOf]
 | [a, b] => simp [List.isPrefixOf]
 | a :: b :: c :: r =>
  simp only [List.isPrefixOf, Bool.and_true, bA, beq_iff_eq, List.getD_cons_zero, List.getD_cons_succ, List.length_cons]
  rw [Qm4 a 0xEF (by omega), Qm4 b 0xBF (by omega), Qm4 c 0xBD (by omega)]
  constructor
  ·rintro ⟨h1, h2, h3⟩; exact ⟨by omega, h1.symm, h2.symm, h3.symm⟩
  rintro ⟨-, h1, h2, h3⟩; exact ⟨h1.symm, h2.symm, h3.symm⟩
theorem Qtf (s : ByteArray) (pos : Nat) : okAt s pos = (Qa0 (dec (gOf s pos) (s.size - pos)).1 && !brokenB (s.extract pos s.size) (dec (gOf s pos) (s.size - pos)).1) := by
 unfold okAt may brokenB
 rw [Qte]
theorem Qsi (s : ByteArray) (pos : Nat) : 1 <= wdAt s pos := by
 unfold wdAt dec
 repeat' split
 all_goals simp
theorem Qtg (s : ByteArray) (hs : s.size <= 9223372036854775807) (w : World) : Calls Tryz.prog 72 #[.string s] w fun e w' => e = .returned (.int .i64 (Qd1 s)) /\ Bel w w' := by
 go_enter Tryz.func72, Tryz.ntmps72
 go_wp2
 have hit0 : (w.iter s 0).heap[w.heap.size]? = some (.stringIter s 0) := World.iter_heap w s 0
 have hb0 : Bel w (w.iter s 0) := (Bel.refl w).alloc _
 have HB := Hd (And.intro hit0 hb0)
 clear hit0 hb0
 go_loopg [] s.size (fun g wr => ∃ pos fuel : Nat, Hid (wr.heap[w.heap.size]? = some (.stringIter s pos)) /\ Bel w wr /\ Hid (Qd1 s = badFrom s fuel pos /\ s.size <= fuel + pos /\ g = s.size - pos))
 case atStart => exact ⟨0, s.size, HB.out.1, HB.out.2, ⟨rfl, by omega, rfl⟩⟩
 case round =>
  obtain ⟨pos, fuel, hit, hb, hh⟩ := hrel
  by_cases hp : pos < s.size
  ·have hd := Qhm s pos hp
   have hr := decode_le s pos
   have hok := Qtf s pos
   obtain ⟨r, hr0⟩ : ∃ r, r = (dec (gOf s pos) (s.size - pos)).1 := ⟨_, rfl⟩
   rw [hd, ← hr0] at hr
   rw [← hr0] at hok
   have hr' := hr
   have hnx0 : ∀ ty, (Instr.next (.pointer (some ⟨w.heap.size, 0, none⟩)) true ty).run Tryz.prog wr = .ok (.tuple #[.bool true, .int .i64 pos, .int .i32 (r : Nat)]) (wr.iterAt w.heap.size s (pos + wdAt s pos)) := fun ty => by
    have h := Lib.run_next_any_at (P := Tryz.prog) wr w.heap.size s pos ty hit.out hp
    rw [hd, ← hr0] at h
    exact h
   have hit2 := Hd (Lib.iterAt_heap wr w.heap.size s pos (pos + wdAt s pos) hit.out)
   have hb2 : Bel w (wr.iterAt w.heap.size s (pos + wdAt s pos)) := Lib.below_iterAt hb (k := w.heap.size) (Nat.le_refl _) s _
   obtain ⟨W2, hW2⟩ : ∃ W2, W2 = wr.iterAt w.heap.size s (pos + wdAt s pos) := ⟨_, rfl⟩
   rw [← hW2] at hit2 hb2
   have hnx : ∀ ty, (Instr.next (.pointer (some ⟨w.heap.size, 0, none⟩)) true ty).run Tryz.prog wr = .ok (.tuple #[.bool true, .int .i64 pos, .int .i32 (r : Nat)]) W2 := fun ty => by rw [hW2]; exact hnx0 ty
   obtain ⟨f, rfl⟩ : ∃ f, fuel = f + 1 := ⟨fuel - 1, by have := hh.out.2.1; omega⟩
   have hstep := hh.out.1
   rw [badFrom, iP hp] at hstep
   have hwd := Qsi s pos
   have HOK := Hd hok
   have HST := Hd hstep
   have HWD := Hd hwd
   have i1 : (pos : Int) < s.size := by omega
   have i2 : (s.size : Int) <= 9223372036854775807 := by omega
   clear hd hr hok hr0 hnx0 hW2 hstep hwd hb
   cases hv : Qa0 r with
   | false =>
    have HV := Hd hv
    have L := Hd (show Qd1 s = pos by rw [HST.out, HOK.out, hv]; rfl)
    have HK := HV
    clear hv
    go_wp2_with (first
     | (go_at_call 100; refine (Qff r hr' _).mono ?_; rintro e V1 ⟨rfl, rfl⟩; rw [HV.out])
     | (go_at_call 101; refine (Qek _ r hr' _).mono ?_; rintro e V2 ⟨rfl, rfl⟩; rw [HK.out]))
    go_ret
    exact ⟨by (rw [L.out]) <;> rfl, hb2⟩
   | true =>
    have HV := Hd hv
    cases hk : brokenB (s.extract pos s.size) r with
    | true =>
     have HK := Hd hk
     have L := Hd (show Qd1 s = pos by rw [HST.out, HOK.out, hv, hk]; rfl)
     clear hv hk
     go_wp2_with (first
      | (go_at_call 100; refine (Qff r hr' _).mono ?_; rintro e V1 ⟨rfl, rfl⟩; rw [HV.out])
      | (go_at_call 101; refine (Qek _ r hr' _).mono ?_; rintro e V2 ⟨rfl, rfl⟩; rw [HK.out]))
     go_ret
     exact ⟨by (rw [L.out]) <;> rfl, hb2⟩
    | false =>
     have HK := Hd hk
     have L := Hd (show Qd1 s = badFrom s f (pos + wdAt s pos) by rw [HST.out, HOK.out, hv, hk]; rfl)
     clear hv hk
     go_wp2_with (first
      | (go_at_call 100; refine (Qff r hr' _).mono ?_; rintro e V1 ⟨rfl, rfl⟩; rw [HV.out])
      | (go_at_call 101; refine (Qek _ r hr' _).mono ?_; rintro e V2 ⟨rfl, rfl⟩; rw [HK.out]))
     go_roundg (s.size - (pos + wdAt s pos))
     case measure => have := hh.out.2.2; have := HWD.out; omega
     case rel => exact ⟨pos + wdAt s pos, f, hit2, hb2, ⟨L.out, by have := hh.out.2.1; have := HWD.out; omega, rfl⟩⟩
  have hnx : ∀ ty, (Instr.next (.pointer (some ⟨w.heap.size, 0, none⟩)) true ty).run Tryz.prog wr = .ok (.tuple #[.bool false]) wr := fun ty => Lib.run_next_end_at wr w.heap.size s pos ty hit.out hp
  have L := Hd (show Qd1 s = -1 by
   rw [hh.out.1]
   cases fuel with
   | zero => rfl
   | succ f => rw [badFrom, iN hp])
  go_wp2
  go_ret
  exact ⟨by (rw [L.out]) <;> rfl, hb⟩
def goodB (s : ByteArray) : Bool := decide (Qd1 s = -1)
theorem Qlg (s : ByteArray) (f : Nat) : ∀ pos, badFrom s f pos = -1 \/ 0 <= badFrom s f pos := by
 induction f with
 | zero => intro pos; exact .inl rfl
 | succ f ih =>
  intro pos
  unfold badFrom
  split
  ·split
   ·exact ih _
   exact .inr (by omega)
  exact .inl rfl
theorem Qp7 (s : ByteArray) (hs : s.size <= 9223372036854775807) (w : World) : Calls Tryz.prog 42 #[.string s] w fun e w' => e = .returned (.bool (goodB s)) /\ Bel w w' := by
 have hc := fun w => Qtg s hs w
 have h1 := Qlg s s.size 0
 have L := Hd (show goodB s = (Qd1 s == -1) from rfl)
 obtain ⟨z, hz⟩ : ∃ z, z = Qd1 s := ⟨_, rfl⟩
 rw [← hz] at hc L
 have HC := Hd hc
 clear hc h1 hz
 go_enter Tryz.func42, Tryz.ntmps42
 go_wp2_with (go_at_call 72; refine (HC.out _).mono ?_; rintro e W1 ⟨rfl, hb⟩)
 go_ret
 exact ⟨by (rw [L.out]) <;> rfl, hb⟩
def letB (r : Nat) : Bool := decide (r = 95 \/ (97 <= r /\ r <= 122) \/ (65 <= r /\ r <= 90))
def dgB (r : Nat) : Bool := decide (48 <= r /\ r <= 57)
theorem Qca (r : Nat) (hr : r <= 2147483647) (w : World) : Calls Tryz.prog 148 #[.int .i32 r] w fun e w' => e = .returned (.bool (letB r)) /\ w' = w := by
 have hi : (r : Int) <= 2147483647 := by omega
 have hc : (r < 65) \/ (65 <= r /\ r <= 90) \/ (90 < r /\ r < 95) \/ (r = 95) \/ (r = 96) \/ (97 <= r /\ r <= 122) \/ (122 < r) := by omega
 rcases hc with h | h | h | h | h | h | h
 ·have L := Hd (show letB r = false from dF (by omega))
  have e95 : ((r : Int) == 95) = false := by rw [bN]; omega
  have g97 : decide ((97 : Int) <= r) = false := by exact dF (by omega)
  have l122 : decide ((r : Int) <= 122) = true := by exact dT (by omega)
  have g65 : decide ((65 : Int) <= r) = false := by exact dF (by omega)
  have l90 : decide ((r : Int) <= 90) = true := by exact dT (by omega)
  clear h hr hi
  go_enter Tryz.func148, Tryz.ntmps148
  go_wp2
  go_ret
  exact ⟨by (rw [L.out]) <;> rfl, rfl⟩
 ·have L := Hd (show letB r = true from dT (by omega))
  have e95 : ((r : Int) == 95) = false := by rw [bN]; omega
  have g97 : decide ((97 : Int) <= r) = false := by exact dF (by omega)
  have l122 : decide ((r : Int) <= 122) = true := by exact dT (by omega)
  have g65 : decide ((65 : Int) <= r) = true := by exact dT (by omega)
  have l90 : decide ((r : Int) <= 90) = true := by exact dT (by omega)
  clear h hr hi
  go_enter Tryz.func148, Tryz.ntmps148
  go_wp2
  go_ret
  exact ⟨by (rw [L.out]) <;> rfl, rfl⟩
 ·have L := Hd (show letB r = false from dF (by omega))
  have e95 : ((r : Int) == 95) = false := by rw [bN]; omega
  have g97 : decide ((97 : Int) <= r) = false := by exact dF (by omega)
  have l122 : decide ((r : Int) <= 122) = true := by exact dT (by omega)
  have g65 : decide ((65 : Int) <= r) = true := by exact dT (by omega)
  have l90 : decide ((r : Int) <= 90) = false := by exact dF (by omega)
  clear h hr hi
  go_enter Tryz.func148, Tryz.ntmps148
  go_wp2
  go_ret
  exact ⟨by (rw [L.out]) <;> rfl, rfl⟩
 ·have L := Hd (show letB r = true from dT (by omega))
  have e95 : ((r : Int) == 95) = true := by rw [beq_iff_eq]; omega
  have g97 : decide ((97 : Int) <= r) = false := by exact dF (by omega)
  have l122 : decide ((r : Int) <= 122) = true := by exact dT (by omega)
  have g65 : decide ((65 : Int) <= r) = true := by exact dT (by omega)
  have l90 : decide ((r : Int) <= 90) = false := by exact dF (by omega)
  clear h hr hi
  go_enter Tryz.func148, Tryz.ntmps148
  go_wp2
  go_ret
  exact ⟨by (rw [L.out]) <;> rfl, rfl⟩
 ·have L := Hd (show letB r = false from dF (by omega))
  have e95 : ((r : Int) == 95) = false := by rw [bN]; omega
  have g97 : decide ((97 : Int) <= r) = false := by exact dF (by omega)
  have l122 : decide ((r : Int) <= 122) = true := by exact dT (by omega)
  have g65 : decide ((65 : Int) <= r) = true := by exact dT (by omega)
  have l90 : decide ((r : Int) <= 90) = false := by exact dF (by omega)
  clear h hr hi
  go_enter Tryz.func148, Tryz.ntmps148
  go_wp2
  go_ret
  exact ⟨by (rw [L.out]) <;> rfl, rfl⟩
 ·have L := Hd (show letB r = true from dT (by omega))
  have e95 : ((r : Int) == 95) = false := by rw [bN]; omega
  have g97 : decide ((97 : Int) <= r) = true := by exact dT (by omega)
  have l122 : decide ((r : Int) <= 122) = true := by exact dT (by omega)
  have g65 : decide ((65 : Int) <= r) = true := by exact dT (by omega)
  have l90 : decide ((r : Int) <= 90) = false := by exact dF (by omega)
  clear h hr hi
  go_enter Tryz.func148, Tryz.ntmps148
  go_wp2
  go_ret
  exact ⟨by (rw [L.out]) <;> rfl, rfl⟩
 have L := Hd (show letB r = false from dF (by omega))
 have e95 : ((r : Int) == 95) = false := by rw [bN]; omega
 have g97 : decide ((97 : Int) <= r) = true := by exact dT (by omega)
 have l122 : decide ((r : Int) <= 122) = false := by exact dF (by omega)
 have g65 : decide ((65 : Int) <= r) = true := by exact dT (by omega)
 have l90 : decide ((r : Int) <= 90) = false := by exact dF (by omega)
 clear h hr hi
 go_enter Tryz.func148, Tryz.ntmps148
 go_wp2
 go_ret
 exact ⟨by (rw [L.out]) <;> rfl, rfl⟩
theorem Qb2 (r : Nat) (hr : r <= 2147483647) (w : World) : Calls Tryz.prog 149 #[.int .i32 r, .int .i64 10] w fun e w' => e = .returned (.bool (dgB r)) /\ w' = w := by
 have hi : (r : Int) <= 2147483647 := by omega
 have hc : (r < 48) \/ (48 <= r /\ r <= 57) \/ (57 < r) := by omega
 rcases hc with h | h | h
 ·have L := Hd (show dgB r = false from dF (by omega))
  have g48 : decide ((48 : Int) <= r) = false := by exact dF (by omega)
  have l57 : decide ((r : Int) <= 57) = true := by exact dT (by omega)
  clear h hr hi
  go_enter Tryz.func149, Tryz.ntmps149
  go_wp2
  go_ret
  exact ⟨by (rw [L.out]) <;> rfl, rfl⟩
 ·have L := Hd (show dgB r = true from dT (by omega))
  have g48 : decide ((48 : Int) <= r) = true := by exact dT (by omega)
  have l57 : decide ((r : Int) <= 57) = true := by exact dT (by omega)
  clear h hr hi
  go_enter Tryz.func149, Tryz.ntmps149
  go_wp2
  go_ret
  exact ⟨by (rw [L.out]) <;> rfl, rfl⟩
 have L := Hd (show dgB r = false from dF (by omega))
 have g48 : decide ((48 : Int) <= r) = true := by exact dT (by omega)
 have l57 : decide ((r : Int) <= 57) = false := by exact dF (by omega)
 clear h hr hi
 go_enter Tryz.func149, Tryz.ntmps149
 go_wp2
 go_ret
 exact ⟨by (rw [L.out]) <;> rfl, rfl⟩
def okN (i b : Nat) : Bool := letB b || (decide (i ≠ 0) && dgB b)
def nameB (s : ByteArray) : Bool := decide (0 < s.size /\ s.size <= 32) && (List.range s.size).all fun i => okN i (gOf s 0 i)
theorem Qcq {s : ByteArray} {i : Nat} (h : i < s.size) (hb : okN i (gOf s 0 i) = false) : nameB s = false := by
 unfold nameB
 rw [Bool.and_eq_false_iff]
 right
 rw [Bool.eq_false_iff]
 intro ha
 rw [List.all_eq_true] at ha
 have := ha i (List.mem_range.2 h)
 rw [hb] at this
 cases this
theorem Qj3 {s : ByteArray} (h0 : 0 < s.size) (h : s.size <= 32) (ha : ∀ i, i < s.size -> okN i (gOf s 0 i) = true) : nameB s = true := by
 unfold nameB
 rw [dT ⟨h0, h⟩, Bool.true_and, List.all_eq_true]
 intro i hi
 exact ha i (List.mem_range.1 hi)
theorem Qj4 (i b : Nat) (h : 128 <= b) : okN i b = false := by
 unfold okN letB dgB
 rw [dF (by omega), dF (p := 48 <= b /\ b <= 57) (by omega)]
 simp
theorem Qth (g : Nat -> Nat) (m : Nat) (h : g 0 < 128) : dec g m = (g 0, 1) := iP h
theorem Qvz (g : Nat -> Nat) (m : Nat) (h : ¬ g 0 < 128) : 128 <= (dec g m).1 := by
 unfold dec
 rw [iN h]
 repeat' split
 all_goals simp only
 all_goals omega
theorem Qm5 (s : ByteArray) (pos : Nat) : gOf s pos 0 = gOf s 0 pos := by unfold gOf; rw [Nat.zero_add, Nat.add_zero]
theorem Qgp (s : ByteArray) (hs : s.size <= 9223372036854775807) (w : World) : Calls Tryz.prog 102 #[.string s] w fun e w' => e = .returned (.bool (nameB s)) /\ Bel w w' := by
 have i2 : (s.size : Int) <= 9223372036854775807 := by omega
 by_cases h0 : s.size = 0
 ·have L := Hd (show nameB s = false by rw [nameB, dF (by omega)]; rfl)
  have e0 : s.toList.isEmpty = true := by
   rw [ByteArray.toList_eq, List.isEmpty_iff]
   exact List.eq_nil_of_length_eq_zero (by rw [Qbn]; exact h0)
  clear h0
  go_enter Tryz.func102, Tryz.ntmps102
  go_wp2
  go_ret
  exact ⟨by (rw [L.out]) <;> rfl, Bel.refl _⟩
 have e0 : s.toList.isEmpty = false := by
  rw [ByteArray.toList_eq, Bool.eq_false_iff, ne_eq, List.isEmpty_iff]
  intro h
  have := Qbn s
  rw [h] at this
  simp at this; omega
 by_cases h32 : (32 : Int) < s.size
 ·have L := Hd (show nameB s = false by rw [nameB, dF (by omega)]; rfl)
  clear h0
  go_enter Tryz.func102, Tryz.ntmps102
  go_wp2
  go_ret
  exact ⟨by (rw [L.out]) <;> rfl, Bel.refl _⟩
 have SZ := Hd (And.intro (show 0 < s.size by omega) (show s.size <= 32 by omega))
 clear h0
 go_enter Tryz.func102, Tryz.ntmps102
 go_wp2
 have hit0 : (w.iter s 0).heap[w.heap.size]? = some (.stringIter s 0) := World.iter_heap w s 0
 have hb0 : Bel w (w.iter s 0) := (Bel.refl w).alloc _
 have HB := Hd (And.intro hit0 hb0)
 clear hit0 hb0
 go_loopg [] s.size (fun g wr => ∃ pos : Nat, Hid (wr.heap[w.heap.size]? = some (.stringIter s pos)) /\ Bel w wr /\ Hid (pos <= s.size /\ (∀ i, i < pos -> okN i (gOf s 0 i) = true) /\ g = s.size - pos))
 case atStart => exact ⟨0, HB.out.1, HB.out.2, ⟨Nat.zero_le _, fun i h => by omega, rfl⟩⟩
 case round =>
  obtain ⟨pos, hit, hb, hh⟩ := hrel
  by_cases hp : pos < s.size
  ·have hd := Qhm s pos hp
   have hr := decode_le s pos
   obtain ⟨r, hr0⟩ : ∃ r, r = (dec (gOf s pos) (s.size - pos)).1 := ⟨_, rfl⟩
   rw [hd, ← hr0] at hr
   have hr' := hr
   have hnx0 : ∀ ty, (Instr.next (.pointer (some ⟨w.heap.size, 0, none⟩)) true ty).run Tryz.prog wr = .ok (.tuple #[.bool true, .int .i64 pos, .int .i32 (r : Nat)]) (wr.iterAt w.heap.size s (pos + wdAt s pos)) := fun ty => by
    have h := Lib.run_next_any_at (P := Tryz.prog) wr w.heap.size s pos ty hit.out hp
    rw [hd, ← hr0] at h
    exact h
   have hit2 := Hd (Lib.iterAt_heap wr w.heap.size s pos (pos + wdAt s pos) hit.out)
   have hb2 : Bel w (wr.iterAt w.heap.size s (pos + wdAt s pos)) := Lib.below_iterAt hb (k := w.heap.size) (Nat.le_refl _) s _
   obtain ⟨W2, hW2⟩ : ∃ W2, W2 = wr.iterAt w.heap.size s (pos + wdAt s pos) := ⟨_, rfl⟩
   rw [← hW2] at hit2 hb2
   have hnx : ∀ ty, (Instr.next (.pointer (some ⟨w.heap.size, 0, none⟩)) true ty).run Tryz.prog wr = .ok (.tuple #[.bool true, .int .i64 pos, .int .i32 (r : Nat)]) W2 := fun ty => by rw [hW2]; exact hnx0 ty
   have hkey : okN pos r = okN pos (gOf s 0 pos) /\ (okN pos r = true -> wdAt s pos = 1) := by
    by_cases hl : gOf s pos 0 < 128
    ·have hdl := Qth (gOf s pos) (s.size - pos) hl
     rw [hdl] at hr0
     refine ⟨by rw [hr0, Qm5], fun _ => by unfold wdAt; rw [hdl]⟩
    have hh1 := Qvz (gOf s pos) (s.size - pos) hl
    rw [← hr0] at hh1
    have f1 := Qj4 pos r hh1
    refine ⟨by rw [f1, Qj4 pos _ (by rw [← Qm5]; omega)], fun h => by rw [f1] at h; cases h⟩
   have KEY := Hd hkey
   have i1 : (pos : Int) < s.size := by omega
   have hok : okN pos r = (letB r || (decide (pos ≠ 0) && dgB r)) := rfl
   have HOK := Hd hok
   have p0 : pos = 0 \/ pos ≠ 0 := by omega
   clear hd hr hr0 hnx0 hW2 hb hkey hok
   cases hv : letB r with
   | true =>
    have HV := Hd hv
    have HK := HV
    have L := Hd (show okN pos r = true by rw [HOK.out, hv]; rfl)
    clear hv p0
    go_wp2_with (first
     | (go_at_call 148; refine (Qca r hr' _).mono ?_; rintro e V1 ⟨rfl, rfl⟩; rw [HV.out])
     | (go_at_call 149; refine (Qb2 r hr' _).mono ?_; rintro e V2 ⟨rfl, rfl⟩; rw [HK.out]))
    go_roundg (s.size - (pos + 1))
    case measure => have := hh.out.2.2; omega
    case rel =>
     have h1 := KEY.out.2 L.out
     rw [h1] at hit2
     refine ⟨pos + 1, hit2, hb2, ⟨by omega, fun i hi => ?_, rfl⟩⟩
     by_cases he : i = pos
     ·subst he; rw [← KEY.out.1]; exact L.out
     ·exact hh.out.2.1 i (by omega)
   | false =>
    have HV := Hd hv
    cases hk : dgB r with
    | true =>
     have HK := Hd hk
     by_cases hz : pos = 0
     ·have L := Hd (show nameB s = false from Qcq hp (by rw [← KEY.out.1, HOK.out, hv, hz]; rfl))
      subst hz
      clear hv hk p0
      go_wp2_with (first
       | (go_at_call 148; refine (Qca r hr' _).mono ?_; rintro e V1 ⟨rfl, rfl⟩; rw [HV.out])
       | (go_at_call 149; refine (Qb2 r hr' _).mono ?_; rintro e V2 ⟨rfl, rfl⟩; rw [HK.out]))
      go_ret
      exact ⟨by (rw [L.out]) <;> rfl, hb2⟩
     ·have L := Hd (show okN pos r = true by rw [HOK.out, hv, hk, dT hz]; rfl)
      have e1 : ((pos : Int) == 0) = false := by rw [bN]; omega
      clear hv hk p0
      go_wp2_with (first
       | (go_at_call 148; refine (Qca r hr' _).mono ?_; rintro e V1 ⟨rfl, rfl⟩; rw [HV.out])
       | (go_at_call 149; refine (Qb2 r hr' _).mono ?_; rintro e V2 ⟨rfl, rfl⟩; rw [HK.out]))
      go_roundg (s.size - (pos + 1))
      case measure => have := hh.out.2.2; omega
      case rel =>
       have h1 := KEY.out.2 L.out
       rw [h1] at hit2
       refine ⟨pos + 1, hit2, hb2, ⟨by omega, fun i hi => ?_, rfl⟩⟩
       by_cases he : i = pos
       ·subst he; rw [← KEY.out.1]; exact L.out
       ·exact hh.out.2.1 i (by omega)
    | false =>
     have HK := Hd hk
     have L := Hd (show nameB s = false from Qcq hp (by rw [← KEY.out.1, HOK.out, hv, hk]; simp))
     clear hv hk
     rcases p0 with hz | hz
     ·subst hz
      go_wp2_with (first
       | (go_at_call 148; refine (Qca r hr' _).mono ?_; rintro e V1 ⟨rfl, rfl⟩; rw [HV.out])
       | (go_at_call 149; refine (Qb2 r hr' _).mono ?_; rintro e V2 ⟨rfl, rfl⟩; rw [HK.out]))
      go_ret
      exact ⟨by (rw [L.out]) <;> rfl, hb2⟩
     have e1 : ((pos : Int) == 0) = false := by rw [bN]; omega
     clear hz
     go_wp2_with (first
      | (go_at_call 148; refine (Qca r hr' _).mono ?_; rintro e V1 ⟨rfl, rfl⟩; rw [HV.out])
      | (go_at_call 149; refine (Qb2 r hr' _).mono ?_; rintro e V2 ⟨rfl, rfl⟩; rw [HK.out]))
     go_ret
     exact ⟨by (rw [L.out]) <;> rfl, hb2⟩
  have hnx : ∀ ty, (Instr.next (.pointer (some ⟨w.heap.size, 0, none⟩)) true ty).run Tryz.prog wr = .ok (.tuple #[.bool false]) wr := fun ty => Lib.run_next_end_at wr w.heap.size s pos ty hit.out hp
  have L := Hd (show nameB s = true from Qj3 SZ.out.1 SZ.out.2 fun i hi => hh.out.2.1 i (by omega))
  go_wp2
  go_ret
  exact ⟨by (rw [L.out]) <;> rfl, hb⟩
end
end Go.Proofs.YtjckpkamhdbcnaaGreatDoor
