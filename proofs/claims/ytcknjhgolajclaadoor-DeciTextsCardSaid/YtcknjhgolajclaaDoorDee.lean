import Derived.Test.YtcknjhgolajclaaDoorDec
import Derived.Test.YtcknjhgolajclaaDoorDed
import Derived.Test.YtcknjhgolajclaaDoorShelf
import Derived.Deep.CutBlock
import Derived.Deep.DeepCutAuto
namespace Go.Proofs.YtcknjhgolajclaaDoor
set_option linter.unusedSimpArgs false
set_option linter.unusedVariables false
open Go.RowKit

theorem lz_t (y : Nat) (h1 : 1 ≤ y) (h2 : y < 18446744073709551616) (w : World) : Calls Tryd.prog 84 #[.int .u64 y] w fun e w' => ∃ s : Nat, s ≤ 63 ∧ y * 2 ^ s < 18446744073709551616 ∧ 9223372036854775808 ≤ y * 2 ^ s ∧ e = .returned (.int .i64 s) ∧ w = w' := by
  refine (Tryd.bits_LeadingZeros64 (y : Int) w (by omega) (by omega)).mono fun e w' ⟨he, hw⟩ => ?_
  obtain ⟨h3, h4, h5⟩ := Lib.bitLenAux_bounds 64 y h2 (by omega)
  have hL : Lib.bitLenAux 64 y ≤ 64 := by
    rcases Nat.lt_or_ge 64 (Lib.bitLenAux 64 y) with h | h
    · have := Nat.pow_le_pow_right (n := 2) (by omega) (show 64 ≤ Lib.bitLenAux 64 y - 1 by omega)
      have e : (2 : Nat) ^ 64 = 18446744073709551616 := by decide
      omega
    · exact h
  have hb : Lib.bitLen ((y : Int)).toNat = Lib.bitLenAux 64 y := rfl
  refine ⟨64 - Lib.bitLenAux 64 y, by omega, ?_, ?_, ?_, hw.symm⟩
  · have := Nat.mul_lt_mul_of_pos_right h5 (Nat.pow_pos (n := 64 - Lib.bitLenAux 64 y) (show 0 < 2 by omega))
    rw [← Nat.pow_add, show Lib.bitLenAux 64 y + (64 - Lib.bitLenAux 64 y) = 64 by omega] at this
    exact this
  · have := Nat.mul_le_mul_right (2 ^ (64 - Lib.bitLenAux 64 y)) h4
    rw [← Nat.pow_add, show Lib.bitLenAux 64 y - 1 + (64 - Lib.bitLenAux 64 y) = 63 by omega] at this
    exact this
  · rw [he, hb]
    exact congrArg (fun z => Ending.returned (.int .i64 z)) (by omega)

theorem maskN (a : Nat) (ha : a < 18446744073709551616) : bits .and .u64 (a : Int) 4294967295 = ((a % 4294967296 : Nat) : Int) := by
  have h := bits_and_u64_nat a 4294967295 ha (by omega)
  have e : a &&& 4294967295 = a % 4294967296 := Nat.and_two_pow_sub_one_eq_mod a 32
  rw [e] at h
  exact h
theorem cast_pow (a s : Nat) : (a : Int) * 2 ^ s = ((a * 2 ^ s : Nat) : Int) := by rw [Int.natCast_mul, Int.natCast_pow]; rfl
theorem cast_div_pow (a s : Nat) : (a : Int) / 2 ^ s = ((a / 2 ^ s : Nat) : Int) := by rw [Int.natCast_ediv, Int.natCast_pow]; rfl
theorem wrapM (a : Nat) : IntKind.u64.wrap (a : Int) = ((a % 18446744073709551616 : Nat) : Int) := by rw [IntKind.wrap_u64]; omega
theorem or_sum (h s l : Nat) (hs : s ≤ 63) (hh : h * 2 ^ s < 18446744073709551616) (hl : l < 2 ^ s) : bits .or .u64 ((h * 2 ^ s : Nat) : Int) (l : Int) = ((h * 2 ^ s + l : Nat) : Int) := by
  have h2 : 2 ^ s ≤ 2 ^ 63 := Nat.pow_le_pow_right (by omega) hs
  have h4 : (2 : Nat) ^ 63 = 9223372036854775808 := by decide
  have h3 := bits_or_u64_nat (h * 2 ^ s) l hh (by omega)
  rw [h3, Nat.mul_comm, Nat.two_pow_add_eq_or_of_lt hl]
theorem mul_lt64 {a b : Nat} (ha : a < 4294967296) (hb : b < 4294967296) : a * b < 18446744073709551616 := by
  have := Nat.mul_le_mul (show a ≤ 4294967295 by omega) (show b ≤ 4294967295 by omega)
  omega

/-- One digit's guess, made right. -/
def DigitDone (q : Nat) (v : Value) : Prop := v = .int .u64 q

set_option maxRecDepth 100000 in
set_option maxHeartbeats 4000000 in
theorem div64_hi (hi lo y : Nat) (h0 : 1 ≤ hi) (h1 : hi < y) (h2 : y < 18446744073709551616) (h3 : lo < 18446744073709551616) (w : World) :
    Calls Tryd.prog 69 #[.int .u64 hi, .int .u64 lo, .int .u64 y] w fun e w' => e = .returned (.tuple #[.int .u64 ((hi * 18446744073709551616 + lo) / y : Nat), .int .u64 ((hi * 18446744073709551616 + lo) % y : Nat)]) ∧ Bel w w' := by
  have k1 : ((y : Int) == 0) = false := by simp; omega
  have k2 : decide (y ≤ hi) = false := by simp; omega
  have k3 : ((hi : Int) == 0) = false := by simp; omega
  go_enter Tryd.func69, Tryd.ntmps69
  go_wp2_with fail
  refine (lz_t y (by omega) (by omega) _).mono ?_; rintro e W1 ⟨s, hs1, hs2, hs3, rfl, rfl⟩
  have hps : 0 < 2 ^ s := Nat.pow_pos (by omega)
  have hhs : hi * 2 ^ s < y * 2 ^ s := by rw [Nat.mul_lt_mul_right hps]; exact h1
  have hll : lo / 2 ^ (64 - s) < 2 ^ s := by
    rw [Nat.div_lt_iff_lt_mul (Nat.pow_pos (by omega)), ← Nat.pow_add, show s + (64 - s) = 64 by omega]
    exact h3
  have hbig := Lib.hid (shl_top (hi := hi) (lo := lo) (s := s) hs1 h3)
  have hltop : hi * 2 ^ s + lo / 2 ^ (64 - s) < y * 2 ^ s := by
    have := Nat.mul_le_mul_right (2 ^ s) (show hi + 1 ≤ y from h1)
    rw [Nat.add_mul] at this
    omega
  have e1 : IntKind.u64.wrap ((y : Int) * 2 ^ s) = ((y * 2 ^ s : Nat) : Int) := by
    rw [cast_pow, wrapM, Nat.mod_eq_of_lt hs2]
  have e4 : bits .or .u64 (IntKind.u64.wrap ((hi : Int) * 2 ^ s)) ((lo : Int) / 2 ^ (64 - s)) = ((hi * 2 ^ s + lo / 2 ^ (64 - s) : Nat) : Int) := by
    rw [cast_pow, wrapM, Nat.mod_eq_of_lt (by omega), cast_div_pow, or_sum _ _ _ hs1 (by omega) hll]
  have e5 : IntKind.u64.wrap ((lo : Int) * 2 ^ s) = ((lo * 2 ^ s % 18446744073709551616 : Nat) : Int) := by
    rw [cast_pow, wrapM]
  obtain ⟨U, hU⟩ : ∃ U, U = hi * 2 ^ s + lo / 2 ^ (64 - s) := ⟨_, rfl⟩
  obtain ⟨V, hV⟩ : ∃ V, V = lo * 2 ^ s % 18446744073709551616 := ⟨_, rfl⟩
  obtain ⟨Y, hY⟩ : ∃ Y, Y = y * 2 ^ s := ⟨_, rfl⟩
  have hVb : V < 18446744073709551616 := by rw [hV]; exact Nat.mod_lt _ (by omega)
  rw [← hY] at hs2 hs3 e1 hltop
  rw [← hU] at e4 hltop
  rw [← hV] at e5
  clear hhs hll
  obtain ⟨y1, hy1⟩ : ∃ y1, y1 = Y / 4294967296 := ⟨_, rfl⟩
  obtain ⟨y0, hy0⟩ : ∃ y0, y0 = Y % 4294967296 := ⟨_, rfl⟩
  obtain ⟨v1, hv1⟩ : ∃ v1, v1 = V / 4294967296 := ⟨_, rfl⟩
  obtain ⟨v0, hv0⟩ : ∃ v0, v0 = V % 4294967296 := ⟨_, rfl⟩
  have e2 : (Y : Int) / 4294967296 = y1 := by omega
  have e3 : bits .and .u64 (Y : Int) 4294967295 = y0 := by rw [maskN Y hs2, hy0]
  have e6 : (V : Int) / 4294967296 = v1 := by omega
  have e7 : bits .and .u64 (V : Int) 4294967295 = v0 := by rw [maskN V hVb, hv0]
  have b1 : 2147483648 ≤ y1 := by omega
  have b1' : y1 < 4294967296 := by omega
  have b0 : y0 < 4294967296 := by omega
  have bv1 : v1 < 4294967296 := by omega
  have bv0 : v0 < 4294967296 := by omega
  have hYs : Y = y1 * 4294967296 + y0 := by omega
  have hUY : U < y1 * 4294967296 + y0 := by omega
  have G0 := guess_0 b1 b1' b0 hUY bv1
  obtain ⟨q, hq⟩ : ∃ q, q = U / y1 := ⟨_, rfl⟩
  obtain ⟨r, hr⟩ : ∃ r, r = U % y1 := ⟨_, rfl⟩
  rw [← hq, ← hr] at G0
  have e8 : (U : Int) / (y1 : Int) = q := by rw [hq]; rfl
  have gs := G0.sum
  obtain ⟨P, hP⟩ : ∃ P, P = q * y1 := ⟨_, rfl⟩
  have e9 : IntKind.u64.wrap ((q : Int) * (y1 : Int)) = P := by
    rw [← Int.natCast_mul, wrapM, ← hP, Nat.mod_eq_of_lt (by omega)]
  have e10 : (U : Int) - (P : Int) = r := by omega
  have HY := Lib.hid hY
  have HYs := Lib.hid hYs
  have HV := Lib.hid (show 4294967296 * v1 + v0 = V by omega)
  have HU := Lib.hid hU
  have HVV := Lib.hid hV
  have gle := G0.le
  have i1 : (2147483648 : Int) ≤ (y1 : Int) := by omega
  have i2 : (y1 : Int) ≤ 4294967295 := by omega
  have i3 : (y0 : Int) ≤ 4294967295 := by omega
  have i4 : (v1 : Int) ≤ 4294967295 := by omega
  have i5 : (v0 : Int) ≤ 4294967295 := by omega
  have i6 : (U : Int) ≤ 18446744073709551615 := by omega
  have i7 : (q : Int) ≤ 4294967297 := by omega
  have i8 : (r : Int) ≤ 4294967295 := by have := G0.lo; omega
  have i9 : (P : Int) ≤ U := by omega
  have i10 : (s : Int) ≤ 63 := by omega
  have i11 : (Y : Int) ≤ 18446744073709551615 := by omega
  have i12 : (lo : Int) ≤ 18446744073709551615 := by omega
  have N := Lib.hid (And.intro b1 (And.intro b1' (And.intro b0 (And.intro bv1 (And.intro bv0 (And.intro hUY (And.intro hs2 (And.intro h2 h1))))))))
  have HG0 := Lib.hid G0
  clear hY hYs hy1 hy0 hv1 hv0 hU hV hq hr hP gs b1 b1' b0 bv1 bv0 hUY hs2 hs3 hltop gle G0 hVb hps h3
  go_upto_block 0 with (fail)
  clear e1 e2 e3 e4 e5 e6 e7 e8 e9 e10 i9 i12
  obtain ⟨b1, b1', b0, bv1, bv0, hUY, hs2, -⟩ := N.out
  have hX : (U * 4294967296 + v1) / (y1 * 4294967296 + y0) < 4294967296 := dv_lt hUY bv1
  obtain ⟨Q1, hQ1⟩ : ∃ Q1, Q1 = (U * 4294967296 + v1) / (y1 * 4294967296 + y0) := ⟨_, rfl⟩
  have HQ1 := Lib.hid hQ1
  rw [← hQ1] at hX
  have iQ : (Q1 : Int) ≤ 4294967295 := by omega
  clear hX hQ1 b1 b1' b0 bv1 bv0 hUY hs2
  go_cut [15] (fun q' wx => q' = .int .u64 Q1 ∧ wx = w)
  case first =>
    go_wp2_with fail
    go_loopg [15, 16] q (fun g q' r' wr => ∃ a b : Nat, q' = .int .u64 a ∧ r' = .int .u64 b ∧ Guess y1 y0 U v1 a b ∧ g = a ∧ wr = w)
    case atStart => exact ⟨q, r, rfl, rfl, HG0.out, rfl, rfl⟩
    case round =>
      obtain ⟨a, b, rfl, rfl, G, hg, rfl⟩ := hrel
      obtain ⟨b1, b1', b0, bv1, bv0, hUY, hs2, -⟩ := N.out
      have j1 : (b : Int) ≤ 4294967295 := by have := G.lo; omega
      have j2 : (a : Int) ≤ 4294967297 := by have := G.le; omega
      have Hg := Lib.hid hg
      clear hg
      obtain ⟨T, hT⟩ : ∃ T, T = a * y0 := ⟨_, rfl⟩
      by_cases hov : (U * 4294967296 + v1) / (y1 * 4294967296 + y0) < a
      · obtain ⟨-, d1, d2, d3⟩ := guess_dec b1 b0 G hov
        have ht := (guess_test b1 G).1 hov
        rw [← hT] at ht
        have j3 : (4294967296 : Int) * b + v1 < T := by omega
        have j4 : (1 : Int) ≤ a := by omega
        have H2 := Lib.hid d2
        have H3 := Lib.hid d3
        have HQ : Hid (4294967296 ≤ b + y1 → a - 1 = Q1) := fun h => (H3.out h).trans HQ1.out.symm
        have t1 : (a : Int) ≤ 4294967295 → IntKind.u64.wrap ((a : Int) * (y0 : Int)) = T := fun h => by
          rw [← Int.natCast_mul, wrapM, ← hT, Nat.mod_eq_of_lt (by rw [hT]; exact mul_lt64 (by omega) b0)]
        have T1 := Lib.hid t1
        clear t1 hT d1 d2 d3 hov ht b1 b1' b0 bv1 bv0 hUY hs2
        by_cases hbr : (4294967296 : Int) ≤ b + y1
        · have hfin := Lib.hid (HQ.out (by omega))
          by_cases h4 : (4294967296 : Int) ≤ a
          · go_wp2
            go_meet
            exact ⟨by rw [← hfin.out]; go_num, rfl⟩
          · have t1 := T1.out (by omega)
            go_wp2
            go_meet
            exact ⟨by rw [← hfin.out]; go_num, rfl⟩
        · have G1 := Lib.hid (H2.out (by omega))
          by_cases h4 : (4294967296 : Int) ≤ a
          · go_wp2
            go_roundg (gk - 1)
            case measure => have := Hg.out; omega
            case rel => exact ⟨a - 1, b + y1, by go_num, by go_num, G1.out, by have := Hg.out; omega, rfl⟩
          · have t1 := T1.out (by omega)
            go_wp2
            go_roundg (gk - 1)
            case measure => have := Hg.out; omega
            case rel => exact ⟨a - 1, b + y1, by go_num, by go_num, G1.out, by have := Hg.out; omega, rfl⟩
      · have hfin := Lib.hid ((guess_done G hov).trans HQ1.out.symm)
        have ht : ¬ 4294967296 * b + v1 < a * y0 := fun h => hov ((guess_test b1 G).2 h)
        rw [← hT] at ht
        have j3 : (T : Int) ≤ (4294967296 : Int) * b + v1 := by omega
        have h4 : ¬ (4294967296 : Int) ≤ a := by rw [hfin.out]; omega
        have t1 : IntKind.u64.wrap ((a : Int) * (y0 : Int)) = T := by
          rw [← Int.natCast_mul, wrapM, ← hT, Nat.mod_eq_of_lt (by rw [hT]; exact mul_lt64 (by omega) b0)]
        clear hT hov ht b1 b1' b0 bv1 bv0 hUY hs2
        go_wp2
        go_meet
        exact ⟨by rw [hfin.out], rfl⟩
  case rest =>
    obtain ⟨rfl, rfl⟩ := hcut
    clear HG0 i7 i8
    obtain ⟨b1, b1', b0, bv1, bv0, hUY, hs2, h2, h1⟩ := N.out
    have hQ1 := HQ1.out
    rw [← HYs.out] at hQ1
    obtain ⟨R, hR⟩ : ∃ R, R = (U * 4294967296 + v1) % Y := ⟨_, rfl⟩
    have hYpos : 0 < Y := by have := HYs.out; omega
    have hRY : R < Y := by rw [hR]; exact Nat.mod_lt _ hYpos
    have hsum : Q1 * Y + R = U * 4294967296 + v1 := by
      have := Nat.div_add_mod (U * 4294967296 + v1) Y
      rw [← hQ1, ← hR, Nat.mul_comm] at this
      exact this
    have f1 : IntKind.u64.wrap ((U : Int) * 4294967296) = ((U * 4294967296 % 18446744073709551616 : Nat) : Int) := by rw [conv_u64]; omega
    obtain ⟨a1, ha1⟩ : ∃ a1, a1 = U * 4294967296 % 18446744073709551616 := ⟨_, rfl⟩
    rw [← ha1] at f1
    have f2 : IntKind.u64.wrap ((a1 : Int) + v1) = (((a1 + v1) % 18446744073709551616 : Nat) : Int) := by rw [conv_u64]; omega
    obtain ⟨a2, ha2⟩ : ∃ a2, a2 = (a1 + v1) % 18446744073709551616 := ⟨_, rfl⟩
    rw [← ha2] at f2
    have f3 : IntKind.u64.wrap ((Q1 : Int) * Y) = ((Q1 * Y % 18446744073709551616 : Nat) : Int) := by rw [← Int.natCast_mul, wrapM]
    obtain ⟨a3, ha3⟩ : ∃ a3, a3 = Q1 * Y % 18446744073709551616 := ⟨_, rfl⟩
    rw [← ha3] at f3
    have f4 : IntKind.u64.wrap ((a2 : Int) - a3) = (R : Int) := by
      rw [conv_u64, ha2, ha3, ha1]
      exact rest_mod hsum (by omega)
    have hRy : R < y1 * 4294967296 + y0 := by have := HYs.out; omega
    have G0 := guess_0 b1 b1' b0 hRy bv0
    obtain ⟨q0, hq⟩ : ∃ q0, q0 = R / y1 := ⟨_, rfl⟩
    obtain ⟨r0, hr⟩ : ∃ r0, r0 = R % y1 := ⟨_, rfl⟩
    rw [← hq, ← hr] at G0
    have e8 : (R : Int) / (y1 : Int) = q0 := by rw [hq]; rfl
    have gs := G0.sum
    obtain ⟨P0, hP⟩ : ∃ P0, P0 = q0 * y1 := ⟨_, rfl⟩
    have e9 : IntKind.u64.wrap ((q0 : Int) * (y1 : Int)) = P0 := by
      rw [← Int.natCast_mul, wrapM, ← hP, Nat.mod_eq_of_lt (by omega)]
    have e10 : (R : Int) - (P0 : Int) = r0 := by omega
    have gle := G0.le
    have l7 : (q0 : Int) ≤ 4294967297 := by omega
    have l8 : (r0 : Int) ≤ 4294967295 := by have := G0.lo; omega
    have l9 : (P0 : Int) ≤ R := by omega
    have l10 : (R : Int) ≤ 18446744073709551615 := by omega
    have N1 := Lib.hid (And.intro hRY hRy)
    have HG0 := Lib.hid G0
    have HR := Lib.hid hR
    have H1 := Lib.hid hQ1
    clear hQ1 hR hYpos hRY hsum ha1 ha2 ha3 hRy G0 hq hr gs hP gle b1 b1' b0 bv1 bv0 hUY hs2 h2 h1
    go_upto_block 2 with (fail)
    clear f1 f2 f3 f4 e8 e9 e10 l9
    obtain ⟨b1, b1', b0, bv1, bv0, hUY, hs2, -⟩ := N.out
    have hX : (R * 4294967296 + v0) / (y1 * 4294967296 + y0) < 4294967296 := dv_lt N1.out.2 bv0
    obtain ⟨Q0, hQ0⟩ : ∃ Q0, Q0 = (R * 4294967296 + v0) / (y1 * 4294967296 + y0) := ⟨_, rfl⟩
    have HQ0 := Lib.hid hQ0
    rw [← hQ0] at hX
    have iQ0 : (Q0 : Int) ≤ 4294967295 := by omega
    clear hX hQ0 b1 b1' b0 bv1 bv0 hUY hs2
    go_cut [18] (fun q' wx => q' = .int .u64 Q0 ∧ wx = wc)
    case first =>
      go_wp2_with fail
      go_loopg [18, 16] q0 (fun g q' r' wr => ∃ a b : Nat, q' = .int .u64 a ∧ r' = .int .u64 b ∧ Guess y1 y0 R v0 a b ∧ g = a ∧ wr = wc)
      case atStart => exact ⟨q0, r0, rfl, rfl, HG0.out, rfl, rfl⟩
      case round =>
        obtain ⟨a, b, rfl, rfl, G, hg, rfl⟩ := hrel
        obtain ⟨b1, b1', b0, bv1, bv0, hUY, hs2, -⟩ := N.out
        have j1 : (b : Int) ≤ 4294967295 := by have := G.lo; omega
        have j2 : (a : Int) ≤ 4294967297 := by have := G.le; omega
        have Hg := Lib.hid hg
        clear hg
        obtain ⟨T, hT⟩ : ∃ T, T = a * y0 := ⟨_, rfl⟩
        by_cases hov : (R * 4294967296 + v0) / (y1 * 4294967296 + y0) < a
        · obtain ⟨-, d1, d2, d3⟩ := guess_dec b1 b0 G hov
          have ht := (guess_test b1 G).1 hov
          rw [← hT] at ht
          have j3 : (4294967296 : Int) * b + v0 < T := by omega
          have j4 : (1 : Int) ≤ a := by omega
          have H2 := Lib.hid d2
          have H3 := Lib.hid d3
          have HQ : Hid (4294967296 ≤ b + y1 → a - 1 = Q0) := fun h => (H3.out h).trans HQ0.out.symm
          have t1 : (a : Int) ≤ 4294967295 → IntKind.u64.wrap ((a : Int) * (y0 : Int)) = T := fun h => by
            rw [← Int.natCast_mul, wrapM, ← hT, Nat.mod_eq_of_lt (by rw [hT]; exact mul_lt64 (by omega) b0)]
          have T1 := Lib.hid t1
          clear t1 hT d1 d2 d3 hov ht b1 b1' b0 bv1 bv0 hUY hs2
          by_cases hbr : (4294967296 : Int) ≤ b + y1
          · have hfin := Lib.hid (HQ.out (by omega))
            by_cases h4 : (4294967296 : Int) ≤ a
            · go_wp2
              go_meet
              exact ⟨by rw [← hfin.out]; go_num, rfl⟩
            · have t1 := T1.out (by omega)
              go_wp2
              go_meet
              exact ⟨by rw [← hfin.out]; go_num, rfl⟩
          · have G1 := Lib.hid (H2.out (by omega))
            by_cases h4 : (4294967296 : Int) ≤ a
            · go_wp2
              go_roundg (gk - 1)
              case measure => have := Hg.out; omega
              case rel => exact ⟨a - 1, b + y1, by go_num, by go_num, G1.out, by have := Hg.out; omega, rfl⟩
            · have t1 := T1.out (by omega)
              go_wp2
              go_roundg (gk - 1)
              case measure => have := Hg.out; omega
              case rel => exact ⟨a - 1, b + y1, by go_num, by go_num, G1.out, by have := Hg.out; omega, rfl⟩
        · have hfin := Lib.hid ((guess_done G hov).trans HQ0.out.symm)
          have ht : ¬ 4294967296 * b + v0 < a * y0 := fun h => hov ((guess_test b1 G).2 h)
          rw [← hT] at ht
          have j3 : (T : Int) ≤ (4294967296 : Int) * b + v0 := by omega
          have h4 : ¬ (4294967296 : Int) ≤ a := by rw [hfin.out]; omega
          have t1 : IntKind.u64.wrap ((a : Int) * (y0 : Int)) = T := by
            rw [← Int.natCast_mul, wrapM, ← hT, Nat.mod_eq_of_lt (by rw [hT]; exact mul_lt64 (by omega) b0)]
          clear hT hov ht b1 b1' b0 bv1 bv0 hUY hs2
          go_wp2
          go_meet
          exact ⟨by rw [hfin.out], rfl⟩
    case rest =>
      obtain ⟨rfl, rfl⟩ := hcut
      clear HG0 l7 l8
      obtain ⟨b1, b1', b0, bv1, bv0, hUY, hs2, h2, h1⟩ := N.out
      obtain ⟨hRY, -⟩ := N1.out
      have hQ0 := HQ0.out
      rw [← HYs.out] at hQ0
      obtain ⟨R0, hR0⟩ : ∃ R0, R0 = (R * 4294967296 + v0) % Y := ⟨_, rfl⟩
      have hYpos : 0 < Y := by omega
      have hR0Y : R0 < Y := by rw [hR0]; exact Nat.mod_lt _ hYpos
      have hsum : Q0 * Y + R0 = R * 4294967296 + v0 := by
        have := Nat.div_add_mod (R * 4294967296 + v0) Y
        rw [← hQ0, ← hR0, Nat.mul_comm] at this
        exact this
      have f1 : IntKind.u64.wrap ((R : Int) * 4294967296) = ((R * 4294967296 % 18446744073709551616 : Nat) : Int) := by rw [conv_u64]; omega
      obtain ⟨a1, ha1⟩ : ∃ a1, a1 = R * 4294967296 % 18446744073709551616 := ⟨_, rfl⟩
      rw [← ha1] at f1
      have f2 : IntKind.u64.wrap ((a1 : Int) + v0) = (((a1 + v0) % 18446744073709551616 : Nat) : Int) := by rw [conv_u64]; omega
      obtain ⟨a2, ha2⟩ : ∃ a2, a2 = (a1 + v0) % 18446744073709551616 := ⟨_, rfl⟩
      rw [← ha2] at f2
      have f3 : IntKind.u64.wrap ((Q0 : Int) * Y) = ((Q0 * Y % 18446744073709551616 : Nat) : Int) := by rw [← Int.natCast_mul, wrapM]
      obtain ⟨a3, ha3⟩ : ∃ a3, a3 = Q0 * Y % 18446744073709551616 := ⟨_, rfl⟩
      rw [← ha3] at f3
      have f4 : IntKind.u64.wrap ((a2 : Int) - a3) = (R0 : Int) := by
        rw [conv_u64, ha2, ha3, ha1]
        exact rest_mod hsum (by omega)
      have f5 : (R0 : Int) / 2 ^ s = ((R0 / 2 ^ s : Nat) : Int) := cast_div_pow _ _
      obtain ⟨Z, hZ⟩ : ∃ Z, Z = R0 / 2 ^ s := ⟨_, rfl⟩
      rw [← hZ] at f5
      have l11 : (R0 : Int) ≤ 18446744073709551615 := by omega
      have hv0 : v0 = V % 4294967296 := by have := HV.out; omega
      have hv1 : v1 = V / 4294967296 := by have := HV.out; omega
      have hUY' : U < Y := by rw [← HYs.out] at hUY; exact hUY
      have two := long_two (b := V) hYpos rfl hUY'
      simp only at two
      rw [← hv1, ← hv0, ← H1.out, ← HR.out, ← hQ0, ← hR0] at two
      have hbig' := hbig.out
      rw [← HU.out, ← HVV.out] at hbig'
      rw [← hbig', HY.out] at two
      have p2 : 0 < 2 ^ s := Nat.pow_pos (by omega)
      rw [Nat.mul_div_mul_right _ _ p2, Nat.mul_mod_mul_right] at two
      have hZ' : Z = (hi * 18446744073709551616 + lo) % y := by rw [hZ, ← two.2, Nat.mul_div_cancel _ p2]
      have E1 := Lib.hid two.1
      have E2 := Lib.hid hZ'
      clear two hZ' hbig' hv0 hv1 hUY' hZ hR0 hYpos hR0Y hsum ha1 ha2 ha3 p2 b1 b1' b0 bv1 bv0 hUY hs2 h2 h1 hQ0 hRY
      go_wp2
      go_ret2
      exact ⟨by rw [E1.out, ← E2.out]; go_num, Bel.refl _⟩
end Go.Proofs.YtcknjhgolajclaaDoor
