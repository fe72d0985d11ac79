import Derived.Test.YtcknjhgolajclaaDoorDeu
namespace Go.Proofs.YtcknjhgolajclaaDoor
set_option linter.unusedSimpArgs false
set_option linter.unusedVariables false
open Go.RowKit

/-! Deci: a number in units of a scale. -/
theorem tdiv_floor (n p : Int) (hp : 0 < p) : (n.tmod p < 0 → n.tdiv p - 1 = n / p) ∧ (0 ≤ n.tmod p → n.tdiv p = n / p) ∧ ((n.tmod p = 0) ↔ (n % p = 0)) := by
  have h1 := Int.mul_tdiv_add_tmod n p
  have h5 : n.tmod p < p := Int.tmod_lt_of_pos n hp
  have h6 : -p < n.tmod p := by
    have := Int.tmod_lt_of_pos (-n) hp
    rw [Int.neg_tmod] at this
    omega
  have key : ∀ q r : Int, p * q + r = n → 0 ≤ r → r < p → q = n / p := by
    intro q r h h0 hl
    rw [← h, Int.mul_add_ediv_left _ _ (by omega), Int.ediv_eq_zero_of_lt h0 hl, Int.add_zero]
  refine ⟨fun h => ?_, fun h => key _ _ h1 h h5, ?_⟩
  · refine key _ (n.tmod p + p) ?_ (by omega) (by omega)
    rw [Int.mul_sub, Int.mul_one]; omega
  · rw [← Int.dvd_iff_tmod_eq_zero, ← Int.dvd_iff_emod_eq_zero]
theorem floor_floor (n : Int) (a b : Nat) : n / (a : Int) / (b : Int) = n / ((a * b : Nat) : Int) := by
  rw [Int.natCast_mul, Int.ediv_ediv, if_neg (by omega), Int.sub_zero]

theorem mod_step (n : Int) (a : Nat) (ha : 0 < a) : (n % ((a * 10 : Nat) : Int) = 0) ↔ (n % (a : Int) = 0 ∧ n / (a : Int) % 10 = 0) := by
  have h1 := Int.mul_ediv_add_emod n (a : Int)
  have h2 := Int.mul_ediv_add_emod (n / (a : Int)) 10
  have h3 := Int.emod_nonneg n (show (a : Int) ≠ 0 by omega)
  have h4 := Int.emod_lt_of_pos n (show (0 : Int) < a by omega)
  rw [← Int.dvd_iff_emod_eq_zero, ← Int.dvd_iff_emod_eq_zero, ← Int.dvd_iff_emod_eq_zero, Int.natCast_mul]
  constructor
  · rintro ⟨k, hk⟩
    refine ⟨⟨10 * k, by rw [hk, Int.mul_assoc]; rfl⟩, ⟨k, ?_⟩⟩
    rw [hk, Int.mul_assoc, Int.mul_ediv_cancel_left _ (by omega)]; rfl
  · rintro ⟨⟨k, hk⟩, ⟨m, hm⟩⟩
    rw [hk, Int.mul_ediv_cancel_left _ (by omega)] at hm
    exact ⟨m, by rw [hk, hm, Int.mul_assoc]; rfl⟩
def atV (n s t : Int) : Value :=
  if 0 ≤ t ∧ t ≤ 6 then
    (if SndD n s then
      (if s ≤ t then .tuple #[.int .i64 (n * P10 (t - s).toNat), .bool true, .int .i64 0]
       else .tuple #[.int .i64 (n / (P10 (s - t).toNat : Int)), .bool (n % (P10 (s - t).toNat : Int) == 0), .int .i64 0])
     else .tuple #[.int .i64 0, .bool false, .int .i64 2])
  else .tuple #[.int .i64 0, .bool false, .int .i64 1]
theorem mul_bd6 {n : Int} {p : Nat} (h : small n) (hp : p ≤ 1000000) : -1000000000000000000 ≤ n * (p : Int) ∧ n * (p : Int) ≤ 1000000000000000000 := by
  have a1 := Int.mul_le_mul_of_nonneg_right h.1 (show (0 : Int) ≤ p by omega)
  have a2 := Int.mul_le_mul_of_nonneg_right h.2 (show (0 : Int) ≤ p by omega)
  constructor <;> omega
set_option maxRecDepth 100000 in
set_option maxHeartbeats 4000000 in
theorem at_any (n s t : Int) (w : World) : Calls Tryd.prog 23 #[decA n s, .int .i64 t] w fun e w' => e = .returned (atV n s t) ∧ Bel w w' := by
  by_cases h : 0 ≤ t ∧ t ≤ 6
  · rw [show atV n s t = _ from if_pos h]
    obtain ⟨h0, h6⟩ := h
    have k1 : ¬ t < 0 := by omega
    have k2 : ¬ 6 < t := by omega
    by_cases hsn : SndD n s
    · rw [if_pos hsn]
      have hs := Lib.hid (sndB_t hsn)
      obtain ⟨s0, s6, hsm, -⟩ := hsn
      by_cases hle : s ≤ t
      · rw [if_pos hle]
        have hp := P10_6 (show (t - s).toNat ≤ 6 by omega)
        have cp := fun w => power_z (t - s) (by omega) (by omega) w
        have hbd := mul_bd6 hsm hp
        obtain ⟨p, hpp⟩ : ∃ p, p = P10 (t - s).toNat := ⟨_, rfl⟩
        rw [← hpp] at cp hp hbd ⊢
        have CP := Lib.hid cp
        have w1 : IntKind.i64.wrap (t - s) = t - s := by rw [IntKind.wrap_i64]; omega
        have w2 : IntKind.i64.wrap (n * (p : Int)) = n * (p : Int) := by rw [IntKind.wrap_i64]; omega
        clear cp hpp hsm hbd hp
        go_enter Tryd.func23, Tryd.ntmps23
        go_wp2_with fail
        refine under_call (((Bel.refl w).alloc _).alloc _) fun W hc hf hz hb => ?_
        have hA : Arr2 W w.heap.size n s := by simp [Arr2, hz, hc, hf, go_sem]
        have hD : DecsAt W (w.heap.size + 1) [(n, s)] := decs1 (by simp [hz]) (by simp [hc, go_sem]) (by simp [hc, go_sem])
        clear hc hf hz
        go_wp2_with (go_at_call 31; refine (allSound_1 _ _ _ _ hD).mono ?_; rintro e W1 ⟨rfl, hb1⟩; rw [hs.out]
                     replace hA := hA.keep hb1; replace hb := hb.trans hb1; clear hb1 hD)
        replace hA := hA.keep (Bel.refl W1).drew; replace hb := hb.drew
        go_region_held3 (fun w' => Arr2 w' w.heap.size n s) (first | with_reducible exact hA | (simp (maxDischargeDepth := 20) [Arr2, go_sem, hA]; first | done | omega))
          (first
            | (go_at_call 37; refine (CP.out _).mono ?_; rintro e W2 ⟨rfl, hb1⟩; replace hA := hA.keep hb1; replace hb := hb.trans hb1; clear hb1))
        all_goals
          go_wp2
          go_ret3
          exact ⟨rfl, hb⟩
      · rw [if_neg hle]
        have hp := P10_6 (show (s - t).toNat ≤ 6 by omega)
        have hp0 := P10_pos (s - t).toNat
        have cp := fun w => power_z (s - t) (by omega) (by omega) w
        obtain ⟨p, hpp⟩ : ∃ p, p = P10 (s - t).toNat := ⟨_, rfl⟩
        rw [← hpp] at cp hp hp0 ⊢
        have CP := Lib.hid cp
        obtain ⟨f1, f2, f3⟩ := tdiv_floor n p (by omega)
        have f4 : (n.tmod p == 0) = (n % (p : Int) == 0) := by rw [Bool.eq_iff_iff, beq_iff_eq, beq_iff_eq]; exact f3
        have b1 := hsm.1
        have b2 := hsm.2
        have i1 : (1 : Int) ≤ p := by omega
        have i2 : ¬ (p : Int) = 0 := by omega
        have k3 : ¬ s ≤ t := hle
        have qa := Int.natAbs_tdiv_le_natAbs n p
        have q1 : -999999999999 ≤ n.tdiv p := by omega
        have q2 : n.tdiv p ≤ 999999999999 := by omega
        clear qa
        have F1 := Lib.hid f1
        have F2 := Lib.hid f2
        have F4 := Lib.hid f4
        clear cp hpp hsm f1 f2 f3 f4 hp hp0 hle
        by_cases hr : n.tmod p < 0
        · have q0 := Lib.hid (F1.out hr)
          go_enter Tryd.func23, Tryd.ntmps23
          go_wp2_with fail
          refine under_call (((Bel.refl w).alloc _).alloc _) fun W hc hf hz hb => ?_
          have hA : Arr2 W w.heap.size n s := by simp [Arr2, hz, hc, hf, go_sem]
          have hD : DecsAt W (w.heap.size + 1) [(n, s)] := decs1 (by simp [hz]) (by simp [hc, go_sem]) (by simp [hc, go_sem])
          clear hc hf hz
          go_wp2_with (first
            | (go_at_call 31; refine (allSound_1 _ _ _ _ hD).mono ?_; rintro e W1 ⟨rfl, hb1⟩; rw [hs.out]; replace hA := hA.keep hb1; replace hb := hb.trans hb1; clear hb1 hD)
            | (go_at_call 37; refine (CP.out _).mono ?_; rintro e W2 ⟨rfl, hb1⟩; replace hA := hA.keep hb1; replace hb := hb.trans hb1; clear hb1))
          go_ret3
          exact ⟨by rw [← q0.out, ← F4.out]; rfl, hb⟩
        · have hr' : 0 ≤ n.tmod p := by omega
          have q0 := Lib.hid (F2.out hr')
          go_enter Tryd.func23, Tryd.ntmps23
          go_wp2_with fail
          refine under_call (((Bel.refl w).alloc _).alloc _) fun W hc hf hz hb => ?_
          have hA : Arr2 W w.heap.size n s := by simp [Arr2, hz, hc, hf, go_sem]
          have hD : DecsAt W (w.heap.size + 1) [(n, s)] := decs1 (by simp [hz]) (by simp [hc, go_sem]) (by simp [hc, go_sem])
          clear hc hf hz
          go_wp2_with (first
            | (go_at_call 31; refine (allSound_1 _ _ _ _ hD).mono ?_; rintro e W1 ⟨rfl, hb1⟩; rw [hs.out]; replace hA := hA.keep hb1; replace hb := hb.trans hb1; clear hb1 hD)
            | (go_at_call 37; refine (CP.out _).mono ?_; rintro e W2 ⟨rfl, hb1⟩; replace hA := hA.keep hb1; replace hb := hb.trans hb1; clear hb1))
          go_ret3
          exact ⟨by rw [← q0.out, ← F4.out]; rfl, hb⟩
    · rw [if_neg hsn]
      have hs := Lib.hid (sndB_f hsn)
      clear hsn
      go_enter Tryd.func23, Tryd.ntmps23
      go_wp2_with fail
      refine under_call (((Bel.refl w).alloc _).alloc _) fun W hc hf hz hb => ?_
      have hD : DecsAt W (w.heap.size + 1) [(n, s)] := decs1 (by simp [hz]) (by simp [hc, go_sem]) (by simp [hc, go_sem])
      clear hc hf hz
      go_wp2_with (go_at_call 31; refine (allSound_1 _ _ _ _ hD).mono ?_; rintro e W1 ⟨rfl, hb1⟩; rw [hs.out]
                   replace hb := hb.trans hb1; clear hb1 hD)
      go_ret3
      exact ⟨rfl, hb⟩
  · rw [show atV n s t = _ from if_neg h]
    by_cases h0 : 0 ≤ t
    · have k1 : ¬ t < 0 := by omega
      have k2 : 6 < t := by omega
      clear h h0
      go_enter Tryd.func23, Tryd.ntmps23
      go_wp2
      go_ret3
      exact ⟨rfl, (Bel.refl w).alloc _⟩
    · have k1 : t < 0 := by omega
      clear h h0
      go_enter Tryd.func23, Tryd.ntmps23
      go_wp2
      go_ret3
      exact ⟨rfl, (Bel.refl w).alloc _⟩
theorem atV_sh (n s t : Int) : ∃ a b e, atV n s t = .tuple #[.int .i64 a, .bool b, .int .i64 e] := by
  unfold atV
  split
  · split
    · split
      · exact ⟨_, _, _, rfl⟩
      · exact ⟨_, _, _, rfl⟩
    · exact ⟨_, _, _, rfl⟩
  · exact ⟨_, _, _, rfl⟩
set_option maxRecDepth 100000 in
set_option maxHeartbeats 4000000 in
theorem rat_raw (n s t : Int) (h0 : 0 ≤ t) (h6 : t ≤ 6) (hsn : SndD n s) (w : World) : Calls Tryd.prog 24 #[decA n s, .int .i64 t] w fun e w' => e = .returned (atV n s t) ∧ Bel w w' := by
  have hv : Hid (atV n s t = (if s ≤ t then .tuple #[.int .i64 (n * P10 (t - s).toNat), .bool true, .int .i64 0]
       else .tuple #[.int .i64 (n / (P10 (s - t).toNat : Int)), .bool (n % (P10 (s - t).toNat : Int) == 0), .int .i64 0])) := by
    rw [Hid, show atV n s t = _ from if_pos ⟨h0, h6⟩, if_pos hsn]
  have hs := Lib.hid (sndB_t hsn)
  have HN := Lib.hid hsn.2.2.1
  obtain ⟨s0, s6, -, -⟩ := hsn
  have k1 : ¬ t < 0 := by omega
  have k2 : ¬ 6 < t := by omega
  have HB := Lib.hid (And.intro (And.intro h0 h6) (And.intro s0 s6))
  go_enter Tryd.func24, Tryd.ntmps24
  go_wp2_with fail
  refine under_call ((Bel.refl w).alloc _) fun W hc hf hz hb => ?_
  have hA : Arr2 W w.heap.size n s := by simp [Arr2, hz, hc, hf, go_sem]
  clear hc hf hz
  go_wp2_with (go_at_call 14; refine (rsound_any n s _).mono ?_; rintro e W1 ⟨rfl, hb1⟩; rw [hs.out]; replace hA := hA.keep hb1; replace hb := hb.trans hb1; clear hb1)
  obtain ⟨⟨t0, t6⟩, ⟨s00, s66⟩⟩ := HB.out
  clear t0 t6 s00 s66
  by_cases hle : s ≤ t
  · have hv2 : Hid (atV n s t = .tuple #[.int .i64 (n * P10 (t - s).toNat), .bool true, .int .i64 0]) := by rw [Hid, hv.out, if_pos hle]
    go_loopg [7, 8] (t - s).toNat (fun g v k wr => ∃ j : Nat, v = .int .i64 (n * P10 j) ∧ k = .int .i64 (s + j) ∧ Hid (g = (t - s).toNat - j ∧ j ≤ (t - s).toNat) ∧ Arr2 wr w.heap.size n s ∧ Bel w wr)
    case atStart => exact ⟨0, by rw [P10_0]; simp, by simp, ⟨rfl, Nat.zero_le _⟩, hA, hb⟩
    case round =>
      clear hA hb
      obtain ⟨j, rfl, rfl, hh, hA, hb⟩ := hrel
      have hj6 : j ≤ 6 := by have := hh.out.2; omega
      have bd := mul_bd6 HN.out (P10_6 hj6)
      obtain ⟨bd1, bd2⟩ := bd
      have jb : (j : Int) ≤ 6 := by omega
      by_cases hlt : s + (j : Int) < t
      · have hj7 : j + 1 ≤ 6 := by omega
        have bd' := mul_bd6 HN.out (P10_6 hj7)
        have hs' : n * (P10 (j + 1) : Int) = n * (P10 j : Int) * 10 := by rw [P10_s, Int.natCast_mul, ← Int.mul_assoc]; rfl
        have HS := Lib.hid hs'
        rw [hs'] at bd'
        obtain ⟨z, hz⟩ : ∃ z, z = n * (P10 j : Int) := ⟨_, rfl⟩
        have HZ := Lib.hid hz
        rw [← hz] at bd' bd1 bd2 ⊢
        obtain ⟨e1, e2⟩ := bd'
        clear hs' hz
        go_wp2
        go_roundg (gk - 1)
        case measure => have := hh.out; omega
        case rel => exact ⟨j + 1, by rw [HS.out, ← HZ.out], by go_num, ⟨by have := hh.out; omega, by omega⟩, hA, hb⟩
      · have hj : j = (t - s).toNat := by have := hh.out.2; omega
        have HJ := Lib.hid hj
        obtain ⟨z, hz⟩ : ∃ z, z = n * (P10 j : Int) := ⟨_, rfl⟩
        have HZ := Lib.hid hz
        rw [← hz] at bd1 bd2 ⊢
        clear hj hz
        go_wp2_with fail
        refine wp_loop_rounds 1 ?_
        rw [rounds_succ]
        go_wp2
        go_ret3
        exact ⟨by rw [hv2.out, ← HJ.out, ← HZ.out]; rfl, hb⟩
  · have hv2 : Hid (atV n s t = .tuple #[.int .i64 (n / (P10 (s - t).toNat : Int)), .bool (n % (P10 (s - t).toNat : Int) == 0), .int .i64 0]) := by rw [Hid, hv.out, if_neg hle]
    have hlt0 : ¬ s < t := by omega
    refine wp_loop_rounds 1 ?_
    rw [rounds_succ]
    go_wp2_with fail
    go_loopg [7, 9, 10] (s - t).toNat (fun g v x k wr => ∃ (j : Nat) (z : Int) (b : Bool), v = .int .i64 z ∧ x = .bool b ∧ k = .int .i64 (t + j) ∧ Hid (z = n / (P10 j : Int) ∧ b = (n % (P10 j : Int) == 0) ∧ g = (s - t).toNat - j ∧ j ≤ (s - t).toNat) ∧ Arr2 wr w.heap.size n s ∧ Bel w wr)
    case atStart => exact ⟨0, n, true, rfl, rfl, by simp, ⟨by rw [P10_0]; simp, by rw [P10_0]; simp [Int.emod_one], rfl, Nat.zero_le _⟩, hA, hb⟩
    case round =>
      clear hA hb
      obtain ⟨j, z, b, rfl, rfl, rfl, hh, hA, hb⟩ := hrel
      have hj6 : j ≤ 6 := by have := hh.out.2.2.2; omega
      have jb : (j : Int) ≤ 6 := by omega
      have hzb : -999999999999 ≤ z ∧ z ≤ 999999999999 := by
        rw [hh.out.1]
        have h1 := HN.out.1
        have h2 := HN.out.2
        have hp := P10_pos j
        constructor
        · rw [Int.le_ediv_iff_mul_le (by omega)]
          have := Int.mul_le_mul_of_nonneg_left (show (1 : Int) ≤ P10 j by omega) (show (0 : Int) ≤ 999999999999 by omega)
          omega
        · exact Int.le_trans (Int.ediv_le_ediv (by omega) h2) (Int.ediv_le_self _ (by omega))
      obtain ⟨z1, z2⟩ := hzb
      by_cases hlt : t + (j : Int) < s
      · obtain ⟨f1, f2, f3⟩ := tdiv_floor z 10 (by omega)
        have hnext : z / 10 = n / (P10 (j + 1) : Int) := by
          rw [hh.out.1, P10_s]; exact floor_floor n (P10 j) 10
        have hmod := mod_step n (P10 j) (P10_pos j)
        rw [← hh.out.1, ← P10_s] at hmod
        have qa := Int.natAbs_tdiv_le_natAbs z 10
        have q1 : -999999999999 ≤ z.tdiv 10 := by omega
        have q2 : z.tdiv 10 ≤ 999999999999 := by omega
        clear qa
        rcases Int.lt_trichotomy (z.tmod 10) 0 with hr | hr | hr
        · have r1 : (z.tmod 10 != 0) = true := by simp; omega
          have G := Lib.hid (show z.tdiv 10 - 1 = n / (P10 (j + 1) : Int) ∧ false = (n % (P10 (j + 1) : Int) == 0) from ⟨(f1 hr).trans hnext, by
            symm; rw [beq_eq_false_iff_ne]; intro h; have := (hmod.1 h).2; have := f3.2 this; omega⟩)
          clear f1 f2 f3 hnext hmod
          go_wp2
          go_roundg (gk - 1)
          case measure => have := hh.out.2.2; omega
          case rel => exact ⟨j + 1, z.tdiv 10 - 1, false, rfl, rfl, by go_num, ⟨G.out.1, G.out.2, by have := hh.out.2.2; omega, by omega⟩, hA, hb⟩
        · have r1 : (z.tmod 10 != 0) = false := by simp [hr]
          have G := Lib.hid (show z.tdiv 10 = n / (P10 (j + 1) : Int) ∧ b = (n % (P10 (j + 1) : Int) == 0) from ⟨(f2 (by omega)).trans hnext, by
            rw [hh.out.2.1, Bool.eq_iff_iff, beq_iff_eq, beq_iff_eq, hmod]
            exact ⟨fun h => ⟨h, f3.1 hr⟩, fun h => h.1⟩⟩)
          clear f1 f2 f3 hnext hmod hr
          go_wp2
          go_roundg (gk - 1)
          case measure => have := hh.out.2.2; omega
          case rel => exact ⟨j + 1, z.tdiv 10, b, rfl, rfl, by go_num, ⟨G.out.1, G.out.2, by have := hh.out.2.2; omega, by omega⟩, hA, hb⟩
        · have r1 : (z.tmod 10 != 0) = true := by simp; omega
          have G := Lib.hid (show z.tdiv 10 = n / (P10 (j + 1) : Int) ∧ false = (n % (P10 (j + 1) : Int) == 0) from ⟨(f2 (by omega)).trans hnext, by
            symm; rw [beq_eq_false_iff_ne]; intro h; have := (hmod.1 h).2; have := f3.2 this; omega⟩)
          clear f1 f2 f3 hnext hmod
          go_wp2
          go_roundg (gk - 1)
          case measure => have := hh.out.2.2; omega
          case rel => exact ⟨j + 1, z.tdiv 10, false, rfl, rfl, by go_num, ⟨G.out.1, G.out.2, by have := hh.out.2.2; omega, by omega⟩, hA, hb⟩
      · have hj : j = (s - t).toNat := by have := hh.out.2.2.2; omega
        have HF := Lib.hid (show z = n / (P10 (s - t).toNat : Int) ∧ b = (n % (P10 (s - t).toNat : Int) == 0) by rw [← hj]; exact ⟨hh.out.1, hh.out.2.1⟩)
        clear hj
        go_wp2
        go_ret3
        exact ⟨by rw [hv2.out, ← HF.out.1, ← HF.out.2]; rfl, hb⟩
theorem rat_any (n s t : Int) (w : World) : Calls Tryd.prog 24 #[decA n s, .int .i64 t] w fun e w' => e = .returned (atV n s t) ∧ Bel w w' := by
  by_cases h : 0 ≤ t ∧ t ≤ 6
  · by_cases hsn : SndD n s
    · exact rat_raw n s t h.1 h.2 hsn w
    · rw [show atV n s t = _ from if_pos h, if_neg hsn]
      have hs := Lib.hid (sndB_f hsn)
      have k1 : ¬ t < 0 := by omega
      have k2 : ¬ 6 < t := by omega
      clear hsn h
      go_enter Tryd.func24, Tryd.ntmps24
      go_wp2_with (go_at_call 14; refine (rsound_any n s _).mono ?_; rintro e W1 ⟨rfl, hb1⟩; rw [hs.out]; replace hb1 := ((Bel.refl w).alloc _).trans hb1)
      go_ret3
      exact ⟨rfl, hb1⟩
  · rw [show atV n s t = _ from if_neg h]
    by_cases h0 : 0 ≤ t
    · have k1 : ¬ t < 0 := by omega
      have k2 : 6 < t := by omega
      clear h h0
      go_enter Tryd.func24, Tryd.ntmps24
      go_wp2
      go_ret3
      exact ⟨rfl, (Bel.refl w).alloc _⟩
    · have k1 : t < 0 := by omega
      clear h h0
      go_enter Tryd.func24, Tryd.ntmps24
      go_wp2
      go_ret3
      exact ⟨rfl, (Bel.refl w).alloc _⟩
set_option maxHeartbeats 1000000 in
/-- Any number in units of any scale. -/
theorem law_Units (n s t : Int) (w : World) (ht : Tab w) : Calls Tryd.prog 7 #[decA n s, .int .i64 t] w fun e w' => e = .returned (.bool true) ∧ Bel w w' := by
  have c1 := fun w => at_any n s t w
  have c2 := fun w => rat_any n s t w
  obtain ⟨a, b, e, hm⟩ := atV_sh n s t
  rw [hm] at c1 c2
  have C1 := Lib.hid c1
  have C2 := Lib.hid c2
  clear c1 c2 hm
  go_enter Tryd.func7, Tryd.ntmps7
  go_wp2_with fail
  refine under_call ((Bel.refl w).alloc _) fun W hc hf hz hb => ?_
  have hA : Arr2 W w.heap.size n s := by simp [Arr2, hz, hc, hf, go_sem]
  clear hc hf hz
  go_wp2_with (first
    | (go_at_call 23; refine (C1.out _).mono ?_; rintro e w1 ⟨rfl, hb1⟩; replace hA := hA.keep hb1; replace hb := hb.trans hb1; clear hb1)
    | (go_at_call 24; refine (C2.out _).mono ?_; rintro e w1 ⟨rfl, hb1⟩; replace hA := hA.keep hb1; replace hb := hb.trans hb1; clear hb1)
    | (go_at_call 12; refine (awake_any _ (ht.keep hb)).mono ?_; rintro e w1 ⟨rfl, hb1⟩; replace hb := hb.trans hb1; clear hb1))
  go_ret
  exact ⟨rfl, hb⟩
end Go.Proofs.YtcknjhgolajclaaDoor
