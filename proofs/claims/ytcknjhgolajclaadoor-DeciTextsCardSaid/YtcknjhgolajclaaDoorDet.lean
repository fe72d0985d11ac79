import Derived.Test.YtcknjhgolajclaaDoorDel
namespace Go.Proofs.YtcknjhgolajclaaDoor
set_option linter.unusedSimpArgs false
set_option linter.unusedVariables false
open Go.RowKit

/-! Deci: the document's numbers in their shortest form. -/
theorem rmake_loop (x : Nat) (c : Int) (hc : c = 1 ∨ c = -1) (s : Nat) (hx : x ≤ 999999999999) (hs : s ≤ 6) (w : World) :
    Calls Tryd.prog 11 #[.int .i64 (c * x), .int .i64 s] w fun e w' => e = .returned (.tuple #[decA (c * (trim x s).1) ((trim x s).2 : Nat), .int .i64 0]) ∧ Bel w w' := by
  have k1 : -999999999999 ≤ c * (x : Int) ∧ c * (x : Int) ≤ 999999999999 := by rcases hc with rfl | rfl <;> omega
  obtain ⟨k1, k2⟩ := k1
  have k3 : (s : Int) ≤ 6 := by omega
  have Hx := Lib.hid hx
  clear hx hs
  go_enter Tryd.func11, Tryd.ntmps11
  go_wp2_with fail
  go_loopg [0, 1] s (fun g n t wr => ∃ m' s' : Nat, n = .int .i64 (c * m') ∧ t = .int .i64 s' ∧ Hid (trim x s = trim m' s' ∧ m' ≤ x ∧ g = s') ∧ (s' : Int) ≤ 6 ∧ Sl2 wr w.heap.size 0 0 ∧ Bel w wr)
  case atStart => exact ⟨x, s, rfl, rfl, ⟨rfl, Nat.le_refl _, rfl⟩, k3, by simp [Sl2, Arr2, Fr2, go_sem], (Bel.refl w).alloc _⟩
  case round =>
    clear k1 k2 k3
    obtain ⟨m', s', rfl, rfl, hh, hs', hR, hb⟩ := hrel
    have hm : m' ≤ 999999999999 := Nat.le_trans hh.out.2.1 Hx.out
    have b1 : -999999999999 ≤ c * (m' : Int) := by rcases hc with rfl | rfl <;> omega
    have b2 : c * (m' : Int) ≤ 999999999999 := by rcases hc with rfl | rfl <;> omega
    have e1 : (c * (m' : Int)).tmod 10 = c * ((m' % 10 : Nat) : Int) := by
      rcases hc with rfl | rfl
      · rw [Int.one_mul, Int.one_mul]; rfl
      · rw [Int.neg_one_mul, Int.neg_tmod, Int.neg_one_mul]; rfl
    have e2 : (c * (m' : Int)).tdiv 10 = c * ((m' / 10 : Nat) : Int) := by
      rcases hc with rfl | rfl
      · rw [Int.one_mul, Int.one_mul]; rfl
      · rw [Int.neg_one_mul, Int.neg_tdiv, Int.neg_one_mul]; rfl
    have hc0 : c ≠ 0 := by rcases hc with rfl | rfl <;> decide
    by_cases h0 : (0 : Int) < s'
    · obtain ⟨j, hj⟩ : ∃ j, s' = j + 1 := ⟨s' - 1, by omega⟩
      by_cases hz : m' % 10 = 0
      · have e3 : ((c * (m' : Int)).tmod 10 == 0) = true := by rw [e1, hz]; simp
        have e4 : (c * (m' : Int)).tmod 10 = 0 := by rw [e1, hz]; simp
        have hnext : Hid (trim x s = trim (m' / 10) j ∧ m' / 10 ≤ x) := ⟨by rw [hh.out.1, hj, trim_step _ _ hz], Nat.le_trans (Nat.div_le_self _ _) hh.out.2.1⟩
        have E2 := Lib.hid e2
        have HJ := Lib.hid hj
        generalize c * (m' : Int) = z at *
        clear e1 e2 hz hj hm hc0
        go_wp2
        go_roundg j
        case measure => have := hh.out.2.2; have := HJ.out; omega
        case rel => exact ⟨m' / 10, j, by rw [← E2.out], by have := HJ.out; go_num, ⟨hnext.out.1, hnext.out.2, rfl⟩, by have := HJ.out; omega, hR, hb⟩
      · have e3 : ((c * (m' : Int)).tmod 10 == 0) = false := by
          rw [e1, beq_eq_false_iff_ne]
          intro h
          rcases Int.mul_eq_zero.1 h with h | h
          · exact hc0 h
          · omega
        have e4 : ¬ (c * (m' : Int)).tmod 10 = 0 := by simpa using e3
        have hfin : Hid (trim x s = (m', s')) := by rw [Hid, hh.out.1, trim_stop _ _ hz]
        have HZ := Lib.hid (show c * (m' : Int) = c * m' from rfl)
        clear e1 e2 hz hj hm hc0
        go_wp2
        refine bodyPost_ret (by simp [results, Tryd.results11, go_sem, hR]; try rfl) rfl ⟨by (rw [hfin.out]) <;> rfl, ?_⟩
        (repeat (first | with_reducible exact Bel.refl _ | with_reducible refine Bel.setCell ?_ (by first | exact Nat.le_refl _ | (dsimp only; omega)) _ | with_reducible refine Bel.alloc ?_ _ | with_reducible refine Bel.drew ?_ | with_reducible assumption | with_reducible refine Bel.trans ?_ (by assumption)))
    · have hfin : Hid (trim x s = (m', s')) := by
        obtain rfl : s' = 0 := by omega
        rw [Hid, hh.out.1]; rfl
      clear e1 e2 hm hc0
      go_wp2
      refine bodyPost_ret (by simp [results, Tryd.results11, go_sem, hR]; try rfl) rfl ⟨by (rw [hfin.out]) <;> rfl, ?_⟩
      (repeat (first | with_reducible exact Bel.refl _ | with_reducible refine Bel.setCell ?_ (by first | exact Nat.le_refl _ | (dsimp only; omega)) _ | with_reducible refine Bel.alloc ?_ _ | with_reducible refine Bel.drew ?_ | with_reducible assumption | with_reducible refine Bel.trans ?_ (by assumption)))
theorem decV_ok (x : Bool) (m s : Nat) (h : m ≤ 999999999999) : decV x m s = .tuple #[decA (if x = true then -((trim m s).1 : Int) else (trim m s).1) ((trim m s).2 : Nat), .int .i64 0] := by
  have := (trim_le s m).1
  unfold decV
  rw [if_neg (by omega)]
theorem rmake_any (n s : Int) (w : World) : Calls Tryd.prog 11 #[.int .i64 n, .int .i64 s] w fun e w' => e = .returned (makeV n s) ∧ Bel w w' := by
  by_cases h : 0 ≤ s ∧ s ≤ 6 ∧ small n
  · rw [show makeV n s = _ from if_pos h]
    obtain ⟨h0, h6, h3, h4⟩ := h
    obtain ⟨k, rfl⟩ : ∃ k : Nat, s = k := ⟨s.toNat, by omega⟩
    rw [decV_ok _ _ _ (by omega), show ((k : Int)).toNat = k by omega]
    by_cases hn : n < 0
    · have := rmake_loop n.natAbs (-1) (.inr rfl) k (by omega) (by omega) w
      rw [show (-1 : Int) * (n.natAbs : Int) = n by omega] at this
      rw [show decide (n < 0) = true by simpa using hn, if_pos rfl]
      rw [Int.neg_one_mul] at this
      exact this
    · have := rmake_loop n.natAbs 1 (.inl rfl) k (by omega) (by omega) w
      rw [show (1 : Int) * (n.natAbs : Int) = n by omega] at this
      rw [show decide (n < 0) = false by simpa using hn, if_neg (by decide)]
      rw [Int.one_mul] at this
      exact this
  · rw [show makeV n s = _ from if_neg h]
    by_cases h0 : 0 ≤ s
    · by_cases h6 : s ≤ 6
      · by_cases h3 : n ≤ 999999999999
        · have h4 : n < -999999999999 := by
            rcases Int.lt_or_le n (-999999999999) with h4 | h4
            · exact h4
            · exact absurd ⟨h0, h6, h4, h3⟩ h
          have k1 : ¬ s < 0 := by omega
          have k2 : ¬ 6 < s := by omega
          have k3 : ¬ 999999999999 < n := by omega
          clear h h3 h0 h6
          go_enter Tryd.func11, Tryd.ntmps11
          go_wp2
          refine bodyPost_ret (by simp [results, Tryd.results11, go_sem]; try rfl) rfl ⟨rfl, ?_⟩
          (repeat (first | with_reducible exact Bel.refl _ | with_reducible refine Bel.setCell ?_ (by first | exact Nat.le_refl _ | (dsimp only; omega)) _ | with_reducible refine Bel.alloc ?_ _ | with_reducible refine Bel.drew ?_ | with_reducible assumption | with_reducible refine Bel.trans ?_ (by assumption)))
        · have k1 : ¬ s < 0 := by omega
          have k2 : ¬ 6 < s := by omega
          have k3 : 999999999999 < n := by omega
          clear h h3 h0 h6
          go_enter Tryd.func11, Tryd.ntmps11
          go_wp2
          refine bodyPost_ret (by simp [results, Tryd.results11, go_sem]; try rfl) rfl ⟨rfl, ?_⟩
          (repeat (first | with_reducible exact Bel.refl _ | with_reducible refine Bel.setCell ?_ (by first | exact Nat.le_refl _ | (dsimp only; omega)) _ | with_reducible refine Bel.alloc ?_ _ | with_reducible refine Bel.drew ?_ | with_reducible assumption | with_reducible refine Bel.trans ?_ (by assumption)))
      · have k1 : ¬ s < 0 := by omega
        have k2 : 6 < s := by omega
        clear h h0 h6
        go_enter Tryd.func11, Tryd.ntmps11
        go_wp2
        refine bodyPost_ret (by simp [results, Tryd.results11, go_sem]; try rfl) rfl ⟨rfl, ?_⟩
        (repeat (first | with_reducible exact Bel.refl _ | with_reducible refine Bel.setCell ?_ (by first | exact Nat.le_refl _ | (dsimp only; omega)) _ | with_reducible refine Bel.alloc ?_ _ | with_reducible refine Bel.drew ?_ | with_reducible assumption | with_reducible refine Bel.trans ?_ (by assumption)))
    · have k1 : s < 0 := by omega
      clear h h0
      go_enter Tryd.func11, Tryd.ntmps11
      go_wp2
      refine bodyPost_ret (by simp [results, Tryd.results11, go_sem]; try rfl) rfl ⟨rfl, ?_⟩
      (repeat (first | with_reducible exact Bel.refl _ | with_reducible refine Bel.setCell ?_ (by first | exact Nat.le_refl _ | (dsimp only; omega)) _ | with_reducible refine Bel.alloc ?_ _ | with_reducible refine Bel.drew ?_ | with_reducible assumption | with_reducible refine Bel.trans ?_ (by assumption)))
theorem trim_fix (m s : Nat) : (trim m s).1 = m ∧ (trim m s).2 = s ↔ (s = 0 ∨ m % 10 ≠ 0) := by
  cases s with
  | zero => simp [trim]
  | succ k =>
    by_cases h : m % 10 = 0
    · rw [trim_step _ _ h]
      have := (trim_le k (m / 10)).2
      constructor
      · intro hh; omega
      · rintro (hh | hh)
        · omega
        · exact absurd h hh
    · rw [trim_stop _ _ h]; simp [h]
theorem makeV_snd (n s : Int) : (∃ a b, makeV n s = .tuple #[decA a b, .int .i64 0] ∧ (((a == n) && (b == s)) = sndB n s)) ∨ (makeV n s = errV 3 ∧ sndB n s = false) := by
  by_cases h : 0 ≤ s ∧ s ≤ 6 ∧ small n
  · left
    obtain ⟨h0, h6, h3⟩ := h
    have h34 := h3
    obtain ⟨h3a, h4⟩ := h34
    rw [show makeV n s = _ from if_pos ⟨h0, h6, h3⟩, decV_ok _ _ _ (by omega)]
    refine ⟨_, _, rfl, ?_⟩
    have ht := trim_fix n.natAbs s.toNat
    have hle := trim_le s.toNat n.natAbs
    generalize trim n.natAbs s.toNat = p at *
    have e0 : sndB n s = true ↔ SndD n s := by simp [sndB]
    rw [Bool.eq_iff_iff, Bool.and_eq_true, beq_iff_eq, beq_iff_eq, e0]
    have e1 : n % 10 ≠ 0 ↔ n.natAbs % 10 ≠ 0 := by omega
    unfold SndD
    rw [e1]
    by_cases hn : n < 0
    · have hd : decide (n < 0) = true := by simpa using hn
      simp only [hd, if_true]
      constructor
      · rintro ⟨ha, hb⟩
        have := ht.1 ⟨by omega, by omega⟩
        refine ⟨h0, h6, h3, ?_⟩
        omega
      · rintro ⟨-, -, -, hh⟩
        have := ht.2 (by omega)
        omega
    · have hd : decide (n < 0) = false := by simpa using hn
      simp only [hd, Bool.false_eq_true, if_false]
      constructor
      · rintro ⟨ha, hb⟩
        have := ht.1 ⟨by omega, by omega⟩
        refine ⟨h0, h6, h3, ?_⟩
        omega
      · rintro ⟨-, -, -, hh⟩
        have := ht.2 (by omega)
        omega
  · exact .inr ⟨if_neg h, sndB_f fun hh => h ⟨hh.1, hh.2.1, hh.2.2.1⟩⟩
theorem rsound_any (n s : Int) (w : World) : Calls Tryd.prog 14 #[decA n s] w fun e w' => e = .returned (.bool (sndB n s)) ∧ Bel w w' := by
  have c1 := fun w => rmake_any n s w
  rcases makeV_snd n s with ⟨a, b, hm, hs⟩ | ⟨hm, hs⟩
  · rw [hm] at c1
    have C1 := Lib.hid c1
    have HS := Lib.hid hs
    clear c1 hm hs
    go_enter Tryd.func14, Tryd.ntmps14
    go_wp2_with fail
    refine under_call ((Bel.refl w).alloc _) fun W hc hf hz hb => ?_
    have hA : Sl2 W w.heap.size n s := by simp [Sl2, Arr2, Fr2, hz, hc, hf, go_sem]
    clear hc hf hz
    by_cases h1 : a = n
    · subst h1
      go_wp2_with (go_at_call 11; refine (C1.out _).mono ?_; rintro e W1 ⟨rfl, hb1⟩; replace hA := hA.keep hb1; replace hb := hb.trans hb1; have hlt := hA.1.1; clear hb1)
      go_ret
      exact ⟨by rw [← HS.out]; simp, hb.alloc _⟩
    · have k1 : (a == n) = false := by simpa using h1
      have hv : Hid (sndB n s = false) := by rw [Hid, ← HS.out, k1]; rfl
      clear h1
      go_wp2_with (go_at_call 11; refine (C1.out _).mono ?_; rintro e W1 ⟨rfl, hb1⟩; replace hA := hA.keep hb1; replace hb := hb.trans hb1; have hlt := hA.1.1; clear hb1)
      go_ret
      exact ⟨by rw [hv.out]; rfl, hb.alloc _⟩
  · rw [hm] at c1
    rw [hs]
    have C1 := Lib.hid c1
    clear c1 hm hs
    go_enter Tryd.func14, Tryd.ntmps14
    go_wp2_with fail
    refine under_call ((Bel.refl w).alloc _) fun W hc hf hz hb => ?_
    have hA : Sl2 W w.heap.size n s := by simp [Sl2, Arr2, Fr2, hz, hc, hf, go_sem]
    clear hc hf hz
    go_wp2_with (go_at_call 11; refine (C1.out _).mono ?_; rintro e W1 ⟨rfl, hb1⟩; replace hA := hA.keep hb1; replace hb := hb.trans hb1; have hlt := hA.1.1; clear hb1)
    go_ret
    exact ⟨rfl, hb.alloc _⟩
theorem makeV_sh (n s : Int) : ∃ a b e, makeV n s = .tuple #[decA a b, .int .i64 e] := by
  unfold makeV
  split
  · exact decV_sh _ _ _
  · exact ⟨_, _, _, rfl⟩
end Go.Proofs.YtcknjhgolajclaaDoor
