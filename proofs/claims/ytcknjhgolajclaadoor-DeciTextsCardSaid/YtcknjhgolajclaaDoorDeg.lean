import Derived.Test.YtcknjhgolajclaaDoorDef
namespace Go.Proofs.YtcknjhgolajclaaDoor
set_option linter.unusedSimpArgs false
set_option linter.unusedVariables false
open Go.RowKit

def big128 : Nat := 340282366920938463463374607431768211456
set_option maxHeartbeats 2000000 in
theorem trimmed_any (x : Bool) (m s : Nat) (hm : m < big128) (hs : s ≤ 100) (w : World) :
    Calls Tryd.prog 49 #[wideM x m 0 1 s] w fun e w' => e = .returned (wideM x (trim m s).1 0 1 ((trim m s).2 : Nat)) ∧ Bel w w' := by
  have hs' : (s : Int) ≤ 100 := by omega
  have Hm := Lib.hid hm
  clear hm hs
  go_enter Tryd.func49, Tryd.ntmps49
  go_wp2_with fail
  refine under_name (((Bel.refl w).alloc _).alloc _) fun W hc hf hz hb => ?_
  have hA : Sl6 W w.heap.size x (whi m) (wlo m) 0 1 s := by simp [Sl6, Ar6, Fr6, hz, hc, hf, go_sem]
  have hB : Sl6 W (w.heap.size + 1) false 0 0 0 0 0 := by simp [Sl6, Ar6, Fr6, hz, hc, hf, go_sem]
  clear hc hf hz
  go_loopg [] s (fun g wr => ∃ m' s' : Nat, Hid (trim m s = trim m' s' ∧ m' < big128 ∧ g = s') ∧ (s' : Int) ≤ 100 ∧ Sl6 wr w.heap.size x (whi m') (wlo m') 0 1 s' ∧ Sl6 wr (w.heap.size + 1) false 0 0 0 0 0 ∧ Bel w wr)
  case atStart => exact ⟨m, s, ⟨rfl, Hm.out, rfl⟩, hs', hA, hB, hb⟩
  case round =>
    clear hA hB hb hs'
    obtain ⟨m', s', hh, hs', hA, hB, hb⟩ := hrel
    by_cases h0 : (0 : Int) < s'
    · obtain ⟨j, hj⟩ : ∃ j, s' = j + 1 := ⟨s' - 1, by omega⟩
      have hd := fun w => divided_any x m' 0 1 10 s' hh.out.2.1 (by omega) (by omega) w
      by_cases hz : m' % 10 = 0
      · rw [hz] at hd
        have HD := Lib.hid hd
        have hnext : Hid (trim m s = trim (m' / 10) j ∧ m' / 10 < big128) := ⟨by rw [hh.out.1, hj, trim_step _ _ hz], Nat.lt_of_le_of_lt (Nat.div_le_self _ _) hh.out.2.1⟩
        have hz1 : (((0 : Nat) : Int) != 0) = false := rfl
        have HJ := Lib.hid hj
        clear hd hz hj
        go_wp2_with (go_at_call 51; refine (HD.out _).mono ?_; rintro e W1 ⟨rfl, hb1⟩
                     replace hA := hA.keep hb1; replace hB := hB.keep hb1; replace hb := hb.trans hb1; clear hb1)
        go_roundg j
        case measure => have := hh.out.2.2; have := HJ.out; omega
        case rel => 
          refine ⟨m' / 10, j, ⟨hnext.out.1, hnext.out.2, rfl⟩, by have := HJ.out; omega, ?_, by simp (maxDischargeDepth := 20) [Sl6, Ar6, Fr6, go_sem, hA, hB], by (repeat (first | with_reducible exact Bel.refl _ | with_reducible refine Bel.setCell ?_ (by first | exact Nat.le_refl _ | (dsimp only; omega)) _ | with_reducible refine Bel.alloc ?_ _ | with_reducible refine Bel.drew ?_ | with_reducible assumption | with_reducible refine Bel.trans ?_ (by assumption)))⟩
          have hj2 : (s' : Int) - 1 = j := by have := HJ.out; omega
          simp (maxDischargeDepth := 20) [Sl6, Ar6, Fr6, go_sem, hA, hj2]
      · have HD := Lib.hid hd
        have hfin : Hid (trim m s = (m', s')) := by rw [Hid, hh.out.1, trim_stop _ _ hz]
        have hz1 : (((m' % 10 : Nat) : Int) != 0) = true := by simp; omega
        have hz2 : decide (m' % 10 = 0) = false := by simpa using hz
        clear hd hz hj
        go_wp2_with (go_at_call 51; refine (HD.out _).mono ?_; rintro e W1 ⟨rfl, hb1⟩
                     replace hA := hA.keep hb1; replace hB := hB.keep hb1; replace hb := hb.trans hb1; clear hb1)
        refine bodyPost_ret (by simp [results, Tryd.results49, go_sem, hA, hB]; try rfl) rfl ⟨by (rw [hfin.out]) <;> rfl, ?_⟩
        (repeat (first | with_reducible exact Bel.refl _ | with_reducible refine Bel.setCell ?_ (by first | exact Nat.le_refl _ | (dsimp only; omega)) _ | with_reducible refine Bel.alloc ?_ _ | with_reducible refine Bel.drew ?_ | with_reducible assumption | with_reducible refine Bel.trans ?_ (by assumption)))
    · have hfin : Hid (trim m s = (m', s')) := by
        obtain rfl : s' = 0 := by omega
        rw [Hid, hh.out.1]; rfl
      go_wp2
      refine bodyPost_ret (by simp [results, Tryd.results49, go_sem, hA, hB]; try rfl) rfl ⟨by (rw [hfin.out]) <;> rfl, ?_⟩
      (repeat (first | with_reducible exact Bel.refl _ | with_reducible refine Bel.setCell ?_ (by first | exact Nat.le_refl _ | (dsimp only; omega)) _ | with_reducible refine Bel.alloc ?_ _ | with_reducible refine Bel.drew ?_ | with_reducible assumption | with_reducible refine Bel.trans ?_ (by assumption)))

/-- The number that a wide one is, or none. -/
def decV (x : Bool) (m s : Nat) : Value :=
  if 999999999999 < (trim m s).1 then .tuple #[.agg #[.int .i64 0, .int .i64 0], .int .i64 3]
  else .tuple #[.agg #[.int .i64 (if x = true then -((trim m s).1 : Int) else (trim m s).1), .int .i64 ((trim m s).2 : Nat)], .int .i64 0]
set_option maxHeartbeats 2000000 in
theorem dec_raw (x : Bool) (m s m' s' : Nat) (ht : trim m s = (m', s')) (hm : m < big128) (hs : s ≤ 100) (w : World) :
    Calls Tryd.prog 30 #[wideM x m 0 1 s] w fun e w' => e = .returned (decV x m s) ∧ Bel w w' := by
  have hl : Hid (decV x m s = if 999999999999 < m' then .tuple #[.agg #[.int .i64 0, .int .i64 0], .int .i64 3]
      else .tuple #[.agg #[.int .i64 (if x = true then -(m' : Int) else m'), .int .i64 (s' : Nat)], .int .i64 0]) := by rw [Hid, decV, ht]
  have hc := fun w => trimmed_any x m s hm hs w
  rw [ht] at hc
  have HC := Lib.hid hc
  clear hc
  have ha : ∀ W : World, Bel w W → Sl6 W w.heap.size x (whi m) (wlo m) 0 1 s → True := fun _ _ _ => trivial
  clear ha
  by_cases hbig : 999999999999 < m'
  · rw [hl.out, if_pos hbig]
    have hm' : m' < big128 := by have := (trim_le s m).1; rw [ht] at this; simp only at this; omega
    by_cases hh : 18446744073709551616 ≤ m'
    · have k1 : ((whi m' : Int) != 0) = true := by
        have : 0 < whi m' := Nat.div_pos hh (by omega)
        simp; omega
      have k2 : decide (whi m' = 0) = false := by
        have : 0 < whi m' := Nat.div_pos hh (by omega)
        simp; omega
      clear ht hm hs hbig hh hm'
      go_enter Tryd.func30, Tryd.ntmps30
      go_wp2_with fail
      refine under_call (((Bel.refl w).alloc _).alloc _) fun W hc hf hz hb => ?_
      have hA : Sl6 W w.heap.size x (whi m) (wlo m) 0 1 s := by simp [Sl6, Ar6, Fr6, hz, hc, hf, go_sem]
      have hB : Sl2 W (w.heap.size + 1) 0 0 := by simp [Sl2, Arr2, Fr2, hz, hc, hf, go_sem]
      clear hc hf hz
      go_wp2_with (go_at_call 49; refine (HC.out _).mono ?_; rintro e W1 ⟨rfl, hb1⟩
                   replace hA := hA.keep hb1; replace hB := hB.keep hb1; replace hb := hb.trans hb1; clear hb1)
      refine bodyPost_ret (by simp [results, Tryd.results30, go_sem, hA, hB]; try rfl) rfl ⟨rfl, ?_⟩
      (repeat (first | with_reducible exact Bel.refl _ | with_reducible refine Bel.setCell ?_ (by first | exact Nat.le_refl _ | (dsimp only; omega)) _ | with_reducible refine Bel.alloc ?_ _ | with_reducible refine Bel.drew ?_ | with_reducible assumption | with_reducible refine Bel.trans ?_ (by assumption)))
    · have k0 := whi_small (show m' < 18446744073709551616 by omega)
      have k1 := wlo_small (show m' < 18446744073709551616 by omega)
      have hbig' : (999999999999 : Int) < m' := by omega
      clear ht hm hs hbig hh hm'
      go_enter Tryd.func30, Tryd.ntmps30
      go_wp2_with fail
      refine under_call (((Bel.refl w).alloc _).alloc _) fun W hc hf hz hb => ?_
      have hA : Sl6 W w.heap.size x (whi m) (wlo m) 0 1 s := by simp [Sl6, Ar6, Fr6, hz, hc, hf, go_sem]
      have hB : Sl2 W (w.heap.size + 1) 0 0 := by simp [Sl2, Arr2, Fr2, hz, hc, hf, go_sem]
      clear hc hf hz
      go_wp2_with (go_at_call 49; refine (HC.out _).mono ?_; rintro e W1 ⟨rfl, hb1⟩
                   replace hA := hA.keep hb1; replace hB := hB.keep hb1; replace hb := hb.trans hb1; clear hb1)
      refine bodyPost_ret (by simp [results, Tryd.results30, go_sem, hA, hB]; try rfl) rfl ⟨rfl, ?_⟩
      (repeat (first | with_reducible exact Bel.refl _ | with_reducible refine Bel.setCell ?_ (by first | exact Nat.le_refl _ | (dsimp only; omega)) _ | with_reducible refine Bel.alloc ?_ _ | with_reducible refine Bel.drew ?_ | with_reducible assumption | with_reducible refine Bel.trans ?_ (by assumption)))
  · rw [hl.out, if_neg hbig]
    have k0 := whi_small (show m' < 18446744073709551616 by omega)
    have k1 := wlo_small (show m' < 18446744073709551616 by omega)
    have hbig' : (m' : Int) ≤ 999999999999 := by omega
    clear ht hm hs hbig
    cases x with
    | true =>
      go_enter Tryd.func30, Tryd.ntmps30
      go_wp2_with fail
      refine under_call (((Bel.refl w).alloc _).alloc _) fun W hc hf hz hb => ?_
      have hA : Sl6 W w.heap.size true (whi m) (wlo m) 0 1 s := by simp [Sl6, Ar6, Fr6, hz, hc, hf, go_sem]
      have hB : Sl2 W (w.heap.size + 1) 0 0 := by simp [Sl2, Arr2, Fr2, hz, hc, hf, go_sem]
      clear hc hf hz
      go_wp2_with (go_at_call 49; refine (HC.out _).mono ?_; rintro e W1 ⟨rfl, hb1⟩
                   replace hA := hA.keep hb1; replace hB := hB.keep hb1; replace hb := hb.trans hb1; clear hb1)
      refine bodyPost_ret (by simp [results, Tryd.results30, go_sem, hA, hB]; try rfl) rfl ⟨rfl, ?_⟩
      (repeat (first | with_reducible exact Bel.refl _ | with_reducible refine Bel.setCell ?_ (by first | exact Nat.le_refl _ | (dsimp only; omega)) _ | with_reducible refine Bel.alloc ?_ _ | with_reducible refine Bel.drew ?_ | with_reducible assumption | with_reducible refine Bel.trans ?_ (by assumption)))
    | false =>
      go_enter Tryd.func30, Tryd.ntmps30
      go_wp2_with fail
      refine under_call (((Bel.refl w).alloc _).alloc _) fun W hc hf hz hb => ?_
      have hA : Sl6 W w.heap.size false (whi m) (wlo m) 0 1 s := by simp [Sl6, Ar6, Fr6, hz, hc, hf, go_sem]
      have hB : Sl2 W (w.heap.size + 1) 0 0 := by simp [Sl2, Arr2, Fr2, hz, hc, hf, go_sem]
      clear hc hf hz
      go_wp2_with (go_at_call 49; refine (HC.out _).mono ?_; rintro e W1 ⟨rfl, hb1⟩
                   replace hA := hA.keep hb1; replace hB := hB.keep hb1; replace hb := hb.trans hb1; clear hb1)
      refine bodyPost_ret (by simp [results, Tryd.results30, go_sem, hA, hB]; try rfl) rfl ⟨rfl, ?_⟩
      (repeat (first | with_reducible exact Bel.refl _ | with_reducible refine Bel.setCell ?_ (by first | exact Nat.le_refl _ | (dsimp only; omega)) _ | with_reducible refine Bel.alloc ?_ _ | with_reducible refine Bel.drew ?_ | with_reducible assumption | with_reducible refine Bel.trans ?_ (by assumption)))
theorem dec_any (x : Bool) (m s : Nat) (hm : m < big128) (hs : s ≤ 100) (w : World) :
    Calls Tryd.prog 30 #[wideM x m 0 1 s] w fun e w' => e = .returned (decV x m s) ∧ Bel w w' :=
  dec_raw x m s _ _ rfl hm hs w
end Go.Proofs.YtcknjhgolajclaaDoor
