import Derived.Test.YtcknjhgolajclaaDoorDem
import Derived.Test.YtcknjhgolajclaaDoorDej
namespace Go.Proofs.YtcknjhgolajclaaDoor
set_option linter.unusedSimpArgs false
set_option linter.unusedVariables false
open Go.RowKit

def mulV (n s m t : Int) : Value :=
  if SndD n s ∧ SndD m t then (if s + t ≤ 6 then decV (decide (n < 0) != decide (m < 0)) (n.natAbs * m.natAbs) (s + t).toNat
    else decV (decide (n < 0) != decide (m < 0)) (heven (n.natAbs * m.natAbs) (P10 (s + t - 6).toNat)) 6) else errV 2
theorem mul_bd {n s m t : Int} (h : SndD n s ∧ SndD m t) : n.natAbs * m.natAbs ≤ 999999999998000000000001 := by
  have h1 := h.1.2.2.1.1
  have h2 := h.1.2.2.1.2
  have h3 := h.2.2.2.1.1
  have h4 := h.2.2.2.1.2
  exact Nat.mul_le_mul (show n.natAbs ≤ 999999999999 by omega) (show m.natAbs ≤ 999999999999 by omega)
set_option maxRecDepth 100000 in
set_option maxHeartbeats 8000000 in
theorem mul_raw (n s m t : Int) (h : SndD n s ∧ SndD m t) (y : Bool) (hy : (decide (n < 0) != decide (m < 0)) = y) (M : Nat) (S : Nat)
    (hR : ∀ w, Calls Tryd.prog 33 #[wideM y (n.natAbs * m.natAbs) 0 1 (s + t)] w fun e w' => e = .returned (wideM y M 0 1 S) ∧ Bel w w') (hM : M < big128) (hS : S ≤ 100) (w : World) :
    Calls Tryd.prog 15 #[decA n s, decA m t] w fun e w' => e = .returned (decV y M S) ∧ Bel w w' := by
  have hs := Lib.hid (show (sndB n s && sndB m t) = true by rw [sndB_t h.1, sndB_t h.2]; rfl)
  have hp := mul_bd h
  obtain ⟨⟨h1, h2, h3, -⟩, ⟨h4, h5, h6, -⟩⟩ := h
  have c1 := fun w => wideOf_any n s (in64_small h3) w
  have c2 := fun w => times_any (decide (n < 0)) n.natAbs s m t (by have := h3.1; have := h3.2; omega) (in64_small h6) ⟨by omega, by omega⟩ ⟨by omega, by omega⟩ w
  rw [wide0 (by have := h3.1; have := h3.2; omega), hy] at c2
  have c3 := fun w => dec_any y M S hM hS w
  obtain ⟨a, b, e, hsh⟩ := decV_sh y M S
  rw [hsh] at c3 ⊢
  have C1 := Lib.hid c1
  have C2 := Lib.hid c2
  have C3 := Lib.hid c3
  have C4 := Lib.hid hR
  have hv : Hid True := trivial
  clear c1 c2 c3 hR h1 h2 h3 h4 h5 h6 hp hsh hM hS hy
  go_enter Tryd.func15, Tryd.ntmps15
  go_wp2_with fail
  refine under_call (((((Bel.refl w).alloc _).alloc _).alloc _).alloc _) fun W hc hf hz hb => ?_
  have hA : Sl2 W w.heap.size n s := by simp [Sl2, Arr2, Fr2, hz, hc, hf, go_sem]
  have hB : Sl2 W (w.heap.size + 1) m t := by simp [Sl2, Arr2, Fr2, hz, hc, hf, go_sem]
  have hR : Sl2 W (w.heap.size + 1 + 1) 0 0 := by simp [Sl2, Arr2, Fr2, hz, hc, hf, go_sem]
  have hD : DecsAt W (w.heap.size + 1 + 1 + 1) [(n, s), (m, t)] := decs2 (by simp [hz]) (by simp [hc, go_sem]) (by simp [hc, go_sem]) (by simp [hc, go_sem]) (by simp [hc, go_sem])
  clear hc hf hz
  go_wp2_with (go_at_call 31; refine (allSound_2 n s m t _ _ hD).mono ?_; rintro e W1 ⟨rfl, hb1⟩; rw [hs.out]
               replace hA := hA.keep hb1; replace hB := hB.keep hb1; replace hR := hR.keep hb1; replace hb := hb.trans hb1; clear hb1 hD)
  replace hA := hA.keep (Bel.refl W1).drew; replace hB := hB.keep (Bel.refl W1).drew; replace hR := hR.keep (Bel.refl W1).drew; replace hb := hb.drew
  go_region_held3 (fun w' => Arr2 w' w.heap.size n s ∧ Arr2 w' (w.heap.size + 1) m t) (first | exact ⟨hA.1, hB.1⟩ | (simp [Arr2, go_sem, hA, hB]; done) | go_keep)
    (first
      | (go_at_call 29; refine (C1.out _).mono ?_; rintro e W2 ⟨rfl, hb1⟩; replace hA := hA.keep hb1; replace hB := hB.keep hb1; replace hR := hR.keep hb1; replace hb := hb.trans hb1; clear hb1)
      | (go_at_call 32; refine (C2.out _).mono ?_; rintro e W3 ⟨rfl, hb1⟩; replace hA := hA.keep hb1; replace hB := hB.keep hb1; replace hR := hR.keep hb1; replace hb := hb.trans hb1; clear hb1)
      | (go_at_call 33; refine (C4.out _).mono ?_; rintro e W4 ⟨rfl, hb1⟩; replace hA := hA.keep hb1; replace hB := hB.keep hb1; replace hR := hR.keep hb1; replace hb := hb.trans hb1; clear hb1)
      | (go_at_call 30; refine (C3.out _).mono ?_; rintro e W5 ⟨rfl, hb1⟩; replace hA := hA.keep hb1; replace hB := hB.keep hb1; replace hR := hR.keep hb1; replace hb := hb.trans hb1; clear hb1))
  all_goals
    go_wp2
    refine bodyPost_ret (by simp [results, Tryd.results15, go_sem, hR]; try rfl) rfl ⟨rfl, ?_⟩
    (repeat (first | with_reducible exact Bel.refl _ | with_reducible refine Bel.setCell ?_ (by first | exact Nat.le_refl _ | (dsimp only; omega)) _ | with_reducible refine Bel.alloc ?_ _ | with_reducible refine Bel.drew ?_ | with_reducible assumption | with_reducible refine Bel.trans ?_ (by assumption)))
theorem mul_any (n s m t : Int) (w : World) : Calls Tryd.prog 15 #[decA n s, decA m t] w fun e w' => e = .returned (mulV n s m t) ∧ Bel w w' := by
  by_cases h : SndD n s ∧ SndD m t
  · have hp := mul_bd h
    have hm : n.natAbs * m.natAbs + 1 < big128 := by unfold big128; omega
    have h1 := h.1.1
    have h2 := h.1.2.1
    have h3 := h.2.1
    have h4 := h.2.2.1
    rw [show mulV n s m t = _ from if_pos h]
    by_cases h6 : s + t ≤ 6
    · rw [if_pos h6]
      refine mul_raw n s m t h _ rfl _ _ (fun w => ?_) (by omega) (by omega) w
      rw [show (((s + t).toNat : Nat) : Int) = s + t by omega]
      exact rounded_no _ _ _ h6 w
    · rw [if_neg h6]
      refine mul_raw n s m t h _ rfl _ 6 (fun w => ?_) ?_ (by omega) w
      · exact rounded_yes _ _ _ (by omega) (by omega) hm w
      · have := heven_le (n.natAbs * m.natAbs) (P10 (s + t - 6).toNat)
        have := Nat.div_le_self (n.natAbs * m.natAbs) (P10 (s + t - 6).toNat)
        omega
  · have hv : Hid (mulV n s m t = errV 2) := if_neg h
    have hs := Lib.hid (snd_and h)
    clear h
    go_enter Tryd.func15, Tryd.ntmps15
    go_wp2_with fail
    refine under_call (((((Bel.refl w).alloc _).alloc _).alloc _).alloc _) fun W hc hf hz hb => ?_
    have hR : Sl2 W (w.heap.size + 1 + 1) 0 0 := by simp [Sl2, Arr2, Fr2, hz, hc, hf, go_sem]
    have hD : DecsAt W (w.heap.size + 1 + 1 + 1) [(n, s), (m, t)] := decs2 (by simp [hz]) (by simp [hc, go_sem]) (by simp [hc, go_sem]) (by simp [hc, go_sem]) (by simp [hc, go_sem])
    clear hc hf hz
    go_wp2_with (go_at_call 31; refine (allSound_2 n s m t _ _ hD).mono ?_; rintro e W1 ⟨rfl, hb1⟩; rw [hs.out]
                 replace hR := hR.keep hb1; replace hb := hb.trans hb1; clear hb1 hD)
    refine bodyPost_ret (by simp [results, Tryd.results15, go_sem, hR]; try rfl) rfl ⟨by (rw [hv.out]) <;> rfl, ?_⟩
    (repeat (first | with_reducible exact Bel.refl _ | with_reducible refine Bel.setCell ?_ (by first | exact Nat.le_refl _ | (dsimp only; omega)) _ | with_reducible refine Bel.alloc ?_ _ | with_reducible refine Bel.drew ?_ | with_reducible assumption | with_reducible refine Bel.trans ?_ (by assumption)))
end Go.Proofs.YtcknjhgolajclaaDoor
