import Derived.Test.YtcknjhgolajclaaDoorDel
namespace Go.Proofs.YtcknjhgolajclaaDoor
set_option linter.unusedSimpArgs false
set_option linter.unusedVariables false
open Go.RowKit

/-! Deci: sums and products. -/
theorem wide0 {x : Bool} {m : Nat} {r o : Nat} {s : Int} (h : m < 18446744073709551616) : wideM x m r o s = wideV x 0 m r o s := by
  show wideV x (whi m) (wlo m) r o s = _
  rw [whi_small h, wlo_small h]
def addV (n s m t : Int) : Value := if SndD n s ∧ SndD m t then decV (decide (unt n s + unt m t < 0)) (unt n s + unt m t).natAbs 6 else errV 2
set_option maxRecDepth 100000 in
set_option maxHeartbeats 4000000 in
theorem add_any (n s m t : Int) (w : World) : Calls Tryd.prog 25 #[decA n s, decA m t] w fun e w' => e = .returned (addV n s m t) ∧ Bel w w' := by
  by_cases h : SndD n s ∧ SndD m t
  · have hs := Lib.hid (show (sndB n s && sndB m t) = true by rw [sndB_t h.1, sndB_t h.2]; rfl)
    have c1 := Lib.hid fun w => units_any n s h.1 w
    have c2 := Lib.hid fun w => units_any m t h.2 w
    have hv : Hid (addV n s m t = _) := if_pos h
    have b1 := unt_bd n s h.1
    have b2 := unt_bd m t h.2
    clear h
    obtain ⟨x, hx⟩ : ∃ x, x = unt n s := ⟨_, rfl⟩
    obtain ⟨y, hy⟩ : ∃ y, y = unt m t := ⟨_, rfl⟩
    rw [← hx] at c1 hv b1
    rw [← hy] at c2 hv b2
    clear hx hy
    have w1 : IntKind.i64.wrap (x + y) = x + y := by rw [IntKind.wrap_i64]; omega
    have d1 := fun w => wideOf_any (x + y) 6 ⟨by omega, by omega⟩ w
    have d2 := fun w => dec_any (decide (x + y < 0)) (x + y).natAbs 6 (by unfold big128; omega) (by omega) w
    rw [wide0 (by omega)] at d2
    obtain ⟨a, b, e, hsh⟩ := decV_sh (decide (x + y < 0)) (x + y).natAbs 6
    rw [hsh] at hv d2
    have D1 := Lib.hid d1
    have D2 := Lib.hid d2
    clear d1 d2 hsh b1 b2
    go_enter Tryd.func25, Tryd.ntmps25
    go_wp2_with fail
    refine under_call (((((Bel.refl w).alloc _).alloc _).alloc _).alloc _) fun W hc hf hz hb => ?_
    have hA : Sl2 W w.heap.size n s := by simp [Sl2, Arr2, Fr2, hz, hc, hf, go_sem]
    have hB : Sl2 W (w.heap.size + 1) m t := by simp [Sl2, Arr2, Fr2, hz, hc, hf, go_sem]
    have hR : Sl2 W (w.heap.size + 1 + 1) 0 0 := by simp [Sl2, Arr2, Fr2, hz, hc, hf, go_sem]
    have hD : DecsAt W (w.heap.size + 1 + 1 + 1) [(n, s), (m, t)] := decs2 (by simp [hz]) (by simp [hc, go_sem]) (by simp [hc, go_sem]) (by simp [hc, go_sem]) (by simp [hc, go_sem])
    clear hc hf hz
    go_wp2_with (go_at_call 31; refine (allSound_2 n s m t _ _ hD).mono ?_; rintro e W1 ⟨rfl, hb1⟩; rw [hs.out]
                 replace hA := hA.keep hb1; replace hB := hB.keep hb1; replace hR := hR.keep hb1; replace hb := hb.trans hb1; clear hb1 hD)
    replace hA := hA.keep (Bel.refl W1).drew; replace hB := hB.keep (Bel.refl W1).drew; replace hR := hR.keep (Bel.refl W1).drew; replace hb := hb.drew
    go_region_with (first
      | (go_at_call_of 47 (Value.agg #[Value.int .i64 n, Value.int .i64 s]); refine (c1.out _).mono ?_; rintro e W2 ⟨rfl, hb1⟩; replace hA := hA.keep hb1; replace hB := hB.keep hb1; replace hR := hR.keep hb1; replace hb := hb.trans hb1; clear hb1)
      | (go_at_call_of 47 (Value.agg #[Value.int .i64 m, Value.int .i64 t]); refine (c2.out _).mono ?_; rintro e W3 ⟨rfl, hb1⟩; replace hA := hA.keep hb1; replace hB := hB.keep hb1; replace hR := hR.keep hb1; replace hb := hb.trans hb1; clear hb1)
      | (go_at_call 29; refine (D1.out _).mono ?_; rintro e W4 ⟨rfl, hb1⟩; replace hR := hR.keep hb1; replace hb := hb.trans hb1; clear hb1 hA hB)
      | (go_at_call 30; refine (D2.out _).mono ?_; rintro e W5 ⟨rfl, hb1⟩; replace hR := hR.keep hb1; replace hb := hb.trans hb1; clear hb1))
    all_goals
      go_wp2
      refine bodyPost_ret (by simp [results, Tryd.results25, go_sem, hR]; try rfl) rfl ⟨by (rw [hv.out]) <;> rfl, ?_⟩
      (repeat (first | with_reducible exact Bel.refl _ | with_reducible refine Bel.setCell ?_ (by first | exact Nat.le_refl _ | (dsimp only; omega)) _ | with_reducible refine Bel.alloc ?_ _ | with_reducible refine Bel.drew ?_ | with_reducible assumption | with_reducible refine Bel.trans ?_ (by assumption)))
  · have hv : Hid (addV n s m t = errV 2) := if_neg h
    have hs := Lib.hid (snd_and h)
    clear h
    go_enter Tryd.func25, Tryd.ntmps25
    go_wp2_with fail
    refine under_call (((((Bel.refl w).alloc _).alloc _).alloc _).alloc _) fun W hc hf hz hb => ?_
    have hR : Sl2 W (w.heap.size + 1 + 1) 0 0 := by simp [Sl2, Arr2, Fr2, hz, hc, hf, go_sem]
    have hD : DecsAt W (w.heap.size + 1 + 1 + 1) [(n, s), (m, t)] := decs2 (by simp [hz]) (by simp [hc, go_sem]) (by simp [hc, go_sem]) (by simp [hc, go_sem]) (by simp [hc, go_sem])
    clear hc hf hz
    go_wp2_with (go_at_call 31; refine (allSound_2 n s m t _ _ hD).mono ?_; rintro e W1 ⟨rfl, hb1⟩; rw [hs.out]
                 replace hR := hR.keep hb1; replace hb := hb.trans hb1; clear hb1 hD)
    refine bodyPost_ret (by simp [results, Tryd.results25, go_sem, hR]; try rfl) rfl ⟨by (rw [hv.out]) <;> rfl, ?_⟩
    (repeat (first | with_reducible exact Bel.refl _ | with_reducible refine Bel.setCell ?_ (by first | exact Nat.le_refl _ | (dsimp only; omega)) _ | with_reducible refine Bel.alloc ?_ _ | with_reducible refine Bel.drew ?_ | with_reducible assumption | with_reducible refine Bel.trans ?_ (by assumption)))
end Go.Proofs.YtcknjhgolajclaaDoor
