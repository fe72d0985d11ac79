import Derived.Test.YtcknjhgolajclaaDoorDek
namespace Go.Proofs.YtcknjhgolajclaaDoor
set_option linter.unusedSimpArgs false
set_option linter.unusedVariables false
open Go.RowKit

abbrev errV (k : Int) : Value := .tuple #[.agg #[.int .i64 0, .int .i64 0], .int .i64 k]
abbrev decA (n s : Int) : Value := .agg #[.int .i64 n, .int .i64 s]
theorem sndB_t {n s : Int} (h : SndD n s) : sndB n s = true := decide_eq_true h
theorem sndB_f {n s : Int} (h : ¬ SndD n s) : sndB n s = false := decide_eq_false h
theorem in64_small {n : Int} (h : small n) : In64 n := ⟨by have := h.1; omega, by have := h.2; omega⟩

theorem decV_sh (x : Bool) (m s : Nat) : ∃ a b e, decV x m s = .tuple #[decA a b, .int .i64 e] := by
  unfold decV
  split
  · exact ⟨_, _, _, rfl⟩
  · exact ⟨_, _, _, rfl⟩
/-- A number in its shortest form. -/
def makeV (n s : Int) : Value := if 0 ≤ s ∧ s ≤ 6 ∧ small n then decV (decide (n < 0)) n.natAbs s.toNat else errV 3
theorem snd_and {n s m t : Int} (h : ¬ (SndD n s ∧ SndD m t)) : (sndB n s && sndB m t) = false := by
  by_cases h1 : SndD n s
  · rw [sndB_t h1, sndB_f fun h2 => h ⟨h1, h2⟩]; rfl
  · rw [sndB_f h1]; rfl
theorem negV_in {n s : Int} (h : SndD n s) : In64 (-n) := ⟨by have := h.2.2.1.2; omega, by have := h.2.2.1.1; omega⟩
def negV (n s : Int) : Value := if SndD n s then .tuple #[decA (-n) s, .int .i64 0] else errV 2
set_option maxHeartbeats 1000000 in
theorem neg_any (n s : Int) (w : World) : Calls Tryd.prog 26 #[decA n s] w fun e w' => e = .returned (negV n s) ∧ Bel w w' := by
  by_cases h : SndD n s
  · have hv : Hid (negV n s = .tuple #[decA (-n) s, .int .i64 0]) := if_pos h
    have c1 := fun w hd => allSound_1 n s (w.heap.size + 1 + 1) w hd
    have hs := Lib.hid (sndB_t h)
    have i1 := h.2.2.1.1
    have i2 := h.2.2.1.2
    clear c1 h
    go_enter Tryd.func26, Tryd.ntmps26
    go_wp2_with fail
    refine under_call ((((Bel.refl w).alloc _).alloc _).alloc _) fun W hc hf hz hb => ?_
    have hA : Sl2 W w.heap.size n s := by simp [Sl2, Arr2, Fr2, hz, hc, hf, go_sem]
    have hB : Sl2 W (w.heap.size + 1) 0 0 := by simp [Sl2, Arr2, Fr2, hz, hc, hf, go_sem]
    have hD : DecsAt W (w.heap.size + 1 + 1) [(n, s)] := decs1 (by simp [hz]) (by simp [hc, go_sem]) (by simp [hc, go_sem])
    clear hc hf hz
    go_wp2_with (go_at_call 31; refine (allSound_1 n s _ _ hD).mono ?_; rintro e W1 ⟨rfl, hb1⟩; rw [hs.out]
                 replace hA := hA.keep hb1; replace hB := hB.keep hb1; replace hb := hb.trans hb1; clear hb1 hD)
    refine bodyPost_ret (by simp [results, Tryd.results26, go_sem, hA, hB]; try rfl) rfl ⟨by (rw [hv.out]) <;> rfl, ?_⟩
    (repeat (first | with_reducible exact Bel.refl _ | with_reducible refine Bel.setCell ?_ (by first | exact Nat.le_refl _ | (dsimp only; omega)) _ | with_reducible refine Bel.alloc ?_ _ | with_reducible refine Bel.drew ?_ | with_reducible assumption | with_reducible refine Bel.trans ?_ (by assumption)))
  · have hv : Hid (negV n s = errV 2) := if_neg h
    have hs := Lib.hid (sndB_f h)
    clear h
    go_enter Tryd.func26, Tryd.ntmps26
    go_wp2_with fail
    refine under_call ((((Bel.refl w).alloc _).alloc _).alloc _) fun W hc hf hz hb => ?_
    have hB : Sl2 W (w.heap.size + 1) 0 0 := by simp [Sl2, Arr2, Fr2, hz, hc, hf, go_sem]
    have hD : DecsAt W (w.heap.size + 1 + 1) [(n, s)] := decs1 (by simp [hz]) (by simp [hc, go_sem]) (by simp [hc, go_sem])
    clear hc hf hz
    go_wp2_with (go_at_call 31; refine (allSound_1 n s _ _ hD).mono ?_; rintro e W1 ⟨rfl, hb1⟩; rw [hs.out]
                 replace hB := hB.keep hb1; replace hb := hb.trans hb1; clear hb1 hD)
    refine bodyPost_ret (by simp [results, Tryd.results26, go_sem, hB]; try rfl) rfl ⟨by (rw [hv.out]) <;> rfl, ?_⟩
    (repeat (first | with_reducible exact Bel.refl _ | with_reducible refine Bel.setCell ?_ (by first | exact Nat.le_refl _ | (dsimp only; omega)) _ | with_reducible refine Bel.alloc ?_ _ | with_reducible refine Bel.drew ?_ | with_reducible assumption | with_reducible refine Bel.trans ?_ (by assumption)))

def sgn (x y : Int) : Int := if x < y then -1 else if y < x then 1 else 0
def cmpV (n s m t : Int) : Value := if SndD n s ∧ SndD m t then .tuple #[.int .i64 (sgn (unt n s) (unt m t)), .int .i64 0] else .tuple #[.int .i64 0, .int .i64 2]
set_option maxHeartbeats 2000000 in
theorem cmp_any (n s m t : Int) (w : World) : Calls Tryd.prog 27 #[decA n s, decA m t] w fun e w' => e = .returned (cmpV n s m t) ∧ Bel w w' := by
  by_cases h : SndD n s ∧ SndD m t
  · have hs := Lib.hid (show (sndB n s && sndB m t) = true by rw [sndB_t h.1, sndB_t h.2]; rfl)
    have c1 := Lib.hid fun w => units_any n s h.1 w
    have c2 := Lib.hid fun w => units_any m t h.2 w
    have hv : Hid (cmpV n s m t = .tuple #[.int .i64 (sgn (unt n s) (unt m t)), .int .i64 0]) := if_pos h
    clear h
    obtain ⟨x, hx⟩ : ∃ x, x = unt n s := ⟨_, rfl⟩
    obtain ⟨y, hy⟩ : ∃ y, y = unt m t := ⟨_, rfl⟩
    rw [← hx] at c1 hv
    rw [← hy] at c2 hv
    clear hx hy
    have tri : (x < y ∧ sgn x y = -1) ∨ (sgn x y = 0 ∧ x = y) ∨ (y < x ∧ sgn x y = 1) := by
      rcases Int.lt_trichotomy x y with h | h | h
      · exact .inl ⟨h, by simp [sgn, h]⟩
      · exact .inr (.inl ⟨by subst h; simp [sgn], h⟩)
      · exact .inr (.inr ⟨h, by simp [sgn, h, show ¬ x < y by omega]⟩)
    rcases tri with ⟨h, hg⟩ | ⟨hg, rfl⟩ | ⟨h, hg⟩
    all_goals
      rw [hg] at hv
      clear hg
      go_enter Tryd.func27, Tryd.ntmps27
      go_wp2_with fail
      refine under_call ((((Bel.refl w).alloc _).alloc _).alloc _) fun W hc hf hz hb => ?_
      have hA : Sl2 W w.heap.size n s := by simp [Sl2, Arr2, Fr2, hz, hc, hf, go_sem]
      have hB : Sl2 W (w.heap.size + 1) m t := by simp [Sl2, Arr2, Fr2, hz, hc, hf, go_sem]
      have hD : DecsAt W (w.heap.size + 1 + 1) [(n, s), (m, t)] := decs2 (by simp [hz]) (by simp [hc, go_sem]) (by simp [hc, go_sem]) (by simp [hc, go_sem]) (by simp [hc, go_sem])
      clear hc hf hz
      go_wp2_with (go_at_call 31; refine (allSound_2 n s m t _ _ hD).mono ?_; rintro e W1 ⟨rfl, hb1⟩; rw [hs.out]
                   replace hA := hA.keep hb1; replace hB := hB.keep hb1; replace hb := hb.trans hb1; clear hb1 hD)
      refine wp_region_uni (S := (fun w' => Bel W1 w' ∧ (∀ b o, b < W1.heap.size → w'.cell? ⟨b, o, none⟩ = W1.cell? ⟨b, o, none⟩))) (by kernel_rfl) (by kernel_rfl) keep0 ?_
      repeat (first | (refine wpUni_skip (by rfl) ?_; (try simp only [Act.put, List.setIfInBounds_toArray, List.set_cons_zero, List.set_cons_succ]))
                                                            | (refine wpUni_value (by rfl) (fun w hS => by (try dsimp only at hS); go_simp; first | done | with_reducible rfl) ?_; (try simp only [Act.put, List.setIfInBounds_toArray, List.set_cons_zero, List.set_cons_succ]))
                                                            | (refine wpUni_call (f := 47) (by rfl) (fun w => by go_simp; first | done | with_reducible rfl) (fun w hS => (c1.out w).mono fun e w' ⟨he, hb⟩ => ⟨he, keep1 hS hb⟩) ?_; (try simp only [Act.put, List.setIfInBounds_toArray, List.set_cons_zero, List.set_cons_succ]))
                                                            | (refine wpUni_call (f := 47) (by rfl) (fun w => by go_simp; first | done | with_reducible rfl) (fun w hS => (c2.out w).mono fun e w' ⟨he, hb⟩ => ⟨he, keep1 hS hb⟩) ?_; (try simp only [Act.put, List.setIfInBounds_toArray, List.set_cons_zero, List.set_cons_succ])))
      refine wpUni_nil fun W2 hS => ?_
      have hb2 := hb.trans hS.1
      clear hS
      go_wp2
      go_ret2
      exact ⟨by (rw [hv.out]) <;> rfl, hb2⟩
  · have hv : Hid (cmpV n s m t = .tuple #[.int .i64 0, .int .i64 2]) := if_neg h
    have hs := Lib.hid (snd_and h)
    clear h
    go_enter Tryd.func27, Tryd.ntmps27
    go_wp2_with fail
    refine under_call ((((Bel.refl w).alloc _).alloc _).alloc _) fun W hc hf hz hb => ?_
    have hD : DecsAt W (w.heap.size + 1 + 1) [(n, s), (m, t)] := decs2 (by simp [hz]) (by simp [hc, go_sem]) (by simp [hc, go_sem]) (by simp [hc, go_sem]) (by simp [hc, go_sem])
    clear hc hf hz
    go_wp2_with (go_at_call 31; refine (allSound_2 n s m t _ _ hD).mono ?_; rintro e W1 ⟨rfl, hb1⟩; rw [hs.out]
                 replace hb := hb.trans hb1; clear hb1 hD)
    go_ret2
    exact ⟨by (rw [hv.out]) <;> rfl, hb⟩
end Go.Proofs.YtcknjhgolajclaaDoor
