import Derived.Test.YtlheahcljnjogaaLgc
import Derived.Test.YtlheahcljnjogaaUni
namespace Go.Proofs.Ytlheahcljnjogaa
set_option linter.unusedSimpArgs false
set_option linter.unusedVariables false
open Go.RowKit
attribute [local go_sem ↓] eql_val neq_val

set_option maxHeartbeats 400000 in
theorem truth_any (b : Bool) (w : World) : Calls Try.prog 16 #[.bool b] w fun e w' => e = .returned (tv b).val ∧ Bel w w' := by
  cases b
  · exact truth_f w
  · exact truth_t w
theorem rtruth_any (b : Bool) (w : World) : Calls Try.prog 15 #[.bool b] w fun e w' => e = .returned (tv b).val ∧ Bel w w' := by
  cases b
  · exact rtruth_f w
  · exact rtruth_t w

set_option maxHeartbeats 1000000 in
theorem all_law (vs : List Val) (A : Option Addr) (c : Nat) (w : World) (hv : Vals w A vs) (hl : vs.length ≤ maxLen) :
    Calls Try.prog 3 #[.slice A vs.length c] w fun e w' => e = .returned (.bool true) ∧ Bel w w' := by
  have z1 := veq_self (jn false vs)
  have z2 := veq_self (jn true vs)
  go_enter Try.func3, Try.ntmps3
  go_wp2_with fail
  refine (awake_any _).mono ?_
  rintro e w1 ⟨rfl, hb1⟩
  go_wp2_with fail
  refine (and_any vs A c _ (hv.keep hb1) hl).mono ?_
  rintro e w2 ⟨rfl, hb2⟩
  go_wp2_with fail
  refine (rand_any vs A c _ ((hv.keep hb1).keep hb2) hl).mono ?_
  rintro e w3 ⟨rfl, hb3⟩
  go_wp2_with fail
  refine (or_any vs A c _ (((hv.keep hb1).keep hb2).keep hb3) hl).mono ?_
  rintro e w4 ⟨rfl, hb4⟩
  go_wp2_with fail
  refine (ror_any vs A c _ ((((hv.keep hb1).keep hb2).keep hb3).keep hb4) hl).mono ?_
  rintro e w5 ⟨rfl, hb5⟩
  go_wp2_with fail
  go_ret
  refine ⟨rfl, ?_⟩
  (repeat (first | with_reducible exact Bel.refl _ | with_reducible refine Bel.setCell ?_ (by first | exact Nat.le_refl _ | (dsimp only; omega)) _ | with_reducible refine Bel.alloc ?_ _ | with_reducible refine Bel.drew ?_ | with_reducible assumption | with_reducible refine Bel.trans ?_ (by assumption)))

set_option maxHeartbeats 1000000 in
theorem one_law (v : Val) (b : Bool) (w : World) :
    Calls Try.prog 4 #[v.val, .bool b] w fun e w' => e = .returned (.bool true) ∧ Bel w w' := by
  have z1 := veq_self (nt v)
  have z2 := veq_self (tv b)
  go_enter Try.func4, Try.ntmps4
  go_wp2_with fail
  refine under_name ((Bel.refl w).alloc _) fun W hc hf hz hb => ?_
  go_region_held3 (fun w' => Bel W w' ∧ (∀ b o, b < W.heap.size → w'.cell? ⟨b, o, none⟩ = W.cell? ⟨b, o, none⟩)) (first | exact keep0 | exact keep1 ‹_› ‹_›) (first
    | (go_at_call 7; refine (awake_any _).mono ?_; rintro e w1 ⟨rfl, hb1⟩)
    | (go_at_call 12; refine (not_any v _).mono ?_; rintro e w1 ⟨rfl, hb1⟩)
    | (go_at_call 13; refine (rnot_any v _).mono ?_; rintro e w1 ⟨rfl, hb1⟩)
    | (go_at_call 14; refine (is_any v _).mono ?_; rintro e w1 ⟨rfl, hb1⟩)
    | (go_at_call 15; refine (rtruth_any _ _).mono ?_; rintro e w1 ⟨rfl, hb1⟩)
    | (go_at_call 16; refine (truth_any b _).mono ?_; rintro e w1 ⟨rfl, hb1⟩))
  rename_i hH
  have hw1 := hH.1
  go_wp2
  go_ret
  refine ⟨rfl, ?_⟩
  exact hb.trans hw1

theorem nt_nt (v : Val) : (veq v (tv true) = true ∧ nt (nt v) = v ∧ veq (nt v) (tv true) = false) ∨ (veq v (tv true) = false ∧ veq v (tv false) = true ∧ nt (nt v) = v ∧ veq (nt v) (tv true) = true) ∨ (veq v (tv true) = false ∧ veq v (tv false) = false ∧ nt (nt v) = zero) := by
  unfold veq
  by_cases h : v = tv true
  · left; subst h; decide
  · by_cases h' : v = tv false
    · right; left; subst h'; decide
    · right; right; simp [h, h', nt, veq]; decide

set_option maxHeartbeats 2000000 in
theorem twice_law (v : Val) (w : World) :
    Calls Try.prog 6 #[v.val] w fun e w' => e = .returned (.bool true) ∧ Bel w w' := by
  have z0 : veq zero ⟨0, 0, 0, ⟨#[]⟩, 0⟩ = true := by decide
  have z1 := veq_self v
  have HN := nt_nt v
  obtain ⟨k0, n0, s0, t0, m0⟩ := v
  rcases HN with ⟨e1, e3, e4⟩ | ⟨e1, e2, e3, e4⟩ | ⟨e1, e2, e3⟩
  all_goals
    have E3 := Lib.hid e3
    clear e3
    have e1' := e1
    simp only [tv, if_true, Bool.false_eq_true, if_false] at e1'
    try have e2' := e2
    try simp only [tv, if_true, Bool.false_eq_true, if_false] at e2'
    go_enter Try.func6, Try.ntmps6
    go_wp2_with fail
    refine (not_any ⟨k0, n0, s0, t0, m0⟩ _).mono ?_
    rintro e w1 ⟨rfl, hb1⟩
    have sv := (slot_new w ⟨k0, n0, s0, t0, m0⟩).keep hb1
    go_wp2_with fail
    refine (not_any (nt ⟨k0, n0, s0, t0, m0⟩) _).mono ?_
    rintro e w2 ⟨he, hb2⟩
    rw [E3.out] at he
    subst he
    replace sv := sv.keep hb2
    have hb0 : Bel w w2 := (((Bel.refl w).alloc _).trans hb1).trans hb2
    go_wp2_with fail
    refine under_name (hb0.alloc _) fun W hc hf hz hb => ?_
    have hz1 : w.heap.size < W.heap.size := by rw [hz]; have := sv.1; simp; omega
    have hz2 : w2.heap.size < W.heap.size := by rw [hz]; simp
    have hbn : w.heap.size ≠ w2.heap.size := Nat.ne_of_lt sv.1
    refine wp_region_uni (S := (fun w' => Bel W w' ∧ (∀ b o, b < W.heap.size → w'.cell? ⟨b, o, none⟩ = W.cell? ⟨b, o, none⟩))) (by kernel_rfl) (by kernel_rfl) keep0 ?_
    repeat (first | (refine wpUni_skip (by rfl) ?_; (try simp only [Act.put, List.setIfInBounds_toArray, List.set_cons_zero, List.set_cons_succ]))
                                                            | (refine wpUni_value (by rfl) (fun w hS => by (try dsimp only at hS); go_simp; first | done | with_reducible rfl) ?_; (try simp only [Act.put, List.setIfInBounds_toArray, List.set_cons_zero, List.set_cons_succ]))
                                                            | (refine wpUni_call (f := 16) (by rfl) (fun w => by go_simp; first | done | with_reducible rfl) (fun w hS => (truth_t w).mono fun e w' ⟨he, hb⟩ => ⟨he, keep1 hS hb⟩) ?_; (try simp only [Act.put, List.setIfInBounds_toArray, List.set_cons_zero, List.set_cons_succ]))
                                                            | (refine wpUni_call (f := 16) (by rfl) (fun w => by go_simp; first | done | with_reducible rfl) (fun w hS => (truth_f w).mono fun e w' ⟨he, hb⟩ => ⟨he, keep1 hS hb⟩) ?_; (try simp only [Act.put, List.setIfInBounds_toArray, List.set_cons_zero, List.set_cons_succ])))
    refine wpUni_nil fun W1 hS => ?_
    have hH := hS.1
    have hc3 := hS.2
    have hz3 := Nat.lt_of_lt_of_le hz1 hH.size
    have hz4 := Nat.lt_of_lt_of_le hz2 hH.size
    have hb1 := hb.trans hH
    clear hS
  · go_wp2_with fail
    refine wp_region_uni (S := (fun w' => Bel W1 w' ∧ (∀ b o, b < W1.heap.size → w'.cell? ⟨b, o, none⟩ = W1.cell? ⟨b, o, none⟩))) (by kernel_rfl) (by kernel_rfl) keep0 ?_
    repeat (first | (refine wpUni_skip (by rfl) ?_; (try simp only [Act.put, List.setIfInBounds_toArray, List.set_cons_zero, List.set_cons_succ]))
                                                            | (refine wpUni_value (by rfl) (fun w hS => by (try dsimp only at hS); go_simp; first | done | with_reducible rfl) ?_; (try simp only [Act.put, List.setIfInBounds_toArray, List.set_cons_zero, List.set_cons_succ]))
                                                            | (refine wpUni_call (f := 7) (by rfl) (fun w => by go_simp; first | done | with_reducible rfl) (fun w hS => (awake_any w).mono fun e w' ⟨he, hb⟩ => ⟨he, keep1 hS hb⟩) ?_; (try simp only [Act.put, List.setIfInBounds_toArray, List.set_cons_zero, List.set_cons_succ]))
                                                            | (refine wpUni_call (f := 14) (by rfl) (fun w => by go_simp; first | done | with_reducible rfl) (fun w hS => (is_any ⟨k0, n0, s0, t0, m0⟩ w).mono fun e w' ⟨he, hb⟩ => ⟨he, keep1 hS hb⟩) ?_; (try simp only [Act.put, List.setIfInBounds_toArray, List.set_cons_zero, List.set_cons_succ]))
                                                            | (refine wpUni_call (f := 12) (by rfl) (fun w => by go_simp; first | done | with_reducible rfl) (fun w hS => (not_any ⟨k0, n0, s0, t0, m0⟩ w).mono fun e w' ⟨he, hb⟩ => ⟨he, keep1 hS hb⟩) ?_; (try simp only [Act.put, List.setIfInBounds_toArray, List.set_cons_zero, List.set_cons_succ]))
                                                            | (refine wpUni_call (f := 14) (by rfl) (fun w => by go_simp; first | done | with_reducible rfl) (fun w hS => (is_any (nt ⟨k0, n0, s0, t0, m0⟩) w).mono fun e w' ⟨he, hb⟩ => ⟨he, keep1 hS hb⟩) ?_; (try simp only [Act.put, List.setIfInBounds_toArray, List.set_cons_zero, List.set_cons_succ])))
    refine wpUni_nil fun W2 hS => ?_
    have hb2 := hb1.trans hS.1
    go_wp2
    go_ret
    exact ⟨rfl, hb2⟩
  · go_wp2_with fail
    refine wp_region_uni (S := (fun w' => Bel W1 w' ∧ (∀ b o, b < W1.heap.size → w'.cell? ⟨b, o, none⟩ = W1.cell? ⟨b, o, none⟩))) (by kernel_rfl) (by kernel_rfl) keep0 ?_
    repeat (first | (refine wpUni_skip (by rfl) ?_; (try simp only [Act.put, List.setIfInBounds_toArray, List.set_cons_zero, List.set_cons_succ]))
                                                            | (refine wpUni_value (by rfl) (fun w hS => by (try dsimp only at hS); go_simp; first | done | with_reducible rfl) ?_; (try simp only [Act.put, List.setIfInBounds_toArray, List.set_cons_zero, List.set_cons_succ]))
                                                            | (refine wpUni_call (f := 7) (by rfl) (fun w => by go_simp; first | done | with_reducible rfl) (fun w hS => (awake_any w).mono fun e w' ⟨he, hb⟩ => ⟨he, keep1 hS hb⟩) ?_; (try simp only [Act.put, List.setIfInBounds_toArray, List.set_cons_zero, List.set_cons_succ]))
                                                            | (refine wpUni_call (f := 14) (by rfl) (fun w => by go_simp; first | done | with_reducible rfl) (fun w hS => (is_any ⟨k0, n0, s0, t0, m0⟩ w).mono fun e w' ⟨he, hb⟩ => ⟨he, keep1 hS hb⟩) ?_; (try simp only [Act.put, List.setIfInBounds_toArray, List.set_cons_zero, List.set_cons_succ]))
                                                            | (refine wpUni_call (f := 12) (by rfl) (fun w => by go_simp; first | done | with_reducible rfl) (fun w hS => (not_any ⟨k0, n0, s0, t0, m0⟩ w).mono fun e w' ⟨he, hb⟩ => ⟨he, keep1 hS hb⟩) ?_; (try simp only [Act.put, List.setIfInBounds_toArray, List.set_cons_zero, List.set_cons_succ]))
                                                            | (refine wpUni_call (f := 14) (by rfl) (fun w => by go_simp; first | done | with_reducible rfl) (fun w hS => (is_any (nt ⟨k0, n0, s0, t0, m0⟩) w).mono fun e w' ⟨he, hb⟩ => ⟨he, keep1 hS hb⟩) ?_; (try simp only [Act.put, List.setIfInBounds_toArray, List.set_cons_zero, List.set_cons_succ])))
    refine wpUni_nil fun W2 hS => ?_
    have hb2 := hb1.trans hS.1
    go_wp2
    go_ret
    exact ⟨rfl, hb2⟩
  · go_wp2_with fail
    refine (awake_any _).mono ?_
    rintro e W3 ⟨rfl, hb3⟩
    have hc4 := hb3.cells
    go_wp2_with fail
    refine (is_any ⟨k0, n0, s0, t0, m0⟩ _).mono ?_
    rintro e W4 ⟨rfl, hb4⟩
    go_wp2
    go_ret
    exact ⟨rfl, (hb1.trans hb3).trans hb4⟩
end Go.Proofs.Ytlheahcljnjogaa
