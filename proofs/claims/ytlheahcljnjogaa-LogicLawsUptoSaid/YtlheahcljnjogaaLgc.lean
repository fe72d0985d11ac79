import Derived.Test.YtlheahcljnjogaaLgb
namespace Go.Proofs.Ytlheahcljnjogaa
set_option linter.unusedSimpArgs false
set_option linter.unusedVariables false
open Go.RowKit
attribute [local go_sem ↓] eql_val neq_val

theorem and_any (vs : List Val) (A : Option Addr) (c : Nat) (w : World) (hv : Vals w A vs) (hl : vs.length ≤ maxLen) :
    Calls Try.prog 8 #[.slice A vs.length c] w fun e w' => e = .returned (jn false vs).val ∧ Bel w w' := by
  go_enter Try.func8, Try.ntmps8
  go_wp2_with (go_at_call 17; refine (joined_f vs A c _ (hv.keep ((Bel.refl w).alloc _)) hl).mono ?_; rintro e w1 ⟨rfl, hb1⟩; have hc1 := hb1.cells; have hf1 := hb1.frozens)
  refine bodyPost_ret (by simp [results, Try.results8, go_sem, hc1]) rfl ⟨rfl, ?_⟩
  (repeat (first | with_reducible exact Bel.refl _ | with_reducible refine Bel.setCell ?_ (by first | exact Nat.le_refl _ | (dsimp only; omega)) _ | with_reducible refine Bel.alloc ?_ _ | with_reducible refine Bel.drew ?_ | with_reducible assumption | with_reducible refine Bel.trans ?_ (by assumption)))
theorem or_any (vs : List Val) (A : Option Addr) (c : Nat) (w : World) (hv : Vals w A vs) (hl : vs.length ≤ maxLen) :
    Calls Try.prog 10 #[.slice A vs.length c] w fun e w' => e = .returned (jn true vs).val ∧ Bel w w' := by
  go_enter Try.func10, Try.ntmps10
  go_wp2_with (go_at_call 17; refine (joined_t vs A c _ (hv.keep ((Bel.refl w).alloc _)) hl).mono ?_; rintro e w1 ⟨rfl, hb1⟩; have hc1 := hb1.cells; have hf1 := hb1.frozens)
  refine bodyPost_ret (by simp [results, Try.results10, go_sem, hc1]) rfl ⟨rfl, ?_⟩
  (repeat (first | with_reducible exact Bel.refl _ | with_reducible refine Bel.setCell ?_ (by first | exact Nat.le_refl _ | (dsimp only; omega)) _ | with_reducible refine Bel.alloc ?_ _ | with_reducible refine Bel.drew ?_ | with_reducible assumption | with_reducible refine Bel.trans ?_ (by assumption)))

def nt (v : Val) : Val := if veq v (tv true) then tv false else if veq v (tv false) then tv true else zero
set_option maxHeartbeats 400000 in
theorem not_any (v : Val) (w : World) : Calls Try.prog 12 #[v.val] w fun e w' => e = .returned (nt v).val ∧ Bel w w' := by
  have H3 := three v
  have HN : Hid (nt v = if veq v (tv true) then tv false else if veq v (tv false) then tv true else zero) := rfl
  obtain ⟨k0, n0, s0, t0, m0⟩ := v
  rcases H3 with ⟨e1, e2⟩ | ⟨e1, e2⟩ | ⟨e1, e2⟩
  all_goals
    rw [e1, e2] at HN
    simp only [tv, zero, if_true, Bool.false_eq_true, if_false] at e1 e2 HN
    go_enter Try.func12, Try.ntmps12
    go_wp2_with fail
    refine (truth_t _).mono ?_
    rintro e w1 ⟨rfl, hb1⟩
    have s1 := (slot_new2 w _ zero).keep hb1
    go_wp2_with fail
    refine (truth_f _).mono ?_
    rintro e w2 ⟨rfl, hb2⟩
    have s2 := s1.keep hb2
    clear s1
    go_wp2_with (go_at_call 16; refine (truth_t _).mono ?_; rintro e w3 ⟨rfl, hb3⟩; have s3 := s2.keep hb3)
    refine bodyPost_ret (by first | (simp [results, Try.results12, go_sem, s3]; rfl) | (simp [results, Try.results12, go_sem, s2]; rfl)) rfl ⟨by rw [HN.out], ?_⟩
    (repeat (first | with_reducible exact Bel.refl _ | with_reducible refine Bel.setCell ?_ (by first | exact Nat.le_refl _ | (dsimp only; omega)) _ | with_reducible refine Bel.alloc ?_ _ | with_reducible refine Bel.drew ?_ | with_reducible assumption | with_reducible refine Bel.trans ?_ (by assumption)))

theorem noneIs_cnt (d : Bool) (vs : List Val) : noneIs d vs = true ↔ cnt d vs = 0 := by
  simp [noneIs, cnt]
theorem allAre_cnt (d : Bool) (vs : List Val) : allAre d vs = true ↔ cnt d vs = vs.length := by
  simp [allAre, cnt]
theorem jn_cnt_f (vs : List Val) : (0 < cnt false vs ∧ jn false vs = tv false) ∨ (cnt false vs = 0 ∧ cnt true vs = vs.length ∧ jn false vs = tv true) ∨ (cnt false vs = 0 ∧ cnt true vs < vs.length ∧ jn false vs = zero) := by
  by_cases h : noneIs false vs = true
  · have h0 := (noneIs_cnt _ _).1 h
    by_cases h' : allAre true vs = true
    · exact .inr (.inl ⟨h0, (allAre_cnt _ _).1 h', by simp [jn, h, jr, h']⟩)
    · have := cnt_le true vs
      have h2 : cnt true vs ≠ vs.length := fun e => h' ((allAre_cnt _ _).2 e)
      exact .inr (.inr ⟨h0, by omega, by simp [jn, h, jr, h']⟩)
  · have h0 : cnt false vs ≠ 0 := fun e => h ((noneIs_cnt _ _).2 e)
    exact .inl ⟨by omega, by simp [jn, h]⟩
theorem jn_cnt_t (vs : List Val) : (0 < cnt true vs ∧ jn true vs = tv true) ∨ (cnt true vs = 0 ∧ cnt false vs = vs.length ∧ jn true vs = tv false) ∨ (cnt true vs = 0 ∧ cnt false vs < vs.length ∧ jn true vs = zero) := by
  by_cases h : noneIs true vs = true
  · have h0 := (noneIs_cnt _ _).1 h
    by_cases h' : allAre false vs = true
    · exact .inr (.inl ⟨h0, (allAre_cnt _ _).1 h', by simp [jn, h, jr, h']⟩)
    · have := cnt_le false vs
      have h2 : cnt false vs ≠ vs.length := fun e => h' ((allAre_cnt _ _).2 e)
      exact .inr (.inr ⟨h0, by omega, by simp [jn, h, jr, h']⟩)
  · have h0 : cnt true vs ≠ 0 := fun e => h ((noneIs_cnt _ _).2 e)
    exact .inl ⟨by omega, by simp [jn, h]⟩

set_option maxHeartbeats 400000 in
theorem rand_any (vs : List Val) (A : Option Addr) (c : Nat) (w : World) (hv : Vals w A vs) (hl : vs.length ≤ maxLen) :
    Calls Try.prog 9 #[.slice A vs.length c] w fun e w' => e = .returned (jn false vs).val ∧ Bel w w' := by
  have HJ := jn_cnt_f vs
  have l1 := cnt_le true vs
  have l2 := cnt_le false vs
  have hl' := hl
  unfold maxLen at hl'
  rcases HJ with ⟨g, HJ⟩ | ⟨g, g2, HJ⟩ | ⟨g, g2, HJ⟩
  all_goals
    have Hj := Lib.hid HJ
    clear HJ
    go_enter Try.func9, Try.ntmps9
    go_wp2_with fail
    refine (counts_any vs A c _ (hv.keep ((Bel.refl w).alloc _)) hl).mono ?_
    rintro e w1 ⟨rfl, hb1⟩
    have s1 := (slot_new w zero).keep hb1
    go_wp2_with (go_at_call 15; first | ((with_reducible refine (rtruth_t _).mono ?_); rintro e w2 ⟨rfl, hb2⟩; have s2 := s1.keep hb2) | ((with_reducible refine (rtruth_f _).mono ?_); rintro e w2 ⟨rfl, hb2⟩; have s2 := s1.keep hb2))
    refine bodyPost_ret (by first | (simp [results, Try.results9, go_sem, s2]; rfl) | (simp [results, Try.results9, go_sem, s1]; rfl)) rfl ⟨by rw [Hj.out]; rfl, ?_⟩
    (repeat (first | with_reducible exact Bel.refl _ | with_reducible refine Bel.setCell ?_ (by first | exact Nat.le_refl _ | (dsimp only; omega)) _ | with_reducible refine Bel.alloc ?_ _ | with_reducible refine Bel.drew ?_ | with_reducible assumption | with_reducible refine Bel.trans ?_ (by assumption)))

set_option maxHeartbeats 400000 in
theorem ror_any (vs : List Val) (A : Option Addr) (c : Nat) (w : World) (hv : Vals w A vs) (hl : vs.length ≤ maxLen) :
    Calls Try.prog 11 #[.slice A vs.length c] w fun e w' => e = .returned (jn true vs).val ∧ Bel w w' := by
  have HJ := jn_cnt_t vs
  have l1 := cnt_le true vs
  have l2 := cnt_le false vs
  have hl' := hl
  unfold maxLen at hl'
  rcases HJ with ⟨g, HJ⟩ | ⟨g, g2, HJ⟩ | ⟨g, g2, HJ⟩
  all_goals
    have Hj := Lib.hid HJ
    clear HJ
    go_enter Try.func11, Try.ntmps11
    go_wp2_with fail
    refine (counts_any vs A c _ (hv.keep ((Bel.refl w).alloc _)) hl).mono ?_
    rintro e w1 ⟨rfl, hb1⟩
    have s1 := (slot_new w zero).keep hb1
    go_wp2_with (go_at_call 15; first | ((with_reducible refine (rtruth_t _).mono ?_); rintro e w2 ⟨rfl, hb2⟩; have s2 := s1.keep hb2) | ((with_reducible refine (rtruth_f _).mono ?_); rintro e w2 ⟨rfl, hb2⟩; have s2 := s1.keep hb2))
    refine bodyPost_ret (by first | (simp [results, Try.results11, go_sem, s2]; rfl) | (simp [results, Try.results11, go_sem, s1]; rfl)) rfl ⟨by rw [Hj.out]; rfl, ?_⟩
    (repeat (first | with_reducible exact Bel.refl _ | with_reducible refine Bel.setCell ?_ (by first | exact Nat.le_refl _ | (dsimp only; omega)) _ | with_reducible refine Bel.alloc ?_ _ | with_reducible refine Bel.drew ?_ | with_reducible assumption | with_reducible refine Bel.trans ?_ (by assumption)))

theorem vals_one (w : World) (v : Val) {n : Nat} (hn : n = w.heap.size) : Vals (w.alloc (.cells #[.int .i64 v.kind, .int .i64 v.n, .int .i64 v.scale, .string v.text, .int .i64 v.num] 27)) (some ⟨n, 0, none⟩) [v] := fun _ => by
  subst hn
  refine ⟨_, 0, rfl, by simp, fun i u hu => ?_⟩
  match i, hu with
  | 0, hu =>
    simp only [List.getElem?_cons_zero, Option.some.injEq] at hu
    subst hu
    simp [ValAt, go_sem]
theorem vals_two (w : World) (v u : Val) : Vals (w.alloc (.cells #[.int .i64 v.kind, .int .i64 v.n, .int .i64 v.scale, .string v.text, .int .i64 v.num, .int .i64 u.kind, .int .i64 u.n, .int .i64 u.scale, .string u.text, .int .i64 u.num] 27)) (some ⟨w.heap.size, 0, none⟩) [v, u] := fun _ => by
  refine ⟨_, 0, rfl, by simp, fun i x hx => ?_⟩
  match i, hx with
  | 0, hx =>
    simp only [List.getElem?_cons_zero, Option.some.injEq] at hx
    subst hx
    simp [ValAt, go_sem]
  | 1, hx =>
    simp only [List.getElem?_cons_succ, List.getElem?_cons_zero, Option.some.injEq] at hx
    subst hx
    simp [ValAt, go_sem]
theorem cnt_one (b : Bool) (v : Val) : cnt b [v] = if veq v (tv b) then 1 else 0 := by
  unfold cnt; by_cases h : veq v (tv b) = true <;> simp [List.filter_cons, h]

set_option maxHeartbeats 400000 in
theorem rnot_any (v : Val) (w : World) : Calls Try.prog 13 #[v.val] w fun e w' => e = .returned (nt v).val ∧ Bel w w' := by
  have H3 := three v
  have HN : Hid (nt v = if veq v (tv true) then tv false else if veq v (tv false) then tv true else zero) := rfl
  have ct := cnt_one true v
  have cf := cnt_one false v
  rcases H3 with ⟨e1, e2⟩ | ⟨e1, e2⟩ | ⟨e1, e2⟩
  all_goals
    rw [e1, e2] at HN
    rw [e1] at ct
    rw [e2] at cf
    simp only [if_true, Bool.false_eq_true, if_false] at ct cf HN
    have Ct := Lib.hid ct
    have Cf := Lib.hid cf
    clear ct cf e1 e2
    go_enter Try.func13, Try.ntmps13
    go_wp2_with fail
    refine (counts_any [v] (some ⟨w.heap.size + 1 + 1, 0, none⟩) 1 _ (vals_one _ v (by simp)) (by simp [maxLen])).mono ?_
    rintro e w1 ⟨he, hb1⟩
    rw [Ct.out, Cf.out] at he
    subst he
    have s1 : Slot w1 (w.heap.size + 1) zero := by
      have := (slot_old (w.alloc _) _ zero).keep hb1
      rw [World.size_alloc] at this
      exact this
    go_wp2_with (go_at_call 15; first | ((with_reducible refine (rtruth_t _).mono ?_); rintro e w2 ⟨rfl, hb2⟩; have s2 := s1.keep hb2) | ((with_reducible refine (rtruth_f _).mono ?_); rintro e w2 ⟨rfl, hb2⟩; have s2 := s1.keep hb2))
    refine bodyPost_ret (by first | (simp [results, Try.results13, go_sem, s2]; rfl) | (simp [results, Try.results13, go_sem, s1]; rfl)) rfl ⟨by rw [HN.out]; rfl, ?_⟩
    (repeat (first | with_reducible exact Bel.refl _ | with_reducible refine Bel.setCell ?_ (by first | exact Nat.le_refl _ | (dsimp only; omega)) _ | with_reducible refine Bel.alloc ?_ _ | with_reducible refine Bel.drew ?_ | with_reducible assumption | with_reducible refine Bel.trans ?_ (by assumption)))

theorem veq_self (v : Val) : veq v v = true := by simp [veq]

set_option maxHeartbeats 1000000 in
theorem awake_any (w : World) : Calls Try.prog 7 #[] w fun e w' => e = .returned (.bool true) ∧ Bel w w' := by
  have a1 : jn false [tv true, zero] = zero := by decide
  have a2 : jn true [tv true, zero] = tv true := by decide
  have a3 : nt (tv false) = tv true := by decide
  have A1 := Lib.hid a1
  have A2 := Lib.hid a2
  have A3 := Lib.hid a3
  clear a1 a2 a3
  have z1 := veq_self ⟨0, 0, 0, ⟨#[]⟩, 0⟩
  have z2 := veq_self ⟨3, 0, 0, ⟨#[]⟩, 1⟩
  go_enter Try.func7, Try.ntmps7
  go_wp2_with fail
  refine (truth_t _).mono ?_
  rintro e w1 ⟨rfl, hb1⟩
  go_wp2_with fail
  refine (and_any [tv true, zero] _ 2 _ (vals_two w1 (tv true) zero) (by simp [maxLen])).mono ?_
  rintro e w2 ⟨he, hb2⟩
  rw [A1.out] at he
  subst he
  simp only [zero]
  go_wp2_with fail
  refine (truth_t _).mono ?_
  rintro e w3 ⟨rfl, hb3⟩
  go_wp2_with fail
  refine (or_any [tv true, zero] _ 2 _ (vals_two w3 (tv true) zero) (by simp [maxLen])).mono ?_
  rintro e w4 ⟨he, hb4⟩
  rw [A2.out] at he
  subst he
  simp only [tv, if_true]
  go_wp2_with fail
  refine (truth_t _).mono ?_
  rintro e w5 ⟨rfl, hb5⟩
  go_wp2_with fail
  refine (truth_f _).mono ?_
  rintro e w6 ⟨rfl, hb6⟩
  go_wp2_with fail
  refine (not_any (tv false) _).mono ?_
  rintro e w7 ⟨he, hb7⟩
  rw [A3.out] at he
  subst he
  go_wp2_with fail
  refine (is_any (tv true) _).mono ?_
  rintro e w8 ⟨rfl, hb8⟩
  have z3 := veq_self (tv true)
  go_wp2
  go_ret
  refine ⟨rfl, ?_⟩
  (repeat (first | with_reducible exact Bel.refl _ | with_reducible refine Bel.setCell ?_ (by first | exact Nat.le_refl _ | (dsimp only; omega)) _ | with_reducible refine Bel.alloc ?_ _ | with_reducible refine Bel.drew ?_ | with_reducible assumption | with_reducible refine Bel.trans ?_ (by assumption)))
end Go.Proofs.Ytlheahcljnjogaa
