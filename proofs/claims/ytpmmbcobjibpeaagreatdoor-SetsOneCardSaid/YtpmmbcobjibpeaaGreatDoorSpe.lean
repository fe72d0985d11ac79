
import Derived.Test.YtpmmbcobjibpeaaGreatDoorSpd
import Derived.Shelf.SlicesQ.IndexFunc
namespace Go.Proofs.YtpmmbcobjibpeaaGreatDoor
set_option linter.unusedSimpArgs false
set_option linter.unusedVariables false
open Go.RowKit Go.Lib

/-! Spans: Has; distance; Near. -/
theorem hasP_any (x : Sp) (n : Int) (h : Nat) (W : World) (hc : W.cell? ⟨h, 0, none⟩ = some (.int .i64 n)) (hh : h < W.heap.size) :
    Calls Tryz.prog 85 #[.agg #[.int .i64 x.1, .int .i64 x.2], .pointer (some ⟨h, 0, none⟩)] W fun e w' => e = .returned (.bool (decide (x.1 ≤ n) && decide (n ≤ x.2))) ∧ Bel W w' := by
  obtain ⟨x1, x2⟩ := x
  have hne : ¬ h = W.heap.size := by omega
  simp only
  by_cases c1 : x1 ≤ n
  · by_cases c2 : n ≤ x2
    · rw [decide_eq_true c1, decide_eq_true c2]
      go_enter Tryz.func85, Tryz.ntmps85
      go_wp2_with fail
      go_ret
      refine ⟨rfl, ?_⟩
      (repeat (first | with_reducible exact Bel.refl _ | with_reducible refine Bel.setCell ?_ (by first | exact Nat.le_refl _ | (dsimp only; omega)) _ | with_reducible refine Bel.alloc ?_ _ | with_reducible refine Bel.drew ?_ | with_reducible assumption | with_reducible refine Bel.trans ?_ (by assumption)))
    · rw [decide_eq_true c1, decide_eq_false c2]
      have c3 : decide (n ≤ x2) = false := decide_eq_false c2
      go_enter Tryz.func85, Tryz.ntmps85
      go_wp2_with fail
      go_ret
      refine ⟨rfl, ?_⟩
      (repeat (first | with_reducible exact Bel.refl _ | with_reducible refine Bel.setCell ?_ (by first | exact Nat.le_refl _ | (dsimp only; omega)) _ | with_reducible refine Bel.alloc ?_ _ | with_reducible refine Bel.drew ?_ | with_reducible assumption | with_reducible refine Bel.trans ?_ (by assumption)))
  · rw [decide_eq_false c1]
    have c3 : decide (x1 ≤ n) = false := decide_eq_false c1
    go_enter Tryz.func85, Tryz.ntmps85
    go_wp2_with fail
    go_ret
    refine ⟨rfl, ?_⟩
    (repeat (first | with_reducible exact Bel.refl _ | with_reducible refine Bel.setCell ?_ (by first | exact Nat.le_refl _ | (dsimp only; omega)) _ | with_reducible refine Bel.alloc ?_ _ | with_reducible refine Bel.drew ?_ | with_reducible assumption | with_reducible refine Bel.trans ?_ (by assumption)))
theorem idxN_any (c : Nat) (fv : Value) (w : World) : Calls Tryz.prog 116 #[.slice none 0 c, fv] w fun e w' => e = .returned (.int .i64 (-1)) ∧ w' = w := by
  go_enter Tryz.func116, Tryz.ntmps116
  go_wp2
  refine wp_loop_rounds 1 ?_
  rw [rounds_succ]
  go_wp2
  go_ret
  exact ⟨rfl, rfl⟩
theorem contN_any (c : Nat) (fv : Value) (w : World) : Calls Tryz.prog 84 #[.slice none 0 c, fv] w fun e w' => e = .returned (.bool false) ∧ w' = w := by
  have I := Lib.hid fun w => idxN_any c fv w
  go_enter Tryz.func84, Tryz.ntmps84
  go_wp2_with (go_at_call 116; refine (I.out _).mono ?_; rintro e W2 ⟨rfl, rfl⟩)
  go_ret
  exact ⟨rfl, rfl⟩
theorem cont_any (l : List Sp) (b off c : Nat) (n : Int) (h : Nat) (w : World) (hs : Sps w (some ⟨b, off, none⟩) l) (hb : b < w.heap.size) (hl : l.length ≤ 1000000) (hc : w.cell? ⟨h, 0, none⟩ = some (.int .i64 n)) (hh : h < w.heap.size) :
    Calls Tryz.prog 84 #[.slice (some ⟨b, off, none⟩) l.length c, .func (.func 85) #[] #[.pointer (some ⟨h, 0, none⟩)]] w fun e w' => e = .returned (.bool (smemB l n)) ∧ Bel w w' := by
  have eg : ∀ args w, (callFunc 85 args).run Tryz.prog w = .ok (.enter 85 args) w := enters_of Tryz.func85 (by kernel_rfl) rfl
  have k := AnyQ.slices_ContainsFunc Tryz.contS 2 Tryz.isAgg61 Tryz.sizeOf61 encS (fun _ => rfl) (fun s => decide (s.1 ≤ n) && decide (n ≤ s.2)) 85 #[.pointer (some ⟨h, 0, none⟩)] eg b off l.length c l w
    (fun W x hW => (hasP_any x n h W ((Bel.cells hW h 0 hh).trans hc) (Nat.lt_of_lt_of_le hh (Bel.size hW))).mono fun e w' ⟨he, hb'⟩ => ⟨he, Bel.trans hW hb'⟩)
    (Nat.le_refl _) (by omega) hb (fun j hj i v hv => by
      obtain ⟨b', off', e, _, hat⟩ := hs (by omega)
      cases e
      obtain ⟨a0, a1⟩ := hat j l[j]! (by rw [getElem!_pos l j hj]; exact List.getElem?_eq_getElem hj)
      generalize l[j]! = s at a0 a1 hv
      match i, hv with
      | 0, hv => simp only [encS, List.getElem?_cons_zero, Option.some.injEq] at hv; subst hv; exact a0
      | 1, hv => simp only [encS, List.getElem?_cons_succ, List.getElem?_cons_zero, Option.some.injEq] at hv; subst hv; exact a1)
  rw [List.take_length] at k
  exact k
theorem has_any (v : Value) (l : List Sp) (n : Int) (w : World) (h : SlS w v l) (hl : l.length ≤ 1000000) :
    Calls Tryz.prog 51 #[v, .int .i64 n] w fun e w' => e = .returned (.bool (smemB l n)) ∧ Bel w w' := by
  obtain ⟨A, c, rfl, hs, hc, hA⟩ := h
  rcases hA with ⟨rfl, rfl⟩ | ⟨b, off, rfl, hlt⟩
  · obtain rfl : l = [] := List.eq_nil_of_length_eq_zero (by omega)
    have C := Lib.hid fun fv w => contN_any 0 fv w
    clear hs
    go_enter Tryz.func51, Tryz.ntmps51
    go_wp2_with (go_at_call 84; refine (C.out _ _).mono ?_; rintro e W2 ⟨rfl, rfl⟩)
    go_ret
    refine ⟨rfl, ?_⟩
    (repeat (first | with_reducible exact Bel.refl _ | with_reducible refine Bel.setCell ?_ (by first | exact Nat.le_refl _ | (dsimp only; omega)) _ | with_reducible refine Bel.alloc ?_ _ | with_reducible refine Bel.drew ?_ | with_reducible assumption | with_reducible refine Bel.trans ?_ (by assumption)))
  · have C := Lib.hid fun w hs hb h hc hh => cont_any l b off c n h w hs hb hl hc hh
    have H := Lib.hid hs
    clear hs
    go_enter Tryz.func51, Tryz.ntmps51
    go_wp2_with (go_at_call 84; refine (C.out _ (H.out.keep ((Bel.refl _).alloc _)) (Nat.lt_of_lt_of_le hlt ((Bel.refl w).alloc _).size) w.heap.size (by simp [go_sem]) (by simp)).mono ?_; rintro e W2 ⟨rfl, hb2⟩)
    go_ret
    exact ⟨rfl, ((Bel.refl _).alloc _).trans hb2⟩
theorem wrapS {a : Int} (h : 0 ≤ a ∧ a ≤ 18446744073709551615) : IntKind.u64.wrap a = a := by simp [IntKind.wrap, IntKind.bits, IntKind.signed]; omega
def I64 (a : Int) : Prop := -9223372036854775808 ≤ a ∧ a ≤ 9223372036854775807
theorem distance_any (a b : Int) (w : World) (ha : I64 a) (hb : I64 b) :
    Calls Tryz.prog 104 #[.int .i64 a, .int .i64 b] w fun e w' => e = .returned (.int .u64 (dist a b)) ∧ Bel w w' := by
  by_cases h : a < b
  · have e1 : IntKind.u64.wrap (IntKind.u64.wrap b - IntKind.u64.wrap a) = dist a b := by rw [wrap_diff hb ha (by omega), dist, if_pos h]
    obtain ⟨d, hd⟩ : ∃ d, d = dist a b := ⟨_, rfl⟩
    rw [← hd] at e1 ⊢
    clear hd ha hb
    go_enter Tryz.func104, Tryz.ntmps104
    go_wp2_with fail
    go_ret
    exact ⟨rfl, Bel.refl _⟩
  · have e1 : IntKind.u64.wrap (IntKind.u64.wrap a - IntKind.u64.wrap b) = dist a b := by rw [wrap_diff ha hb (by omega), dist, if_neg h]
    obtain ⟨d, hd⟩ : ∃ d, d = dist a b := ⟨_, rfl⟩
    rw [← hd] at e1 ⊢
    clear hd ha hb
    go_enter Tryz.func104, Tryz.ntmps104
    go_wp2_with fail
    go_ret
    exact ⟨rfl, Bel.refl _⟩
end Go.Proofs.YtpmmbcobjibpeaaGreatDoor
