
import Derived.Test.YtdggbafpdjenmaaGreatDoorMtc
import Derived.Test.YtdggbafpdjenmaaGreatDoorMtc
import Derived.Test.YtdggbafpdjenmaaGreatDoorLay
import Derived.Shelf.SlicesQ.IndexFunc
namespace Go.Proofs.YtdggbafpdjenmaaGreatDoor
set_option linter.unusedSimpArgs false
set_option linter.unusedVariables false
open Go.RowKit Go.Lib
attribute [local go_sem ↓] eql_val neq_val eql_tst neq_tst

def encT (t : Tst) : List Value := [.int .i64 t.kind, .int .i64 t.low.kind, .int .i64 t.low.n, .int .i64 t.low.scale, .string t.low.text, .int .i64 t.low.num, .int .i64 t.high.kind, .int .i64 t.high.n, .int .i64 t.high.scale, .string t.high.text, .int .i64 t.high.num, .bool t.ol, .bool t.oh]
instance : Inhabited Tst := ⟨⟨0, ⟨0, 0, 0, ⟨#[]⟩, 0⟩, ⟨0, 0, 0, ⟨#[]⟩, 0⟩, false, false⟩⟩
/-! Tests: are some sound? -/
def usnd (any not : Bool) (l : List Tst) : Bool := if any then !not && decide (l.length = 0) else if l.length = 0 ∨ 8 < l.length then false else l.all tsnd
abbrev tsv (any not : Bool) (v : Value) : Value := .agg #[.bool any, .bool not, v]
theorem sound1_any (t : Tst) (ht : TOk t) (w : World) : Calls Tryz.prog 20 #[t.val] w fun e w' => e = .returned (.bool (!tsnd t)) ∧ Bel w w' := by
  have c := fun w => soundTest_any t ht w
  generalize tsnd t = q at c ⊢
  have C := Lib.hid c
  obtain ⟨k, ⟨a0, a1, a2, a3, a4⟩, ⟨b0, b1, b2, b3, b4⟩, x, y⟩ := t
  clear c ht
  go_enter Tryz.func20, Tryz.ntmps20
  go_wp2_with (go_at_call 21; refine (C.out _).mono ?_; rintro e W1 ⟨rfl, hb1⟩)
  go_ret
  refine ⟨rfl, ?_⟩
  (repeat (first | with_reducible exact Bel.refl _ | with_reducible refine Bel.setCell ?_ (by first | exact Nat.le_refl _ | (dsimp only; omega)) _ | with_reducible refine Bel.alloc ?_ _ | with_reducible refine Bel.drew ?_ | with_reducible assumption | with_reducible refine Bel.trans ?_ (by assumption)))
abbrev TO := {t : Tst // TOk t}
instance : Inhabited TO := ⟨⟨⟨0, ⟨0, 0, 0, ⟨#[]⟩, 0⟩, ⟨0, 0, 0, ⟨#[]⟩, 0⟩, false, false⟩, ⟨Nat.zero_le _, Nat.zero_le _⟩⟩⟩
theorem contT_any (l : List Tst) (b off c : Nat) (w : World) (hs : Tsts w (some ⟨b, off, none⟩) l) (hb : b < w.heap.size) (hl : l.length ≤ 8) (ht : ∀ t ∈ l, TOk t) :
    Calls Tryz.prog 19 #[.slice (some ⟨b, off, none⟩) l.length c, .func (.func 20) #[] #[]] w fun e w' => e = .returned (.bool (l.any fun t => !tsnd t)) ∧ Bel w w' := by
  have eg : ∀ args w, (callFunc 20 args).run Tryz.prog w = .ok (.enter 20 args) w := enters_of Tryz.func20 (by kernel_rfl) rfl
  obtain ⟨zs, hz⟩ : ∃ zs : List TO, zs.map Subtype.val = l := ⟨l.attach.map fun t => ⟨t.1, ht t.1 t.2⟩, by simp [List.map_map, Function.comp_def]⟩
  have hzl : zs.length = l.length := by rw [← hz, List.length_map]
  have k := AnyQ.slices_ContainsFunc Tryz.contT 13 Tryz.isAgg40 Tryz.sizeOf40 (fun t : TO => encT t.1) (fun _ => rfl) (fun t => !tsnd t.1) 20 #[] eg b off l.length c zs w
    (fun W x hW => (sound1_any x.1 x.2 W).mono fun e w' ⟨he, hb'⟩ => ⟨he, Bel.trans hW hb'⟩)
    (by omega) (by omega) hb (fun j hj i v hv => by
      obtain ⟨b', off', e, _, hat⟩ := hs (by omega)
      cases e
      obtain ⟨a0, a1, a2, a3, a4, a5, a6, a7, a8, a9, a10, a11, a12⟩ := hat j (zs[j]!).1 (by rw [getElem!_pos zs j hj, ← hz]; simp [hj])
      generalize (zs[j]!).1 = t at a0 a1 a2 a3 a4 a5 a6 a7 a8 a9 a10 a11 a12 hv
      match i, hv with
      | 0, hv => simp only [encT, List.getElem?_cons_zero, Option.some.injEq] at hv; subst hv; exact a0
      | 1, hv => simp only [encT, List.getElem?_cons_succ, List.getElem?_cons_zero, Option.some.injEq] at hv; subst hv; exact a1
      | 2, hv => simp only [encT, List.getElem?_cons_succ, List.getElem?_cons_zero, Option.some.injEq] at hv; subst hv; exact a2
      | 3, hv => simp only [encT, List.getElem?_cons_succ, List.getElem?_cons_zero, Option.some.injEq] at hv; subst hv; exact a3
      | 4, hv => simp only [encT, List.getElem?_cons_succ, List.getElem?_cons_zero, Option.some.injEq] at hv; subst hv; exact a4
      | 5, hv => simp only [encT, List.getElem?_cons_succ, List.getElem?_cons_zero, Option.some.injEq] at hv; subst hv; exact a5
      | 6, hv => simp only [encT, List.getElem?_cons_succ, List.getElem?_cons_zero, Option.some.injEq] at hv; subst hv; exact a6
      | 7, hv => simp only [encT, List.getElem?_cons_succ, List.getElem?_cons_zero, Option.some.injEq] at hv; subst hv; exact a7
      | 8, hv => simp only [encT, List.getElem?_cons_succ, List.getElem?_cons_zero, Option.some.injEq] at hv; subst hv; exact a8
      | 9, hv => simp only [encT, List.getElem?_cons_succ, List.getElem?_cons_zero, Option.some.injEq] at hv; subst hv; exact a9
      | 10, hv => simp only [encT, List.getElem?_cons_succ, List.getElem?_cons_zero, Option.some.injEq] at hv; subst hv; exact a10
      | 11, hv => simp only [encT, List.getElem?_cons_succ, List.getElem?_cons_zero, Option.some.injEq] at hv; subst hv; exact a11
      | 12, hv => simp only [encT, List.getElem?_cons_succ, List.getElem?_cons_zero, Option.some.injEq] at hv; subst hv; exact a12)
  rw [← hzl, List.take_length] at k
  rw [hzl] at k
  rw [← hz, List.any_map]
  rw [← hz, List.length_map] at k
  rw [List.length_map]
  exact k
def TsA (w : World) (A : Option Addr) (c : Nat) (l : List Tst) : Prop := (A = none ∧ c = 0 ∧ l = []) ∨ ∃ b off, A = some ⟨b, off, none⟩ ∧ b < w.heap.size
set_option maxRecDepth 100000 in
set_option maxHeartbeats 2000000 in
theorem usound_any (any not : Bool) (l : List Tst) (A : Option Addr) (c : Nat) (w : World) (hs : Tsts w A l) (hl : l.length ≤ 9223372036854775807) (ht : ∀ t ∈ l, TOk t) :
    Calls Tryz.prog 11 #[tsv any not (.slice A l.length c)] w fun e w' => e = .returned (.bool (usnd any not l)) ∧ Bel w w' := by
  have US := Lib.hid (show usnd any not l = if any then !not && decide (l.length = 0) else if l.length = 0 ∨ 8 < l.length then false else l.all tsnd from rfl)
  generalize usnd any not l = R at US ⊢
  have H := Lib.hid hs
  have HT := Lib.hid ht
  clear ht
  cases any with
  | true =>
    have hR : R = (!not && decide (l.length = 0)) := US.out.trans (if_pos rfl)
    subst hR
    clear US hs
    by_cases h0 : l.length = 0
    · rw [h0]
      cases not
      all_goals
        go_enter Tryz.func11, Tryz.ntmps11
        go_wp2_with fail
        go_ret
        refine ⟨rfl, ?_⟩
        (repeat (first | with_reducible exact Bel.refl _ | with_reducible refine Bel.setCell ?_ (by first | exact Nat.le_refl _ | (dsimp only; omega)) _ | with_reducible refine Bel.alloc ?_ _ | with_reducible refine Bel.drew ?_ | with_reducible assumption | with_reducible refine Bel.trans ?_ (by assumption)))
    · have e0 : ((l.length : Int) == 0) = false := beq_eq_false_iff_ne.2 (by omega)
      rw [decide_eq_false h0]
      cases not
      all_goals
        go_enter Tryz.func11, Tryz.ntmps11
        go_wp2_with fail
        go_ret
        refine ⟨rfl, ?_⟩
        (repeat (first | with_reducible exact Bel.refl _ | with_reducible refine Bel.setCell ?_ (by first | exact Nat.le_refl _ | (dsimp only; omega)) _ | with_reducible refine Bel.alloc ?_ _ | with_reducible refine Bel.drew ?_ | with_reducible assumption | with_reducible refine Bel.trans ?_ (by assumption)))
  | false =>
    have US := Lib.hid (US.out.trans (if_neg (by simp)))
    by_cases h0 : l.length = 0
    · have hR : R = false := US.out.trans (if_pos (.inl h0))
      subst hR
      rw [h0]
      clear US hs
      go_enter Tryz.func11, Tryz.ntmps11
      go_wp2_with fail
      go_ret
      refine ⟨rfl, ?_⟩
      (repeat (first | with_reducible exact Bel.refl _ | with_reducible refine Bel.setCell ?_ (by first | exact Nat.le_refl _ | (dsimp only; omega)) _ | with_reducible refine Bel.alloc ?_ _ | with_reducible refine Bel.drew ?_ | with_reducible assumption | with_reducible refine Bel.trans ?_ (by assumption)))
    · have e0 : ((l.length : Int) == 0) = false := beq_eq_false_iff_ne.2 (by omega)
      by_cases h8 : 8 < l.length
      · have hR : R = false := US.out.trans (if_pos (.inr h8))
        subst hR
        have e8 : (8 : Int) < l.length := by omega
        clear US hs
        go_enter Tryz.func11, Tryz.ntmps11
        go_wp2_with fail
        go_ret
        refine ⟨rfl, ?_⟩
        (repeat (first | with_reducible exact Bel.refl _ | with_reducible refine Bel.setCell ?_ (by first | exact Nat.le_refl _ | (dsimp only; omega)) _ | with_reducible refine Bel.alloc ?_ _ | with_reducible refine Bel.drew ?_ | with_reducible assumption | with_reducible refine Bel.trans ?_ (by assumption)))
      · have hR : R = l.all tsnd := US.out.trans (if_neg (by omega))
        have e8 : ¬ (8 : Int) < l.length := by omega
        obtain ⟨b, off, rfl, hlt, _⟩ := hs (by omega)
        have hq : (l.any fun t => !tsnd t) = !R := by rw [hR, List.not_all_eq_any_not]
        have C := Lib.hid fun W hW => contT_any l b off c W (H.out.keep hW) (Nat.lt_of_lt_of_le hlt hW.size) (by omega) HT.out
        rw [hq] at C
        clear US hs hR hq
        go_enter Tryz.func11, Tryz.ntmps11
        go_wp2_with (go_at_call 19; refine (C.out _ ((Bel.refl w).alloc _)).mono ?_; rintro e W1 ⟨rfl, hb1⟩)
        go_ret
        cases R
        all_goals
          refine ⟨rfl, ?_⟩
          (repeat (first | with_reducible exact Bel.refl _ | with_reducible refine Bel.setCell ?_ (by first | exact Nat.le_refl _ | (dsimp only; omega)) _ | with_reducible refine Bel.alloc ?_ _ | with_reducible refine Bel.drew ?_ | with_reducible assumption | with_reducible refine Bel.trans ?_ (by assumption)))
end Go.Proofs.YtdggbafpdjenmaaGreatDoor
