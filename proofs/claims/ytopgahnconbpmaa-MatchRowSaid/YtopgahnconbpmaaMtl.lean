import Derived.Test.YtopgahnconbpmaaMtk
namespace Go.Proofs.Ytopgahnconbpmaa
set_option linter.unusedSimpArgs false
set_option linter.unusedVariables false
open Go.RowKit Go.Lib
attribute [local go_sem ↓] eql_val neq_val eql_tst neq_tst

/-! The laws of match: awake, One, All. -/
def wT : Tst := ⟨2, ⟨4, 0, 0, ⟨#[]⟩, 5⟩, ⟨0, 0, 0, ⟨#[]⟩, 0⟩, false, false⟩
def wV (n : Int) : Val := ⟨4, 0, 0, ⟨#[]⟩, n⟩
theorem wT_ok : wT.Ok := ⟨by constructor <;> decide, ⟨by constructor <;> decide, by constructor <;> decide, by constructor <;> decide, Nat.zero_le _, by constructor <;> decide⟩, ⟨by constructor <;> decide, by constructor <;> decide, by constructor <;> decide, Nat.zero_le _, by constructor <;> decide⟩⟩
theorem cels_two (w : World) (x y : Cel) {n : Nat} (hn : n = w.heap.size) : Lists encC 3 (w.alloc (.cells #[.bool x.any, .bool x.not, .slice x.A x.l.length x.c, .bool y.any, .bool y.not, .slice y.A y.l.length y.c] 34)) (some ⟨n, 0, none⟩) [x, y] := fun _ => by
  subst hn
  refine ⟨_, 0, rfl, by simp, fun i u hu => ?_⟩
  match i, hu with
  | 0, hu =>
    simp only [List.getElem?_cons_zero, Option.some.injEq] at hu
    subst hu
    intro j v hv
    match j, hv with
    | 0, hv => simp only [encC, List.getElem?_cons_zero, Option.some.injEq] at hv; subst hv; simp [go_sem]
    | 1, hv => simp only [encC, List.getElem?_cons_succ, List.getElem?_cons_zero, Option.some.injEq] at hv; subst hv; simp [go_sem]
    | 2, hv => simp only [encC, List.getElem?_cons_succ, List.getElem?_cons_zero, Option.some.injEq] at hv; subst hv; simp [go_sem]
  | 1, hu =>
    simp only [List.getElem?_cons_succ, List.getElem?_cons_zero, Option.some.injEq] at hu
    subst hu
    intro j v hv
    match j, hv with
    | 0, hv => simp only [encC, List.getElem?_cons_zero, Option.some.injEq] at hv; subst hv; simp [go_sem]
    | 1, hv => simp only [encC, List.getElem?_cons_succ, List.getElem?_cons_zero, Option.some.injEq] at hv; subst hv; simp [go_sem]
    | 2, hv => simp only [encC, List.getElem?_cons_succ, List.getElem?_cons_zero, Option.some.injEq] at hv; subst hv; simp [go_sem]
theorem valm_two (w : World) (v u : Val) {n : Nat} (hn : n = w.heap.size) : Vals (w.alloc (.cells #[.int .i64 v.kind, .int .i64 v.n, .int .i64 v.scale, .string v.text, .int .i64 v.num, .int .i64 u.kind, .int .i64 u.n, .int .i64 u.scale, .string u.text, .int .i64 u.num] 25)) (some ⟨n, 0, none⟩) [v, u] := fun _ => by
  subst hn
  refine ⟨_, 0, rfl, by simp, fun i u hu => ?_⟩
  match i, hu with
  | 0, hu =>
    simp only [List.getElem?_cons_zero, Option.some.injEq] at hu
    subst hu
    simp [ValAt, go_sem]
  | 1, hu =>
    simp only [List.getElem?_cons_succ, List.getElem?_cons_zero, Option.some.injEq] at hu
    subst hu
    simp [ValAt, go_sem]
theorem wAll (n : Int) (b : Bool) (hv : vsnd (wV n) = true) (hm : mone wT (wV n) = b) (x : Nat) (W : World) (h : Tsts W (some ⟨x, 0, none⟩) [wT]) :
    Calls Try.prog 12 #[tsv false false (.slice (some ⟨x, 0, none⟩) 1 1), (wV n).val] W fun e w' => e = .returned (.tuple #[.bool b, .int .i64 0]) ∧ Bel W w' := by
  have k := mAll_any false false [wT] (some ⟨x, 0, none⟩) 1 (wV n) W h (by simp) (fun t ht => by simp at ht; subst ht; exact tok_of wT_ok) (Nat.zero_le _)
  have e : mallV false false [wT] (wV n) = .tuple #[.bool b, .int .i64 0] := by
    unfold mallV
    rw [if_pos ⟨by decide +kernel, hv⟩]
    simp [mall, hm]
  rw [e] at k
  exact k
theorem wRow (x : Nat) (W0 W : World) (h : Tsts W0 (some ⟨x, 0, none⟩) [wT]) (hW : Bel W0 W) (n m : Nat) (hn : n = W.heap.size) (hm : m = W.heap.size + 1) :
    Calls Try.prog 14 #[.slice (some ⟨n, 0, none⟩) 2 2, .slice (some ⟨m, 0, none⟩) 2 2]
      ((W.alloc (.cells #[.bool false, .bool false, .slice (some ⟨x, 0, none⟩) 1 1, .bool true, .bool false, .slice none 0 0] 34)).alloc (.cells #[.int .i64 4, .int .i64 0, .int .i64 0, .string ⟨#[]⟩, .int .i64 3, .int .i64 0, .int .i64 0, .int .i64 0, .string ⟨#[]⟩, .int .i64 0] 25))
      fun e w' => e = .returned (.tuple #[.bool true, .int .i64 0]) ∧ Bel W w' := by
  have b1 : Bel W (W.alloc (.cells #[.bool false, .bool false, .slice (some ⟨x, 0, none⟩) 1 1, .bool true, .bool false, .slice none 0 0] 34)) := (Bel.refl W).alloc _
  have b2 := b1.alloc (.cells #[.int .i64 4, .int .i64 0, .int .i64 0, .string ⟨#[]⟩, .int .i64 3, .int .i64 0, .int .i64 0, .int .i64 0, .string ⟨#[]⟩, .int .i64 0] 25)
  have H1 := (cels_two W ⟨false, false, some ⟨x, 0, none⟩, 1, [wT]⟩ ⟨true, false, none, 0, []⟩ hn).keep ((Bel.refl _).alloc (.cells #[.int .i64 4, .int .i64 0, .int .i64 0, .string ⟨#[]⟩, .int .i64 3, .int .i64 0, .int .i64 0, .int .i64 0, .string ⟨#[]⟩, .int .i64 0] 25))
  have H2 := valm_two (W.alloc (.cells #[.bool false, .bool false, .slice (some ⟨x, 0, none⟩) 1 1, .bool true, .bool false, .slice none 0 0] 34)) (wV 3) ⟨0, 0, 0, ⟨#[]⟩, 0⟩ (n := m) (by simp [hm])
  have k := row_any [⟨false, false, some ⟨x, 0, none⟩, 1, [wT]⟩, ⟨true, false, none, 0, []⟩] (some ⟨n, 0, none⟩) 2 [wV 3, ⟨0, 0, 0, ⟨#[]⟩, 0⟩] (some ⟨m, 0, none⟩) 2 _ H1 (by simp) (fun y hy => by
    simp at hy
    rcases hy with rfl | rfl
    · exact ⟨(h.keep hW).keep b2, by simp [maxLen], fun e => (by cases e), fun t ht => by simp at ht; subst ht; exact wT_ok⟩
    · exact ⟨fun h => absurd h (by simp), by simp, fun _ => ⟨rfl, rfl⟩, by simp⟩) H2 (by simp) (fun v hv => by
    simp at hv
    rcases hv with rfl | rfl <;> exact Nat.zero_le _)
  have e : rowV [⟨false, false, some ⟨x, 0, none⟩, 1, [wT]⟩, ⟨true, false, none, 0, []⟩] [wV 3, ⟨0, 0, 0, ⟨#[]⟩, 0⟩] = .tuple #[.bool true, .int .i64 0] := by
    unfold rowV
    rw [if_neg (by simp)]
    have r : rsnd [⟨false, false, some ⟨x, 0, none⟩, 1, [wT]⟩, ⟨true, false, none, 0, []⟩] [wV 3, ⟨0, 0, 0, ⟨#[]⟩, 0⟩] = true := by
      simp only [rsnd, List.all_cons, List.all_nil]
      decide +kernel
    rw [if_pos r]
    have r2 : mrow [⟨false, false, some ⟨x, 0, none⟩, 1, [wT]⟩, ⟨true, false, none, 0, []⟩] [wV 3, ⟨0, 0, 0, ⟨#[]⟩, 0⟩] = true := by
      simp only [mrow]
      decide +kernel
    rw [r2]
  rw [e] at k
  exact k.mono fun e w' ⟨he, hb⟩ => ⟨he, b2.trans hb⟩
set_option maxRecDepth 100000 in
set_option maxHeartbeats 4000000 in
theorem awake_any (w : World) : Calls Try.prog 10 #[] w fun e w' => e = .returned (.bool true) ∧ Bel w w' := by
  have C1 := Lib.hid fun W h => wAll 4 true (by decide +kernel) (by decide +kernel) w.heap.size W h
  have C2 := Lib.hid fun W h => wAll 5 false (by decide +kernel) (by decide +kernel) w.heap.size W h
  have C3 := Lib.hid fun W0 W h hW => wRow w.heap.size W0 W h hW
  simp only [wV] at C1 C2
  go_enter Try.func10, Try.ntmps10
  go_upto_region 2 with fail
  refine under_name (by (first | exact ((Bel.refl w).alloc _).alloc _ | ((repeat (first | with_reducible exact Bel.refl _ | with_reducible refine Bel.setCell ?_ (by first | exact Nat.le_refl _ | (dsimp only; omega)) _ | with_reducible refine Bel.alloc ?_ _ | with_reducible refine Bel.drew ?_ | with_reducible assumption | with_reducible refine Bel.trans ?_ (by assumption)))))) fun W hc hf hz hbW => ?_
  have n0 : W.cell? ⟨w.heap.size + 1, 0, none⟩ = some (.bool false) := by simp [hc, go_sem]
  have n1 : W.cell? ⟨w.heap.size + 1, 1, none⟩ = some (.bool false) := by simp [hc, go_sem]
  have n2 : W.cell? ⟨w.heap.size + 1, 2, none⟩ = some (.slice (some ⟨w.heap.size, 0, none⟩) 1 1) := by simp [hc, go_sem]
  have z0 : w.heap.size < W.heap.size := by simp [hz] <;> omega
  have z1 : w.heap.size + 1 < W.heap.size := by simp [hz] <;> omega
  have HT := Lib.hid (show Tsts W (some ⟨w.heap.size, 0, none⟩) [wT] from fun _ => ⟨_, 0, rfl, z0, fun i u hu => by
    match i, hu with
    | 0, hu =>
      simp only [List.getElem?_cons_zero, Option.some.injEq] at hu
      subst hu
      simp [TstAt, wT, hc, go_sem]⟩)
  clear hc hf hz
  generalize w.heap.size = B at *
  go_wp2_with (first
    | (go_at_call 12; with_reducible refine Calls.mono (C1.out _ HT.out) ?_; rintro e W1 ⟨rfl, hb1⟩; have hc1 := hb1.cells; have hz1 := Nat.lt_of_lt_of_le z1 hb1.size)
    | (go_at_call 12; with_reducible refine Calls.mono (C2.out _ (HT.out.keep hb1)) ?_; rintro e W2 ⟨rfl, hb2⟩; have hc2 := hb2.cells; have hz2 := Nat.lt_of_lt_of_le hz1 hb2.size)
    | (go_at_call 14; refine Calls.mono (C3.out _ _ HT.out (hb1.trans hb2) _ _ (by simp) (by simp)) ?_; rintro e W3 ⟨rfl, hb3⟩))
  go_ret
  exact ⟨rfl, ((hbW.trans hb1).trans hb2).trans hb3⟩
set_option maxRecDepth 100000 in
set_option maxHeartbeats 4000000 in
theorem law_One (t : Tst) (v : Val) (ht : TOk t) (hv : v.text.size ≤ 9223372036854775807) (w : World) : Calls Try.prog 3 #[t.val, v.val] w fun e w' => e = .returned (.bool true) ∧ Bel w w' := by
  have C1 := Lib.hid fun W => mOne_any t v ht hv W
  have C2 := Lib.hid (show ∀ (W : World) (n : Nat), n = W.heap.size → Calls Try.prog 9 #[tsv false false (.slice (some ⟨n, 0, none⟩) 1 1), v.val] (W.alloc (.cells #[.int .i64 t.kind, .int .i64 t.low.kind, .int .i64 t.low.n, .int .i64 t.low.scale, .string t.low.text, .int .i64 t.low.num, .int .i64 t.high.kind, .int .i64 t.high.n, .int .i64 t.high.scale, .string t.high.text, .int .i64 t.high.num, .bool t.ol, .bool t.oh] 27)) fun e w' => e = .returned (.bool (tsnd t && vsnd v)) ∧ Bel W w' from fun W n hn => by
    have k := may_any false false [t] (some ⟨n, 0, none⟩) 1 v _ (tst_one W t hn) (by simp) (fun u hu => by simp at hu; subst hu; exact ht) hv
    have e : usnd false false [t] = tsnd t := by simp [usnd]
    rw [e] at k
    exact k.mono fun e w' ⟨he, hb⟩ => ⟨he, (Bel.alloc (Bel.refl W) _).trans hb⟩)
  have C3 := Lib.hid fun W => awake_any W
  have C4 := Lib.hid (show tsnd t = true → vsnd v = true → ∀ W, Calls Try.prog 11 #[t.val, v.val] W fun e w' => e = .returned (.bool (mone t v)) ∧ Bel W w' from fun h1 h2 W => holds_any t v ht hv h1 h2 W)
  have OV := Lib.hid (show oneV t v = if tsnd t = true ∧ vsnd v = true then .tuple #[.bool (mone t v), .int .i64 0] else .tuple #[.bool false, .int .i64 2] from rfl)
  generalize oneV t v = R at OV C1
  generalize tsnd t = q1 at C2 C4 OV
  generalize vsnd v = q2 at C2 C4 OV
  generalize mone t v = m at C4 OV
  obtain ⟨k, ⟨a0, a1, a2, a3, a4⟩, ⟨b0, b1, b2, b3, b4⟩, x, y⟩ := t
  obtain ⟨v0, v1, v2, v3, v4⟩ := v
  clear ht hv
  by_cases hq : q1 = true ∧ q2 = true
  · obtain ⟨rfl, rfl⟩ := hq
    obtain rfl : R = .tuple #[.bool m, .int .i64 0] := OV.out.trans (if_pos ⟨rfl, rfl⟩)
    have O4 := Lib.hid (C4.out rfl rfl)
    clear C4
    clear OV
    go_enter Try.func3, Try.ntmps3
    go_wp2_with (first
      | (go_at_call 8; refine Calls.mono (C1.out _) ?_; rintro e W1 ⟨rfl, hb1⟩; have hc1 := hb1.cells; have hz1 := hb1.lt2)
      | (go_at_call 9; refine Calls.mono (C2.out _ _ (by simp)) ?_; rintro e W2 ⟨rfl, hb2⟩; have hc2 := hb2.cells; have hz2 := hb2.size; have hz3 := Nat.lt_of_lt_of_le hz1.1 hz2; have hz4 := Nat.lt_of_lt_of_le hz1.2 hz2)
      | (go_at_call 10; refine Calls.mono (C3.out _) ?_; rintro e W3 ⟨rfl, hb3⟩; have hc3 := hb3.cells; have hz5 := hb3.size; have hz6 := Nat.lt_of_lt_of_le hz3 hz5; have hz7 := Nat.lt_of_lt_of_le hz4 hz5)
      | (go_at_call 11; refine Calls.mono (O4.out _) ?_; rintro e W4 ⟨rfl, hb4⟩))
    go_ret
    refine ⟨by simp, ?_⟩
    (repeat (first | with_reducible exact Bel.refl _ | with_reducible refine Bel.setCell ?_ (by first | exact Nat.le_refl _ | (dsimp only; omega)) _ | with_reducible refine Bel.alloc ?_ _ | with_reducible refine Bel.drew ?_ | with_reducible assumption | with_reducible refine Bel.trans ?_ (by assumption)))
  · obtain rfl : R = .tuple #[.bool false, .int .i64 2] := OV.out.trans (if_neg hq)
    have e : (q1 && q2) = false := by cases q1 <;> cases q2 <;> simp_all
    rw [e] at C2
    clear OV C4 e hq
    go_enter Try.func3, Try.ntmps3
    go_wp2_with (first
      | (go_at_call 8; refine Calls.mono (C1.out _) ?_; rintro e W1 ⟨rfl, hb1⟩; have hc1 := hb1.cells; have hz1 := hb1.lt2)
      | (go_at_call 9; refine Calls.mono (C2.out _ _ (by simp)) ?_; rintro e W2 ⟨rfl, hb2⟩; have hc2 := hb2.cells)
      | (go_at_call 10; refine Calls.mono (C3.out _) ?_; rintro e W3 ⟨rfl, hb3⟩))
    go_ret
    refine ⟨rfl, ?_⟩
    (repeat (first | with_reducible exact Bel.refl _ | with_reducible refine Bel.setCell ?_ (by first | exact Nat.le_refl _ | (dsimp only; omega)) _ | with_reducible refine Bel.alloc ?_ _ | with_reducible refine Bel.drew ?_ | with_reducible assumption | with_reducible refine Bel.trans ?_ (by assumption)))
set_option maxRecDepth 100000 in
set_option maxHeartbeats 4000000 in
theorem law_All (x : Cel) (v : Val) (w : World) (hx : CelOk w x) (hv : v.text.size ≤ 9223372036854775807) : Calls Try.prog 4 #[x.val, v.val] w fun e w' => e = .returned (.bool true) ∧ Bel w w' := by
  have C1 := Lib.hid fun W (hW : Bel w W) => mAll_any x.any x.not x.l x.A x.c v W (hx.tsts.keep hW) hx.len (fun t h => tok_of (hx.ok t h)) hv
  have C2 := Lib.hid fun W (hW : Bel w W) => may_any x.any x.not x.l x.A x.c v W (hx.tsts.keep hW) hx.len (fun t h => tok_of (hx.ok t h)) hv
  have C3 := Lib.hid fun W => awake_any W
  have C4 := Lib.hid (show usnd x.any x.not x.l = true → vsnd v = true → ∀ W, Bel w W → Calls Try.prog 13 #[x.val, v.val] W fun e w' => e = .returned (.bool (mall x.any x.not x.l v)) ∧ Bel W w' from fun h1 h2 W hW => rall_any x.any x.not x.l x.A x.c v W (hx.tsts.keep hW) (fun t h => tok_of (hx.ok t h)) h1 hv h2)
  have OV := Lib.hid (show mallV x.any x.not x.l v = if usnd x.any x.not x.l = true ∧ vsnd v = true then .tuple #[.bool (mall x.any x.not x.l v), .int .i64 0] else .tuple #[.bool false, .int .i64 2] from rfl)
  generalize mallV x.any x.not x.l v = R at OV C1
  generalize usnd x.any x.not x.l = q1 at C2 C4 OV
  generalize vsnd v = q2 at C2 C4 OV
  generalize mall x.any x.not x.l v = m at C4 OV
  obtain ⟨any, not, A, c, l⟩ := x
  obtain ⟨v0, v1, v2, v3, v4⟩ := v
  clear hx hv
  by_cases hq : q1 = true ∧ q2 = true
  · obtain ⟨rfl, rfl⟩ := hq
    obtain rfl : R = .tuple #[.bool m, .int .i64 0] := OV.out.trans (if_pos ⟨rfl, rfl⟩)
    have O4 := Lib.hid (C4.out rfl rfl)
    clear C4
    clear OV
    go_enter Try.func4, Try.ntmps4
    go_wp2_with (first
      | (go_at_call 12; refine Calls.mono (C1.out _ (((Bel.refl w).alloc _).alloc _)) ?_; rintro e W1 ⟨rfl, hb1⟩; have hc1 := hb1.cells; have hz1 := hb1.lt2; replace hb1 := (((Bel.refl w).alloc _).alloc _).trans hb1)
      | (go_at_call 9; refine Calls.mono (C2.out _ hb1) ?_; rintro e W2 ⟨rfl, hb2⟩; have hc2 := hb2.cells; have hz2 := hb2.size; have hz3 := Nat.lt_of_lt_of_le hz1.1 hz2; have hz4 := Nat.lt_of_lt_of_le hz1.2 hz2)
      | (go_at_call 10; refine Calls.mono (C3.out _) ?_; rintro e W3 ⟨rfl, hb3⟩; have hc3 := hb3.cells; have hz5 := hb3.size; have hz6 := Nat.lt_of_lt_of_le hz3 hz5; have hz7 := Nat.lt_of_lt_of_le hz4 hz5)
      | (go_at_call 13; refine Calls.mono (O4.out _ ((hb1.trans hb2).trans hb3)) ?_; rintro e W4 ⟨rfl, hb4⟩))
    go_ret
    exact ⟨by simp, ((hb1.trans hb2).trans hb3).trans hb4⟩
  · obtain rfl : R = .tuple #[.bool false, .int .i64 2] := OV.out.trans (if_neg hq)
    have e : (q1 && q2) = false := by cases q1 <;> cases q2 <;> simp_all
    rw [e] at C2
    clear OV C4 e hq
    go_enter Try.func4, Try.ntmps4
    go_wp2_with (first
      | (go_at_call 12; refine Calls.mono (C1.out _ (((Bel.refl w).alloc _).alloc _)) ?_; rintro e W1 ⟨rfl, hb1⟩; have hc1 := hb1.cells; have hz1 := hb1.lt2; replace hb1 := (((Bel.refl w).alloc _).alloc _).trans hb1)
      | (go_at_call 9; refine Calls.mono (C2.out _ hb1) ?_; rintro e W2 ⟨rfl, hb2⟩; have hc2 := hb2.cells)
      | (go_at_call 10; refine Calls.mono (C3.out _) ?_; rintro e W3 ⟨rfl, hb3⟩))
    go_ret
    exact ⟨rfl, (hb1.trans hb2).trans hb3⟩
end Go.Proofs.Ytopgahnconbpmaa
