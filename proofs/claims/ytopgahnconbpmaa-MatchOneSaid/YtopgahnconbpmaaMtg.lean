import Derived.Test.YtopgahnconbpmaaMte
import Derived.Test.YtopgahnconbpmaaMtd
namespace Go.Proofs.Ytopgahnconbpmaa
set_option linter.unusedSimpArgs false
set_option linter.unusedVariables false
open Go.RowKit Go.Lib
attribute [local go_sem ↓] eql_val neq_val eql_tst neq_tst

/-! Match: sound, One. -/
theorem tst_one (w : World) (t : Tst) {n : Nat} (hn : n = w.heap.size) : Tsts (w.alloc (.cells #[.int .i64 t.kind, .int .i64 t.low.kind, .int .i64 t.low.n, .int .i64 t.low.scale, .string t.low.text, .int .i64 t.low.num, .int .i64 t.high.kind, .int .i64 t.high.n, .int .i64 t.high.scale, .string t.high.text, .int .i64 t.high.num, .bool t.ol, .bool t.oh] 27)) (some ⟨n, 0, none⟩) [t] := fun _ => by
  subst hn
  refine ⟨_, 0, rfl, by simp, fun i u hu => ?_⟩
  match i, hu with
  | 0, hu =>
    simp only [List.getElem?_cons_zero, Option.some.injEq] at hu
    subst hu
    simp [TstAt, go_sem]
theorem valm_one (w : World) (v : Val) {n : Nat} (hn : n = w.heap.size) : Vals (w.alloc (.cells #[.int .i64 v.kind, .int .i64 v.n, .int .i64 v.scale, .string v.text, .int .i64 v.num] 25)) (some ⟨n, 0, none⟩) [v] := fun _ => by
  subst hn
  refine ⟨_, 0, rfl, by simp, fun i u hu => ?_⟩
  match i, hu with
  | 0, hu =>
    simp only [List.getElem?_cons_zero, Option.some.injEq] at hu
    subst hu
    simp [ValAt, go_sem]
set_option maxRecDepth 100000 in
set_option maxHeartbeats 2000000 in
theorem msound_any (vs : List Val) (A : Option Addr) (c : Nat) (w : World) (hv : Vals w A vs) (hl : (vs.length : Int) ≤ 9223372036854775807) (ho : ∀ v ∈ vs, v.text.size ≤ 9223372036854775807) :
    Calls Try.prog 18 #[.slice A vs.length c] w fun e w' => e = .returned (.bool (vs.all vsnd)) ∧ Bel w w' := by
  obtain ⟨R, hR⟩ : ∃ R, R = vs.all vsnd := ⟨_, rfl⟩
  rw [← hR]
  have RR := Lib.hid hR
  have HO := Lib.hid ho
  clear ho hR
  go_enter Try.func18, Try.ntmps18
  go_wp2_with fail
  go_loopg [7] vs.length (fun g i wr => ∃ k : Nat, i = .int .i64 k ∧ k ≤ vs.length ∧ Hid ((vs.take k).all vsnd = true ∧ g = vs.length - k) ∧ Bel w wr)
  case atStart => exact ⟨0, rfl, Nat.zero_le _, ⟨rfl, rfl⟩, Bel.refl _⟩
  case round =>
    obtain ⟨k, rfl, hk, hh, hb⟩ := hrel
    by_cases hp : k < vs.length
    · obtain ⟨b, off, rfl, hlt, hat⟩ := hv (by omega)
      obtain ⟨v, hvk⟩ : ∃ v, vs[k]? = some v := ⟨_, List.getElem?_eq_getElem hp⟩
      have ha := (hat k v hvk).keep hb hlt
      have hmem : v ∈ vs := List.mem_of_getElem? hvk
      have cc := fun w => vsound_any v (HO.out v hmem) w
      have HC := Lib.hid (show vsnd v = true → (vs.take (k + 1)).all vsnd = true from fun h => by
        rw [List.take_add_one, hvk, List.all_append, hh.out.1]; simp [h])
      have HF := Lib.hid (show vsnd v = false → R = false from fun h => by
        rw [RR.out]
        cases hq : vs.all vsnd with
        | false => rfl
        | true => rw [List.all_eq_true] at hq; rw [hq v hmem] at h; cases h)
      obtain ⟨q, hq⟩ : ∃ q, q = vsnd v := ⟨_, rfl⟩
      rw [← hq] at cc HC HF
      have C := Lib.hid cc
      obtain ⟨vk, vn, vsc, vt, vm⟩ := v
      obtain ⟨a0, a1, a2, a3, a4⟩ := ha
      have i1 : (k : Int) < vs.length := by omega
      clear hv hat hvk cc hq hmem
      cases q with
      | false =>
        obtain rfl : R = false := HF.out rfl
        go_wp2_with (go_at_call 29; refine (C.out _).mono ?_; rintro e W1 ⟨rfl, hb1⟩)
        go_ret
        refine ⟨rfl, ?_⟩
        (repeat (first | with_reducible exact Bel.refl _ | with_reducible refine Bel.setCell ?_ (by first | exact Nat.le_refl _ | (dsimp only; omega)) _ | with_reducible refine Bel.alloc ?_ _ | with_reducible refine Bel.drew ?_ | with_reducible assumption | with_reducible refine Bel.trans ?_ (by assumption)))
      | true =>
        go_wp2_with (go_at_call 29; refine (C.out _).mono ?_; rintro e W1 ⟨rfl, hb1⟩)
        go_roundg (vs.length - (k + 1))
        case measure => have := hh.out.2; omega
        case rel =>
          refine ⟨k + 1, by go_num, by omega, ⟨HC.out (by trivial), rfl⟩, ?_⟩
          (repeat (first | with_reducible exact Bel.refl _ | with_reducible refine Bel.setCell ?_ (by first | exact Nat.le_refl _ | (dsimp only; omega)) _ | with_reducible refine Bel.alloc ?_ _ | with_reducible refine Bel.drew ?_ | with_reducible assumption | with_reducible refine Bel.trans ?_ (by assumption)))
    · obtain rfl : k = vs.length := by omega
      have h := hh.out.1
      rw [List.take_length] at h
      obtain rfl : R = true := RR.out.trans h
      go_wp2_with fail
      go_ret
      exact ⟨rfl, hb⟩
def oneV (t : Tst) (v : Val) : Value := if tsnd t = true ∧ vsnd v = true then .tuple #[.bool (mone t v), .int .i64 0] else .tuple #[.bool false, .int .i64 2]
set_option maxRecDepth 100000 in
set_option maxHeartbeats 4000000 in
theorem mOne_any (t : Tst) (v : Val) (ht : TOk t) (hv : v.text.size ≤ 9223372036854775807) (w : World) : Calls Try.prog 8 #[t.val, v.val] w fun e w' => e = .returned (oneV t v) ∧ Bel w w' := by
  have US := Lib.hid (show ∀ (W : World) (n : Nat), n = W.heap.size → Calls Try.prog 17 #[tsv false false (.slice (some ⟨n, 0, none⟩) 1 1)] (W.alloc (.cells #[.int .i64 t.kind, .int .i64 t.low.kind, .int .i64 t.low.n, .int .i64 t.low.scale, .string t.low.text, .int .i64 t.low.num, .int .i64 t.high.kind, .int .i64 t.high.n, .int .i64 t.high.scale, .string t.high.text, .int .i64 t.high.num, .bool t.ol, .bool t.oh] 27)) fun e w' => e = .returned (.bool (tsnd t)) ∧ Bel W w' from fun W n hn => by
    have k := usound_any false false [t] (some ⟨n, 0, none⟩) 1 _ (tst_one W t hn) (by simp) (fun u hu => by simp at hu; subst hu; exact ht)
    have e : usnd false false [t] = tsnd t := by simp [usnd]
    rw [e] at k
    exact k.mono fun e w' ⟨he, hb⟩ => ⟨he, (Bel.alloc (Bel.refl W) _).trans hb⟩)
  have MS := Lib.hid (show ∀ (W : World) (n : Nat), n = W.heap.size → Calls Try.prog 18 #[.slice (some ⟨n, 0, none⟩) 1 1] (W.alloc (.cells #[.int .i64 v.kind, .int .i64 v.n, .int .i64 v.scale, .string v.text, .int .i64 v.num] 25)) fun e w' => e = .returned (.bool (vsnd v)) ∧ Bel W w' from fun W n hn => by
    have k := msound_any [v] (some ⟨n, 0, none⟩) 1 _ (valm_one W v hn) (by simp) (fun u hu => by simp at hu; subst hu; exact hv)
    have e : [v].all vsnd = vsnd v := by simp
    rw [e] at k
    exact k.mono fun e w' ⟨he, hb⟩ => ⟨he, (Bel.alloc (Bel.refl W) _).trans hb⟩)
  have ON := Lib.hid (show tsnd t = true → vsnd v = true → ∀ W, Calls Try.prog 19 #[t.val, v.val] W fun e w' => e = .returned (.bool (mone t v)) ∧ Bel W w' from fun h1 h2 W => one_any t v ht hv h1 h2 W)
  have OV := Lib.hid (show oneV t v = if tsnd t = true ∧ vsnd v = true then .tuple #[.bool (mone t v), .int .i64 0] else .tuple #[.bool false, .int .i64 2] from rfl)
  generalize oneV t v = R at OV ⊢
  generalize tsnd t = q1 at US ON OV
  generalize vsnd v = q2 at MS ON OV
  generalize mone t v = m at ON OV
  obtain ⟨k, ⟨a0, a1, a2, a3, a4⟩, ⟨b0, b1, b2, b3, b4⟩, x, y⟩ := t
  obtain ⟨v0, v1, v2, v3, v4⟩ := v
  clear ht hv
  cases q1 with
  | false =>
    obtain rfl : R = .tuple #[.bool false, .int .i64 2] := OV.out.trans (if_neg (by simp))
    go_enter Try.func8, Try.ntmps8
    go_wp2_with (go_at_call 17; refine (US.out _ _ (by simp)).mono ?_; rintro e W1 ⟨rfl, hb1⟩)
    go_ret2
    refine ⟨rfl, ?_⟩
    (repeat (first | with_reducible exact Bel.refl _ | with_reducible refine Bel.setCell ?_ (by first | exact Nat.le_refl _ | (dsimp only; omega)) _ | with_reducible refine Bel.alloc ?_ _ | with_reducible refine Bel.drew ?_ | with_reducible assumption | with_reducible refine Bel.trans ?_ (by assumption)))
  | true =>
    cases q2 with
    | false =>
      obtain rfl : R = .tuple #[.bool false, .int .i64 2] := OV.out.trans (if_neg (by simp))
      go_enter Try.func8, Try.ntmps8
      go_wp2_with (first
        | (go_at_call 17; refine (US.out _ _ (by simp)).mono ?_; rintro e W1 ⟨rfl, hb1⟩; have hc1 := hb1.cells; have hz1 := hb1.lt2)
        | (go_at_call 18; refine (MS.out _ _ (by simp)).mono ?_; rintro e W2 ⟨rfl, hb2⟩))
      go_ret2
      refine ⟨rfl, ?_⟩
      (repeat (first | with_reducible exact Bel.refl _ | with_reducible refine Bel.setCell ?_ (by first | exact Nat.le_refl _ | (dsimp only; omega)) _ | with_reducible refine Bel.alloc ?_ _ | with_reducible refine Bel.drew ?_ | with_reducible assumption | with_reducible refine Bel.trans ?_ (by assumption)))
    | true =>
      obtain rfl : R = .tuple #[.bool m, .int .i64 0] := OV.out.trans (if_pos ⟨rfl, rfl⟩)
      have O1 := Lib.hid (ON.out rfl rfl)
      go_enter Try.func8, Try.ntmps8
      go_wp2_with (first
        | (go_at_call 17; refine (US.out _ _ (by simp)).mono ?_; rintro e W1 ⟨rfl, hb1⟩; have hc1 := hb1.cells; have hz1 := hb1.lt2)
        | (go_at_call 18; refine (MS.out _ _ (by simp)).mono ?_; rintro e W2 ⟨rfl, hb2⟩; have hc2 := hb2.cells; have hz2 := hb2.size; have hz3 := Nat.lt_of_lt_of_le hz1.1 hz2; have hz4 := Nat.lt_of_lt_of_le hz1.2 hz2)
        | (go_at_call 19; refine (O1.out _).mono ?_; rintro e W3 ⟨rfl, hb3⟩))
      go_ret2
      refine ⟨rfl, ?_⟩
      (repeat (first | with_reducible exact Bel.refl _ | with_reducible refine Bel.setCell ?_ (by first | exact Nat.le_refl _ | (dsimp only; omega)) _ | with_reducible refine Bel.alloc ?_ _ | with_reducible refine Bel.drew ?_ | with_reducible assumption | with_reducible refine Bel.trans ?_ (by assumption)))
end Go.Proofs.Ytopgahnconbpmaa
