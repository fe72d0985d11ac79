
import Derived.Test.YtpmmbcobjibpeaaGreatDoorMtg
namespace Go.Proofs.YtpmmbcobjibpeaaGreatDoor
set_option linter.unusedSimpArgs false
set_option linter.unusedVariables false
open Go.RowKit Go.Lib
attribute [local go_sem ↓] eql_val neq_val eql_tst neq_tst

/-! Match: all, All. -/
theorem mall1_any (t : Tst) (v : Val) (ht : TOk t) (hv : v.text.size ≤ 9223372036854775807) (hs : tsnd t = true) (hvs : vsnd v = true) (w : World) (vb : Nat) (hva : ValAt w vb 0 v) (hlt : vb < w.heap.size) :
    Calls Tryz.prog 120 #[t.val, .pointer (some ⟨vb, 0, none⟩)] w fun e w' => e = .returned (.bool (mone t v)) ∧ Bel w w' := by
  have C := Lib.hid fun w => one_any t v ht hv hs hvs w
  generalize mone t v = R at C ⊢
  obtain ⟨k, ⟨a0, a1, a2, a3, a4⟩, ⟨b0, b1, b2, b3, b4⟩, x, y⟩ := t
  obtain ⟨v0, v1, v2, v3, v4⟩ := v
  obtain ⟨p0, p1, p2, p3, p4⟩ := hva
  clear ht hv hs hvs
  go_enter Tryz.func120, Tryz.ntmps120
  go_wp2_with (go_at_call 121; refine (C.out _).mono ?_; rintro e W1 ⟨rfl, hb1⟩)
  go_ret
  refine ⟨rfl, ?_⟩
  (repeat (first | with_reducible exact Bel.refl _ | with_reducible refine Bel.setCell ?_ (by first | exact Nat.le_refl _ | (dsimp only; omega)) _ | with_reducible refine Bel.alloc ?_ _ | with_reducible refine Bel.drew ?_ | with_reducible assumption | with_reducible refine Bel.trans ?_ (by assumption)))
abbrev TSn := {t : Tst // TOk t ∧ tsnd t = true}
instance : Inhabited TSn := ⟨⟨⟨1, zv, zv, false, false⟩, ⟨⟨Nat.zero_le _, Nat.zero_le _⟩, by decide +kernel⟩⟩⟩
theorem contM_any (l : List Tst) (v : Val) (b off c vb : Nat) (w : World) (hs : Tsts w (some ⟨b, off, none⟩) l) (hb : b < w.heap.size) (hl : l.length ≤ 9223372036854775807) (ht : ∀ t ∈ l, TOk t ∧ tsnd t = true)
    (hv : v.text.size ≤ 9223372036854775807) (hvs : vsnd v = true) (hva : ValAt w vb 0 v) (hvb : vb < w.heap.size) :
    Calls Tryz.prog 54 #[.slice (some ⟨b, off, none⟩) l.length c, .func (.func 120) #[] #[.pointer (some ⟨vb, 0, none⟩)]] w fun e w' => e = .returned (.bool (l.any fun t => mone t v)) ∧ Bel w w' := by
  have eg : ∀ args w, (callFunc 120 args).run Tryz.prog w = .ok (.enter 120 args) w := enters_of Tryz.func120 (by kernel_rfl) rfl
  obtain ⟨zs, hz⟩ : ∃ zs : List TSn, zs.map Subtype.val = l := ⟨l.attach.map fun t => ⟨t.1, ht t.1 t.2⟩, by simp [List.map_map, Function.comp_def]⟩
  have hzl : zs.length = l.length := by rw [← hz, List.length_map]
  have k := AnyQ.slices_ContainsFunc Tryz.contT 13 Tryz.isAgg59 Tryz.sizeOf59 (fun t : TSn => encT t.1) (fun _ => rfl) (fun t => mone t.1 v) 120 #[.pointer (some ⟨vb, 0, none⟩)] eg b off l.length c zs w
    (fun W x hW => (mall1_any x.1 v x.2.1 hv x.2.2 hvs W vb (hva.keep hW hvb) (Nat.lt_of_lt_of_le hvb hW.size)).mono fun e w' ⟨he, hb'⟩ => ⟨he, Bel.trans hW hb'⟩)
    (by omega) (by omega) hb (fun j hj i v hv => by
      obtain ⟨b', off', e, _, hat⟩ := hs (by omega)
      cases e
      obtain ⟨a0, a1, a2, a3, a4, a5, a6, a7, a8, a9, a10, a11, a12⟩ := hat j (zs[j]!).1 (by rw [getElem!_pos zs j hj, ← hz]; simp [hj])
      generalize (zs[j]!).1 = t at a0 a1 a2 a3 a4 a5 a6 a7 a8 a9 a10 a11 a12 hv
      match i, hv with
      | 0, hv => simp only [encT, List.getElem?_cons_zero, Option.some.injEq] at hv; subst hv; exact a0
      | 1, hv => simp only [encT, List.getElem?_cons_succ, List.getElem?_cons_zero, Option.some.injEq] at hv; subst hv; exact a1
      | 2, hv => simp only [encT, List.getElem?_cons_succ, List.getElem?_cons_zero, Option.some.injEq] at hv; subst hv; exact a2
      | 3, hv => simp only [encT, List.getElem?_cons_succ, List.getElem?_cons_zero, Option.some.injEq] at hv; subst hv; exact a3
      | 4, hv => simp only [encT, List.getElem?_cons_succ, List.getElem?_cons_zero, Option.some.injEq] at hv; subst hv; exact a4
      | 5, hv => simp only [encT, List.getElem?_cons_succ, List.getElem?_cons_zero, Option.some.injEq] at hv; subst hv; exact a5
      | 6, hv => simp only [encT, List.getElem?_cons_succ, List.getElem?_cons_zero, Option.some.injEq] at hv; subst hv; exact a6
      | 7, hv => simp only [encT, List.getElem?_cons_succ, List.getElem?_cons_zero, Option.some.injEq] at hv; subst hv; exact a7
      | 8, hv => simp only [encT, List.getElem?_cons_succ, List.getElem?_cons_zero, Option.some.injEq] at hv; subst hv; exact a8
      | 9, hv => simp only [encT, List.getElem?_cons_succ, List.getElem?_cons_zero, Option.some.injEq] at hv; subst hv; exact a9
      | 10, hv => simp only [encT, List.getElem?_cons_succ, List.getElem?_cons_zero, Option.some.injEq] at hv; subst hv; exact a10
      | 11, hv => simp only [encT, List.getElem?_cons_succ, List.getElem?_cons_zero, Option.some.injEq] at hv; subst hv; exact a11
      | 12, hv => simp only [encT, List.getElem?_cons_succ, List.getElem?_cons_zero, Option.some.injEq] at hv; subst hv; exact a12)
  rw [← hzl, List.take_length] at k
  rw [hzl] at k
  rw [← hz, List.any_map]
  rw [← hz, List.length_map] at k
  rw [List.length_map]
  exact k
/-- Do sound tests hold? -/
def mall (any not : Bool) (l : List Tst) (v : Val) : Bool := if any then true else not != l.any fun t => mone t v
theorem usnd_list {not : Bool} {l : List Tst} (h : usnd false not l = true) : 0 < l.length ∧ l.length ≤ 8 ∧ ∀ t ∈ l, tsnd t = true := by
  unfold usnd at h
  simp only [Bool.false_eq_true, if_false] at h
  split at h
  · cases h
  · rw [List.all_eq_true] at h
    exact ⟨by omega, by omega, h⟩
set_option maxRecDepth 100000 in
set_option maxHeartbeats 4000000 in
theorem all_any (any not : Bool) (l : List Tst) (A : Option Addr) (c : Nat) (v : Val) (w : World) (hs : Tsts w A l) (ht : ∀ t ∈ l, TOk t) (hu : usnd any not l = true) (hv : v.text.size ≤ 9223372036854775807) (hvs : vsnd v = true) :
    Calls Tryz.prog 92 #[tsv any not (.slice A l.length c), v.val] w fun e w' => e = .returned (.bool (mall any not l v)) ∧ Bel w w' := by
  have MA := Lib.hid (show mall any not l v = if any then true else not != l.any fun t => mone t v from rfl)
  generalize mall any not l v = R at MA ⊢
  cases any with
  | true =>
    obtain rfl : R = true := MA.out.trans (if_pos rfl)
    obtain ⟨v0, v1, v2, v3, v4⟩ := v
    clear hs ht hu hv hvs
    go_enter Tryz.func92, Tryz.ntmps92
    go_wp2_with fail
    go_ret
    refine ⟨rfl, ?_⟩
    (repeat (first | with_reducible exact Bel.refl _ | with_reducible refine Bel.setCell ?_ (by first | exact Nat.le_refl _ | (dsimp only; omega)) _ | with_reducible refine Bel.alloc ?_ _ | with_reducible refine Bel.drew ?_ | with_reducible assumption | with_reducible refine Bel.trans ?_ (by assumption)))
  | false =>
    obtain ⟨h0, h8, hsn⟩ := usnd_list hu
    obtain ⟨b, off, rfl, hlt, _⟩ := hs h0
    have C := Lib.hid fun W vb (hW : Bel w W) hva hvb => contM_any l v b off c vb W (hs.keep hW) (Nat.lt_of_lt_of_le hlt hW.size) (by omega) (fun t h => ⟨ht t h, hsn t h⟩) hv hvs hva hvb
    have MA := Lib.hid (MA.out.trans (if_neg (by simp)))
    generalize (l.any fun t => mone t v) = q at C MA
    have hR : R = (not != q) := MA.out
    have e1 : (not != q) = !(not == q) := rfl
    obtain ⟨v0, v1, v2, v3, v4⟩ := v
    clear hs ht hu hv hvs hsn h8
    go_enter Tryz.func92, Tryz.ntmps92
    go_wp2_with fail
    refine under_name (((Bel.refl w).alloc _).alloc _) fun W hc hf hz hb => ?_
    have n1 : W.cell? ⟨w.heap.size, 1, none⟩ = some (.bool not) := by simp [hc, go_sem]
    have n2 : W.cell? ⟨w.heap.size, 2, none⟩ = some (.slice (some ⟨b, off, none⟩) l.length c) := by simp [hc, go_sem]
    have n3 : ValAt W (w.heap.size + 1) 0 ⟨v0, v1, v2, v3, v4⟩ := by simp [ValAt, hc, go_sem]
    have z1 : w.heap.size < W.heap.size := by simp [hz] <;> omega
    have z2 : w.heap.size + 1 < W.heap.size := by simp [hz] <;> omega
    clear hc hf hz
    have C1 := Lib.hid fun w' (hS : Bel W w' ∧ (∀ b o, b < W.heap.size → w'.cell? ⟨b, o, none⟩ = W.cell? ⟨b, o, none⟩)) => C.out w' (w.heap.size + 1) (hb.trans hS.1) (n3.keep hS.1 z2) (Nat.lt_of_lt_of_le z2 hS.1.size)
    clear n3
    refine wp_region_uni (S := (fun w' => Bel W w' ∧ (∀ b o, b < W.heap.size → w'.cell? ⟨b, o, none⟩ = W.cell? ⟨b, o, none⟩))) (by kernel_rfl) (by kernel_rfl) keep0 ?_
    repeat (first | (refine wpUni_skip (by rfl) ?_; (try simp only [Act.put, List.setIfInBounds_toArray, List.set_cons_zero, List.set_cons_succ]))
                                                            | (refine wpUni_value (by rfl) (fun w hS => by (try dsimp only at hS); go_simp; first | done | with_reducible rfl) ?_; (try simp only [Act.put, List.setIfInBounds_toArray, List.set_cons_zero, List.set_cons_succ]))
                                                            | (refine wpUni_call (f := 54) (by rfl) (fun w => by go_simp; first | done | with_reducible rfl) (fun w hS => (C1.out w hS).mono fun e w' ⟨he, hb⟩ => ⟨he, keep1 hS hb⟩) ?_; (try simp only [Act.put, List.setIfInBounds_toArray, List.set_cons_zero, List.set_cons_succ])))
    refine wpUni_nil fun W1 hS => ?_
    have hb1 := hb.trans hS.1
    clear hS
    go_wp2_with fail
    go_ret
    subst hR
    exact ⟨rfl, hb1⟩
def mallV (any not : Bool) (l : List Tst) (v : Val) : Value := if usnd any not l = true ∧ vsnd v = true then .tuple #[.bool (mall any not l v), .int .i64 0] else .tuple #[.bool false, .int .i64 2]
set_option maxRecDepth 100000 in
set_option maxHeartbeats 4000000 in
theorem mAll_any (any not : Bool) (l : List Tst) (A : Option Addr) (c : Nat) (v : Val) (w : World) (hs : Tsts w A l) (hl : l.length ≤ 9223372036854775807) (ht : ∀ t ∈ l, TOk t) (hv : v.text.size ≤ 9223372036854775807) :
    Calls Tryz.prog 60 #[tsv any not (.slice A l.length c), v.val] w fun e w' => e = .returned (mallV any not l v) ∧ Bel w w' := by
  have US := Lib.hid fun W (hW : Bel w W) => usound_any any not l A c W (hs.keep hW) hl ht
  have MS := Lib.hid (show ∀ (W : World) (n : Nat), n = W.heap.size → Calls Tryz.prog 91 #[.slice (some ⟨n, 0, none⟩) 1 1] (W.alloc (.cells #[.int .i64 v.kind, .int .i64 v.n, .int .i64 v.scale, .string v.text, .int .i64 v.num] 30)) fun e w' => e = .returned (.bool (vsnd v)) ∧ Bel W w' from fun W n hn => by
    have k := msound_any [v] (some ⟨n, 0, none⟩) 1 _ (valm_one W v hn) (by simp) (fun u hu => by simp at hu; subst hu; exact hv)
    have e : [v].all vsnd = vsnd v := by simp
    rw [e] at k
    exact k.mono fun e w' ⟨he, hb⟩ => ⟨he, (Bel.alloc (Bel.refl W) _).trans hb⟩)
  have ON := Lib.hid (show usnd any not l = true → vsnd v = true → ∀ W, Bel w W → Calls Tryz.prog 92 #[tsv any not (.slice A l.length c), v.val] W fun e w' => e = .returned (.bool (mall any not l v)) ∧ Bel W w' from fun h1 h2 W hW => all_any any not l A c v W (hs.keep hW) ht h1 hv h2)
  have OV := Lib.hid (show mallV any not l v = if usnd any not l = true ∧ vsnd v = true then .tuple #[.bool (mall any not l v), .int .i64 0] else .tuple #[.bool false, .int .i64 2] from rfl)
  generalize mallV any not l v = R at OV ⊢
  generalize usnd any not l = q1 at US ON OV
  generalize vsnd v = q2 at MS ON OV
  generalize mall any not l v = m at ON OV
  obtain ⟨v0, v1, v2, v3, v4⟩ := v
  clear ht hv hs hl
  cases q1 with
  | false =>
    obtain rfl : R = .tuple #[.bool false, .int .i64 2] := OV.out.trans (if_neg (by simp))
    go_enter Tryz.func60, Tryz.ntmps60
    go_wp2_with (go_at_call 30; refine (US.out _ (((Bel.refl w).alloc _).alloc _)).mono ?_; rintro e W1 ⟨rfl, hb1⟩)
    go_ret2
    refine ⟨rfl, ?_⟩
    (repeat (first | with_reducible exact Bel.refl _ | with_reducible refine Bel.setCell ?_ (by first | exact Nat.le_refl _ | (dsimp only; omega)) _ | with_reducible refine Bel.alloc ?_ _ | with_reducible refine Bel.drew ?_ | with_reducible assumption | with_reducible refine Bel.trans ?_ (by assumption)))
  | true =>
    cases q2 with
    | false =>
      obtain rfl : R = .tuple #[.bool false, .int .i64 2] := OV.out.trans (if_neg (by simp))
      go_enter Tryz.func60, Tryz.ntmps60
      go_wp2_with (first
        | (go_at_call 30; refine (US.out _ (((Bel.refl w).alloc _).alloc _)).mono ?_; rintro e W1 ⟨rfl, hb1⟩; have hc1 := hb1.cells; have hz1 := hb1.lt2)
        | (go_at_call 91; refine (MS.out _ _ (by simp)).mono ?_; rintro e W2 ⟨rfl, hb2⟩))
      go_ret2
      refine ⟨rfl, ?_⟩
      (repeat (first | with_reducible exact Bel.refl _ | with_reducible refine Bel.setCell ?_ (by first | exact Nat.le_refl _ | (dsimp only; omega)) _ | with_reducible refine Bel.alloc ?_ _ | with_reducible refine Bel.drew ?_ | with_reducible assumption | with_reducible refine Bel.trans ?_ (by assumption)))
    | true =>
      obtain rfl : R = .tuple #[.bool m, .int .i64 0] := OV.out.trans (if_pos ⟨rfl, rfl⟩)
      have O1 := Lib.hid (ON.out rfl rfl)
      go_enter Tryz.func60, Tryz.ntmps60
      go_wp2_with (first
        | (go_at_call 30; refine (US.out _ (((Bel.refl w).alloc _).alloc _)).mono ?_; rintro e W1 ⟨rfl, hb1⟩; have hc1 := hb1.cells; have hz1 := hb1.lt2)
        | (go_at_call 91; refine (MS.out _ _ (by simp)).mono ?_; rintro e W2 ⟨rfl, hb2⟩; have hc2 := hb2.cells; have hz2 := hb2.size; have hz3 := Nat.lt_of_lt_of_le hz1.1 hz2; have hz4 := Nat.lt_of_lt_of_le hz1.2 hz2)
        | (go_at_call 92; refine (O1.out _ (((((Bel.refl w).alloc _).alloc _).trans hb1).trans hb2)).mono ?_; rintro e W3 ⟨rfl, hb3⟩))
      go_ret2
      refine ⟨rfl, ?_⟩
      (repeat (first | with_reducible exact Bel.refl _ | with_reducible refine Bel.setCell ?_ (by first | exact Nat.le_refl _ | (dsimp only; omega)) _ | with_reducible refine Bel.alloc ?_ _ | with_reducible refine Bel.drew ?_ | with_reducible assumption | with_reducible refine Bel.trans ?_ (by assumption)))
end Go.Proofs.YtpmmbcobjibpeaaGreatDoor
