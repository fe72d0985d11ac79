import Derived.Test.YtopgahnconbpmaaMth
namespace Go.Proofs.Ytopgahnconbpmaa
set_option linter.unusedSimpArgs false
set_option linter.unusedVariables false
open Go.RowKit Go.Lib
attribute [local go_sem ↓] eql_val neq_val eql_tst neq_tst

/-! Match: Row. -/
theorem tok_of {t : Tst} (h : t.Ok) : TOk t := ⟨h.low.text, h.high.text⟩
theorem rowS1_any (x : Cel) (w : World) (hx : CelOk w x) : Calls Try.prog 22 #[x.val] w fun e w' => e = .returned (.bool (!usnd x.any x.not x.l)) ∧ Bel w w' := by
  have C := Lib.hid fun W (hW : Bel w W) => usound_any x.any x.not x.l x.A x.c W (hx.tsts.keep hW) hx.len (fun t h => tok_of (hx.ok t h))
  obtain ⟨any, not, A, c, l⟩ := x
  simp only at C
  simp only
  generalize usnd any not l = q at C ⊢
  clear hx
  go_enter Try.func22, Try.ntmps22
  go_wp2_with (go_at_call 17; refine (C.out _ ((Bel.refl w).alloc _)).mono ?_; rintro e W1 ⟨rfl, hb1⟩)
  go_ret
  refine ⟨rfl, ?_⟩
  (repeat (first | with_reducible exact Bel.refl _ | with_reducible refine Bel.setCell ?_ (by first | exact Nat.le_refl _ | (dsimp only; omega)) _ | with_reducible refine Bel.alloc ?_ _ | with_reducible refine Bel.drew ?_ | with_reducible assumption | with_reducible refine Bel.trans ?_ (by assumption)))
theorem idxC_nil (A : Option Addr) (c : Nat) (fv : Value) (w : World) : Calls Try.prog 33 #[.slice A 0 c, fv] w fun e w' => e = .returned (.int .i64 (-1)) ∧ w' = w := by
  go_enter Try.func33, Try.ntmps33
  go_wp2
  refine wp_loop_rounds 1 ?_
  rw [rounds_succ]
  go_wp2
  go_ret
  exact ⟨rfl, rfl⟩
theorem contC_nil (A : Option Addr) (c : Nat) (fv : Value) (w : World) : Calls Try.prog 23 #[.slice A 0 c, fv] w fun e w' => e = .returned (.bool false) ∧ w' = w := by
  have I := Lib.hid fun w => idxC_nil A c fv w
  go_enter Try.func23, Try.ntmps23
  go_wp2_with (go_at_call 33; refine (I.out _).mono ?_; rintro e w' ⟨rfl, rfl⟩)
  go_ret
  exact ⟨rfl, rfl⟩
theorem contC_any (l : List Cel) (A : Option Addr) (c : Nat) (w : World) (hs : Lists encC 3 w A l) (hl : l.length ≤ 9223372036854775807) (ht : ∀ x ∈ l, CelOk w x) :
    Calls Try.prog 23 #[.slice A l.length c, .func (.func 22) #[] #[]] w fun e w' => e = .returned (.bool (l.any fun x => !usnd x.any x.not x.l)) ∧ Bel w w' := by
  by_cases h0 : 0 < l.length
  · obtain ⟨b, off, rfl, hb, hat⟩ := hs h0
    have eg : ∀ args w, (callFunc 22 args).run Try.prog w = .ok (.enter 22 args) w := enters_of Try.func22 (by kernel_rfl) rfl
    obtain ⟨zs, hz⟩ : ∃ zs : List {x : Cel // CelOk w x}, zs.map Subtype.val = l := ⟨l.attach.map fun t => ⟨t.1, ht t.1 t.2⟩, by simp [List.map_map, Function.comp_def]⟩
    haveI : Inhabited {x : Cel // CelOk w x} := ⟨⟨⟨false, false, none, 0, []⟩, fun h => absurd h (by simp), by simp, fun _ => ⟨rfl, rfl⟩, by simp⟩⟩
    have hzl : zs.length = l.length := by rw [← hz, List.length_map]
    have k := AnyQ.slices_ContainsFunc Try.contC 3 Try.isAgg34 Try.sizeOf34 (fun t : {x : Cel // CelOk w x} => encC t.1) (fun _ => rfl) (fun t => !usnd t.1.any t.1.not t.1.l) 22 #[] eg b off l.length c zs w
      (fun W x hW => (rowS1_any x.1 W (x.2.keep hW)).mono fun e w' ⟨he, hb'⟩ => ⟨he, Bel.trans hW hb'⟩)
      (by omega) (by omega) hb (fun j hj i v hv => hat j (zs[j]!).1 (by rw [getElem!_pos zs j hj, ← hz]; simp [hj]) i v hv)
    rw [← hzl, List.take_length] at k
    rw [hzl] at k
    rw [← hz, List.any_map]
    rw [← hz, List.length_map] at k
    rw [List.length_map]
    exact k
  · obtain rfl : l = [] := List.eq_nil_of_length_eq_zero (by omega)
    refine (contC_nil A c _ w).mono fun e w' ⟨he, hw⟩ => ⟨he, ?_⟩
    subst hw
    exact Bel.refl _
/-- Do sound cells hold of sound values? -/
def mrow : List Cel → List Val → Bool
  | x :: l, v :: m => mall x.any x.not x.l v && mrow l m
  | _, _ => true
theorem mrow_false : ∀ (l : List Cel) (m : List Val) (k : Nat) (x : Cel) (v : Val), l[k]? = some x → m[k]? = some v → mall x.any x.not x.l v = false → mrow l m = false
  | [], _, _, _, _, h, _, _ => by simp at h
  | _ :: _, [], _, _, _, _, h, _ => by simp at h
  | y :: l, u :: m, 0, x, v, h, h', h2 => by
    simp only [List.getElem?_cons_zero, Option.some.injEq] at h h'
    subst h; subst h'
    simp [mrow, h2]
  | y :: l, u :: m, k + 1, x, v, h, h', h2 => by
    simp only [List.getElem?_cons_succ] at h h'
    simp [mrow, mrow_false l m k x v h h' h2]
theorem mrow_true : ∀ (l : List Cel) (m : List Val), l.length = m.length → (∀ (k : Nat) (x : Cel) (v : Val), l[k]? = some x → m[k]? = some v → mall x.any x.not x.l v = true) → mrow l m = true
  | [], _, _, _ => by simp [mrow]
  | _ :: _, [], _, _ => by simp [mrow]
  | y :: l, u :: m, h, h2 => by
    simp only [mrow, Bool.and_eq_true]
    exact ⟨h2 0 y u rfl rfl, mrow_true l m (by simpa using h) fun k x v hx hv => h2 (k + 1) x v (by simpa using hx) (by simpa using hv)⟩
def rsnd (l : List Cel) (m : List Val) : Bool := l.all (fun x => usnd x.any x.not x.l) && m.all vsnd
def rowV (l : List Cel) (m : List Val) : Value := if l.length ≠ m.length then .tuple #[.bool false, .int .i64 1] else if rsnd l m = true then .tuple #[.bool (mrow l m), .int .i64 0] else .tuple #[.bool false, .int .i64 2]
set_option maxRecDepth 100000 in
set_option maxHeartbeats 8000000 in
theorem row_any (l : List Cel) (A : Option Addr) (c : Nat) (m : List Val) (B : Option Addr) (d : Nat) (w : World) (hs : Lists encC 3 w A l) (hl : l.length ≤ 9223372036854775807) (ht : ∀ x ∈ l, CelOk w x)
    (hv : Vals w B m) (hm : m.length ≤ 9223372036854775807) (hvo : ∀ v ∈ m, v.text.size ≤ 9223372036854775807) :
    Calls Try.prog 14 #[.slice A l.length c, .slice B m.length d] w fun e w' => e = .returned (rowV l m) ∧ Bel w w' := by
  have C1 := Lib.hid (contC_any l A c w hs hl ht)
  have C2 := Lib.hid fun W (hW : Bel w W) => msound_any m B d W (hv.keep hW) (by omega) hvo
  have OV := Lib.hid (show rowV l m = if l.length ≠ m.length then .tuple #[.bool false, .int .i64 1] else if rsnd l m = true then .tuple #[.bool (mrow l m), .int .i64 0] else .tuple #[.bool false, .int .i64 2] from rfl)
  by_cases hlm : l.length = m.length
  · have OV := Lib.hid (OV.out.trans (if_neg (by omega)))
    generalize hR : rowV l m = R at OV ⊢
    clear hR
    have e0 : (l.any fun x => !usnd x.any x.not x.l) = !(l.all fun x => usnd x.any x.not x.l) := by rw [List.not_all_eq_any_not]
    rw [e0] at C1
    obtain ⟨q1, hq1⟩ : ∃ q, q = l.all fun x => usnd x.any x.not x.l := ⟨_, rfl⟩
    obtain ⟨q2, hq2⟩ : ∃ q, q = m.all vsnd := ⟨_, rfl⟩
    rw [← hq1] at C1
    rw [← hq2] at C2
    have RS : rsnd l m = (q1 && q2) := by rw [hq1, hq2]; rfl
    rw [RS] at OV
    clear RS
    have hml : m.length = l.length := hlm.symm
    rw [hml] at C2
    rw [hml]
    have Q1 := Lib.hid hq1
    have Q2 := Lib.hid hq2
    have HS := Lib.hid hs
    have HT := Lib.hid ht
    have HV := Lib.hid hv
    have HO := Lib.hid hvo
    clear hs ht hv hvo e0 hq1 hq2
    have LM := Lib.hid hlm
    clear hml hlm
    cases q1 with
    | false =>
      obtain rfl : R = .tuple #[.bool false, .int .i64 2] := OV.out.trans (if_neg (by simp))
      clear OV
      go_enter Try.func14, Try.ntmps14
      go_wp2_with (go_at_call 23; refine C1.out.mono ?_; rintro e W1 ⟨rfl, hb1⟩)
      go_ret2
      refine ⟨rfl, ?_⟩
      (repeat (first | with_reducible exact Bel.refl _ | with_reducible refine Bel.setCell ?_ (by first | exact Nat.le_refl _ | (dsimp only; omega)) _ | with_reducible refine Bel.alloc ?_ _ | with_reducible refine Bel.drew ?_ | with_reducible assumption | with_reducible refine Bel.trans ?_ (by assumption)))
    | true =>
      cases q2 with
      | false =>
        obtain rfl : R = .tuple #[.bool false, .int .i64 2] := OV.out.trans (if_neg (by simp))
        clear OV
        go_enter Try.func14, Try.ntmps14
        go_wp2_with (first
          | (go_at_call 23; refine C1.out.mono ?_; rintro e W1 ⟨rfl, hb1⟩)
          | (go_at_call 18; refine (C2.out _ hb1).mono ?_; rintro e W2 ⟨rfl, hb2⟩))
        go_ret2
        refine ⟨rfl, ?_⟩
        (repeat (first | with_reducible exact Bel.refl _ | with_reducible refine Bel.setCell ?_ (by first | exact Nat.le_refl _ | (dsimp only; omega)) _ | with_reducible refine Bel.alloc ?_ _ | with_reducible refine Bel.drew ?_ | with_reducible assumption | with_reducible refine Bel.trans ?_ (by assumption)))
      | true =>
        have RV := Lib.hid (OV.out.trans (if_pos rfl))
        have CA := Lib.hid (show ∀ (k : Nat) (x : Cel) (v : Val) W, Bel w W → l[k]? = some x → m[k]? = some v → Calls Try.prog 21 #[x.val, v.val] W fun e w' => e = .returned (.bool (mall x.any x.not x.l v)) ∧ Bel W w' from fun k x v W hW hx hv' => by
          have hxl := List.mem_of_getElem? hx
          have hvl := List.mem_of_getElem? hv'
          have ok := (HT.out x hxl).keep hW
          have u := Q1.out.symm
          rw [List.all_eq_true] at u
          have u2 := Q2.out.symm
          rw [List.all_eq_true] at u2
          exact all_any x.any x.not x.l x.A x.c v W ok.tsts (fun t h => tok_of (ok.ok t h)) (u x hxl) (HO.out v hvl) (u2 v hvl))
        clear OV
        go_enter Try.func14, Try.ntmps14
        go_wp2_with (first
          | (go_at_call 23; refine C1.out.mono ?_; rintro e W1 ⟨rfl, hb1⟩)
          | (go_at_call 18; refine (C2.out _ hb1).mono ?_; rintro e W2 ⟨rfl, hb2⟩
             have hb0 := hb1.trans hb2; clear hb1 hb2))
        go_loopg [24] l.length (fun g i wr => ∃ k : Nat, i = .int .i64 k ∧ k ≤ l.length ∧ Hid ((∀ (j : Nat) (x : Cel) (v : Val), j < k → l[j]? = some x → m[j]? = some v → mall x.any x.not x.l v = true) ∧ g = l.length - k) ∧ Bel w wr)
        case atStart => exact ⟨0, rfl, Nat.zero_le _, ⟨fun j x v h => absurd h (Nat.not_lt_zero _), rfl⟩, hb0⟩
        case round =>
          obtain ⟨k, rfl, hk, hh, hb⟩ := hrel
          by_cases hp : k < l.length
          · obtain ⟨b, off, rfl, hlt, hat⟩ := HS.out (by omega)
            obtain ⟨b', off', rfl, hlt', hat'⟩ := HV.out (by rw [← LM.out]; omega)
            obtain ⟨x, hxk⟩ : ∃ x, l[k]? = some x := ⟨_, List.getElem?_eq_getElem hp⟩
            obtain ⟨v, hvk⟩ : ∃ v, m[k]? = some v := ⟨_, List.getElem?_eq_getElem (show k < m.length from LM.out ▸ hp)⟩
            have a0 := hat k x hxk 0 _ rfl
            have a1 := hat k x hxk 1 _ rfl
            have a2 := hat k x hxk 2 _ rfl
            rw [← hb.cells _ _ hlt] at a0 a1 a2
            have hva := (hat' k v hvk).keep hb hlt'
            have C := Lib.hid fun W hW => CA.out k x v W hW hxk hvk
            have HR := Lib.hid (show mall x.any x.not x.l v = true → ∀ (j : Nat) (y : Cel) (u : Val), j < k + 1 → l[j]? = some y → m[j]? = some u → mall y.any y.not y.l u = true from fun h j y u hj hy hu => by
              by_cases e : j = k
              · subst e
                rw [hxk] at hy; rw [hvk] at hu
                cases hy; cases hu
                exact h
              · exact hh.out.1 j y u (by omega) hy hu)
            have HF := Lib.hid (show mall x.any x.not x.l v = false → R = .tuple #[.bool false, .int .i64 0] from fun h => by
              rw [RV.out, mrow_false l m k x v hxk hvk h])
            have lt1 := Nat.lt_of_lt_of_le hlt hb.size
            have lt2 := Nat.lt_of_lt_of_le hlt' hb.size
            have i1 : (k : Int) < l.length := by omega
            generalize mall x.any x.not x.l v = q at C HR HF
            obtain ⟨any, not, xA, xc, xl⟩ := x
            obtain ⟨v0, v1, v2, v3, v4⟩ := v
            obtain ⟨p0, p1, p2, p3, p4⟩ := hva
            simp only [encC, Nat.add_zero] at a0 a1 a2
            clear hat hat' hxk hvk
            go_wp2_with fail
            refine under_name (by (first | exact (Bel.refl wr).alloc _ | ((repeat (first | with_reducible exact Bel.refl _ | with_reducible refine Bel.setCell ?_ (by first | exact Nat.le_refl _ | (dsimp only; omega)) _ | with_reducible refine Bel.alloc ?_ _ | with_reducible refine Bel.drew ?_ | with_reducible assumption | with_reducible refine Bel.trans ?_ (by assumption)))))) fun W hc hf hz hbW => ?_
            have n0 : W.cell? ⟨wr.heap.size, 0, none⟩ = some (.bool any) := by simp [hc, go_sem]
            have n1 : W.cell? ⟨wr.heap.size, 1, none⟩ = some (.bool not) := by simp [hc, go_sem]
            have n2 : W.cell? ⟨wr.heap.size, 2, none⟩ = some (.slice xA xl.length xc) := by simp [hc, go_sem]
            have z1 : wr.heap.size < W.heap.size := by simp [hz]
            rw [← hbW.cells _ _ lt2] at p0 p1 p2 p3 p4
            have lt3 := Nat.lt_of_lt_of_le lt2 hbW.size
            clear hc hf hz a0 a1 a2
            have C1 := Lib.hid fun w' (hS : Bel W w' ∧ (∀ b o, b < W.heap.size → w'.cell? ⟨b, o, none⟩ = W.cell? ⟨b, o, none⟩)) => C.out w' ((hb.trans hbW).trans hS.1)
            have i3 : (0 : Int) ≤ (k : Int) := by omega
            refine wp_region_uni (S := (fun w' => Bel W w' ∧ (∀ b o, b < W.heap.size → w'.cell? ⟨b, o, none⟩ = W.cell? ⟨b, o, none⟩))) (by kernel_rfl) (by kernel_rfl) keep0 ?_
            repeat (first | (refine wpUni_skip (by rfl) ?_; (try simp only [Act.put, List.setIfInBounds_toArray, List.set_cons_zero, List.set_cons_succ]))
                                                            | (refine wpUni_value (by rfl) (fun w hS => by (try dsimp only at hS); go_simp; first | done | with_reducible rfl) ?_; (try simp only [Act.put, List.setIfInBounds_toArray, List.set_cons_zero, List.set_cons_succ]))
                                                            | (refine wpUni_call (f := 21) (by rfl) (fun w => by go_simp; first | done | with_reducible rfl) (fun w hS => (C1.out w hS).mono fun e w' ⟨he, hb⟩ => ⟨he, keep1 hS hb⟩) ?_; (try simp only [Act.put, List.setIfInBounds_toArray, List.set_cons_zero, List.set_cons_succ])))
            refine wpUni_nil fun W1 hS => ?_
            have hb1 := (hb.trans hbW).trans hS.1
            clear hS C1 C
            cases q with
            | false =>
              obtain rfl := HF.out (by trivial)
              go_wp2_with fail
              go_ret2
              exact ⟨rfl, hb1⟩
            | true =>
              go_wp2_with fail
              go_roundg (l.length - (k + 1))
              case measure => have := hh.out.2; omega
              case rel => exact ⟨k + 1, by go_num, by omega, ⟨HR.out (by trivial), rfl⟩, hb1⟩
          · obtain rfl : k = l.length := by omega
            have h : mrow l m = true := mrow_true l m LM.out fun j x v hx hv => hh.out.1 j x v (List.getElem?_eq_some_iff.1 hx).1 hx hv
            have RV := RV.out
            rw [h] at RV
            subst RV
            go_wp2_with fail
            go_ret2
            exact ⟨rfl, hb⟩
  · have e1 : ((l.length : Int) == m.length) = false := beq_eq_false_iff_ne.2 (by omega)
    obtain ⟨R, hR⟩ : ∃ R, R = rowV l m := ⟨_, rfl⟩
    rw [← hR]
    obtain rfl : R = .tuple #[.bool false, .int .i64 1] := hR.trans (OV.out.trans (if_pos hlm))
    clear OV hs ht hv hvo C1 C2 hR
    go_enter Try.func14, Try.ntmps14
    go_wp2_with fail
    go_ret2
    refine ⟨rfl, ?_⟩
    (repeat (first | with_reducible exact Bel.refl _ | with_reducible refine Bel.setCell ?_ (by first | exact Nat.le_refl _ | (dsimp only; omega)) _ | with_reducible refine Bel.alloc ?_ _ | with_reducible refine Bel.drew ?_ | with_reducible assumption | with_reducible refine Bel.trans ?_ (by assumption)))
end Go.Proofs.Ytopgahnconbpmaa
