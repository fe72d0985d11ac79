import Derived.Test.YtopgahnconbpmaaMtl
namespace Go.Proofs.Ytopgahnconbpmaa
set_option linter.unusedSimpArgs false
set_option linter.unusedVariables false
open Go.RowKit Go.Lib
attribute [local go_sem ↓] eql_val neq_val eql_tst neq_tst

/-! The laws of match: Row. -/
theorem rsnd_iff {l : List Cel} {m : List Val} (h : l.length = m.length) : rsnd l m = true ↔ ∀ (j : Nat) (x : Cel) (v : Val), l[j]? = some x → m[j]? = some v → usnd x.any x.not x.l = true ∧ vsnd v = true := by
  unfold rsnd
  rw [Bool.and_eq_true, List.all_eq_true, List.all_eq_true]
  constructor
  · rintro ⟨h1, h2⟩ j x v hx hv
    exact ⟨h1 x (List.mem_of_getElem? hx), h2 v (List.mem_of_getElem? hv)⟩
  · intro h1
    refine ⟨fun x hx => ?_, fun v hv => ?_⟩
    · obtain ⟨j, hj, rfl⟩ := List.getElem_of_mem hx
      exact (h1 j _ m[j] (List.getElem?_eq_getElem hj) (List.getElem?_eq_getElem (by omega))).1
    · obtain ⟨j, hj, rfl⟩ := List.getElem_of_mem hv
      exact (h1 j l[j] _ (List.getElem?_eq_getElem (by omega)) (List.getElem?_eq_getElem hj)).2
theorem mrow_iff {l : List Cel} {m : List Val} (h : l.length = m.length) : mrow l m = true ↔ ∀ (j : Nat) (x : Cel) (v : Val), l[j]? = some x → m[j]? = some v → mall x.any x.not x.l v = true := by
  constructor
  · intro h1 j x v hx hv
    cases hq : mall x.any x.not x.l v with
    | true => rfl
    | false => rw [mrow_false l m j x v hx hv hq] at h1; cases h1
  · exact fun h1 => mrow_true l m h h1
def MayTo (l : List Cel) (m : List Val) (k : Nat) (q : Bool) : Prop := q = true ↔ ∀ (j : Nat) (x : Cel) (v : Val), j < k → l[j]? = some x → m[j]? = some v → usnd x.any x.not x.l = true ∧ vsnd v = true
def AllTo (l : List Cel) (m : List Val) (k : Nat) (q r : Bool) : Prop := q = true → (r = true ↔ ∀ (j : Nat) (x : Cel) (v : Val), j < k → l[j]? = some x → m[j]? = some v → mall x.any x.not x.l v = true)
theorem MayTo.step {l : List Cel} {m : List Val} {k : Nat} {q : Bool} {x : Cel} {v : Val} (h : MayTo l m k q) (hx : l[k]? = some x) (hv : m[k]? = some v) : MayTo l m (k + 1) (q && (usnd x.any x.not x.l && vsnd v)) := by
  unfold MayTo at *
  rw [Bool.and_eq_true, Bool.and_eq_true, h]
  constructor
  · rintro ⟨h1, h2⟩ j y u hj hy hu
    by_cases e : j = k
    · subst e; rw [hx] at hy; rw [hv] at hu; cases hy; cases hu; exact h2
    · exact h1 j y u (by omega) hy hu
  · exact fun h1 => ⟨fun j y u hj hy hu => h1 j y u (by omega) hy hu, h1 k x v (by omega) hx hv⟩
theorem AllTo.step {l : List Cel} {m : List Val} {k : Nat} {r : Bool} {x : Cel} {v : Val} (h : AllTo l m k true r) (hx : l[k]? = some x) (hv : m[k]? = some v) (q : Bool) : AllTo l m (k + 1) q (r && mall x.any x.not x.l v) := by
  intro _
  rw [Bool.and_eq_true, h rfl]
  constructor
  · rintro ⟨h1, h2⟩ j y u hj hy hu
    by_cases e : j = k
    · subst e; rw [hx] at hy; rw [hv] at hu; cases hy; cases hu; exact h2
    · exact h1 j y u (by omega) hy hu
  · exact fun h1 => ⟨fun j y u hj hy hu => h1 j y u (by omega) hy hu, h1 k x v (by omega) hx hv⟩
theorem AllTo.none {l : List Cel} {m : List Val} {k : Nat} {r : Bool} : AllTo l m k false r := fun h => by cases h
def ShapeB (q : Bool) : Prop := True
set_option maxRecDepth 100000 in
set_option maxHeartbeats 8000000 in
theorem law_Row (l : List Cel) (A : Option Addr) (c : Nat) (m : List Val) (B : Option Addr) (d : Nat) (w : World) (hs : Lists encC 3 w A l) (hl : l.length ≤ 9223372036854775807) (ht : ∀ x ∈ l, CelOk w x)
    (hv : Vals w B m) (hm : m.length ≤ 9223372036854775807) (hvo : ∀ v ∈ m, v.text.size ≤ 9223372036854775807) :
    Calls Try.prog 5 #[.slice A l.length c, .slice B m.length d] w fun e w' => e = .returned (.bool true) ∧ Bel w w' := by
  have C1 := Lib.hid (row_any l A c m B d w hs hl ht hv hm hvo)
  have OV := Lib.hid (show rowV l m = if l.length ≠ m.length then .tuple #[.bool false, .int .i64 1] else if rsnd l m = true then .tuple #[.bool (mrow l m), .int .i64 0] else .tuple #[.bool false, .int .i64 2] from rfl)
  have C3 := Lib.hid fun W => awake_any W
  generalize hR : rowV l m = R at OV C1
  clear hR
  by_cases hlm : l.length = m.length
  · have OV := Lib.hid (OV.out.trans (if_neg (by omega)))
    have hml : m.length = l.length := hlm.symm
    rw [hml] at C1
    rw [hml]
    have LM := Lib.hid hlm
    have HS := Lib.hid hs
    have HT := Lib.hid ht
    have HV := Lib.hid hv
    have HO := Lib.hid hvo
    clear hml hlm hs ht hv hvo
    go_enter Try.func5, Try.ntmps5
    have KR := Lib.hid (show ∃ ok e, R = .tuple #[.bool ok, .int .i64 e] ∧ (rsnd l m = true → ok = mrow l m ∧ e = 0) ∧ (rsnd l m = false → ok = false ∧ e = 2) from by
      rw [OV.out]
      cases hq : rsnd l m with
      | true => exact ⟨_, _, if_pos rfl, fun _ => ⟨rfl, rfl⟩, fun h => (by cases h)⟩
      | false => exact ⟨_, _, if_neg (by simp), fun h => (by cases h), fun _ => ⟨rfl, rfl⟩⟩)
    obtain ⟨ok, er, rfl, K⟩ := KR.out
    have K := Lib.hid K
    clear OV KR
    go_wp2_with (go_at_call 14; refine Calls.mono C1.out ?_; rintro e W0 ⟨rfl, hb0⟩)
    go_loopg [7, 8, 9] l.length (fun g s7 s8 s9 wr => ∃ (k : Nat) (al ma : Bool), s9 = .int .i64 k ∧ s8 = .bool ma ∧ s7 = .bool al ∧ k ≤ l.length ∧ Hid (MayTo l m k ma ∧ AllTo l m k ma al ∧ g = l.length - k) ∧ Bel w wr)
    case atStart => exact ⟨0, true, true, rfl, rfl, rfl, Nat.zero_le _, ⟨by simp [MayTo], by simp [AllTo], rfl⟩, hb0⟩
    case round =>
      obtain ⟨k, al, ma, rfl, rfl, rfl, hk, hh, hb⟩ := hrel
      by_cases hp : k < l.length
      · obtain ⟨b, off, rfl, hlt, hat⟩ := HS.out (by omega)
        obtain ⟨b', off', rfl, hlt', hat'⟩ := HV.out (by rw [← LM.out]; omega)
        obtain ⟨x, hxk⟩ : ∃ x, l[k]? = some x := ⟨_, List.getElem?_eq_getElem hp⟩
        obtain ⟨v, hvk⟩ : ∃ v, m[k]? = some v := ⟨_, List.getElem?_eq_getElem (show k < m.length from LM.out ▸ hp)⟩
        have hxl := List.mem_of_getElem? hxk
        have hvl := List.mem_of_getElem? hvk
        have a0 := hat k x hxk 0 _ rfl
        have a1 := hat k x hxk 1 _ rfl
        have a2 := hat k x hxk 2 _ rfl
        rw [← hb.cells _ _ hlt] at a0 a1 a2
        have hva := (hat' k v hvk).keep hb hlt'
        have C2 := Lib.hid fun W (hW : Bel w W) => have ok := (HT.out x hxl).keep hW; may_any x.any x.not x.l x.A x.c v W ok.tsts ok.len (fun t h => tok_of (ok.ok t h)) (HO.out v hvl)
        have C4 := Lib.hid (show usnd x.any x.not x.l = true → vsnd v = true → ∀ W, Bel w W → Calls Try.prog 13 #[x.val, v.val] W fun e w' => e = .returned (.bool (mall x.any x.not x.l v)) ∧ Bel W w' from fun h1 h2 W hW => have ok := (HT.out x hxl).keep hW; rall_any x.any x.not x.l x.A x.c v W ok.tsts (fun t h => tok_of (ok.ok t h)) h1 (HO.out v hvl) h2)
        have M1 := Lib.hid (hh.out.1.step hxk hvk)
        have A1 := Lib.hid (show ∀ q, ma = true → AllTo l m (k + 1) q (al && mall x.any x.not x.l v) from fun q hq => by subst hq; exact hh.out.2.1.step hxk hvk q)
        have lt1 := Nat.lt_of_lt_of_le hlt hb.size
        have lt2 := Nat.lt_of_lt_of_le hlt' hb.size
        have i1 : (k : Int) < l.length := by omega
        have i3 : (0 : Int) ≤ (k : Int) := by omega
        have SP := Lib.hid (show (usnd x.any x.not x.l && vsnd v) = true → usnd x.any x.not x.l = true ∧ vsnd v = true from fun h => by simpa using h)
        generalize hqq : (usnd x.any x.not x.l && vsnd v) = q at C2 M1 SP
        have C4 := Lib.hid (show q = true → ∀ W, Bel w W → Calls Try.prog 13 #[x.val, v.val] W fun e w' => e = .returned (.bool (mall x.any x.not x.l v)) ∧ Bel W w' from fun h => C4.out (SP.out h).1 (SP.out h).2)
        generalize mall x.any x.not x.l v = r at C4 A1
        clear hqq SP hat hat' hxk hvk hxl hvl
        obtain ⟨any, not, xA, xc, xl⟩ := x
        obtain ⟨v0, v1, v2, v3, v4⟩ := v
        obtain ⟨p0, p1, p2, p3, p4⟩ := hva
        simp only [encC, Nat.add_zero] at a0 a1 a2
        have C2 := Lib.hid fun w' (hS : Bel wr w' ∧ (∀ b o, b < wr.heap.size → w'.cell? ⟨b, o, none⟩ = wr.cell? ⟨b, o, none⟩)) => C2.out w' (hb.trans hS.1)
        cases ma with
        | false =>
          cases al
          all_goals
            go_wp2_with fail
            refine wp_region_uni (S := (fun w' => Bel wr w' ∧ (∀ b o, b < wr.heap.size → w'.cell? ⟨b, o, none⟩ = wr.cell? ⟨b, o, none⟩))) (by kernel_rfl) (by kernel_rfl) keep0 ?_
            repeat (first | (refine wpUni_skip (by rfl) ?_; (try simp only [Act.put, List.setIfInBounds_toArray, List.set_cons_zero, List.set_cons_succ]))
                                                            | (refine wpUni_value (by rfl) (fun w hS => by (try dsimp only at hS); go_simp; first | done | with_reducible rfl) ?_; (try simp only [Act.put, List.setIfInBounds_toArray, List.set_cons_zero, List.set_cons_succ])))
            refine wpUni_nil fun W1 hS => ?_
            replace hb := hb.trans hS.1
            clear hS
            go_wp2_with fail
            refine wp_region_uni (S := (fun w' => Bel W1 w' ∧ (∀ b o, b < W1.heap.size → w'.cell? ⟨b, o, none⟩ = W1.cell? ⟨b, o, none⟩))) (by kernel_rfl) (by kernel_rfl) keep0 ?_
            repeat (first | (refine wpUni_skip (by rfl) ?_; (try simp only [Act.put, List.setIfInBounds_toArray, List.set_cons_zero, List.set_cons_succ]))
                                                            | (refine wpUni_value (by rfl) (fun w hS => by (try dsimp only at hS); go_simp; first | done | with_reducible rfl) ?_; (try simp only [Act.put, List.setIfInBounds_toArray, List.set_cons_zero, List.set_cons_succ])))
            refine wpUni_nil fun W2 hS => ?_
            replace hb := hb.trans hS.1
            clear hS
            go_wp2_with fail
            go_roundg (l.length - (k + 1))
            case measure => have := hh.out.2.2; omega
            case rel => exact ⟨k + 1, _, _, by go_num, rfl, rfl, by omega, ⟨M1.out, AllTo.none, rfl⟩, hb⟩
        | true =>
          cases q with
          | false =>
            cases al
            all_goals
              go_wp2_with fail
              refine wp_region_uni (S := (fun w' => Bel wr w' ∧ (∀ b o, b < wr.heap.size → w'.cell? ⟨b, o, none⟩ = wr.cell? ⟨b, o, none⟩))) (by kernel_rfl) (by kernel_rfl) keep0 ?_
              repeat (first | (refine wpUni_skip (by rfl) ?_; (try simp only [Act.put, List.setIfInBounds_toArray, List.set_cons_zero, List.set_cons_succ]))
                                                            | (refine wpUni_value (by rfl) (fun w hS => by (try dsimp only at hS); go_simp; first | done | with_reducible rfl) ?_; (try simp only [Act.put, List.setIfInBounds_toArray, List.set_cons_zero, List.set_cons_succ]))
                                                            | (refine wpUni_call (f := 9) (by rfl) (fun w => by go_simp; first | done | with_reducible rfl) (fun w hS => (C2.out w hS).mono fun e w' ⟨he, hb⟩ => ⟨he, keep1 hS hb⟩) ?_; (try simp only [Act.put, List.setIfInBounds_toArray, List.set_cons_zero, List.set_cons_succ])))
              refine wpUni_nil fun W1 hS => ?_
              replace hb := hb.trans hS.1
              clear hS
              go_wp2_with fail
              refine wp_region_uni (S := (fun w' => Bel W1 w' ∧ (∀ b o, b < W1.heap.size → w'.cell? ⟨b, o, none⟩ = W1.cell? ⟨b, o, none⟩))) (by kernel_rfl) (by kernel_rfl) keep0 ?_
              repeat (first | (refine wpUni_skip (by rfl) ?_; (try simp only [Act.put, List.setIfInBounds_toArray, List.set_cons_zero, List.set_cons_succ]))
                                                            | (refine wpUni_value (by rfl) (fun w hS => by (try dsimp only at hS); go_simp; first | done | with_reducible rfl) ?_; (try simp only [Act.put, List.setIfInBounds_toArray, List.set_cons_zero, List.set_cons_succ])))
              refine wpUni_nil fun W2 hS => ?_
              replace hb := hb.trans hS.1
              clear hS
              go_wp2_with fail
              go_roundg (l.length - (k + 1))
              case measure => have := hh.out.2.2; omega
              case rel => exact ⟨k + 1, _, _, by go_num, rfl, rfl, by omega, ⟨M1.out, AllTo.none, rfl⟩, hb⟩
          | true =>
            have O4 := Lib.hid (C4.out rfl)
            have A2 := Lib.hid (A1.out true rfl)
            clear C4 A1
            cases al with
            | false =>
              go_wp2_with fail
              refine wp_region_uni (S := (fun w' => Bel wr w' ∧ (∀ b o, b < wr.heap.size → w'.cell? ⟨b, o, none⟩ = wr.cell? ⟨b, o, none⟩))) (by kernel_rfl) (by kernel_rfl) keep0 ?_
              repeat (first | (refine wpUni_skip (by rfl) ?_; (try simp only [Act.put, List.setIfInBounds_toArray, List.set_cons_zero, List.set_cons_succ]))
                                                            | (refine wpUni_value (by rfl) (fun w hS => by (try dsimp only at hS); go_simp; first | done | with_reducible rfl) ?_; (try simp only [Act.put, List.setIfInBounds_toArray, List.set_cons_zero, List.set_cons_succ]))
                                                            | (refine wpUni_call (f := 9) (by rfl) (fun w => by go_simp; first | done | with_reducible rfl) (fun w hS => (C2.out w hS).mono fun e w' ⟨he, hb⟩ => ⟨he, keep1 hS hb⟩) ?_; (try simp only [Act.put, List.setIfInBounds_toArray, List.set_cons_zero, List.set_cons_succ])))
              refine wpUni_nil fun W1 hS => ?_
              replace hb := hb.trans hS.1
              clear hS
              go_wp2_with fail
              refine wp_region_uni (S := (fun w' => Bel W1 w' ∧ (∀ b o, b < W1.heap.size → w'.cell? ⟨b, o, none⟩ = W1.cell? ⟨b, o, none⟩))) (by kernel_rfl) (by kernel_rfl) keep0 ?_
              repeat (first | (refine wpUni_skip (by rfl) ?_; (try simp only [Act.put, List.setIfInBounds_toArray, List.set_cons_zero, List.set_cons_succ]))
                                                            | (refine wpUni_value (by rfl) (fun w hS => by (try dsimp only at hS); go_simp; first | done | with_reducible rfl) ?_; (try simp only [Act.put, List.setIfInBounds_toArray, List.set_cons_zero, List.set_cons_succ])))
              refine wpUni_nil fun W2 hS => ?_
              replace hb := hb.trans hS.1
              clear hS
              go_wp2_with fail
              go_roundg (l.length - (k + 1))
              case measure => have := hh.out.2.2; omega
              case rel => exact ⟨k + 1, _, _, by go_num, rfl, rfl, by omega, ⟨M1.out, A2.out, rfl⟩, hb⟩
            | true =>
              go_wp2_with fail
              refine wp_region_uni (S := (fun w' => Bel wr w' ∧ (∀ b o, b < wr.heap.size → w'.cell? ⟨b, o, none⟩ = wr.cell? ⟨b, o, none⟩))) (by kernel_rfl) (by kernel_rfl) keep0 ?_
              repeat (first | (refine wpUni_skip (by rfl) ?_; (try simp only [Act.put, List.setIfInBounds_toArray, List.set_cons_zero, List.set_cons_succ]))
                                                            | (refine wpUni_value (by rfl) (fun w hS => by (try dsimp only at hS); go_simp; first | done | with_reducible rfl) ?_; (try simp only [Act.put, List.setIfInBounds_toArray, List.set_cons_zero, List.set_cons_succ]))
                                                            | (refine wpUni_call (f := 9) (by rfl) (fun w => by go_simp; first | done | with_reducible rfl) (fun w hS => (C2.out w hS).mono fun e w' ⟨he, hb⟩ => ⟨he, keep1 hS hb⟩) ?_; (try simp only [Act.put, List.setIfInBounds_toArray, List.set_cons_zero, List.set_cons_succ])))
              refine wpUni_nil fun W1 hS => ?_
              replace hb := hb.trans hS.1
              rw [← hS.2 _ _ lt1] at a0 a1 a2
              rw [← hS.2 _ _ lt2] at p0 p1 p2 p3 p4
              have lt3 := Nat.lt_of_lt_of_le lt1 hS.1.size
              have lt4 := Nat.lt_of_lt_of_le lt2 hS.1.size
              clear hS
              have C5 := Lib.hid fun w' (hS : Bel W1 w' ∧ (∀ b o, b < W1.heap.size → w'.cell? ⟨b, o, none⟩ = W1.cell? ⟨b, o, none⟩)) => O4.out w' (hb.trans hS.1)
              go_wp2_with fail
              refine wp_region_uni (S := (fun w' => Bel W1 w' ∧ (∀ b o, b < W1.heap.size → w'.cell? ⟨b, o, none⟩ = W1.cell? ⟨b, o, none⟩))) (by kernel_rfl) (by kernel_rfl) keep0 ?_
              repeat (first | (refine wpUni_skip (by rfl) ?_; (try simp only [Act.put, List.setIfInBounds_toArray, List.set_cons_zero, List.set_cons_succ]))
                                                            | (refine wpUni_value (by rfl) (fun w hS => by (try dsimp only at hS); go_simp; first | done | with_reducible rfl) ?_; (try simp only [Act.put, List.setIfInBounds_toArray, List.set_cons_zero, List.set_cons_succ]))
                                                            | (refine wpUni_call (f := 13) (by rfl) (fun w => by go_simp; first | done | with_reducible rfl) (fun w hS => (C5.out w hS).mono fun e w' ⟨he, hb⟩ => ⟨he, keep1 hS hb⟩) ?_; (try simp only [Act.put, List.setIfInBounds_toArray, List.set_cons_zero, List.set_cons_succ])))
              refine wpUni_nil fun W2 hS => ?_
              replace hb := hb.trans hS.1
              clear hS C5
              go_wp2_with fail
              go_roundg (l.length - (k + 1))
              case measure => have := hh.out.2.2; omega
              case rel => exact ⟨k + 1, _, _, by go_num, rfl, rfl, by omega, ⟨M1.out, A2.out, rfl⟩, hb⟩
      · obtain rfl : k = l.length := by omega
        have hM := hh.out.1
        unfold MayTo at hM
        have hA := hh.out.2.1
        have e1 : ma = rsnd l m := by
          rw [Bool.eq_iff_iff, hM, rsnd_iff LM.out]
          exact ⟨fun h j x v hx hv => h j x v (List.getElem?_eq_some_iff.1 hx).1 hx hv, fun h j x v _ hx hv => h j x v hx hv⟩
        cases ma with
        | true =>
          obtain ⟨rfl, rfl⟩ := K.out.1 e1.symm
          have e2 : al = mrow l m := by
            rw [Bool.eq_iff_iff, hA rfl, mrow_iff LM.out]
            exact ⟨fun h j x v hx hv => h j x v (List.getElem?_eq_some_iff.1 hx).1 hx hv, fun h j x v _ hx hv => h j x v hx hv⟩
          rw [← e2]
          clear e1 e2 hM hA
          go_wp2_with (go_at_call 10; refine Calls.mono (C3.out _) ?_; rintro e W3 ⟨rfl, hb3⟩)
          go_ret
          exact ⟨by simp, hb.trans hb3⟩
        | false =>
          obtain ⟨rfl, rfl⟩ := K.out.2 e1.symm
          clear e1 hM hA
          go_wp2_with (go_at_call 10; refine Calls.mono (C3.out _) ?_; rintro e W3 ⟨rfl, hb3⟩)
          go_ret
          exact ⟨by simp, hb.trans hb3⟩
  · have e1 : ((l.length : Int) == m.length) = false := beq_eq_false_iff_ne.2 (by omega)
    obtain rfl : R = .tuple #[.bool false, .int .i64 1] := OV.out.trans (if_pos hlm)
    clear OV hs ht hv hvo
    go_enter Try.func5, Try.ntmps5
    go_wp2_with (first
      | (go_at_call 14; refine Calls.mono C1.out ?_; rintro e W0 ⟨rfl, hb0⟩)
      | (go_at_call 10; refine Calls.mono (C3.out _) ?_; rintro e W3 ⟨rfl, hb3⟩))
    go_ret
    refine ⟨rfl, ?_⟩
    (repeat (first | with_reducible exact Bel.refl _ | with_reducible refine Bel.setCell ?_ (by first | exact Nat.le_refl _ | (dsimp only; omega)) _ | with_reducible refine Bel.alloc ?_ _ | with_reducible refine Bel.drew ?_ | with_reducible assumption | with_reducible refine Bel.trans ?_ (by assumption)))
end Go.Proofs.Ytopgahnconbpmaa
