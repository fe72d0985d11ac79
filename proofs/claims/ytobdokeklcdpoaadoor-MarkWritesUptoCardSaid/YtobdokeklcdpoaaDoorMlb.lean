import Derived.Test.YtobdokeklcdpoaaDoorMkz
import Derived.Test.YtobdokeklcdpoaaDoorGrm
import Derived.Shelf.Abstract
namespace Go.Proofs.YtobdokeklcdpoaaDoor
set_option linter.unusedSimpArgs false
set_option linter.unusedVariables false
open Go.RowKit Go.Maps

/-! Marks that can be written. -/
abbrev kL (x : List UInt8) : Lit := .string x
theorem keyS : Keyed Tryd.prog 9 := string_keyed Tryd.underlying9
theorem zeroI (w : World) : (zeroValue 3).run Tryd.prog w = .ok (.int .i64 0) w := by kernel_rfl
theorem kL_inj (x y : List UInt8) (h : kL x = kL y) : x = y := by injection h
theorem kL_key (x : List UInt8) : WideAt.IsKeyLit (kL x) := trivial
theorem wfN {x : Nat} (h : x ≤ 1000000000) : (Lit.int .i64 (x : Int)).wf = true := by
  simp [Lit.wf, IntKind.min, IntKind.max, IntKind.signed, IntKind.bits]
  omega
theorem keyOfL {l : List UInt8} (h : l.length ≤ 1000000000) : keyOf Tryd.prog 9 (.string (bytesOf l)) = some (kL l) :=
  Go.WideMaps.keyOf_string_mk Tryd.underlying9 (by rw [bytesOf_size]; unfold maxLen; omega)
abbrev MapL (w : World) (b n : Nat) (M : List UInt8 → Option Int) (s : Nat) : Prop := HoldsM Tryd.prog 9 3 kL w b n M s
/-- Neither too long nor too many. -/
def AtSml (a : List UInt8 × List UInt8) : Prop := a.1.length ≤ 1048576 ∧ a.2.length ≤ 1048576
theorem take_snoc {α : Type} {l : List α} {k : Nat} {a : α} (h : l[k]? = some a) : l.take (k + 1) = l.take k ++ [a] := by
  rw [List.take_add_one, h]; rfl
theorem drop_cons {α : Type} {l : List α} {k : Nat} {a : α} (h : l[k]? = some a) : l.drop k = a :: l.drop (k + 1) := by
  obtain ⟨h1, h2⟩ := List.getElem?_eq_some_iff.1 h
  rw [List.drop_eq_getElem_cons h1, h2]
theorem escaped_any (l : List UInt8) (hl : l.length ≤ 1048576) (hg : goodL l = true) (w : World) : Calls Tryd.prog 26 #[.string (bytesOf l)] w fun e w' => e = .returned (.string (bytesOf (escL l))) ∧ Bel w w' := by
  have C := Lib.hid fun w => escape_any (bytesOf l) (by rw [bytesOf_size]; omega) w
  have h1 : escT (bytesOf l) = bytesOf (escL l) := by unfold escT; rw [if_pos (show goodB (bytesOf l) = true from hg)]; rfl
  rw [h1] at C
  clear h1 hg hl
  go_enter Tryd.func26, Tryd.ntmps26
  go_wp2_with (go_at_call 38; refine (C.out _).mono ?_; rintro e w1 ⟨rfl, hb1⟩)
  go_ret
  exact ⟨rfl, hb1⟩
set_option maxRecDepth 100000 in
set_option maxHeartbeats 4000000 in
theorem soundAttrs_any (al : List (List UInt8 × List UInt8)) (A : Option Addr) (c : Nat) (w : World) (hR : Row w A (atsCells al)) (hl : al.length ≤ 1048576) (hs : ∀ a ∈ al, AtSml a) :
    Calls Tryd.prog 24 #[.slice A al.length c] w fun e w' => e = .returned (.bool (attsOk [] al)) ∧ Bel w w' := by
  have hli : (al.length : Int) ≤ 1048576 := by omega
  obtain ⟨RES, hRES⟩ : ∃ RES, RES = attsOk [] al := ⟨_, rfl⟩
  rw [← hRES]
  have HR := Lib.hid hRES
  have HS := Lib.hid hs
  clear hRES hs
  have hmm := @run_makeMap Tryd.prog
  go_enter Tryd.func24, Tryd.ntmps24
  go_wp2
  have hM0 : MapL (w.alloc (.map #[] 0)) w.heap.size 0 (fun _ => none) 0 := HoldsM.made w
  have hb0 := (Bel.refl w).alloc (.map #[] 0)
  generalize hb' : w.heap.size = B at hM0 ⊢
  have HB := Lib.hid hb'
  clear hb' hmm
  go_loopg [11] al.length (fun g i wr => ∃ k : Nat, i = .int .i64 k ∧ k ≤ al.length ∧ Hid (g = al.length - k) ∧ Hid (RES = attsOk ((al.take k).map Prod.fst) (al.drop k)) ∧ Hid (∃ M s, MapL wr B k M s ∧ ∀ x, (M x).isSome = ((al.take k).map Prod.fst).contains x) ∧ Bel w wr)
  case atStart => exact ⟨0, rfl, Nat.zero_le _, rfl, HR.out, ⟨_, _, hM0, fun x => rfl⟩, hb0⟩
  case round =>
    clear hM0 hb0
    obtain ⟨k, rfl, hk, hg, hRS, hMM, hb⟩ := hrel
    by_cases hlt : k < al.length
    · obtain ⟨a, ha⟩ : ∃ a, al[k]? = some a := ⟨_, List.getElem?_eq_getElem hlt⟩
      have hsm := HS.out a (List.mem_of_getElem? ha)
      obtain ⟨b, off, rfl, hltb, p0, p1⟩ := ats_at (hR.keep hb) ha
      have i1 : (k : Int) < al.length := by omega
      have i2 : (0 : Int) ≤ (k : Int) := by omega
      have RS := hRS.out
      rw [drop_cons ha] at RS
      unfold attsOk at RS
      rw [← List.map_singleton (f := Prod.fst) (a := a), ← List.map_append, ← take_snoc ha] at RS
      have TK := Lib.hid (show ∀ x, (((al.take (k + 1)).map Prod.fst).contains x) = ((((al.take k).map Prod.fst).contains x) || (x == a.1)) from fun x => by
        rw [take_snoc ha, List.map_append, Bool.eq_iff_iff]
        simp [or_comm])
      obtain ⟨M, s, hM, hMs⟩ := hMM.out
      have HM := Lib.hid (And.intro hM hMs)
      obtain ⟨nm, vl⟩ := a
      simp only at p0 p1 RS TK
      unfold AtSml at hsm
      simp only at hsm
      have CN := Lib.hid fun W => name_any (bytesOf nm) (by rw [bytesOf_size]; omega) W
      have CG := Lib.hid fun W => good_any (bytesOf vl) (by rw [bytesOf_size]; omega) W
      have KO := Lib.hid (keyOfL (l := nm) (by omega))
      clear hM hMs hMM hRS ha hR
      go_upto_region 5 with fail
      refine under_name (w0 := wr) (by (repeat (first | with_reducible exact Bel.refl _ | with_reducible refine Bel.setCell ?_ (by first | exact Nat.le_refl _ | (dsimp only; omega)) _ | with_reducible refine Bel.alloc ?_ _ | with_reducible refine Bel.drew ?_ | with_reducible assumption | with_reducible refine Bel.trans ?_ (by assumption)))) fun W hc hf hz hbW => ?_
      have n0 : W.cell? ⟨wr.heap.size, 0, none⟩ = some (.string (bytesOf nm)) := by simp [hc, go_sem]
      have n1 : W.cell? ⟨wr.heap.size, 1, none⟩ = some (.string (bytesOf vl)) := by simp [hc, go_sem]
      have z0 : wr.heap.size < W.heap.size := by simp [hz]
      clear hc hf hz p0 p1
      generalize wr.heap.size = N at n0 n1 z0 ⊢
      obtain ⟨c0, hlook, _⟩ := HoldsM.look (HM.out.1.keep hbW) keyS Tryd.underlying63 Tryd.underlying3 (zeroI W) KO.out
      rw [HM.out.2] at hlook
      cases hq : ((al.take k).map Prod.fst).contains nm with
      | true =>
        rw [hq] at hlook RS
        have RS := Lib.hid (show RES = false from by rw [RS]; rfl)
        clear hq
        go_wp2_with (first
          | (at_lookup; refine wpList_lookM rfl _ _ rfl rfl rfl hlook ?_)
          | go_in)
        go_ret
        exact ⟨by rw [RS.out] <;> rfl, hb.trans hbW⟩
      | false =>
        rw [hq] at hlook RS
        cases hn : nmOk nm with
        | false =>
          have RS := Lib.hid (show RES = false from by rw [RS, hn]; rfl)
          have hn' : nameB (bytesOf nm) = false := hn
          rw [hn'] at CN
          clear hq hn hn'
          go_wp2_with (first
            | (at_lookup; refine wpList_lookM rfl _ _ rfl rfl rfl hlook ?_)
            | (go_at_call 23; refine (CN.out _).mono ?_; rintro e W2 ⟨rfl, hb2⟩)
            | go_in)
          go_ret
          exact ⟨by rw [RS.out] <;> rfl, (hb.trans hbW).trans hb2⟩
        | true =>
          have hn' : nameB (bytesOf nm) = true := hn
          rw [hn'] at CN
          cases hv : goodL vl with
          | false =>
            have RS := Lib.hid (show RES = false from by rw [RS, hn, hv]; rfl)
            have hv' : goodB (bytesOf vl) = false := hv
            rw [hv'] at CG
            clear hq hn hn' hv hv'
            go_wp2_with (first
              | (at_lookup; refine wpList_lookM rfl _ _ rfl rfl rfl hlook ?_)
              | (go_at_call 22; refine (CG.out _).mono ?_; rintro e W3 ⟨rfl, hb3⟩)
              | (go_at_call 23; refine (CN.out _).mono ?_; rintro e W2 ⟨rfl, hb2⟩; replace n1 := (hb2.cells _ _ z0).trans n1)
              | go_in)
            go_ret
            exact ⟨by rw [RS.out] <;> rfl, ((hb.trans hbW).trans hb2).trans hb3⟩
          | true =>
            have RS := Lib.hid (show RES = attsOk ((al.take (k + 1)).map Prod.fst) (al.drop (k + 1)) from by rw [RS, hn, hv]; rfl)
            have hv' : goodB (bytesOf vl) = true := hv
            rw [hv'] at CG
            have hw := wfN (x := k) (by omega)
            clear hn hn' hv hv'
            have HQ := Lib.hid hq
            clear hq
            go_wp2_with (first
              | (at_lookup; refine wpList_lookM rfl _ _ rfl rfl rfl hlook ?_)
              | (at_mapUpdate; refine wpList_putM rfl _ _ _ rfl rfl rfl rfl (HoldsM.store (((HM.out.1.keep hbW).keep hb2).keep hb3) keyS Tryd.underlying63 Tryd.underlying3 kL_key kL_inj (by unfold maxLen; omega) KO.out hw) ?_; rintro w' ⟨hM', hg'⟩)
              | (go_at_call 22; refine (CG.out _).mono ?_; rintro e W3 ⟨rfl, hb3⟩; replace n0 := (hb3.cells _ _ (Nat.lt_of_lt_of_le z0 hb2.size)).trans n0)
              | (go_at_call 23; refine (CN.out _).mono ?_; rintro e W2 ⟨rfl, hb2⟩; replace n1 := (hb2.cells _ _ z0).trans n1; replace n0 := (hb2.cells _ _ z0).trans n0)
              | go_in)
            go_roundg (al.length - (k + 1))
            case measure => have := hg.out; omega
            case rel =>
              have hbb := ((hb.trans hbW).trans hb2).trans hb3
              refine ⟨k + 1, by go_num, by omega, rfl, RS.out, ⟨_, _, hM', fun x => ?_⟩, Below.grown hbb hg' hbb.size (fun j hj => by cases hj; have := HB.out; omega)⟩
              rw [TK.out]
              unfold mput
              by_cases e : x = nm
              · subst e; rw [if_pos rfl]; simp
              · rw [if_neg e, HM.out.2]
                have : (x == nm) = false := by simpa using e
                rw [this, Bool.or_false]
    · obtain rfl : k = al.length := by omega
      have RS := Lib.hid (show RES = true from by
        have := hRS.out
        rw [List.drop_length] at this
        exact this)
      go_wp2
      go_ret
      exact ⟨by rw [RS.out] <;> rfl, hb⟩
end Go.Proofs.YtobdokeklcdpoaaDoor
