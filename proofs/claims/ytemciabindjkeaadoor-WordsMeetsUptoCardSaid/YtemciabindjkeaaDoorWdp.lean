import Derived.Test.YtemciabindjkeaaDoorWdo
namespace Go.Proofs.YtemciabindjkeaaDoor
set_option linter.unusedSimpArgs false
set_option linter.unusedVariables false
open Go.RowKit Go.Lib

/-! Words: the law on Make. -/
theorem kept_goods (p : ByteArray → Bool) (l : List ByteArray) (h : ∀ s, p s = true → okw s = true) : Goods (keptl p l) := ⟨keptl_srt _ _, fun s hs => h s ((keptl_mem p l s).1 hs).2⟩
theorem kept_fits {p : ByteArray → Bool} {l : List ByteArray} (h : ∀ s ∈ l, Fits s) : ∀ s ∈ keptl p l, Fits s := fun s hs => h s ((keptl_mem p l s).1 hs).1
theorem hasw_kept (all : Bool) (l : List ByteArray) (s : ByteArray) : hasw all (keptl okw l) s = hasw all l s := by
  unfold hasw
  cases h : okw s with
  | false => rfl
  | true => rw [inl_kept l s h]
theorem empty_goods {r : List ByteArray} (h : ∀ s ∈ r, okw s = true) (all : Bool) : emptyw all r = (!all && ((r.length : Int) == 0)) := by
  unfold emptyw
  congr 1
  cases r with
  | nil => rfl
  | cons a t =>
    rw [List.any_cons, h a (List.mem_cons_self ..)]
    simp
    omega
set_option maxRecDepth 100000 in
set_option maxHeartbeats 4000000 in
theorem law_Makes (all : Bool) (l : List ByteArray) (A : Option Addr) (c : Nat) (s : ByteArray) (w : World) (ht : Tab w) (hl : Strs w A l) (hn : l.length * 16 ≤ 140737488355328) (hs : ∀ s ∈ l, Fits s) (hfs : Fits s) :
    Calls Tryd.prog 3 #[.bool all, .slice A l.length c, .string s] w fun e w' => e = .returned (.bool true) ∧ Bel w w' := by
  have MK := Lib.hid (make_any all l A c w hl hn hs)
  have HT := Lib.hid ht
  have HL := Lib.hid hl
  have KG := Lib.hid (kept_goods okw l fun s h => h)
  have KL := Lib.hid (keptl_len okw l)
  have KF := Lib.hid (kept_fits (p := okw) hs)
  have KH := Lib.hid (hasw_kept all l)
  have AS := Lib.hid fun W (hW : Bel w W) => asks_any s l A c [] none 0 W (hl.keep hW) Strs.nil (by omega) (by simp)
  have AF := Lib.hid (askl_fits (m := []) hfs hs (by simp))
  have AL := Lib.hid (askl_len s l [])
  have LA := Lib.hid fun x (hx : Fits x) W (hW : Bel w W) => has_any all l A c x W (hl.keep hW) (by omega) hx
  have LW := Lib.hid fun x (hx : Fits x) W (hW : Bel w W) => rwords_any all l A c x W (hl.keep hW) (by omega) hx
  clear ht hl hs hfs
  unfold wset at LA LW
  generalize keptl okw l = r at MK KG KL KF KH
  go_enter Tryd.func3, Tryd.ntmps3
  go_upto_region 2 with (first
    | (go_at_call 8; (with_reducible refine Calls.mono MK.out ?_); rintro e W1 ⟨A1, c1, rfl, h1, h2, h3, hb1⟩; have S1 := Lib.hid h1; clear h1 h2 h3))
  refine under_name (w0 := W1) (by (repeat (first | with_reducible exact Bel.refl _ | with_reducible refine Bel.setCell ?_ (by first | exact Nat.le_refl _ | (dsimp only; omega)) _ | with_reducible refine Bel.alloc ?_ _ | with_reducible refine Bel.drew ?_ | with_reducible assumption | with_reducible refine Bel.trans ?_ (by assumption)))) fun W2 hc hf hz hb2 => ?_
  have k0 : W2.cell? ⟨W1.heap.size, 0, none⟩ = some (.bool all) := by simp [hc, go_sem]
  have k1 : W2.cell? ⟨W1.heap.size, 1, none⟩ = some (.slice A1 r.length c1) := by simp [hc, go_sem]
  have z2 : W1.heap.size < W2.heap.size := by simp [hz]
  have hb := hb1.trans hb2
  have S2 := Lib.hid (S1.out.keep hb2)
  clear hc hf hz S1 hb1 MK
  generalize W1.heap.size = B at k0 k1 z2 ⊢
  clear hb2
  have EM := Lib.hid (empty_goods KG.out.2 all)
  have RI := Lib.hid fun W (hW : Strs W A1 r) => rrising_any r A1 c1 W KG.out hW (by have := KL.out; omega) KF.out
  have EE := Lib.hid fun W (hW : Strs W A1 r) => empty_any all r A1 c1 W hW (by have := KL.out; omega) KF.out
  unfold wset at EE
  rw [EM.out] at EE
  have HR := Lib.hid fun x (hx : Fits x) W (hW : Strs W A1 r) => has_any all r A1 c1 x W hW (by have := KL.out; omega) hx
  unfold wset at HR
  clear EM KG KF
  generalize hq0 : ((r.length : Int) == 0) = q0 at EE
  cases all with
  | false =>
    simp only [Bool.not_false, Bool.not_true, Bool.true_and, Bool.false_and] at EE
    go_upto_region 5 with (first
      | (go_at_call 9; with_reducible refine Calls.mono (awake_any _ (HT.out.keep hb)) ?_; rintro e W3 ⟨rfl, hb3⟩; have k0 := (hb3.cells _ _ z2).trans k0; have k1 := (hb3.cells _ _ z2).trans k1; have S2 := Lib.hid (S2.out.keep hb3); have z2 := Nat.lt_of_lt_of_le z2 hb3.size; have hb := hb.trans hb3; clear hb3)
      | (go_at_call 10; with_reducible refine Calls.mono (RI.out _ S2.out) ?_; rintro e W4 ⟨rfl, hb3⟩; have k0 := (hb3.cells _ _ z2).trans k0; have k1 := (hb3.cells _ _ z2).trans k1; have S2 := Lib.hid (S2.out.keep hb3); have z2 := Nat.lt_of_lt_of_le z2 hb3.size; have hb := hb.trans hb3; clear hb3)
      | (go_at_call 11; with_reducible refine Calls.mono (EE.out _ S2.out) ?_; rintro e W5 ⟨rfl, hb3⟩; have k0 := (hb3.cells _ _ z2).trans k0; have k1 := (hb3.cells _ _ z2).trans k1; have S2 := Lib.hid (S2.out.keep hb3); have z2 := Nat.lt_of_lt_of_le z2 hb3.size; have hb := hb.trans hb3; clear hb3)
      | (go_at_call 12; (with_reducible refine Calls.mono (AS.out _ hb) ?_); rintro e W6 ⟨A2, c2, rfl, h2, hb3⟩; have k0 := (hb3.cells _ _ z2).trans k0; have k1 := (hb3.cells _ _ z2).trans k1; have S2 := Lib.hid (S2.out.keep hb3); have z2 := Nat.lt_of_lt_of_le z2 hb3.size; have hb := hb.trans hb3; clear hb3; have S6 := Lib.hid h2; clear h2))
    clear hq0 AS RI EE KL
    generalize hLL : askl s l [] = L at S6 AF AL ⊢
    generalize hn6 : L.length = n6
    have HN6 := Lib.hid (And.intro hn6 (show n6 ≤ 46 from by rw [← hn6]; exact AL.out))
    have i0 : (n6 : Int) ≤ 46 := by have := HN6.out.2; omega
    clear hn6 hLL AL
    go_wp2
    go_loopg [9] n6 (fun g i wr => ∃ k : Nat, i = .int .i64 k ∧ k ≤ n6 ∧ Hid (g = n6 - k) ∧ Bel W6 wr)
    case atStart => exact ⟨0, rfl, Nat.zero_le _, rfl, Bel.refl _⟩
    case round =>
      obtain ⟨k, rfl, hk, hh, hb3⟩ := hrel
      by_cases hlt : k < n6
      · obtain ⟨b, off, rfl, hltb, hat⟩ := S6.out.blk (by rw [HN6.out.1]; omega)
        obtain ⟨x, hxk⟩ : ∃ x, L[k]? = some x := ⟨_, List.getElem?_eq_getElem (by rw [HN6.out.1]; exact hlt)⟩
        have hcell := (hb3.cells _ (off + k) hltb).trans (hat k x hxk)
        have hfx := AF.out x (List.mem_of_getElem? hxk)
        have i1 : (k : Int) < n6 := by omega
        have i2 : (0 : Int) ≤ (k : Int) := by omega
        have LW1 := Lib.hid (LW.out x hfx)
        have HB := Lib.hid fun v W (h : v = .agg #[.bool false, .slice A1 r.length c1] ∨ v = .agg #[.bool false, .slice A l.length c]) (h1 : Bel w W) (h2 : Strs W A1 r) => (show Calls Tryd.prog 14 #[v, .string x] W fun e w' => e = .returned (.bool (hasw false l x)) ∧ Bel W w' from by
          rcases h with rfl | rfl
          · have := HR.out x hfx W h2
            rw [KH.out] at this
            exact this
          · exact LA.out x hfx W h1)
        generalize hasw false l x = q at LW1 HB
        have j0 := (hb3.cells _ _ z2).trans k0
        have j1 := (hb3.cells _ _ z2).trans k1
        have hbX := hb.trans hb3
        have S7 := Lib.hid (S2.out.keep hb3)
        have z3 := Nat.lt_of_lt_of_le z2 hb3.size
        have z4 := Nat.lt_of_lt_of_le hltb hb3.size
        clear hat hxk HR LA LW KH k0 k1 z2 S2 hb hltb
        go_upto_region 9 with (go_at_call 13; (with_reducible refine Calls.mono (LW1.out _ hbX) ?_); rintro e W8 ⟨rfl, hb8⟩)
        have j0 := (hb8.cells _ _ z3).trans j0
        have j1 := (hb8.cells _ _ z3).trans j1
        have hcell := (hb8.cells _ _ z4).trans hcell
        have hbX := hbX.trans hb8
        have S7 := Lib.hid (S7.out.keep hb8)
        have z3 := Nat.lt_of_lt_of_le z3 hb8.size
        have z4 := Nat.lt_of_lt_of_le z4 hb8.size
        have HB1 := Lib.hid fun w' (hS : Bel W8 w' ∧ (∀ b o, b < W8.heap.size → w'.cell? ⟨b, o, none⟩ = W8.cell? ⟨b, o, none⟩)) v h => HB.out v w' h (hbX.trans hS.1) (S7.out.keep hS.1)
        clear HB
        cases q
        all_goals
          refine wp_region_uni (S := (fun w' => Bel W8 w' ∧ (∀ b o, b < W8.heap.size → w'.cell? ⟨b, o, none⟩ = W8.cell? ⟨b, o, none⟩))) (by kernel_rfl) (by kernel_rfl) keep0 ?_
          repeat (first | (refine wpUni_skip (by rfl) ?_; (try simp only [Act.put, List.setIfInBounds_toArray, List.set_cons_zero, List.set_cons_succ]))
                                                            | (refine wpUni_value (by rfl) (fun w hS => by (try dsimp only at hS); go_simp; first | done | with_reducible rfl) ?_; (try simp only [Act.put, List.setIfInBounds_toArray, List.set_cons_zero, List.set_cons_succ]))
                                                            | (refine wpUni_call (f := 14) (by rfl) (fun w => by go_simp; first | done | with_reducible rfl) (fun w hS => (HB1.out w hS _ (by first | exact .inl rfl | exact .inr rfl)).mono fun e w' ⟨he, hb⟩ => ⟨he, keep1 hS hb⟩) ?_; (try simp only [Act.put, List.setIfInBounds_toArray, List.set_cons_zero, List.set_cons_succ])))
          refine wpUni_nil fun W9 hS => ?_
          have hb9 := hb3.trans (hb8.trans hS.1)
          clear hS
          go_wp2_with fail
          go_roundg (n6 - (k + 1))
          case measure => have := hh.out; omega
          case rel => exact ⟨k + 1, by go_num, by omega, rfl, hb9⟩
      · obtain rfl : k = n6 := by omega
        go_wp2
        go_ret
        exact ⟨rfl, hb.trans hb3⟩
  | true =>
    simp only [Bool.not_false, Bool.not_true, Bool.true_and, Bool.false_and] at EE
    go_upto_region 5 with (first
      | (go_at_call 9; with_reducible refine Calls.mono (awake_any _ (HT.out.keep hb)) ?_; rintro e W3 ⟨rfl, hb3⟩; have k0 := (hb3.cells _ _ z2).trans k0; have k1 := (hb3.cells _ _ z2).trans k1; have S2 := Lib.hid (S2.out.keep hb3); have z2 := Nat.lt_of_lt_of_le z2 hb3.size; have hb := hb.trans hb3; clear hb3)
      | (go_at_call 10; with_reducible refine Calls.mono (RI.out _ S2.out) ?_; rintro e W4 ⟨rfl, hb3⟩; have k0 := (hb3.cells _ _ z2).trans k0; have k1 := (hb3.cells _ _ z2).trans k1; have S2 := Lib.hid (S2.out.keep hb3); have z2 := Nat.lt_of_lt_of_le z2 hb3.size; have hb := hb.trans hb3; clear hb3)
      | (go_at_call 11; with_reducible refine Calls.mono (EE.out _ S2.out) ?_; rintro e W5 ⟨rfl, hb3⟩; have k0 := (hb3.cells _ _ z2).trans k0; have k1 := (hb3.cells _ _ z2).trans k1; have S2 := Lib.hid (S2.out.keep hb3); have z2 := Nat.lt_of_lt_of_le z2 hb3.size; have hb := hb.trans hb3; clear hb3)
      | (go_at_call 12; (with_reducible refine Calls.mono (AS.out _ hb) ?_); rintro e W6 ⟨A2, c2, rfl, h2, hb3⟩; have k0 := (hb3.cells _ _ z2).trans k0; have k1 := (hb3.cells _ _ z2).trans k1; have S2 := Lib.hid (S2.out.keep hb3); have z2 := Nat.lt_of_lt_of_le z2 hb3.size; have hb := hb.trans hb3; clear hb3; have S6 := Lib.hid h2; clear h2))
    clear hq0 AS RI EE KL
    generalize hLL : askl s l [] = L at S6 AF AL ⊢
    generalize hn6 : L.length = n6
    have HN6 := Lib.hid (And.intro hn6 (show n6 ≤ 46 from by rw [← hn6]; exact AL.out))
    have i0 : (n6 : Int) ≤ 46 := by have := HN6.out.2; omega
    clear hn6 hLL AL
    go_wp2
    go_loopg [9] n6 (fun g i wr => ∃ k : Nat, i = .int .i64 k ∧ k ≤ n6 ∧ Hid (g = n6 - k) ∧ Bel W6 wr)
    case atStart => exact ⟨0, rfl, Nat.zero_le _, rfl, Bel.refl _⟩
    case round =>
      obtain ⟨k, rfl, hk, hh, hb3⟩ := hrel
      by_cases hlt : k < n6
      · obtain ⟨b, off, rfl, hltb, hat⟩ := S6.out.blk (by rw [HN6.out.1]; omega)
        obtain ⟨x, hxk⟩ : ∃ x, L[k]? = some x := ⟨_, List.getElem?_eq_getElem (by rw [HN6.out.1]; exact hlt)⟩
        have hcell := (hb3.cells _ (off + k) hltb).trans (hat k x hxk)
        have hfx := AF.out x (List.mem_of_getElem? hxk)
        have i1 : (k : Int) < n6 := by omega
        have i2 : (0 : Int) ≤ (k : Int) := by omega
        have LW1 := Lib.hid (LW.out x hfx)
        have HB := Lib.hid fun v W (h : v = .agg #[.bool true, .slice A1 r.length c1] ∨ v = .agg #[.bool true, .slice A l.length c]) (h1 : Bel w W) (h2 : Strs W A1 r) => (show Calls Tryd.prog 14 #[v, .string x] W fun e w' => e = .returned (.bool (hasw true l x)) ∧ Bel W w' from by
          rcases h with rfl | rfl
          · have := HR.out x hfx W h2
            rw [KH.out] at this
            exact this
          · exact LA.out x hfx W h1)
        generalize hasw true l x = q at LW1 HB
        have j0 := (hb3.cells _ _ z2).trans k0
        have j1 := (hb3.cells _ _ z2).trans k1
        have hbX := hb.trans hb3
        have S7 := Lib.hid (S2.out.keep hb3)
        have z3 := Nat.lt_of_lt_of_le z2 hb3.size
        have z4 := Nat.lt_of_lt_of_le hltb hb3.size
        clear hat hxk HR LA LW KH k0 k1 z2 S2 hb hltb
        go_upto_region 9 with (go_at_call 13; (with_reducible refine Calls.mono (LW1.out _ hbX) ?_); rintro e W8 ⟨rfl, hb8⟩)
        have j0 := (hb8.cells _ _ z3).trans j0
        have j1 := (hb8.cells _ _ z3).trans j1
        have hcell := (hb8.cells _ _ z4).trans hcell
        have hbX := hbX.trans hb8
        have S7 := Lib.hid (S7.out.keep hb8)
        have z3 := Nat.lt_of_lt_of_le z3 hb8.size
        have z4 := Nat.lt_of_lt_of_le z4 hb8.size
        have HB1 := Lib.hid fun w' (hS : Bel W8 w' ∧ (∀ b o, b < W8.heap.size → w'.cell? ⟨b, o, none⟩ = W8.cell? ⟨b, o, none⟩)) v h => HB.out v w' h (hbX.trans hS.1) (S7.out.keep hS.1)
        clear HB
        cases q
        all_goals
          refine wp_region_uni (S := (fun w' => Bel W8 w' ∧ (∀ b o, b < W8.heap.size → w'.cell? ⟨b, o, none⟩ = W8.cell? ⟨b, o, none⟩))) (by kernel_rfl) (by kernel_rfl) keep0 ?_
          repeat (first | (refine wpUni_skip (by rfl) ?_; (try simp only [Act.put, List.setIfInBounds_toArray, List.set_cons_zero, List.set_cons_succ]))
                                                            | (refine wpUni_value (by rfl) (fun w hS => by (try dsimp only at hS); go_simp; first | done | with_reducible rfl) ?_; (try simp only [Act.put, List.setIfInBounds_toArray, List.set_cons_zero, List.set_cons_succ]))
                                                            | (refine wpUni_call (f := 14) (by rfl) (fun w => by go_simp; first | done | with_reducible rfl) (fun w hS => (HB1.out w hS _ (by first | exact .inl rfl | exact .inr rfl)).mono fun e w' ⟨he, hb⟩ => ⟨he, keep1 hS hb⟩) ?_; (try simp only [Act.put, List.setIfInBounds_toArray, List.set_cons_zero, List.set_cons_succ])))
          refine wpUni_nil fun W9 hS => ?_
          have hb9 := hb3.trans (hb8.trans hS.1)
          clear hS
          go_wp2_with fail
          go_roundg (n6 - (k + 1))
          case measure => have := hh.out; omega
          case rel => exact ⟨k + 1, by go_num, by omega, rfl, hb9⟩
      · obtain rfl : k = n6 := by omega
        go_wp2
        go_ret
        exact ⟨rfl, hb.trans hb3⟩
end Go.Proofs.YtemciabindjkeaaDoor
