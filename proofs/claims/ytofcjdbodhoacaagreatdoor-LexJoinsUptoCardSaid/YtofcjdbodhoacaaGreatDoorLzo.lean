import Derived.Test.YtofcjdbodhoacaaGreatDoorLzn
namespace Go.Proofs.YtofcjdbodhoacaaGreatDoor
set_option linter.unusedSimpArgs false
set_option linter.unusedVariables false
open Go.RowKit

/-! The document: signs written, tokens joined; the law Joins. -/
set_option maxRecDepth 100000 in
set_option maxHeartbeats 16000000 in
theorem rwritten5 (p : Int) (x : List UInt8) (a b d : Int) (hx : x.length ≤ 1048576) (w : World) : Calls Tryz.prog 29 #[.agg #[.int .i64 5, .int .i64 p, .string (bytesOf x), .int .i64 a, .int .i64 b, .int .i64 d]] w (WrOut ⟨5, p, x, a, b, d⟩ w) := by
  have hm : ∀ i g, signsL[i]? = some g → x = g → x ∈ signsL := fun i g h e => by rw [e]; exact List.mem_of_getElem? h
  have hn : (∀ i g, signsL[i]? = some g → x ≠ g) → x ∉ signsL := fun h hm => by
    obtain ⟨i, hi⟩ := List.mem_iff_getElem?.1 hm
    exact h i x hi rfl
  have HM := Lib.hid hm
  have HN := Lib.hid hn
  clear hm hn
  by_cases ha : a = 0
  · have e1 : (a == 0) = true := beq_iff_eq.2 ha
    by_cases hb0 : b = 0
    · have e2 : (b == 0) = true := beq_iff_eq.2 hb0
      by_cases hd : d = 0
      · have g3 : (d == 0) = true := beq_iff_eq.2 hd
        have TSY := Lib.hid (show x ∈ signsL → tsnd ⟨5, p, x, a, b, d⟩ = true from fun h => ts5.2 ⟨ha, hb0, hd, h⟩)
        clear ha hb0 hd
        go_enter Tryz.func29, Tryz.ntmps29
        go_upto_region 15 with fail
        refine under_name (w0 := w) (by (repeat (first | with_reducible exact Bel.refl _ | with_reducible refine Bel.setCell ?_ (by first | exact Nat.le_refl _ | (dsimp only; omega)) _ | with_reducible refine Bel.alloc ?_ _ | with_reducible refine Bel.drew ?_ | with_reducible assumption | with_reducible refine Bel.trans ?_ (by assumption)))) fun W hc hf hz hb => ?_
        have T : TSlot W w.heap.size ⟨5, p, x, a, b, d⟩ := by simp [TSlot, hc, hf, hz, go_sem]
        have CELL := Lib.hid (show ∀ i g, signsL[i]? = some g → W.cell? ⟨w.heap.size + 1, i, none⟩ = some (.string (bytesOf g)) from by
          intro i g hg
          have hi : i < 16 := by rw [← signs_size]; exact (List.getElem?_eq_some_iff.1 hg).1
          have key : ∀ i, i < 16 → W.cell? ⟨w.heap.size + 1, i, none⟩ = some (.string (bytesOf (signsL.getD i []))) := by
            intro i hi
            match i, hi with
            | 0, _ => simp [hc, go_sem, signsL, sg2, sg1, bytesOf]
            | 1, _ => simp [hc, go_sem, signsL, sg2, sg1, bytesOf]
            | 2, _ => simp [hc, go_sem, signsL, sg2, sg1, bytesOf]
            | 3, _ => simp [hc, go_sem, signsL, sg2, sg1, bytesOf]
            | 4, _ => simp [hc, go_sem, signsL, sg2, sg1, bytesOf]
            | 5, _ => simp [hc, go_sem, signsL, sg2, sg1, bytesOf]
            | 6, _ => simp [hc, go_sem, signsL, sg2, sg1, bytesOf]
            | 7, _ => simp [hc, go_sem, signsL, sg2, sg1, bytesOf]
            | 8, _ => simp [hc, go_sem, signsL, sg2, sg1, bytesOf]
            | 9, _ => simp [hc, go_sem, signsL, sg2, sg1, bytesOf]
            | 10, _ => simp [hc, go_sem, signsL, sg2, sg1, bytesOf]
            | 11, _ => simp [hc, go_sem, signsL, sg2, sg1, bytesOf]
            | 12, _ => simp [hc, go_sem, signsL, sg2, sg1, bytesOf]
            | 13, _ => simp [hc, go_sem, signsL, sg2, sg1, bytesOf]
            | 14, _ => simp [hc, go_sem, signsL, sg2, sg1, bytesOf]
            | 15, _ => simp [hc, go_sem, signsL, sg2, sg1, bytesOf]
            | k + 16, h => exact absurd h (by omega)
          rw [key i hi, List.getD_eq_getElem?_getD, hg]
          rfl)
        have nz : w.heap.size + 1 < W.heap.size := by simp [hz, go_sem]
        clear hc hf hz
        generalize w.heap.size = N at *
        have TT := Lib.hid T
        have HB := Lib.hid hb
        clear T hb
        go_loopg [112] 17 (fun g iv wr => ∃ i : Nat, iv = .int .i64 i ∧ i ≤ 16 ∧ Hid (17 - i ≤ g) ∧ Hid (∀ j g, j < i → signsL[j]? = some g → x ≠ g) ∧ Hid (Bel W wr))
        case atStart => exact ⟨0, rfl, by omega, Lib.hid (by omega), Lib.hid (fun j g h => by omega), Lib.hid (Bel.refl _)⟩
        case round =>
          obtain ⟨i, rfl, hi, hg, hR, hb⟩ := hrel
          have i0 : (0 : Int) ≤ (i : Int) := by omega
          obtain ⟨s0, ⟨s1, s2, s3, s4, s5, s6⟩, _⟩ := TT.out.keep hb.out
          simp only at s1 s2 s3 s4 s5 s6
          have nz2 := Nat.lt_of_lt_of_le nz hb.out.size
          by_cases hlt : i < 16
          · have hii : (i : Int) < 16 := by omega
            have w2 : IntKind.i64.wrap ((i : Int) + 1) = (i : Int) + 1 := by rw [IntKind.wrap_i64]; omega
            obtain ⟨g, hgi⟩ : ∃ g, signsL[i]? = some g := ⟨_, List.getElem?_eq_getElem (by rw [signs_size]; exact hlt)⟩
            have hcell := (hb.out.cells _ _ nz).trans (CELL.out i g hgi)
            by_cases hxg : x = g
            · have c2 : ((bytesOf x).toList == (bytesOf g).toList) = true := by rw [hxg, beq_iff_eq]
              have MX := Lib.hid (HM.out i g hgi hxg)
              have GX := Lib.hid hxg
              clear hxg hgi
              go_wp2_with fail
              go_quiet (fail)
              go_wp2_with fail
              go_ret2
              exact wr_yes (TSY.out MX.out) rfl (by rw [← GX.out]; rfl) ((HB.out.trans hb.out).trans (bel_drewN _ _))
            · have c2 : ((bytesOf x).toList == (bytesOf g).toList) = false := beq_ne (fun e => hxg (bytesOf_inj e))
              have RN := Lib.hid (show ∀ j g', j < i + 1 → signsL[j]? = some g' → x ≠ g' from fun j g' hj hg' => by
                rcases (by omega : j < i ∨ j = i) with h | h
                · exact hR.out j g' h hg'
                · subst h
                  rw [hgi] at hg'
                  cases hg'
                  exact hxg)
              clear hxg hgi
              go_wp2_with fail
              go_roundg (17 - (i + 1))
              case measure => have := hg.out; omega
              case rel => exact ⟨i + 1, by go_num, by omega, Lib.hid (Nat.le_refl _), RN, hb⟩
          · obtain rfl : i = 16 := by omega
            have NM := Lib.hid (HN.out fun j g hj => hR.out j g (by rw [← signs_size]; exact (List.getElem?_eq_some_iff.1 hj).1) hj)
            have TS := Lib.hid (show tsnd ⟨5, p, x, a, b, d⟩ = false from by rw [Bool.eq_false_iff]; exact fun h => NM.out (ts5.1 h).2.2.2)
            clear hlt
            go_wp2_with fail
            go_ret2
            exact wr_no TS.out rfl (HB.out.trans hb.out)
      · have g3 : (d == 0) = false := beq_eq_false_iff_ne.2 hd
        have TS := Lib.hid (show tsnd ⟨5, p, x, a, b, d⟩ = false from by rw [Bool.eq_false_iff]; exact fun h => hd (ts5.1 h).2.2.1)
        (try clear ha)
        (try clear hb0)
        (try clear hd)
        go_enter Tryz.func29, Tryz.ntmps29
        go_upto_region 15 with fail
        refine under_name (w0 := w) (by (repeat (first | with_reducible exact Bel.refl _ | with_reducible refine Bel.setCell ?_ (by first | exact Nat.le_refl _ | (dsimp only; omega)) _ | with_reducible refine Bel.alloc ?_ _ | with_reducible refine Bel.drew ?_ | with_reducible assumption | with_reducible refine Bel.trans ?_ (by assumption)))) fun W hc hf hz hb => ?_
        have T : TSlot W w.heap.size ⟨5, p, x, a, b, d⟩ := by simp [TSlot, hc, hf, hz, go_sem]
        have CELL := Lib.hid (show ∀ i g, signsL[i]? = some g → W.cell? ⟨w.heap.size + 1, i, none⟩ = some (.string (bytesOf g)) from by
          intro i g hg
          have hi : i < 16 := by rw [← signs_size]; exact (List.getElem?_eq_some_iff.1 hg).1
          have key : ∀ i, i < 16 → W.cell? ⟨w.heap.size + 1, i, none⟩ = some (.string (bytesOf (signsL.getD i []))) := by
            intro i hi
            match i, hi with
            | 0, _ => simp [hc, go_sem, signsL, sg2, sg1, bytesOf]
            | 1, _ => simp [hc, go_sem, signsL, sg2, sg1, bytesOf]
            | 2, _ => simp [hc, go_sem, signsL, sg2, sg1, bytesOf]
            | 3, _ => simp [hc, go_sem, signsL, sg2, sg1, bytesOf]
            | 4, _ => simp [hc, go_sem, signsL, sg2, sg1, bytesOf]
            | 5, _ => simp [hc, go_sem, signsL, sg2, sg1, bytesOf]
            | 6, _ => simp [hc, go_sem, signsL, sg2, sg1, bytesOf]
            | 7, _ => simp [hc, go_sem, signsL, sg2, sg1, bytesOf]
            | 8, _ => simp [hc, go_sem, signsL, sg2, sg1, bytesOf]
            | 9, _ => simp [hc, go_sem, signsL, sg2, sg1, bytesOf]
            | 10, _ => simp [hc, go_sem, signsL, sg2, sg1, bytesOf]
            | 11, _ => simp [hc, go_sem, signsL, sg2, sg1, bytesOf]
            | 12, _ => simp [hc, go_sem, signsL, sg2, sg1, bytesOf]
            | 13, _ => simp [hc, go_sem, signsL, sg2, sg1, bytesOf]
            | 14, _ => simp [hc, go_sem, signsL, sg2, sg1, bytesOf]
            | 15, _ => simp [hc, go_sem, signsL, sg2, sg1, bytesOf]
            | k + 16, h => exact absurd h (by omega)
          rw [key i hi, List.getD_eq_getElem?_getD, hg]
          rfl)
        have nz : w.heap.size + 1 < W.heap.size := by simp [hz, go_sem]
        clear hc hf hz
        generalize w.heap.size = N at *
        have TT := Lib.hid T
        have HB := Lib.hid hb
        clear T hb
        go_loopg [112] 17 (fun g iv wr => ∃ i : Nat, iv = .int .i64 i ∧ i ≤ 16 ∧ Hid (17 - i ≤ g) ∧ Hid (∀ j g, j < i → signsL[j]? = some g → x ≠ g) ∧ Hid (Bel W wr))
        case atStart => exact ⟨0, rfl, by omega, Lib.hid (by omega), Lib.hid (fun j g h => by omega), Lib.hid (Bel.refl _)⟩
        case round =>
          obtain ⟨i, rfl, hi, hg, hR, hb⟩ := hrel
          have i0 : (0 : Int) ≤ (i : Int) := by omega
          obtain ⟨s0, ⟨s1, s2, s3, s4, s5, s6⟩, _⟩ := TT.out.keep hb.out
          simp only at s1 s2 s3 s4 s5 s6
          have nz2 := Nat.lt_of_lt_of_le nz hb.out.size
          by_cases hlt : i < 16
          · have hii : (i : Int) < 16 := by omega
            have w2 : IntKind.i64.wrap ((i : Int) + 1) = (i : Int) + 1 := by rw [IntKind.wrap_i64]; omega
            obtain ⟨g, hgi⟩ : ∃ g, signsL[i]? = some g := ⟨_, List.getElem?_eq_getElem (by rw [signs_size]; exact hlt)⟩
            have hcell := (hb.out.cells _ _ nz).trans (CELL.out i g hgi)
            by_cases hxg : x = g
            · have c2 : ((bytesOf x).toList == (bytesOf g).toList) = true := by rw [hxg, beq_iff_eq]
              have MX := Lib.hid (HM.out i g hgi hxg)
              have GX := Lib.hid hxg
              clear hxg hgi
              go_wp2_with fail
              go_quiet (fail)
              go_wp2_with fail
              go_ret2
              exact wr_no TS.out rfl ((HB.out.trans hb.out).trans (bel_drewN _ _))
            · have c2 : ((bytesOf x).toList == (bytesOf g).toList) = false := beq_ne (fun e => hxg (bytesOf_inj e))
              have RN := Lib.hid (show ∀ j g', j < i + 1 → signsL[j]? = some g' → x ≠ g' from fun j g' hj hg' => by
                rcases (by omega : j < i ∨ j = i) with h | h
                · exact hR.out j g' h hg'
                · subst h
                  rw [hgi] at hg'
                  cases hg'
                  exact hxg)
              clear hxg hgi
              go_wp2_with fail
              go_roundg (17 - (i + 1))
              case measure => have := hg.out; omega
              case rel => exact ⟨i + 1, by go_num, by omega, Lib.hid (Nat.le_refl _), RN, hb⟩
          · obtain rfl : i = 16 := by omega
            have NM := Lib.hid (HN.out fun j g hj => hR.out j g (by rw [← signs_size]; exact (List.getElem?_eq_some_iff.1 hj).1) hj)
            have TS := Lib.hid (show tsnd ⟨5, p, x, a, b, d⟩ = false from by rw [Bool.eq_false_iff]; exact fun h => NM.out (ts5.1 h).2.2.2)
            clear hlt
            go_wp2_with fail
            go_ret2
            exact wr_no TS.out rfl (HB.out.trans hb.out)
    · have e2 : (b == 0) = false := beq_eq_false_iff_ne.2 hb0
      have TS := Lib.hid (show tsnd ⟨5, p, x, a, b, d⟩ = false from by rw [Bool.eq_false_iff]; exact fun h => hb0 (ts5.1 h).2.1)
      (try clear ha)
      (try clear hb0)
      (try clear hd)
      go_enter Tryz.func29, Tryz.ntmps29
      go_upto_region 15 with fail
      refine under_name (w0 := w) (by (repeat (first | with_reducible exact Bel.refl _ | with_reducible refine Bel.setCell ?_ (by first | exact Nat.le_refl _ | (dsimp only; omega)) _ | with_reducible refine Bel.alloc ?_ _ | with_reducible refine Bel.drew ?_ | with_reducible assumption | with_reducible refine Bel.trans ?_ (by assumption)))) fun W hc hf hz hb => ?_
      have T : TSlot W w.heap.size ⟨5, p, x, a, b, d⟩ := by simp [TSlot, hc, hf, hz, go_sem]
      have CELL := Lib.hid (show ∀ i g, signsL[i]? = some g → W.cell? ⟨w.heap.size + 1, i, none⟩ = some (.string (bytesOf g)) from by
        intro i g hg
        have hi : i < 16 := by rw [← signs_size]; exact (List.getElem?_eq_some_iff.1 hg).1
        have key : ∀ i, i < 16 → W.cell? ⟨w.heap.size + 1, i, none⟩ = some (.string (bytesOf (signsL.getD i []))) := by
          intro i hi
          match i, hi with
          | 0, _ => simp [hc, go_sem, signsL, sg2, sg1, bytesOf]
          | 1, _ => simp [hc, go_sem, signsL, sg2, sg1, bytesOf]
          | 2, _ => simp [hc, go_sem, signsL, sg2, sg1, bytesOf]
          | 3, _ => simp [hc, go_sem, signsL, sg2, sg1, bytesOf]
          | 4, _ => simp [hc, go_sem, signsL, sg2, sg1, bytesOf]
          | 5, _ => simp [hc, go_sem, signsL, sg2, sg1, bytesOf]
          | 6, _ => simp [hc, go_sem, signsL, sg2, sg1, bytesOf]
          | 7, _ => simp [hc, go_sem, signsL, sg2, sg1, bytesOf]
          | 8, _ => simp [hc, go_sem, signsL, sg2, sg1, bytesOf]
          | 9, _ => simp [hc, go_sem, signsL, sg2, sg1, bytesOf]
          | 10, _ => simp [hc, go_sem, signsL, sg2, sg1, bytesOf]
          | 11, _ => simp [hc, go_sem, signsL, sg2, sg1, bytesOf]
          | 12, _ => simp [hc, go_sem, signsL, sg2, sg1, bytesOf]
          | 13, _ => simp [hc, go_sem, signsL, sg2, sg1, bytesOf]
          | 14, _ => simp [hc, go_sem, signsL, sg2, sg1, bytesOf]
          | 15, _ => simp [hc, go_sem, signsL, sg2, sg1, bytesOf]
          | k + 16, h => exact absurd h (by omega)
        rw [key i hi, List.getD_eq_getElem?_getD, hg]
        rfl)
      have nz : w.heap.size + 1 < W.heap.size := by simp [hz, go_sem]
      clear hc hf hz
      generalize w.heap.size = N at *
      have TT := Lib.hid T
      have HB := Lib.hid hb
      clear T hb
      go_loopg [112] 17 (fun g iv wr => ∃ i : Nat, iv = .int .i64 i ∧ i ≤ 16 ∧ Hid (17 - i ≤ g) ∧ Hid (∀ j g, j < i → signsL[j]? = some g → x ≠ g) ∧ Hid (Bel W wr))
      case atStart => exact ⟨0, rfl, by omega, Lib.hid (by omega), Lib.hid (fun j g h => by omega), Lib.hid (Bel.refl _)⟩
      case round =>
        obtain ⟨i, rfl, hi, hg, hR, hb⟩ := hrel
        have i0 : (0 : Int) ≤ (i : Int) := by omega
        obtain ⟨s0, ⟨s1, s2, s3, s4, s5, s6⟩, _⟩ := TT.out.keep hb.out
        simp only at s1 s2 s3 s4 s5 s6
        have nz2 := Nat.lt_of_lt_of_le nz hb.out.size
        by_cases hlt : i < 16
        · have hii : (i : Int) < 16 := by omega
          have w2 : IntKind.i64.wrap ((i : Int) + 1) = (i : Int) + 1 := by rw [IntKind.wrap_i64]; omega
          obtain ⟨g, hgi⟩ : ∃ g, signsL[i]? = some g := ⟨_, List.getElem?_eq_getElem (by rw [signs_size]; exact hlt)⟩
          have hcell := (hb.out.cells _ _ nz).trans (CELL.out i g hgi)
          by_cases hxg : x = g
          · have c2 : ((bytesOf x).toList == (bytesOf g).toList) = true := by rw [hxg, beq_iff_eq]
            have MX := Lib.hid (HM.out i g hgi hxg)
            have GX := Lib.hid hxg
            clear hxg hgi
            go_wp2_with fail
            go_quiet (fail)
            go_wp2_with fail
            go_ret2
            exact wr_no TS.out rfl ((HB.out.trans hb.out).trans (bel_drewN _ _))
          · have c2 : ((bytesOf x).toList == (bytesOf g).toList) = false := beq_ne (fun e => hxg (bytesOf_inj e))
            have RN := Lib.hid (show ∀ j g', j < i + 1 → signsL[j]? = some g' → x ≠ g' from fun j g' hj hg' => by
              rcases (by omega : j < i ∨ j = i) with h | h
              · exact hR.out j g' h hg'
              · subst h
                rw [hgi] at hg'
                cases hg'
                exact hxg)
            clear hxg hgi
            go_wp2_with fail
            go_roundg (17 - (i + 1))
            case measure => have := hg.out; omega
            case rel => exact ⟨i + 1, by go_num, by omega, Lib.hid (Nat.le_refl _), RN, hb⟩
        · obtain rfl : i = 16 := by omega
          have NM := Lib.hid (HN.out fun j g hj => hR.out j g (by rw [← signs_size]; exact (List.getElem?_eq_some_iff.1 hj).1) hj)
          have TS := Lib.hid (show tsnd ⟨5, p, x, a, b, d⟩ = false from by rw [Bool.eq_false_iff]; exact fun h => NM.out (ts5.1 h).2.2.2)
          clear hlt
          go_wp2_with fail
          go_ret2
          exact wr_no TS.out rfl (HB.out.trans hb.out)
  · have e1 : (a == 0) = false := beq_eq_false_iff_ne.2 ha
    have TS := Lib.hid (show tsnd ⟨5, p, x, a, b, d⟩ = false from by rw [Bool.eq_false_iff]; exact fun h => ha (ts5.1 h).1)
    (try clear ha)
    (try clear hb0)
    (try clear hd)
    go_enter Tryz.func29, Tryz.ntmps29
    go_upto_region 15 with fail
    refine under_name (w0 := w) (by (repeat (first | with_reducible exact Bel.refl _ | with_reducible refine Bel.setCell ?_ (by first | exact Nat.le_refl _ | (dsimp only; omega)) _ | with_reducible refine Bel.alloc ?_ _ | with_reducible refine Bel.drew ?_ | with_reducible assumption | with_reducible refine Bel.trans ?_ (by assumption)))) fun W hc hf hz hb => ?_
    have T : TSlot W w.heap.size ⟨5, p, x, a, b, d⟩ := by simp [TSlot, hc, hf, hz, go_sem]
    have CELL := Lib.hid (show ∀ i g, signsL[i]? = some g → W.cell? ⟨w.heap.size + 1, i, none⟩ = some (.string (bytesOf g)) from by
      intro i g hg
      have hi : i < 16 := by rw [← signs_size]; exact (List.getElem?_eq_some_iff.1 hg).1
      have key : ∀ i, i < 16 → W.cell? ⟨w.heap.size + 1, i, none⟩ = some (.string (bytesOf (signsL.getD i []))) := by
        intro i hi
        match i, hi with
        | 0, _ => simp [hc, go_sem, signsL, sg2, sg1, bytesOf]
        | 1, _ => simp [hc, go_sem, signsL, sg2, sg1, bytesOf]
        | 2, _ => simp [hc, go_sem, signsL, sg2, sg1, bytesOf]
        | 3, _ => simp [hc, go_sem, signsL, sg2, sg1, bytesOf]
        | 4, _ => simp [hc, go_sem, signsL, sg2, sg1, bytesOf]
        | 5, _ => simp [hc, go_sem, signsL, sg2, sg1, bytesOf]
        | 6, _ => simp [hc, go_sem, signsL, sg2, sg1, bytesOf]
        | 7, _ => simp [hc, go_sem, signsL, sg2, sg1, bytesOf]
        | 8, _ => simp [hc, go_sem, signsL, sg2, sg1, bytesOf]
        | 9, _ => simp [hc, go_sem, signsL, sg2, sg1, bytesOf]
        | 10, _ => simp [hc, go_sem, signsL, sg2, sg1, bytesOf]
        | 11, _ => simp [hc, go_sem, signsL, sg2, sg1, bytesOf]
        | 12, _ => simp [hc, go_sem, signsL, sg2, sg1, bytesOf]
        | 13, _ => simp [hc, go_sem, signsL, sg2, sg1, bytesOf]
        | 14, _ => simp [hc, go_sem, signsL, sg2, sg1, bytesOf]
        | 15, _ => simp [hc, go_sem, signsL, sg2, sg1, bytesOf]
        | k + 16, h => exact absurd h (by omega)
      rw [key i hi, List.getD_eq_getElem?_getD, hg]
      rfl)
    have nz : w.heap.size + 1 < W.heap.size := by simp [hz, go_sem]
    clear hc hf hz
    generalize w.heap.size = N at *
    have TT := Lib.hid T
    have HB := Lib.hid hb
    clear T hb
    go_loopg [112] 17 (fun g iv wr => ∃ i : Nat, iv = .int .i64 i ∧ i ≤ 16 ∧ Hid (17 - i ≤ g) ∧ Hid (∀ j g, j < i → signsL[j]? = some g → x ≠ g) ∧ Hid (Bel W wr))
    case atStart => exact ⟨0, rfl, by omega, Lib.hid (by omega), Lib.hid (fun j g h => by omega), Lib.hid (Bel.refl _)⟩
    case round =>
      obtain ⟨i, rfl, hi, hg, hR, hb⟩ := hrel
      have i0 : (0 : Int) ≤ (i : Int) := by omega
      obtain ⟨s0, ⟨s1, s2, s3, s4, s5, s6⟩, _⟩ := TT.out.keep hb.out
      simp only at s1 s2 s3 s4 s5 s6
      have nz2 := Nat.lt_of_lt_of_le nz hb.out.size
      by_cases hlt : i < 16
      · have hii : (i : Int) < 16 := by omega
        have w2 : IntKind.i64.wrap ((i : Int) + 1) = (i : Int) + 1 := by rw [IntKind.wrap_i64]; omega
        obtain ⟨g, hgi⟩ : ∃ g, signsL[i]? = some g := ⟨_, List.getElem?_eq_getElem (by rw [signs_size]; exact hlt)⟩
        have hcell := (hb.out.cells _ _ nz).trans (CELL.out i g hgi)
        by_cases hxg : x = g
        · have c2 : ((bytesOf x).toList == (bytesOf g).toList) = true := by rw [hxg, beq_iff_eq]
          have MX := Lib.hid (HM.out i g hgi hxg)
          have GX := Lib.hid hxg
          clear hxg hgi
          go_wp2_with fail
          go_quiet (fail)
          go_wp2_with fail
          go_ret2
          exact wr_no TS.out rfl ((HB.out.trans hb.out).trans (bel_drewN _ _))
        · have c2 : ((bytesOf x).toList == (bytesOf g).toList) = false := beq_ne (fun e => hxg (bytesOf_inj e))
          have RN := Lib.hid (show ∀ j g', j < i + 1 → signsL[j]? = some g' → x ≠ g' from fun j g' hj hg' => by
            rcases (by omega : j < i ∨ j = i) with h | h
            · exact hR.out j g' h hg'
            · subst h
              rw [hgi] at hg'
              cases hg'
              exact hxg)
          clear hxg hgi
          go_wp2_with fail
          go_roundg (17 - (i + 1))
          case measure => have := hg.out; omega
          case rel => exact ⟨i + 1, by go_num, by omega, Lib.hid (Nat.le_refl _), RN, hb⟩
      · obtain rfl : i = 16 := by omega
        have NM := Lib.hid (HN.out fun j g hj => hR.out j g (by rw [← signs_size]; exact (List.getElem?_eq_some_iff.1 hj).1) hj)
        have TS := Lib.hid (show tsnd ⟨5, p, x, a, b, d⟩ = false from by rw [Bool.eq_false_iff]; exact fun h => NM.out (ts5.1 h).2.2.2)
        clear hlt
        go_wp2_with fail
        go_ret2
        exact wr_no TS.out rfl (HB.out.trans hb.out)
theorem rwritten_any (t : Tok) (hx : t.text.length ≤ 1048576) (w : World) : Calls Tryz.prog 29 #[.agg #[.int .i64 t.kind, .int .i64 t.pos, .string (bytesOf t.text), .int .i64 t.dn, .int .i64 t.ds, .int .i64 t.day]] w (WrOut t w) := by
  obtain ⟨k, p, x, a, b, d⟩ := t
  rcases kinds6 k with rfl | rfl | rfl | rfl | rfl | hk
  · exact rwritten1 p x a b d hx w
  · exact rwritten2 p x a b d hx w
  · exact rwritten3 p x a b d hx w
  · exact rwritten4 p x a b d hx w
  · exact rwritten5 p x a b d hx w
  · exact rwritten6 p x a b d hx k hk w
/-- What is joined so far, and whether it is too much. -/
def FullJ (ts : List Tok) (j : Nat) (o : ByteArray) (fl : Bool) : Prop := (fl = false → o = bytesOf (jnL ts j)) ∧ (fl = decide (65536 < (jnL ts j).length)) ∧ o.size ≤ 65536
theorem jn_mono (ts : List Tok) (j : Nat) : (jnL ts j).length ≤ (jnL ts (j + 1)).length := by
  have h := join_le ((ts.take j).map wrT) (((ts.take (j + 1)).drop j).map wrT)
  rw [← List.map_append] at h
  have e : ts.take j ++ (ts.take (j + 1)).drop j = ts.take (j + 1) := by
    have := List.take_append_drop j (ts.take (j + 1))
    rwa [List.take_take, Nat.min_eq_left (by omega)] at this
  rw [e] at h
  exact h
set_option maxRecDepth 100000 in
set_option maxHeartbeats 16000000 in
theorem rjoin_any (ts : List Tok) (A : Option Addr) (c : Nat) (w : World) (hT : Toks w A ts) (hs : ∀ t ∈ ts, t.text.length ≤ 1048576) (hl : ts.length ≤ 1152921504606846975) :
    Calls Tryz.prog 15 #[.slice A ts.length c] w fun e w' => e = .returned (joinV ts) ∧ Bel w w' := by
  have li : (ts.length : Int) ≤ 1152921504606846975 := by omega
  have KT := Lib.hid hT
  have HS := Lib.hid hs
  clear hT hs
  go_enter Tryz.func15, Tryz.ntmps15
  go_wp2_with fail
  go_loopg [4, 5, 6] (ts.length + 1) (fun g ov fv iv wr => ∃ (j : Nat) (o : ByteArray) (fl : Bool), ov = .string o ∧ fv = .bool fl ∧ iv = .int .i64 j ∧ j ≤ ts.length ∧ (o.size : Int) ≤ 65536 ∧ Hid (ts.length + 1 - j ≤ g) ∧ Hid (FullJ ts j o fl) ∧ Hid (∀ i t, i < j → ts[i]? = some t → tsnd t = true) ∧ Hid (Bel w wr))
  case atStart => exact ⟨0, ⟨#[]⟩, false, rfl, rfl, rfl, Nat.zero_le _, by decide, Lib.hid (by omega), Lib.hid ⟨fun _ => by rw [jn_zero]; rfl, by rw [jn_zero]; rfl, by decide⟩, Lib.hid (fun i t h => by omega), Lib.hid (Bel.refl _)⟩
  case round =>
    obtain ⟨j, o, fl, rfl, rfl, rfl, hj, hoz, hg, hF, hA, hb⟩ := hrel
    have j0 : (0 : Int) ≤ (j : Int) := by omega
    by_cases hlt : j < ts.length
    · have hji : (j : Int) < ts.length := by omega
      have w1 : IntKind.i64.wrap ((j : Int) + 1) = (j : Int) + 1 := by rw [IntKind.wrap_i64]; omega
      obtain ⟨t, htj⟩ : ∃ t, ts[j]? = some t := ⟨_, List.getElem?_eq_getElem hlt⟩
      have hmem := List.mem_of_getElem? htj
      obtain ⟨b3, o3, rfl, z3, hat⟩ := KT.out.at (by clear w1; omega)
      obtain ⟨k0, k1, k2, k3, k4, k5⟩ := (hat j t htj).keep hb.out z3
      have z1 := Nat.lt_of_lt_of_le z3 hb.out.size
      have CW := Lib.hid fun W => rwritten_any t (HS.out t hmem) W
      have HTJ := Lib.hid htj
      cases hsn : tsnd t with
      | false =>
        have JV := Lib.hid (show joinV ts = .tuple #[.string ⟨#[]⟩, .int .i64 2] from by
          unfold joinV joinS
          rw [if_neg (fun h => by have := List.all_eq_true.1 h t hmem; rw [hsn] at this; cases this)]
          rfl)
        unfold WrOut at CW
        rw [hsn] at CW
        obtain ⟨tk, tp, tx, ta, tb, td⟩ := t
        simp only at k0 k1 k2 k3 k4 k5 CW
        clear htj hat hmem hsn
        go_wp2_with (go_at_call 29; (with_reducible refine Calls.mono (CW.out _) ?_); rintro ee W1 ⟨hb1, xx, rfl, -⟩)
        go_ret2
        rw [JV.out]
        exact ⟨rfl, hb.out.trans hb1⟩
      | true =>
        have hwl := wr_len hsn
        have HA := Lib.hid (show ∀ i t', i < j + 1 → ts[i]? = some t' → tsnd t' = true from fun i t' hi h => by
          rcases (by omega : i < j ∨ i = j) with h1 | h1
          · exact hA.out i t' h1 h
          · subst h1
            rw [HTJ.out] at h
            cases h
            exact hsn)
        have CW := Lib.hid (show ∀ W, Calls Tryz.prog 29 #[.agg #[.int .i64 t.kind, .int .i64 t.pos, .string (bytesOf t.text), .int .i64 t.dn, .int .i64 t.ds, .int .i64 t.day]] W fun e w' => e = .returned (.tuple #[.string (bytesOf (wrT t)), .bool true]) ∧ Bel W w' from fun W => (CW.out W).mono fun e w' ⟨h1, x, h2, h3⟩ => ⟨by rw [h2, h3 hsn, hsn], h1⟩)
        have hJ : Hid (j = 0 → jnL ts (j + 1) = wrT t) := fun h0 => jn_first htj h0
        have hK : Hid (0 < j → jnL ts (j + 1) = jnL ts j ++ 32 :: wrT t) := fun h0 => jn_snoc htj h0
        have hJ0 : Hid (j = 0 → jnL ts j = []) := fun h0 => by subst h0; exact jn_zero ts
        have hmono := jn_mono ts j
        obtain ⟨q1, q2, q3⟩ := hF.out
        have hcs : j = 0 ∨ 0 < j := by clear w1; omega
        obtain ⟨tk, tp, tx, ta, tb, td⟩ := t
        generalize wrT ⟨tk, tp, tx, ta, tb, td⟩ = X at CW hJ hK hwl
        simp only at k0 k1 k2 k3 k4 k5 CW
        have hXz : ((bytesOf X).size : Int) ≤ 1000 := by rw [bytesOf_size]; omega
        have hXs := bytesOf_size X
        clear htj hat hmem hsn
        rcases hcs with hj0 | hj0
        · have g0 : decide ((j : Int) > 0) = false := decide_eq_false (by clear w1; omega)
          have g1 : ¬ (0 : Int) < (j : Int) := by clear w1; omega
          have hj1 := hJ.out hj0
          have hj2 := hJ0.out hj0
          have hfl : fl = false := by rw [q2, hj2]; decide
          subst hfl
          have ho : o = ⟨#[]⟩ := by rw [q1 rfl, hj2]; rfl
          have hoz2 : o.size = 0 := by rw [ho]; rfl
          have FN := Lib.hid (show FullJ ts (j + 1) (o ++ bytesOf X) false from by
            refine ⟨fun _ => ?_, ?_, ?_⟩
            · rw [hj1, q1 rfl, hj2, bytes_app]; rfl
            · rw [hj1, decide_eq_false (by omega)]
            · rw [ByteArray.size_append, hoz2, hXs]; omega)
          have c1 : decide ((o.size : Int) + (X.length : Int) > 65536) = false := decide_eq_false (by clear w1; omega)
          have c1' : (o.size : Int) + (X.length : Int) ≤ 65536 := by clear w1; omega
          have hnz : ((o ++ bytesOf X).size : Int) ≤ 65536 := by rw [ByteArray.size_append, hXs]; omega
          clear hj0 hj1 hj2 ho hoz2 q1 q2 q3 hmono
          go_wp2_with (go_at_call 29; (with_reducible refine Calls.mono (CW.out _) ?_); rintro ee W1 ⟨rfl, hb1⟩)
          go_roundg (ts.length + 1 - (j + 1))
          case measure => have := hg.out; omega
          case rel => exact ⟨j + 1, o ++ bytesOf X, false, rfl, rfl, by go_num, by omega, hnz, Lib.hid (Nat.le_refl _), FN, HA, Lib.hid (hb.out.trans hb1)⟩
        · have g0 : decide ((j : Int) > 0) = true := decide_eq_true (by clear w1; omega)
          have g1 : (0 : Int) < (j : Int) := by clear w1; omega
          have hj1 := hK.out hj0
          have h32 : (⟨#[32]⟩ : ByteArray) ++ bytesOf X = bytesOf (32 :: X) := bytes_app [32] X
          have HX32 := Lib.hid h32
          have hXz2 : (((⟨#[32]⟩ : ByteArray) ++ bytesOf X).size : Int) = (X.length : Int) + 1 := by rw [h32, bytesOf_size, List.length_cons]; omega
          have hXz3 : ((⟨#[32]⟩ : ByteArray) ++ bytesOf X).size = X.length + 1 := by rw [h32, bytesOf_size, List.length_cons]
          clear hj0 h32
          cases fl with
          | true =>
            have FN := Lib.hid (show FullJ ts (j + 1) o true from by
              have := of_decide_eq_true q2.symm
              exact ⟨fun h => by (cases h), by rw [decide_eq_true (by omega)], q3⟩)
            clear hj1 q1 q2 q3 hmono
            go_wp2_with (go_at_call 29; (with_reducible refine Calls.mono (CW.out _) ?_); rintro ee W1 ⟨rfl, hb1⟩)
            go_roundg (ts.length + 1 - (j + 1))
            case measure => have := hg.out; omega
            case rel => exact ⟨j + 1, o, true, rfl, rfl, by go_num, by omega, hoz, Lib.hid (Nat.le_refl _), FN, HA, Lib.hid (hb.out.trans hb1)⟩
          | false =>
            have ho := q1 rfl
            have hosz : o.size = (jnL ts j).length := by rw [ho, bytesOf_size]
            have hlen : (jnL ts (j + 1)).length = (jnL ts j).length + (X.length + 1) := by rw [hj1, List.length_append, List.length_cons]
            by_cases hbig : 65536 < (jnL ts (j + 1)).length
            · have FN := Lib.hid (show FullJ ts (j + 1) o true from ⟨fun h => by (cases h), by rw [decide_eq_true hbig], q3⟩)
              have c1 : decide ((o.size : Int) + ((X.length : Int) + 1) > 65536) = true := decide_eq_true (by clear w1; omega)
              have c1' : 65536 < (o.size : Int) + ((X.length : Int) + 1) := by clear w1; omega
              clear hj1 ho hosz hlen hbig q1 q2 q3 hmono
              go_wp2_with (go_at_call 29; (with_reducible refine Calls.mono (CW.out _) ?_); rintro ee W1 ⟨rfl, hb1⟩)
              go_roundg (ts.length + 1 - (j + 1))
              case measure => have := hg.out; omega
              case rel => exact ⟨j + 1, o, true, rfl, rfl, by go_num, by omega, hoz, Lib.hid (Nat.le_refl _), FN, HA, Lib.hid (hb.out.trans hb1)⟩
            · have FP := Lib.hid (show ∀ P, (⟨#[32]⟩ : ByteArray) ++ bytesOf X = P → FullJ ts (j + 1) (o ++ P) false ∧ (P.size : Int) ≤ 65536 ∧ (o.size : Int) + (P.size : Int) ≤ 65536 ∧ ((o ++ P).size : Int) ≤ 65536 from by
                rintro P rfl
                refine ⟨⟨fun _ => ?_, by rw [decide_eq_false hbig], ?_⟩, ?_, ?_, ?_⟩
                · rw [HX32.out, ho, hj1, bytes_app]
                · rw [ByteArray.size_append, hXz3]; omega
                · rw [hXz3]; omega
                · rw [hXz3]; omega
                · rw [ByteArray.size_append, hXz3]; omega)
              clear hj1 ho hosz hlen hbig q1 q2 q3 hmono hXz2 hXz3
              go_upto_region 11 with (go_at_call 29; (with_reducible refine Calls.mono (CW.out _) ?_); rintro ee W1 ⟨rfl, hb1⟩)
              generalize hP : (⟨#[32]⟩ : ByteArray) ++ bytesOf X = P
              obtain ⟨FN, p1, p2, p3⟩ := FP.out P hP
              have HNZ := Lib.hid p3
              have FN := Lib.hid FN
              have c1 : decide ((o.size : Int) + (P.size : Int) > 65536) = false := decide_eq_false (by clear w1; omega)
              clear hP p3 FP hXz hXs hwl
              go_wp2_with fail
              go_roundg (ts.length + 1 - (j + 1))
              case measure => have := hg.out; omega
              case rel => exact ⟨j + 1, _, false, rfl, rfl, by go_num, by omega, HNZ.out, Lib.hid (Nat.le_refl _), FN, HA, Lib.hid (hb.out.trans hb1)⟩
    · obtain rfl : j = ts.length := by omega
      have hall : ts.all tsnd = true := by
        rw [List.all_eq_true]
        intro t ht
        obtain ⟨i, hi⟩ := List.mem_iff_getElem?.1 ht
        exact hA.out i t (List.getElem?_eq_some_iff.1 hi).1 hi
      obtain ⟨q1, q2, q3⟩ := hF.out
      rw [jn_all] at q1 q2
      cases fl with
      | true =>
        have JV := Lib.hid (show joinV ts = .tuple #[.string ⟨#[]⟩, .int .i64 10] from by
          unfold joinV joinS
          rw [if_pos hall, if_pos (of_decide_eq_true q2.symm)]
          rfl)
        clear hall q1 q2 q3
        go_wp2_with fail
        go_ret2
        rw [JV.out]
        exact ⟨rfl, hb.out⟩
      | false =>
        have JV := Lib.hid (show joinV ts = .tuple #[.string o, .int .i64 0] from by
          unfold joinV joinS
          rw [if_pos hall, if_neg (of_decide_eq_false q2.symm), q1 rfl]
          rfl)
        clear hall q1 q2 q3
        go_wp2_with fail
        go_ret2
        rw [JV.out]
        exact ⟨rfl, hb.out⟩
set_option maxRecDepth 100000 in
set_option maxHeartbeats 16000000 in
theorem law_Joins (ts : List Tok) (A : Option Addr) (c : Nat) (w : World) (hT : Toks w A ts) (hg : ∀ t ∈ ts, t.text.length ≤ 1048576) (hl : ts.length ≤ 1048576) (hlc : ts.length ≤ c) (hc : c ≤ 9223372036854775807) (ht : Tab w) (hm : Mx w) : Calls Tryz.prog 4 #[.slice A ts.length c] w fun e w' => e = .returned (.bool true) ∧ Bel w w' := by
  have CA := Lib.hid fun W (hW : Bel w W) => awake_T W (ht.keep hW) (hm.keep hW)
  have li : (ts.length : Int) ≤ 1048576 := by omega
  have lci : (ts.length : Int) ≤ c := by omega
  by_cases h3 : 300 < ts.length
  · have h3i : (300 : Int) < ts.length := by omega
    have c3 : (300 : Int) ≤ c := by omega
    have hul : (ts.take 300).length = 300 := by rw [List.length_take]; omega
    have CJ := Lib.hid (show Calls Tryz.prog 14 #[.slice A 300 c] w fun e w' => e = .returned (joinV (ts.take 300)) ∧ Bel w w' from by
      have := xjoin_any (ts.take 300) A c w (hT.take 300) (fun t h => by have := hg t (List.mem_of_mem_take h); omega) (by omega) ht hm
      rwa [hul] at this)
    have CR := Lib.hid (show ∀ W, Bel w W → Calls Tryz.prog 15 #[.slice A 300 c] W fun e w' => e = .returned (joinV (ts.take 300)) ∧ Bel W w' from fun W hW => by
      have := rjoin_any (ts.take 300) A c W ((hT.take 300).keep hW) (fun t h => hg t (List.mem_of_mem_take h)) (by omega)
      rwa [hul] at this)
    unfold joinV at CJ CR
    generalize bytesOf (joinS (ts.take 300)).1 = z at CJ CR
    generalize (joinS (ts.take 300)).2 = e at CJ CR
    clear hT hg ht hm h3 hul
    go_enter Tryz.func4, Tryz.ntmps4
    go_wp2_with (first
      | (go_at_call 14; (with_reducible refine Calls.mono CJ.out ?_); rintro ee V1 ⟨rfl, hb1⟩; have hq1 := Lib.hid hb1)
      | (go_at_call 15; (with_reducible refine Calls.mono (CR.out _ hq1.out) ?_); rintro ee V2 ⟨rfl, hb2⟩; have hq2 := Lib.hid (hq1.out.trans hb2))
      | (go_at_call 10; (with_reducible refine Calls.mono (CA.out _ hq2.out) ?_); rintro ee V3 ⟨rfl, hb3⟩; have hq3 := Lib.hid (hq2.out.trans hb3)))
    go_ret
    exact ⟨rfl, hq3.out⟩
  · have h3i : (ts.length : Int) ≤ 300 := by omega
    have CJ := Lib.hid (show Calls Tryz.prog 14 #[.slice A ts.length c] w fun e w' => e = .returned (joinV ts) ∧ Bel w w' from xjoin_any ts A c w hT (fun t h => by have := hg t h; omega) (by omega) ht hm)
    have CR := Lib.hid (show ∀ W, Bel w W → Calls Tryz.prog 15 #[.slice A ts.length c] W fun e w' => e = .returned (joinV ts) ∧ Bel W w' from fun W hW => rjoin_any ts A c W (hT.keep hW) hg (by omega))
    unfold joinV at CJ CR
    generalize bytesOf (joinS ts).1 = z at CJ CR
    generalize (joinS ts).2 = e at CJ CR
    clear hT hg ht hm h3
    go_enter Tryz.func4, Tryz.ntmps4
    go_wp2_with (first
      | (go_at_call 14; (with_reducible refine Calls.mono CJ.out ?_); rintro ee V1 ⟨rfl, hb1⟩; have hq1 := Lib.hid hb1)
      | (go_at_call 15; (with_reducible refine Calls.mono (CR.out _ hq1.out) ?_); rintro ee V2 ⟨rfl, hb2⟩; have hq2 := Lib.hid (hq1.out.trans hb2))
      | (go_at_call 10; (with_reducible refine Calls.mono (CA.out _ hq2.out) ?_); rintro ee V3 ⟨rfl, hb3⟩; have hq3 := Lib.hid (hq2.out.trans hb3)))
    go_ret
    exact ⟨rfl, hq3.out⟩
end Go.Proofs.YtofcjdbodhoacaaGreatDoor
