
import Derived.Test.YtpmmbcobjibpeaaGreatDoorSm3
import Derived.Deep.Heap
namespace Go.Proofs.YtpmmbcobjibpeaaGreatDoor
set_option linter.unusedSimpArgs false
set_option linter.unusedVariables false
open Go.RowKit Go.Lib Go.Deep

/-! Sets: some, of texts. -/
theorem own_setT {w : World} {B : Nat} {v : Value} {l : List ByteArray} {p : Addr} (h : OwnT w B v l) (hp : p.block < B) (x : Value) : OwnT (w.setCell p x) B v l := by
  obtain ⟨hl, h2⟩ := h
  refine ⟨hl, ?_⟩
  rcases h2 with h2 | ⟨g, cap, cur, e1, e2, e3, h4⟩
  · exact .inl h2
  · exact .inr ⟨g, cap, cur, e1, e2, by rw [blk_setCell_other _ _ _ _ (by omega)]; exact e3, h4⟩
def txk (l : List Tst) : List ByteArray := (l.filter fun t => decide (t.low.kind = 2)).map fun t => t.low.text
theorem txk_snoc (l : List Tst) (t : Tst) : txk (l ++ [t]) = if t.low.kind = 2 then txk l ++ [t.low.text] else txk l := by
  unfold txk
  rw [List.filter_append, List.map_append]
  by_cases h : t.low.kind = 2
  · rw [if_pos h]; simp [h]
  · rw [if_neg h]; simp [h]
theorem txk_len (l : List Tst) : (txk l).length ≤ l.length := by
  unfold txk
  rw [List.length_map]
  exact List.length_filter_le _ _
theorem txk_fits {l : List Tst} (h : ∀ t ∈ l, TOk t) : ∀ s ∈ txk l, Fits s := by
  intro s hs
  unfold txk at hs
  rw [List.mem_map] at hs
  obtain ⟨t, ht, rfl⟩ := hs
  exact (h t (List.mem_filter.1 ht).1).1
theorem But.grown {W X Y : World} {B : Nat} {row : Option Nat} (h : But W X B) (hg : X.grownBy Y row) (hr : ∀ q, row = some q → W.heap.size ≤ q) : But W Y B := by
  refine ⟨Nat.le_trans h.1 hg.size, fun b o h1 h2 => ?_, fun b o h1 => ?_⟩
  · rw [← h.2.1 b o h1 h2]
    exact World.cell?_of_block (hg.block b (Nat.lt_of_lt_of_le h1 h.1) (fun e => by have := hr b e.symm; omega))
  · rw [← h.2.2 b o h1]
    exact World.frozen?_of_block (hg.block b (Nat.lt_of_lt_of_le h1 h.1) (fun e => by have := hr b e.symm; omega))
theorem app_ownT {w : World} {B : Nat} {v : Value} {xs : List ByteArray} (h : OwnT w B v xs) (x : ByteArray) (hB : B ≤ w.heap.size) (hlen : xs.length ≤ 100000) (ty : TypeId) :
    ∃ v' w', (Builtin.append_ #[35, 35] ty #[v, .slice (some ⟨w.heap.size, 0, none⟩) 1 1]).run Tryz.prog (w.alloc (.cells #[.string x] 9)) = .ok v' w' ∧ (OwnT w' B v' (xs ++ [x]) ∧ (w.alloc (.cells #[.string x] 9)).grownBy w' v.ownBlock) := by
  obtain ⟨i0, hi, hz0, hz1, hz2⟩ := infoT'
  have ho : (w.alloc (.cells #[.string x] 9)).ownsRow B 9 1 v xs.length (strs xs) := own_keep h ((Bel.refl w).alloc _)
  obtain ⟨v', w', hr, h1, h2, h3⟩ := run_app (P := Tryz.prog) _ B 35 ty 9 i0 _ 1 16 Tryz.underlying35 hi hz0 hz1 hz2 rfl (by omega) ho (m := 1) (c := 1) (news := strs [x]) (strs_lit [x] rfl) rfl (by simp) (strs_one [x]) (by simp only [maxLen]; omega) (by omega) (by simp; omega)
  refine ⟨v', w', hr, ?_, h2⟩
  unfold OwnT
  rw [List.length_append]
  simpa [strs] using h1
theorem ord_empty0 {r : List Sp} (h : Ord r) (hm : ∀ n, SMem r n ↔ SMem [] n) : r = [] := by
  have : ∀ n, ¬ SMem r n := fun n hn => by
    obtain ⟨s, hs, _⟩ := (hm n).1 hn
    cases hs
  exact List.eq_nil_of_length_eq_zero ((ord_none h).2 this)
set_option maxRecDepth 100000 in
set_option maxHeartbeats 8000000 in
theorem someT_any (sc : Int) (any not : Bool) (A0 : Option Addr) (n0 c0 : Nat) (l : List Tst) (A : Option Addr) (c : Nat) (w : World) (hs : Tsts w A l) (hl : l.length ≤ 1000) (hok : ∀ t ∈ l, TOk t) :
    Calls Tryz.prog 45 #[tyv 2 sc any not (.slice A0 n0 c0), .slice A l.length c] w (SetOut w ⟨2, [], false, keptl okw (txk l), 0, nulk l⟩) := by
  have HLn := Lib.hid hl
  have HTF := Lib.hid (txk_fits hok)
  have li : (l.length : Int) ≤ 1000 := by omega
  clear hok
  go_enter Tryz.func45, Tryz.ntmps45
  go_upto_region 4 with fail
  refine under_name (w0 := w) (by (repeat (first | with_reducible exact Bel.refl _ | with_reducible refine Bel.setCell ?_ (by first | exact Nat.le_refl _ | (dsimp only; omega)) _ | with_reducible refine Bel.alloc ?_ _ | with_reducible refine Bel.drew ?_ | with_reducible assumption | with_reducible refine Bel.trans ?_ (by assumption)))) fun W hc hf hz hb => ?_
  have m0 : W.cell? ⟨w.heap.size, 0, none⟩ = some (.int .i64 2) := by simp [hc, go_sem]
  have m1 : W.cell? ⟨w.heap.size, 1, none⟩ = some (.int .i64 sc) := by simp [hc, go_sem]
  have m2 : W.cell? ⟨w.heap.size, 2, none⟩ = some (.bool any) := by simp [hc, go_sem]
  have m3 : W.cell? ⟨w.heap.size, 3, none⟩ = some (.bool not) := by simp [hc, go_sem]
  have m4 : W.cell? ⟨w.heap.size, 4, none⟩ = some (.slice A0 n0 c0) := by simp [hc, go_sem]
  have r0 : W.cell? ⟨w.heap.size + 1, 0, none⟩ = some (.int .i64 0) := by simp [hc, go_sem]
  have r1 : W.cell? ⟨w.heap.size + 1, 1, none⟩ = some (.slice none 0 0) := by simp [hc, go_sem]
  have r2 : W.cell? ⟨w.heap.size + 1, 2, none⟩ = some (.bool false) := by simp [hc, go_sem]
  have r3 : W.cell? ⟨w.heap.size + 1, 3, none⟩ = some (.slice none 0 0) := by simp [hc, go_sem]
  have r4 : W.cell? ⟨w.heap.size + 1, 4, none⟩ = some (.int .i64 0) := by simp [hc, go_sem]
  have r5 : W.cell? ⟨w.heap.size + 1, 5, none⟩ = some (.bool false) := by simp [hc, go_sem]
  have rf0 : W.frozen? ⟨w.heap.size + 1, 0, none⟩ = false := by simp [hf, go_sem]
  have rf1 : W.frozen? ⟨w.heap.size + 1, 1, none⟩ = false := by simp [hf, go_sem]
  have rf2 : W.frozen? ⟨w.heap.size + 1, 2, none⟩ = false := by simp [hf, go_sem]
  have rf3 : W.frozen? ⟨w.heap.size + 1, 3, none⟩ = false := by simp [hf, go_sem]
  have rf4 : W.frozen? ⟨w.heap.size + 1, 4, none⟩ = false := by simp [hf, go_sem]
  have rf5 : W.frozen? ⟨w.heap.size + 1, 5, none⟩ = false := by simp [hf, go_sem]
  have s0 : W.cell? ⟨w.heap.size + 2, 0, none⟩ = some (.int .i64 2) := by simp [hc, go_sem]
  have s1 : W.cell? ⟨w.heap.size + 2, 1, none⟩ = some (.slice none 0 0) := by simp [hc, go_sem]
  have s2 : W.cell? ⟨w.heap.size + 2, 2, none⟩ = some (.bool false) := by simp [hc, go_sem]
  have s3 : W.cell? ⟨w.heap.size + 2, 3, none⟩ = some (.slice none 0 0) := by simp [hc, go_sem]
  have s4 : W.cell? ⟨w.heap.size + 2, 4, none⟩ = some (.int .i64 0) := by simp [hc, go_sem]
  have s5 : W.cell? ⟨w.heap.size + 2, 5, none⟩ = some (.bool false) := by simp [hc, go_sem]
  have sf0 : W.frozen? ⟨w.heap.size + 2, 0, none⟩ = false := by simp [hf, go_sem]
  have sf1 : W.frozen? ⟨w.heap.size + 2, 1, none⟩ = false := by simp [hf, go_sem]
  have sf2 : W.frozen? ⟨w.heap.size + 2, 2, none⟩ = false := by simp [hf, go_sem]
  have sf3 : W.frozen? ⟨w.heap.size + 2, 3, none⟩ = false := by simp [hf, go_sem]
  have sf4 : W.frozen? ⟨w.heap.size + 2, 4, none⟩ = false := by simp [hf, go_sem]
  have sf5 : W.frozen? ⟨w.heap.size + 2, 5, none⟩ = false := by simp [hf, go_sem]
  have z0 : w.heap.size + 3 ≤ W.heap.size := by simp [hz]
  clear hc hf hz
  have HW := Lib.hid z0
  go_wp2_with fail
  go_loopg [6, 7, 15] l.length (fun g rv v i wr => ∃ k : Nat, rv = .slice none 0 0 ∧ i = .int .i64 k ∧ k ≤ l.length ∧ Hid (g = l.length - k) ∧ Hid (OwnT wr W.heap.size v (txk (l.take k))) ∧ Hid (But W wr (w.heap.size + 2)) ∧ wr.cell? ⟨w.heap.size + 2, 4, none⟩ = some (.int .i64 0) ∧ wr.cell? ⟨w.heap.size + 2, 5, none⟩ = some (.bool (nulk (l.take k))) ∧ Bel w wr)
  case atStart => exact ⟨0, rfl, rfl, Nat.zero_le _, rfl, OwnT.nil _ _, But.refl _ _, s4, s5, hb⟩
  case round =>
    obtain ⟨k, rfl, rfl, hk, hh, hown, hbut, y4, y5, hbw⟩ := hrel
    have BC := hbut.out.2.1
    have BF := hbut.out.2.2
    have zr : w.heap.size + 3 ≤ wr.heap.size := Nat.le_trans z0 hbut.out.1
    replace m0 := (BC _ _ (by omega) (.inl (by omega))).trans m0
    replace m1 := (BC _ _ (by omega) (.inl (by omega))).trans m1
    replace m2 := (BC _ _ (by omega) (.inl (by omega))).trans m2
    replace m3 := (BC _ _ (by omega) (.inl (by omega))).trans m3
    replace m4 := (BC _ _ (by omega) (.inl (by omega))).trans m4
    replace r0 := (BC _ _ (by omega) (.inl (by omega))).trans r0
    replace r1 := (BC _ _ (by omega) (.inl (by omega))).trans r1
    replace r2 := (BC _ _ (by omega) (.inl (by omega))).trans r2
    replace r3 := (BC _ _ (by omega) (.inl (by omega))).trans r3
    replace r4 := (BC _ _ (by omega) (.inl (by omega))).trans r4
    replace r5 := (BC _ _ (by omega) (.inl (by omega))).trans r5
    replace s0 := (BC _ _ (by omega) (.inr (by omega))).trans s0
    replace s1 := (BC _ _ (by omega) (.inr (by omega))).trans s1
    replace s2 := (BC _ _ (by omega) (.inr (by omega))).trans s2
    replace s3 := (BC _ _ (by omega) (.inr (by omega))).trans s3
    replace rf0 := (BF _ _ (by omega)).trans rf0
    replace rf1 := (BF _ _ (by omega)).trans rf1
    replace rf2 := (BF _ _ (by omega)).trans rf2
    replace rf3 := (BF _ _ (by omega)).trans rf3
    replace rf4 := (BF _ _ (by omega)).trans rf4
    replace rf5 := (BF _ _ (by omega)).trans rf5
    replace sf0 := (BF _ _ (by omega)).trans sf0
    replace sf1 := (BF _ _ (by omega)).trans sf1
    replace sf2 := (BF _ _ (by omega)).trans sf2
    replace sf3 := (BF _ _ (by omega)).trans sf3
    replace sf4 := (BF _ _ (by omega)).trans sf4
    replace sf5 := (BF _ _ (by omega)).trans sf5
    replace s4 := y4
    replace s5 := y5
    clear BC BF y4 y5 z0
    by_cases hp : k < l.length
    · obtain ⟨tb, off, rfl, hlt, hat⟩ := hs (by omega)
      obtain ⟨t, htk⟩ : ∃ t, l[k]? = some t := ⟨_, List.getElem?_eq_getElem hp⟩
      have ha := (hat k t htk).keep hbw hlt
      have HT := Lib.hid (take_snoc htk)
      have zt := Nat.lt_of_lt_of_le hlt hbw.size
      have i1 : (k : Int) < l.length := by omega
      have HN := Lib.hid (nulk_snoc (l.take k) t)
      have HG := Lib.hid (txk_snoc (l.take k) t)
      rw [← HT.out] at HN HG
      have HGl := Lib.hid (Nat.le_trans (txk_len (l.take k)) (List.length_take_le k l))
      obtain ⟨tk, ⟨a0, a1, a2, a3, a4⟩, ⟨b0, b1, b2, b3, b4⟩, x, y⟩ := t
      simp only at HN HG
      obtain ⟨t0, t1, t2, t3, t4, t5, t6, t7, t8, t9, t10, t11, t12⟩ := ha
      clear hat htk
      simp only at t0 t1 t2 t3 t4 t5 t6 t7 t8 t9 t10 t11 t12
      generalize txk (l.take k) = rs at hown HG HGl
      generalize nulk (l.take k) = q at s5 HN
      go_upto_region 8 with fail
      refine under_name (w0 := wr) ((Bel.refl wr).alloc _) fun X hc hf hz hbx => ?_
      have x0 : X.cell? ⟨wr.heap.size, 0, none⟩ = some (.int .i64 tk) := by simp [hc, go_sem]
      have x1 : X.cell? ⟨wr.heap.size, 1, none⟩ = some (.int .i64 a0) := by simp [hc, go_sem]
      have x2 : X.cell? ⟨wr.heap.size, 2, none⟩ = some (.int .i64 a1) := by simp [hc, go_sem]
      have x3 : X.cell? ⟨wr.heap.size, 3, none⟩ = some (.int .i64 a2) := by simp [hc, go_sem]
      have x4 : X.cell? ⟨wr.heap.size, 4, none⟩ = some (.string a3) := by simp [hc, go_sem]
      have x5 : X.cell? ⟨wr.heap.size, 5, none⟩ = some (.int .i64 a4) := by simp [hc, go_sem]
      have x6 : X.cell? ⟨wr.heap.size, 6, none⟩ = some (.int .i64 b0) := by simp [hc, go_sem]
      have x7 : X.cell? ⟨wr.heap.size, 7, none⟩ = some (.int .i64 b1) := by simp [hc, go_sem]
      have x8 : X.cell? ⟨wr.heap.size, 8, none⟩ = some (.int .i64 b2) := by simp [hc, go_sem]
      have x9 : X.cell? ⟨wr.heap.size, 9, none⟩ = some (.string b3) := by simp [hc, go_sem]
      have x10 : X.cell? ⟨wr.heap.size, 10, none⟩ = some (.int .i64 b4) := by simp [hc, go_sem]
      have x11 : X.cell? ⟨wr.heap.size, 11, none⟩ = some (.bool x) := by simp [hc, go_sem]
      have x12 : X.cell? ⟨wr.heap.size, 12, none⟩ = some (.bool y) := by simp [hc, go_sem]
      have zx : wr.heap.size + 1 ≤ X.heap.size := by simp [hz]
      clear hc hf hz t0 t1 t2 t3 t4 t5 t6 t7 t8 t9 t10 t11 t12 zt
      have B4 := Lib.hid s4
      have B5 := Lib.hid s5
      replace m0 := (hbx.cells _ _ (by omega)).trans m0
      replace m1 := (hbx.cells _ _ (by omega)).trans m1
      replace m2 := (hbx.cells _ _ (by omega)).trans m2
      replace m3 := (hbx.cells _ _ (by omega)).trans m3
      replace m4 := (hbx.cells _ _ (by omega)).trans m4
      replace r0 := (hbx.cells _ _ (by omega)).trans r0
      replace r1 := (hbx.cells _ _ (by omega)).trans r1
      replace r2 := (hbx.cells _ _ (by omega)).trans r2
      replace r3 := (hbx.cells _ _ (by omega)).trans r3
      replace r4 := (hbx.cells _ _ (by omega)).trans r4
      replace r5 := (hbx.cells _ _ (by omega)).trans r5
      replace s0 := (hbx.cells _ _ (by omega)).trans s0
      replace s1 := (hbx.cells _ _ (by omega)).trans s1
      replace s2 := (hbx.cells _ _ (by omega)).trans s2
      replace s3 := (hbx.cells _ _ (by omega)).trans s3
      replace s4 := (hbx.cells _ _ (by omega)).trans s4
      replace s5 := (hbx.cells _ _ (by omega)).trans s5
      replace rf0 := (hbx.frozens _ _ (by omega)).trans rf0
      replace rf1 := (hbx.frozens _ _ (by omega)).trans rf1
      replace rf2 := (hbx.frozens _ _ (by omega)).trans rf2
      replace rf3 := (hbx.frozens _ _ (by omega)).trans rf3
      replace rf4 := (hbx.frozens _ _ (by omega)).trans rf4
      replace rf5 := (hbx.frozens _ _ (by omega)).trans rf5
      replace sf0 := (hbx.frozens _ _ (by omega)).trans sf0
      replace sf1 := (hbx.frozens _ _ (by omega)).trans sf1
      replace sf2 := (hbx.frozens _ _ (by omega)).trans sf2
      replace sf3 := (hbx.frozens _ _ (by omega)).trans sf3
      replace sf4 := (hbx.frozens _ _ (by omega)).trans sf4
      replace sf5 := (hbx.frozens _ _ (by omega)).trans sf5
      by_cases e0 : a0 = 0
      · subst e0
        have hR := Lib.hid (HG.out.trans (if_neg (by omega)))
        have hQ := Lib.hid (show nulk (l.take (k + 1)) = true from by rw [HN.out]; simp)
        go_wp2_with fail
        go_roundg (l.length - (k + 1))
        case measure => have := hh.out; omega
        case rel =>
          exact ⟨k + 1, rfl, by go_num, by omega, rfl, by show OwnT _ _ _ _; rw [hR.out]; exact own_setT (hown.out.keep hbx) (by have := HW.out; dsimp only; omega) _, (hbut.out.bel hbx).set 5 (by omega) _, by simp [go_sem, s4], by rw [hQ.out]; simp [go_sem, s5], (hbw.trans hbx).setCell (by dsimp only; omega) _⟩
      · have f0 : (a0 == 0) = false := by simp [e0]
        have hQ := Lib.hid (show nulk (l.take (k + 1)) = q from by rw [HN.out]; simp [e0])
        by_cases eK : a0 = 2
        · subst eK
          have hR := Lib.hid (HG.out.trans (if_pos rfl))
          have hHB := Nat.le_trans hbut.out.1 hbx.size
          have HAp := Lib.hid fun ty => app_ownT (hown.out.keep hbx) a3 hHB (by have := HGl.out; have := HLn.out; omega) ty
          have HVq := Lib.hid fun q (hq : u7.ownBlock = some q) => (hown.out.lt q hq).1
          have HBX := Lib.hid (And.intro (hbut.out.bel hbx) (hbw.trans hbx))
          go_wp2_with (at_builtin; refine wpList_app (by rfl) (.tmp 43) (.tmp 47) _ rfl (HAp.out _) ?_; rintro v7 w7 ⟨o7, g7⟩)
          have hXA : Bel X (X.alloc (.cells #[.string a3] 9)) := (Bel.refl X).alloc _
          have hfar : ∀ o, w7.cell? ⟨w.heap.size + 2, o, none⟩ = X.cell? ⟨w.heap.size + 2, o, none⟩ := fun o => by
            rw [← hXA.cells _ _ (show w.heap.size + 2 < X.heap.size by omega)]
            exact World.cell?_of_block (g7.block (w.heap.size + 2) (by have := hXA.size; omega) (fun e => by have := HVq.out _ e.symm; have := HW.out; omega))
          go_roundg (l.length - (k + 1))
          case measure => have := hh.out; omega
          case rel =>
            have hb7 : Bel w w7 := Below.grown (HBX.out.2.trans hXA) g7 (HBX.out.2.trans hXA).size (fun q hq => by have := HVq.out q hq; have := HW.out; omega)
            exact ⟨k + 1, rfl, by go_num, by omega, rfl, by show OwnT _ _ _ _; rw [hR.out]; exact o7, (HBX.out.1.bel hXA).grown g7 (fun q hq => HVq.out q hq), by rw [hfar]; exact s4, by rw [hfar, hQ.out]; exact s5, hb7⟩
        · have fK : (a0 == 2) = false := by simp [eK]
          have hR := Lib.hid (HG.out.trans (if_neg eK))
          go_wp2_with fail
          go_roundg (l.length - (k + 1))
          case measure => have := hh.out; omega
          case rel =>
            exact ⟨k + 1, rfl, by go_num, by omega, rfl, by show OwnT _ _ _ _; rw [hR.out]; exact hown.out.keep hbx, hbut.out.bel hbx, s4, by rw [hQ.out]; exact s5, hbw.trans hbx⟩
    · obtain rfl : k = l.length := by omega
      have e0 := hown.out
      rw [List.take_length] at e0 s5
      obtain ⟨A6, c6, e6, hs6, hA6, h6⟩ := own_row e0
      have hP6 : StP W.heap.size wr A6 c6 (txk l) := ⟨hs6, hA6, by
        rcases h6 with h6 | ⟨g, h6, h7, _⟩
        · exact .inl (by simpa [strs] using h6)
        · exact .inr ⟨g, 0, h6, h7⟩⟩
      have HO := Lib.hid hP6
      clear hown e0 hs6 hA6 h6 hP6
      subst e6
      have HJ := Lib.hid fun W' => join_any (.slice none 0 0) [] W' ⟨none, 0, rfl, Sps.nil, Nat.le_refl _, .inl ⟨rfl, rfl⟩⟩ (by simp) (by simp)
      have HMk := Lib.hid fun W' (h : Strs W' A6 (txk l)) => wmake_any false (txk l) A6 c6 W' h (by have := txk_len l; have := HLn.out; omega) HTF.out
      have z9 := hbut.out.1
      have zW := HW.out
      go_upto_region 18 with (go_at_call 47; refine (HJ.out _).mono ?_; rintro e X1 ⟨v', r, rfl, o1, o2, o3, ⟨o4, o5⟩, hx1⟩; obtain rfl := ord_empty0 o2 o4; obtain ⟨A', c', rfl, hS⟩ := SpP.of_own o1; have HS := Lib.hid hS; have hxK := hx1; clear o1 o2 o3 o4 o5 hS; have hbX := hbw.trans hx1; have zx1 := hx1.size; replace m0 := (hx1.cells _ _ (by omega)).trans m0; replace m1 := (hx1.cells _ _ (by omega)).trans m1; replace m2 := (hx1.cells _ _ (by omega)).trans m2; replace m3 := (hx1.cells _ _ (by omega)).trans m3; replace m4 := (hx1.cells _ _ (by omega)).trans m4; replace r0 := (hx1.cells _ _ (by omega)).trans r0; replace r1 := (hx1.cells _ _ (by omega)).trans r1; replace r2 := (hx1.cells _ _ (by omega)).trans r2; replace r3 := (hx1.cells _ _ (by omega)).trans r3; replace r4 := (hx1.cells _ _ (by omega)).trans r4; replace r5 := (hx1.cells _ _ (by omega)).trans r5; replace rf0 := (hx1.frozens _ _ (by omega)).trans rf0; replace rf1 := (hx1.frozens _ _ (by omega)).trans rf1; replace rf2 := (hx1.frozens _ _ (by omega)).trans rf2; replace rf3 := (hx1.frozens _ _ (by omega)).trans rf3; replace rf4 := (hx1.frozens _ _ (by omega)).trans rf4; replace rf5 := (hx1.frozens _ _ (by omega)).trans rf5; replace s0 := (hx1.cells _ _ (by omega)).trans s0; replace s1 := (hx1.cells _ _ (by omega)).trans s1; replace s2 := (hx1.cells _ _ (by omega)).trans s2; replace s3 := (hx1.cells _ _ (by omega)).trans s3; replace s4 := (hx1.cells _ _ (by omega)).trans s4; replace s5 := (hx1.cells _ _ (by omega)).trans s5; replace sf0 := (hx1.frozens _ _ (by omega)).trans sf0; replace sf1 := (hx1.frozens _ _ (by omega)).trans sf1; replace sf2 := (hx1.frozens _ _ (by omega)).trans sf2; replace sf3 := (hx1.frozens _ _ (by omega)).trans sf3; replace sf4 := (hx1.frozens _ _ (by omega)).trans sf4; replace sf5 := (hx1.frozens _ _ (by omega)).trans sf5)
      have hbY : Bel w (X1.setCell ⟨w.heap.size + 1 + 1, 1, none⟩ (.slice A' 0 c')) := hbX.setCell (by dsimp only; omega) _
      refine under_name (w0 := w) hbY fun Y hc hf hz hby => ?_
      have hz2 : Y.heap.size = X1.heap.size := by rw [hz]; simp
      have hY : ∀ k o, W.heap.size ≤ k → Y.cell? ⟨k, o, none⟩ = X1.cell? ⟨k, o, none⟩ := fun k o hk => by
        rw [hc]
        have n1 : ¬ w.heap.size + 1 + 1 = k := by omega
        simp [go_sem, n1]
      have hO6 := StP.other (HO.out.keep hxK) hz2 hY
      have hS6 := SpP.other (SpP.low HS.out z9) hz2 hY
      replace r0 : Y.cell? ⟨w.heap.size + 1, 0, none⟩ = _ := (hc _).trans (by simp [go_sem]; exact r0)
      replace r1 : Y.cell? ⟨w.heap.size + 1, 1, none⟩ = _ := (hc _).trans (by simp [go_sem]; exact r1)
      replace r2 : Y.cell? ⟨w.heap.size + 1, 2, none⟩ = _ := (hc _).trans (by simp [go_sem]; exact r2)
      replace r3 : Y.cell? ⟨w.heap.size + 1, 3, none⟩ = _ := (hc _).trans (by simp [go_sem]; exact r3)
      replace r4 : Y.cell? ⟨w.heap.size + 1, 4, none⟩ = _ := (hc _).trans (by simp [go_sem]; exact r4)
      replace r5 : Y.cell? ⟨w.heap.size + 1, 5, none⟩ = _ := (hc _).trans (by simp [go_sem]; exact r5)
      replace rf0 : Y.frozen? ⟨w.heap.size + 1, 0, none⟩ = false := (hf _).trans (by simp [go_sem]; exact rf0)
      replace rf1 : Y.frozen? ⟨w.heap.size + 1, 1, none⟩ = false := (hf _).trans (by simp [go_sem]; exact rf1)
      replace rf2 : Y.frozen? ⟨w.heap.size + 1, 2, none⟩ = false := (hf _).trans (by simp [go_sem]; exact rf2)
      replace rf3 : Y.frozen? ⟨w.heap.size + 1, 3, none⟩ = false := (hf _).trans (by simp [go_sem]; exact rf3)
      replace rf4 : Y.frozen? ⟨w.heap.size + 1, 4, none⟩ = false := (hf _).trans (by simp [go_sem]; exact rf4)
      replace rf5 : Y.frozen? ⟨w.heap.size + 1, 5, none⟩ = false := (hf _).trans (by simp [go_sem]; exact rf5)
      replace s0 : Y.cell? ⟨w.heap.size + 2, 0, none⟩ = _ := (hc _).trans (by simp [go_sem]; exact s0)
      replace s1 : Y.cell? ⟨w.heap.size + 2, 1, none⟩ = some (.slice A' 0 c') := (hc _).trans (by simp [go_sem, s1])
      replace s2 : Y.cell? ⟨w.heap.size + 2, 2, none⟩ = _ := (hc _).trans (by simp [go_sem]; exact s2)
      replace s3 : Y.cell? ⟨w.heap.size + 2, 3, none⟩ = _ := (hc _).trans (by simp [go_sem]; exact s3)
      replace s4 : Y.cell? ⟨w.heap.size + 2, 4, none⟩ = _ := (hc _).trans (by simp [go_sem]; exact s4)
      replace s5 : Y.cell? ⟨w.heap.size + 2, 5, none⟩ = _ := (hc _).trans (by simp [go_sem]; exact s5)
      replace sf0 : Y.frozen? ⟨w.heap.size + 2, 0, none⟩ = false := (hf _).trans (by simp [go_sem]; exact sf0)
      replace sf1 : Y.frozen? ⟨w.heap.size + 2, 1, none⟩ = false := (hf _).trans (by simp [go_sem]; exact sf1)
      replace sf2 : Y.frozen? ⟨w.heap.size + 2, 2, none⟩ = false := (hf _).trans (by simp [go_sem]; exact sf2)
      replace sf3 : Y.frozen? ⟨w.heap.size + 2, 3, none⟩ = false := (hf _).trans (by simp [go_sem]; exact sf3)
      replace sf4 : Y.frozen? ⟨w.heap.size + 2, 4, none⟩ = false := (hf _).trans (by simp [go_sem]; exact sf4)
      replace sf5 : Y.frozen? ⟨w.heap.size + 2, 5, none⟩ = false := (hf _).trans (by simp [go_sem]; exact sf5)
      clear hc hf hz hY hbY
      have HS6 := Lib.hid hS6
      have HO6 := Lib.hid hO6.1
      have zy : w.heap.size + 3 ≤ Y.heap.size := by omega
      clear hS6 hO6 hxK hx1
      go_wp2_with (go_at_call 70; refine (HMk.out _ HO6.out).mono ?_; rintro e X2 ⟨A2, c2, rfl, h1, h2, h3, hx2⟩; have HS2 := Lib.hid (StP.of_made h1 h2 h3); clear h1 h2 h3; have hbZ := hby.trans hx2; have zx2 := hx2.size; have HX2 := Lib.hid hx2; replace r0 := (hx2.cells _ _ (by omega)).trans r0; replace r1 := (hx2.cells _ _ (by omega)).trans r1; replace r2 := (hx2.cells _ _ (by omega)).trans r2; replace r3 := (hx2.cells _ _ (by omega)).trans r3; replace r4 := (hx2.cells _ _ (by omega)).trans r4; replace r5 := (hx2.cells _ _ (by omega)).trans r5; replace rf0 := (hx2.frozens _ _ (by omega)).trans rf0; replace rf1 := (hx2.frozens _ _ (by omega)).trans rf1; replace rf2 := (hx2.frozens _ _ (by omega)).trans rf2; replace rf3 := (hx2.frozens _ _ (by omega)).trans rf3; replace rf4 := (hx2.frozens _ _ (by omega)).trans rf4; replace rf5 := (hx2.frozens _ _ (by omega)).trans rf5; replace s0 := (hx2.cells _ _ (by omega)).trans s0; replace s1 := (hx2.cells _ _ (by omega)).trans s1; replace s2 := (hx2.cells _ _ (by omega)).trans s2; replace s3 := (hx2.cells _ _ (by omega)).trans s3; replace s4 := (hx2.cells _ _ (by omega)).trans s4; replace s5 := (hx2.cells _ _ (by omega)).trans s5; replace sf0 := (hx2.frozens _ _ (by omega)).trans sf0; replace sf1 := (hx2.frozens _ _ (by omega)).trans sf1; replace sf2 := (hx2.frozens _ _ (by omega)).trans sf2; replace sf3 := (hx2.frozens _ _ (by omega)).trans sf3; replace sf4 := (hx2.frozens _ _ (by omega)).trans sf4; replace sf5 := (hx2.frozens _ _ (by omega)).trans sf5)
      refine bodyPost_ret (by simp [results, Tryz.results45, go_sem, r0, s0, rf0, sf0, r1, s1, rf1, sf1, r2, s2, rf2, sf2, r3, s3, rf3, sf3, r4, s4, rf4, sf4, r5, s5, rf5, sf5]; try rfl) rfl ⟨A', c', A2, c2, rfl, SpP.low (SpP.other (HS6.out.keep HX2.out) (by simp) fun k o hk => ?_) (by omega), StP.low (StP.other (StP.low HS2.out zy) (by simp) fun k o hk => ?_) (Nat.le_add_right _ _), ?_⟩
      · have n1 : ¬ w.heap.size + 1 = k := by omega
        have n2 : ¬ w.heap.size + 2 = k := by omega
        simp [go_sem, n1, n2]
      · have n1 : ¬ w.heap.size + 1 = k := by omega
        have n2 : ¬ w.heap.size + 2 = k := by omega
        simp [go_sem, n1, n2]
      · (repeat (first | with_reducible exact Bel.refl _ | with_reducible refine Bel.setCell ?_ (by first | exact Nat.le_refl _ | (dsimp only; omega)) _ | with_reducible refine Bel.alloc ?_ _ | with_reducible refine Bel.drew ?_ | with_reducible assumption | with_reducible refine Bel.trans ?_ (by assumption)))
end Go.Proofs.YtpmmbcobjibpeaaGreatDoor
namespace Go.Proofs.YtpmmbcobjibpeaaGreatDoor
set_option linter.unusedSimpArgs false
set_option linter.unusedVariables false
open Go.RowKit Go.Lib Go.Deep

/-! Sets: some, of truths. -/
def b0k (l : List Tst) : Bool := l.any fun t => decide (t.low.kind = 3) && decide (t.low.num = 0)
def b1k (l : List Tst) : Bool := l.any fun t => decide (t.low.kind = 3) && !decide (t.low.num = 0)
def bitsOf (x y : Bool) : Int := (if x then 1 else 0) + (if y then 2 else 0)
def bok (l : List Tst) : Int := bitsOf (b0k l) (b1k l)
theorem or_bits (x y : Bool) (v : Val) (hv : v.num = 0 ∨ v.num = 1) : bits BinOp.or IntKind.i64 (bitsOf x y) (bitV v) = bitsOf (x || decide (v.num = 0)) (y || !decide (v.num = 0)) := by
  unfold bitV
  rcases hv with h | h
  · rw [h]; cases x <;> cases y <;> decide +kernel
  · rw [h]; cases x <;> cases y <;> decide +kernel
theorem bok_snoc (l : List Tst) (t : Tst) (ht : t.low.kind = 3 → t.low.num = 0 ∨ t.low.num = 1) : bok (l ++ [t]) = if t.low.kind = 3 then bits BinOp.or IntKind.i64 (bok l) (bitV t.low) else bok l := by
  unfold bok
  have e0 : b0k (l ++ [t]) = (b0k l || (decide (t.low.kind = 3) && decide (t.low.num = 0))) := by simp [b0k]
  have e1 : b1k (l ++ [t]) = (b1k l || (decide (t.low.kind = 3) && !decide (t.low.num = 0))) := by simp [b1k]
  rw [e0, e1]
  by_cases h : t.low.kind = 3
  · rw [if_pos h, or_bits _ _ _ (ht h), decide_eq_true h]; simp
  · rw [if_neg h, decide_eq_false h]; simp
theorem tsnd_num {t : Tst} (h : tsnd t = true) (hk : t.low.kind = 3) : t.low.num = 0 ∨ t.low.num = 1 := by
  have hv := tsnd_low h
  unfold vsnd at hv
  rw [if_neg (by omega), if_neg (by omega), if_neg (by omega), if_pos hk, Bool.and_eq_true, Bool.or_eq_true, decide_eq_true_eq, decide_eq_true_eq] at hv
  exact hv.2
theorem own_emp {B : Nat} {w : World} : OwnT w B (.slice none 0 0) [] := OwnT.nil w B
set_option maxRecDepth 100000 in
set_option maxHeartbeats 8000000 in
theorem someB_any (sc : Int) (any not : Bool) (A0 : Option Addr) (n0 c0 : Nat) (l : List Tst) (A : Option Addr) (c : Nat) (w : World) (hs : Tsts w A l) (hl : l.length ≤ 1000) (hsn : ∀ t ∈ l, tsnd t = true) :
    Calls Tryz.prog 45 #[tyv 3 sc any not (.slice A0 n0 c0), .slice A l.length c] w (SetOut w ⟨3, [], false, [], bok l, nulk l⟩) := by
  have HLn := Lib.hid hl
  have HSN := Lib.hid hsn
  have li : (l.length : Int) ≤ 1000 := by omega
  clear hsn
  go_enter Tryz.func45, Tryz.ntmps45
  go_upto_region 4 with fail
  refine under_name (w0 := w) (by (repeat (first | with_reducible exact Bel.refl _ | with_reducible refine Bel.setCell ?_ (by first | exact Nat.le_refl _ | (dsimp only; omega)) _ | with_reducible refine Bel.alloc ?_ _ | with_reducible refine Bel.drew ?_ | with_reducible assumption | with_reducible refine Bel.trans ?_ (by assumption)))) fun W hc hf hz hb => ?_
  have m0 : W.cell? ⟨w.heap.size, 0, none⟩ = some (.int .i64 3) := by simp [hc, go_sem]
  have m1 : W.cell? ⟨w.heap.size, 1, none⟩ = some (.int .i64 sc) := by simp [hc, go_sem]
  have m2 : W.cell? ⟨w.heap.size, 2, none⟩ = some (.bool any) := by simp [hc, go_sem]
  have m3 : W.cell? ⟨w.heap.size, 3, none⟩ = some (.bool not) := by simp [hc, go_sem]
  have m4 : W.cell? ⟨w.heap.size, 4, none⟩ = some (.slice A0 n0 c0) := by simp [hc, go_sem]
  have r0 : W.cell? ⟨w.heap.size + 1, 0, none⟩ = some (.int .i64 0) := by simp [hc, go_sem]
  have r1 : W.cell? ⟨w.heap.size + 1, 1, none⟩ = some (.slice none 0 0) := by simp [hc, go_sem]
  have r2 : W.cell? ⟨w.heap.size + 1, 2, none⟩ = some (.bool false) := by simp [hc, go_sem]
  have r3 : W.cell? ⟨w.heap.size + 1, 3, none⟩ = some (.slice none 0 0) := by simp [hc, go_sem]
  have r4 : W.cell? ⟨w.heap.size + 1, 4, none⟩ = some (.int .i64 0) := by simp [hc, go_sem]
  have r5 : W.cell? ⟨w.heap.size + 1, 5, none⟩ = some (.bool false) := by simp [hc, go_sem]
  have rf0 : W.frozen? ⟨w.heap.size + 1, 0, none⟩ = false := by simp [hf, go_sem]
  have rf1 : W.frozen? ⟨w.heap.size + 1, 1, none⟩ = false := by simp [hf, go_sem]
  have rf2 : W.frozen? ⟨w.heap.size + 1, 2, none⟩ = false := by simp [hf, go_sem]
  have rf3 : W.frozen? ⟨w.heap.size + 1, 3, none⟩ = false := by simp [hf, go_sem]
  have rf4 : W.frozen? ⟨w.heap.size + 1, 4, none⟩ = false := by simp [hf, go_sem]
  have rf5 : W.frozen? ⟨w.heap.size + 1, 5, none⟩ = false := by simp [hf, go_sem]
  have s0 : W.cell? ⟨w.heap.size + 2, 0, none⟩ = some (.int .i64 3) := by simp [hc, go_sem]
  have s1 : W.cell? ⟨w.heap.size + 2, 1, none⟩ = some (.slice none 0 0) := by simp [hc, go_sem]
  have s2 : W.cell? ⟨w.heap.size + 2, 2, none⟩ = some (.bool false) := by simp [hc, go_sem]
  have s3 : W.cell? ⟨w.heap.size + 2, 3, none⟩ = some (.slice none 0 0) := by simp [hc, go_sem]
  have s4 : W.cell? ⟨w.heap.size + 2, 4, none⟩ = some (.int .i64 0) := by simp [hc, go_sem]
  have s5 : W.cell? ⟨w.heap.size + 2, 5, none⟩ = some (.bool false) := by simp [hc, go_sem]
  have sf0 : W.frozen? ⟨w.heap.size + 2, 0, none⟩ = false := by simp [hf, go_sem]
  have sf1 : W.frozen? ⟨w.heap.size + 2, 1, none⟩ = false := by simp [hf, go_sem]
  have sf2 : W.frozen? ⟨w.heap.size + 2, 2, none⟩ = false := by simp [hf, go_sem]
  have sf3 : W.frozen? ⟨w.heap.size + 2, 3, none⟩ = false := by simp [hf, go_sem]
  have sf4 : W.frozen? ⟨w.heap.size + 2, 4, none⟩ = false := by simp [hf, go_sem]
  have sf5 : W.frozen? ⟨w.heap.size + 2, 5, none⟩ = false := by simp [hf, go_sem]
  have z0 : w.heap.size + 3 ≤ W.heap.size := by simp [hz]
  clear hc hf hz
  have HW := Lib.hid z0
  go_wp2_with fail
  go_loopg [6, 7, 15] l.length (fun g rv v i wr => ∃ k : Nat, rv = .slice none 0 0 ∧ i = .int .i64 k ∧ k ≤ l.length ∧ Hid (g = l.length - k) ∧ v = .slice none 0 0 ∧ Hid (But W wr (w.heap.size + 2)) ∧ wr.cell? ⟨w.heap.size + 2, 4, none⟩ = some (.int .i64 (bok (l.take k))) ∧ wr.cell? ⟨w.heap.size + 2, 5, none⟩ = some (.bool (nulk (l.take k))) ∧ Bel w wr)
  case atStart => exact ⟨0, rfl, rfl, Nat.zero_le _, rfl, rfl, But.refl _ _, s4, s5, hb⟩
  case round =>
    obtain ⟨k, rfl, rfl, hk, hh, rfl, hbut, y4, y5, hbw⟩ := hrel
    have BC := hbut.out.2.1
    have BF := hbut.out.2.2
    have zr : w.heap.size + 3 ≤ wr.heap.size := Nat.le_trans z0 hbut.out.1
    replace m0 := (BC _ _ (by omega) (.inl (by omega))).trans m0
    replace m1 := (BC _ _ (by omega) (.inl (by omega))).trans m1
    replace m2 := (BC _ _ (by omega) (.inl (by omega))).trans m2
    replace m3 := (BC _ _ (by omega) (.inl (by omega))).trans m3
    replace m4 := (BC _ _ (by omega) (.inl (by omega))).trans m4
    replace r0 := (BC _ _ (by omega) (.inl (by omega))).trans r0
    replace r1 := (BC _ _ (by omega) (.inl (by omega))).trans r1
    replace r2 := (BC _ _ (by omega) (.inl (by omega))).trans r2
    replace r3 := (BC _ _ (by omega) (.inl (by omega))).trans r3
    replace r4 := (BC _ _ (by omega) (.inl (by omega))).trans r4
    replace r5 := (BC _ _ (by omega) (.inl (by omega))).trans r5
    replace s0 := (BC _ _ (by omega) (.inr (by omega))).trans s0
    replace s1 := (BC _ _ (by omega) (.inr (by omega))).trans s1
    replace s2 := (BC _ _ (by omega) (.inr (by omega))).trans s2
    replace s3 := (BC _ _ (by omega) (.inr (by omega))).trans s3
    replace rf0 := (BF _ _ (by omega)).trans rf0
    replace rf1 := (BF _ _ (by omega)).trans rf1
    replace rf2 := (BF _ _ (by omega)).trans rf2
    replace rf3 := (BF _ _ (by omega)).trans rf3
    replace rf4 := (BF _ _ (by omega)).trans rf4
    replace rf5 := (BF _ _ (by omega)).trans rf5
    replace sf0 := (BF _ _ (by omega)).trans sf0
    replace sf1 := (BF _ _ (by omega)).trans sf1
    replace sf2 := (BF _ _ (by omega)).trans sf2
    replace sf3 := (BF _ _ (by omega)).trans sf3
    replace sf4 := (BF _ _ (by omega)).trans sf4
    replace sf5 := (BF _ _ (by omega)).trans sf5
    replace s4 := y4
    replace s5 := y5
    clear BC BF y4 y5 z0
    by_cases hp : k < l.length
    · obtain ⟨tb, off, rfl, hlt, hat⟩ := hs (by omega)
      obtain ⟨t, htk⟩ : ∃ t, l[k]? = some t := ⟨_, List.getElem?_eq_getElem hp⟩
      have ha := (hat k t htk).keep hbw hlt
      have HT := Lib.hid (take_snoc htk)
      have zt := Nat.lt_of_lt_of_le hlt hbw.size
      have i1 : (k : Int) < l.length := by omega
      have HN := Lib.hid (nulk_snoc (l.take k) t)
      have HG := Lib.hid (bok_snoc (l.take k) t (fun h => tsnd_num (HSN.out t (List.mem_of_getElem? htk)) h))
      have HBn := Lib.hid fun h => tsnd_num (HSN.out t (List.mem_of_getElem? htk)) h
      have HBt := Lib.hid fun W => fun h => bit_any t.low h W
      rw [← HT.out] at HN HG
      obtain ⟨tk, ⟨a0, a1, a2, a3, a4⟩, ⟨b0, b1, b2, b3, b4⟩, x, y⟩ := t
      simp only at HN HG HBn HBt
      obtain ⟨t0, t1, t2, t3, t4, t5, t6, t7, t8, t9, t10, t11, t12⟩ := ha
      clear hat htk
      simp only at t0 t1 t2 t3 t4 t5 t6 t7 t8 t9 t10 t11 t12
      generalize bok (l.take k) = bb at s4 HG
      generalize nulk (l.take k) = q at s5 HN
      go_upto_region 8 with fail
      refine under_name (w0 := wr) ((Bel.refl wr).alloc _) fun X hc hf hz hbx => ?_
      have x0 : X.cell? ⟨wr.heap.size, 0, none⟩ = some (.int .i64 tk) := by simp [hc, go_sem]
      have x1 : X.cell? ⟨wr.heap.size, 1, none⟩ = some (.int .i64 a0) := by simp [hc, go_sem]
      have x2 : X.cell? ⟨wr.heap.size, 2, none⟩ = some (.int .i64 a1) := by simp [hc, go_sem]
      have x3 : X.cell? ⟨wr.heap.size, 3, none⟩ = some (.int .i64 a2) := by simp [hc, go_sem]
      have x4 : X.cell? ⟨wr.heap.size, 4, none⟩ = some (.string a3) := by simp [hc, go_sem]
      have x5 : X.cell? ⟨wr.heap.size, 5, none⟩ = some (.int .i64 a4) := by simp [hc, go_sem]
      have x6 : X.cell? ⟨wr.heap.size, 6, none⟩ = some (.int .i64 b0) := by simp [hc, go_sem]
      have x7 : X.cell? ⟨wr.heap.size, 7, none⟩ = some (.int .i64 b1) := by simp [hc, go_sem]
      have x8 : X.cell? ⟨wr.heap.size, 8, none⟩ = some (.int .i64 b2) := by simp [hc, go_sem]
      have x9 : X.cell? ⟨wr.heap.size, 9, none⟩ = some (.string b3) := by simp [hc, go_sem]
      have x10 : X.cell? ⟨wr.heap.size, 10, none⟩ = some (.int .i64 b4) := by simp [hc, go_sem]
      have x11 : X.cell? ⟨wr.heap.size, 11, none⟩ = some (.bool x) := by simp [hc, go_sem]
      have x12 : X.cell? ⟨wr.heap.size, 12, none⟩ = some (.bool y) := by simp [hc, go_sem]
      have zx : wr.heap.size + 1 ≤ X.heap.size := by simp [hz]
      clear hc hf hz t0 t1 t2 t3 t4 t5 t6 t7 t8 t9 t10 t11 t12 zt
      have B4 := Lib.hid s4
      have B5 := Lib.hid s5
      replace m0 := (hbx.cells _ _ (by omega)).trans m0
      replace m1 := (hbx.cells _ _ (by omega)).trans m1
      replace m2 := (hbx.cells _ _ (by omega)).trans m2
      replace m3 := (hbx.cells _ _ (by omega)).trans m3
      replace m4 := (hbx.cells _ _ (by omega)).trans m4
      replace r0 := (hbx.cells _ _ (by omega)).trans r0
      replace r1 := (hbx.cells _ _ (by omega)).trans r1
      replace r2 := (hbx.cells _ _ (by omega)).trans r2
      replace r3 := (hbx.cells _ _ (by omega)).trans r3
      replace r4 := (hbx.cells _ _ (by omega)).trans r4
      replace r5 := (hbx.cells _ _ (by omega)).trans r5
      replace s0 := (hbx.cells _ _ (by omega)).trans s0
      replace s1 := (hbx.cells _ _ (by omega)).trans s1
      replace s2 := (hbx.cells _ _ (by omega)).trans s2
      replace s3 := (hbx.cells _ _ (by omega)).trans s3
      replace s4 := (hbx.cells _ _ (by omega)).trans s4
      replace s5 := (hbx.cells _ _ (by omega)).trans s5
      replace rf0 := (hbx.frozens _ _ (by omega)).trans rf0
      replace rf1 := (hbx.frozens _ _ (by omega)).trans rf1
      replace rf2 := (hbx.frozens _ _ (by omega)).trans rf2
      replace rf3 := (hbx.frozens _ _ (by omega)).trans rf3
      replace rf4 := (hbx.frozens _ _ (by omega)).trans rf4
      replace rf5 := (hbx.frozens _ _ (by omega)).trans rf5
      replace sf0 := (hbx.frozens _ _ (by omega)).trans sf0
      replace sf1 := (hbx.frozens _ _ (by omega)).trans sf1
      replace sf2 := (hbx.frozens _ _ (by omega)).trans sf2
      replace sf3 := (hbx.frozens _ _ (by omega)).trans sf3
      replace sf4 := (hbx.frozens _ _ (by omega)).trans sf4
      replace sf5 := (hbx.frozens _ _ (by omega)).trans sf5
      by_cases e0 : a0 = 0
      · subst e0
        have hR := Lib.hid (HG.out.trans (if_neg (by omega)))
        have hQ := Lib.hid (show nulk (l.take (k + 1)) = true from by rw [HN.out]; simp)
        go_wp2_with fail
        go_roundg (l.length - (k + 1))
        case measure => have := hh.out; omega
        case rel =>
          exact ⟨k + 1, rfl, by go_num, by omega, rfl, rfl, (hbut.out.bel hbx).set 5 (by omega) _, by rw [hR.out]; simp [go_sem, s4], by rw [hQ.out]; simp [go_sem, s5], (hbw.trans hbx).setCell (by dsimp only; omega) _⟩
      · have f0 : (a0 == 0) = false := by simp [e0]
        have hQ := Lib.hid (show nulk (l.take (k + 1)) = q from by rw [HN.out]; simp [e0])
        by_cases eK : a0 = 3
        · subst eK
          have hR := Lib.hid (HG.out.trans (if_pos rfl))
          go_upto_region 14 with fail
          have HBi := HBn.out rfl
          refine wp_region_noPanic ?_
          refine wp_region_held (S := fun Y => Y.cell? ⟨wr.heap.size, 1, none⟩ = some (.int .i64 3) ∧ Y.cell? ⟨wr.heap.size, 2, none⟩ = some (.int .i64 a1) ∧ Y.cell? ⟨wr.heap.size, 3, none⟩ = some (.int .i64 a2) ∧ Y.cell? ⟨wr.heap.size, 4, none⟩ = some (.string a3) ∧ Y.cell? ⟨wr.heap.size, 5, none⟩ = some (.int .i64 a4)) (by kernel_rfl) ?_
          have hX0 : Bel X { X with drawn := X.drawn + 1 } := (Bel.refl X).drew
          generalize { X with drawn := X.drawn + 1 } = X0 at hX0 ⊢
          replace x1 := (hX0.cells _ _ (by omega)).trans x1
          replace x2 := (hX0.cells _ _ (by omega)).trans x2
          replace x3 := (hX0.cells _ _ (by omega)).trans x3
          replace x4 := (hX0.cells _ _ (by omega)).trans x4
          replace x5 := (hX0.cells _ _ (by omega)).trans x5
          replace s4 := (hX0.cells _ _ (by omega)).trans s4
          replace s5 := (hX0.cells _ _ (by omega)).trans s5
          replace sf4 := (hX0.frozens _ _ (by omega)).trans sf4
          have zX0 : wr.heap.size + 1 ≤ X0.heap.size := Nat.le_trans zx hX0.size
          refine wpAnyH_take (i := 0) (oi := { dst := some 53, op := Op.fieldAddr 39 (Operand.tmp 5) 3, type := 0, pos := "kinds.go:99", after := #[], guard := none }) (v := .pointer (some ⟨w.heap.size + 2, 4, none⟩)) rfl (by kernel_rfl) (by kernel_rfl) (by kernel_rfl) (fun _ _ _ h => h) (.inl ⟨by rfl, fun Y hS => by
              obtain ⟨k1, k2, k3, k4, k5⟩ := hS
              go_simp; first | done | with_reducible rfl | rfl⟩) ⟨x1, x2, x3, x4, x5⟩ ?_
          (try simp only [Act.put, List.setIfInBounds_toArray, List.set_cons_zero, List.set_cons_succ])
          refine wpAnyH_take (i := 2) (oi := { dst := some 55, op := Op.fieldAddr 59 (Operand.tmp 9) 1, type := 0, pos := "kinds.go:99", after := #[], guard := none }) (v := .pointer (some ⟨wr.heap.size, 1, none⟩)) rfl (by kernel_rfl) (by kernel_rfl) (by kernel_rfl) (fun _ _ _ h => h) (.inl ⟨by rfl, fun Y hS => by
              obtain ⟨k1, k2, k3, k4, k5⟩ := hS
              go_simp; first | done | with_reducible rfl | rfl⟩) ⟨x1, x2, x3, x4, x5⟩ ?_
          (try simp only [Act.put, List.setIfInBounds_toArray, List.set_cons_zero, List.set_cons_succ])
          refine wpAnyH_take (i := 3) (oi := { dst := some 56, op := Op.load 30 (Operand.tmp 55), type := 30, pos := "kinds.go:99", after := #[{ on := 2, ground := Ground.data }], guard := none }) (v := .agg #[.int .i64 3, .int .i64 a1, .int .i64 a2, .string a3, .int .i64 a4]) rfl (by kernel_rfl) (by kernel_rfl) (by kernel_rfl) (fun _ _ _ h => h) (.inl ⟨by rfl, fun Y hS => by
              obtain ⟨k1, k2, k3, k4, k5⟩ := hS
              go_simp; first | done | with_reducible rfl | rfl⟩) ⟨x1, x2, x3, x4, x5⟩ ?_
          (try simp only [Act.put, List.setIfInBounds_toArray, List.set_cons_zero, List.set_cons_succ])
          refine wpAnyH_all (rs := [1, 4]) (by kernel_rfl) (by simp) ?_
          intro i hi
          simp only [List.mem_cons, List.not_mem_nil, or_false] at hi
          rcases hi with rfl | rfl
          · -- the load, the call
            refine wpOp_value (o := { dst := some 54, op := Op.load 3 (Operand.tmp 53), type := 3, pos := "kinds.go:99", after := #[{ on := 0, ground := Ground.data }], guard := none }) (v := .int .i64 bb) (w' := X0) rfl (by rfl) (by go_simp; first | done | with_reducible rfl | rfl) ?_
            refine ⟨⟨x1, x2, x3, x4, x5⟩, ?_⟩
            (try simp only [Act.put, List.setIfInBounds_toArray, List.set_cons_zero, List.set_cons_succ])
            refine wpAnyH_all (rs := [4]) (by kernel_rfl) (by simp) ?_
            intro i hi
            simp only [List.mem_cons, List.not_mem_nil, or_false] at hi
            subst hi
            refine wpOp_enter (o := { dst := some 57, op := Op.call { callee := Callee.value (Operand.func 53), args := #[Operand.tmp 56], argTypes := #[30] }, type := 3, pos := "kinds.go:99", after := #[{ on := 3, ground := Ground.data }], guard := none }) (R := fun v w' => v = .int .i64 (bitV ⟨3, a1, a2, a3, a4⟩) ∧ Bel X0 w') rfl (by rfl) (by go_simp; first | done | with_reducible rfl | rfl) ((HBt.out X0 HBi).mono fun e w' ⟨h1, h2⟩ => ⟨_, h1, rfl, h2⟩) ?_
            rintro v X1 ⟨rfl, hb'⟩
            replace x1 := (hb'.cells _ _ (by omega)).trans x1
            replace x2 := (hb'.cells _ _ (by omega)).trans x2
            replace x3 := (hb'.cells _ _ (by omega)).trans x3
            replace x4 := (hb'.cells _ _ (by omega)).trans x4
            replace x5 := (hb'.cells _ _ (by omega)).trans x5
            replace s4 := (hb'.cells _ _ (by omega)).trans s4
            replace s5 := (hb'.cells _ _ (by omega)).trans s5
            replace sf4 := (hb'.frozens _ _ (by omega)).trans sf4
            have hX1 := hX0.trans hb'
            have zX1 : wr.heap.size + 1 ≤ X1.heap.size := Nat.le_trans zX0 hb'.size
            clear hb'
            refine ⟨⟨x1, x2, x3, x4, x5⟩, ?_⟩
            (try simp only [Act.put, List.setIfInBounds_toArray, List.set_cons_zero, List.set_cons_succ])
            refine wpAnyH_all (rs := [5]) (by kernel_rfl) (by simp) ?_
            intro i hi
            simp only [List.mem_cons, List.not_mem_nil, or_false] at hi
            subst hi
            refine wpOp_value (o := { dst := some 58, op := Op.binOp BinOp.or 3 (Operand.tmp 54) (Operand.tmp 57) 3, type := 3, pos := "kinds.go:99", after := #[{ on := 1, ground := Ground.data }, { on := 4, ground := Ground.data }], guard := none }) (v := .int .i64 (bits BinOp.or IntKind.i64 bb (bitV ⟨3, a1, a2, a3, a4⟩))) (w' := X1) rfl (by rfl) (by go_simp; first | done | with_reducible rfl | rfl) ?_
            refine ⟨⟨x1, x2, x3, x4, x5⟩, ?_⟩
            (try simp only [Act.put, List.setIfInBounds_toArray, List.set_cons_zero, List.set_cons_succ])
            refine wpAnyH_all (rs := [6]) (by kernel_rfl) (by simp) ?_
            intro i hi
            simp only [List.mem_cons, List.not_mem_nil, or_false] at hi
            subst hi
            refine wpOp_value (o := { dst := some 59, op := Op.fieldAddr 39 (Operand.tmp 5) 3, type := 0, pos := "kinds.go:99", after := #[{ on := 0, ground := Ground.phase }, { on := 1, ground := Ground.phase }, { on := 2, ground := Ground.phase }, { on := 3, ground := Ground.phase }, { on := 4, ground := Ground.phase }, { on := 5, ground := Ground.phase }], guard := none }) (v := .pointer (some ⟨w.heap.size + 2, 4, none⟩)) (w' := X1) rfl (by rfl) (by go_simp; first | done | with_reducible rfl | rfl) ?_
            refine ⟨⟨x1, x2, x3, x4, x5⟩, ?_⟩
            (try simp only [Act.put, List.setIfInBounds_toArray, List.set_cons_zero, List.set_cons_succ])
            refine wpAnyH_all (rs := [7]) (by kernel_rfl) (by simp) ?_
            intro i hi
            simp only [List.mem_cons, List.not_mem_nil, or_false] at hi
            subst hi
            refine wpOp_skip (o := { dst := none, op := Op.store 3 (Operand.tmp 59) (Operand.tmp 58), type := 0, pos := "kinds.go:99", after := #[{ on := 6, ground := Ground.data }, { on := 5, ground := Ground.data }, { on := 4, ground := Ground.chain }, { on := 0, ground := Ground.phase }, { on := 1, ground := Ground.phase }, { on := 2, ground := Ground.phase }, { on := 3, ground := Ground.phase }, { on := 4, ground := Ground.phase }, { on := 5, ground := Ground.phase }], guard := none }) (w' := (X1.setCell ⟨w.heap.size + 2, 4, none⟩ (.int .i64 (bits BinOp.or IntKind.i64 bb (bitV ⟨3, a1, a2, a3, a4⟩))))) rfl (by rfl) (by go_simp; first | done | with_reducible rfl | rfl) ?_
            refine ⟨⟨by simp [go_sem, x1], by simp [go_sem, x2], by simp [go_sem, x3], by simp [go_sem, x4], by simp [go_sem, x5]⟩, ?_⟩
            (try simp only [Act.put, List.setIfInBounds_toArray, List.set_cons_zero, List.set_cons_succ])
            refine wpAnyH_done (by kernel_rfl) ?_ _
            refine NoPanic.normal ?_
            go_wp2_with fail
            go_roundg (l.length - (k + 1))
            case measure => have := hh.out; omega
            case rel =>
              have hbX1 := hbx.trans hX1
              exact ⟨k + 1, rfl, by go_num, by omega, rfl, rfl, (hbut.out.bel hbX1).set 4 (by omega) _, by rw [hR.out]; simp [go_sem, s4], by rw [hQ.out]; simp [go_sem, s5], (hbw.trans hbX1).setCell (by dsimp only; omega) _⟩
          · -- the call, the load
            refine wpOp_enter (o := { dst := some 57, op := Op.call { callee := Callee.value (Operand.func 53), args := #[Operand.tmp 56], argTypes := #[30] }, type := 3, pos := "kinds.go:99", after := #[{ on := 3, ground := Ground.data }], guard := none }) (R := fun v w' => v = .int .i64 (bitV ⟨3, a1, a2, a3, a4⟩) ∧ Bel X0 w') rfl (by rfl) (by go_simp; first | done | with_reducible rfl | rfl) ((HBt.out X0 HBi).mono fun e w' ⟨h1, h2⟩ => ⟨_, h1, rfl, h2⟩) ?_
            rintro v X1 ⟨rfl, hb'⟩
            replace x1 := (hb'.cells _ _ (by omega)).trans x1
            replace x2 := (hb'.cells _ _ (by omega)).trans x2
            replace x3 := (hb'.cells _ _ (by omega)).trans x3
            replace x4 := (hb'.cells _ _ (by omega)).trans x4
            replace x5 := (hb'.cells _ _ (by omega)).trans x5
            replace s4 := (hb'.cells _ _ (by omega)).trans s4
            replace s5 := (hb'.cells _ _ (by omega)).trans s5
            replace sf4 := (hb'.frozens _ _ (by omega)).trans sf4
            have hX1 := hX0.trans hb'
            have zX1 : wr.heap.size + 1 ≤ X1.heap.size := Nat.le_trans zX0 hb'.size
            clear hb'
            refine ⟨⟨x1, x2, x3, x4, x5⟩, ?_⟩
            (try simp only [Act.put, List.setIfInBounds_toArray, List.set_cons_zero, List.set_cons_succ])
            refine wpAnyH_all (rs := [1]) (by kernel_rfl) (by simp) ?_
            intro i hi
            simp only [List.mem_cons, List.not_mem_nil, or_false] at hi
            subst hi
            refine wpOp_value (o := { dst := some 54, op := Op.load 3 (Operand.tmp 53), type := 3, pos := "kinds.go:99", after := #[{ on := 0, ground := Ground.data }], guard := none }) (v := .int .i64 bb) (w' := X1) rfl (by rfl) (by go_simp; first | done | with_reducible rfl | rfl) ?_
            refine ⟨⟨x1, x2, x3, x4, x5⟩, ?_⟩
            (try simp only [Act.put, List.setIfInBounds_toArray, List.set_cons_zero, List.set_cons_succ])
            refine wpAnyH_all (rs := [5]) (by kernel_rfl) (by simp) ?_
            intro i hi
            simp only [List.mem_cons, List.not_mem_nil, or_false] at hi
            subst hi
            refine wpOp_value (o := { dst := some 58, op := Op.binOp BinOp.or 3 (Operand.tmp 54) (Operand.tmp 57) 3, type := 3, pos := "kinds.go:99", after := #[{ on := 1, ground := Ground.data }, { on := 4, ground := Ground.data }], guard := none }) (v := .int .i64 (bits BinOp.or IntKind.i64 bb (bitV ⟨3, a1, a2, a3, a4⟩))) (w' := X1) rfl (by rfl) (by go_simp; first | done | with_reducible rfl | rfl) ?_
            refine ⟨⟨x1, x2, x3, x4, x5⟩, ?_⟩
            (try simp only [Act.put, List.setIfInBounds_toArray, List.set_cons_zero, List.set_cons_succ])
            refine wpAnyH_all (rs := [6]) (by kernel_rfl) (by simp) ?_
            intro i hi
            simp only [List.mem_cons, List.not_mem_nil, or_false] at hi
            subst hi
            refine wpOp_value (o := { dst := some 59, op := Op.fieldAddr 39 (Operand.tmp 5) 3, type := 0, pos := "kinds.go:99", after := #[{ on := 0, ground := Ground.phase }, { on := 1, ground := Ground.phase }, { on := 2, ground := Ground.phase }, { on := 3, ground := Ground.phase }, { on := 4, ground := Ground.phase }, { on := 5, ground := Ground.phase }], guard := none }) (v := .pointer (some ⟨w.heap.size + 2, 4, none⟩)) (w' := X1) rfl (by rfl) (by go_simp; first | done | with_reducible rfl | rfl) ?_
            refine ⟨⟨x1, x2, x3, x4, x5⟩, ?_⟩
            (try simp only [Act.put, List.setIfInBounds_toArray, List.set_cons_zero, List.set_cons_succ])
            refine wpAnyH_all (rs := [7]) (by kernel_rfl) (by simp) ?_
            intro i hi
            simp only [List.mem_cons, List.not_mem_nil, or_false] at hi
            subst hi
            refine wpOp_skip (o := { dst := none, op := Op.store 3 (Operand.tmp 59) (Operand.tmp 58), type := 0, pos := "kinds.go:99", after := #[{ on := 6, ground := Ground.data }, { on := 5, ground := Ground.data }, { on := 4, ground := Ground.chain }, { on := 0, ground := Ground.phase }, { on := 1, ground := Ground.phase }, { on := 2, ground := Ground.phase }, { on := 3, ground := Ground.phase }, { on := 4, ground := Ground.phase }, { on := 5, ground := Ground.phase }], guard := none }) (w' := (X1.setCell ⟨w.heap.size + 2, 4, none⟩ (.int .i64 (bits BinOp.or IntKind.i64 bb (bitV ⟨3, a1, a2, a3, a4⟩))))) rfl (by rfl) (by go_simp; first | done | with_reducible rfl | rfl) ?_
            refine ⟨⟨by simp [go_sem, x1], by simp [go_sem, x2], by simp [go_sem, x3], by simp [go_sem, x4], by simp [go_sem, x5]⟩, ?_⟩
            (try simp only [Act.put, List.setIfInBounds_toArray, List.set_cons_zero, List.set_cons_succ])
            refine wpAnyH_done (by kernel_rfl) ?_ _
            refine NoPanic.normal ?_
            go_wp2_with fail
            go_roundg (l.length - (k + 1))
            case measure => have := hh.out; omega
            case rel =>
              have hbX1 := hbx.trans hX1
              exact ⟨k + 1, rfl, by go_num, by omega, rfl, rfl, (hbut.out.bel hbX1).set 4 (by omega) _, by rw [hR.out]; simp [go_sem, s4], by rw [hQ.out]; simp [go_sem, s5], (hbw.trans hbX1).setCell (by dsimp only; omega) _⟩
        · have fK : (a0 == 3) = false := by simp [eK]
          have hR := Lib.hid (HG.out.trans (if_neg eK))
          go_wp2_with fail
          go_roundg (l.length - (k + 1))
          case measure => have := hh.out; omega
          case rel =>
            exact ⟨k + 1, rfl, by go_num, by omega, rfl, rfl, hbut.out.bel hbx, by rw [hR.out]; exact s4, by rw [hQ.out]; exact s5, hbw.trans hbx⟩
    · obtain rfl : k = l.length := by omega
      rw [List.take_length] at s4 s5
      have HJ := Lib.hid fun W' => join_any (.slice none 0 0) [] W' ⟨none, 0, rfl, Sps.nil, Nat.le_refl _, .inl ⟨rfl, rfl⟩⟩ (by simp) (by simp)
      have z9 := hbut.out.1
      have zW := HW.out
      go_wp2_with (go_at_call 47; refine (HJ.out _).mono ?_; rintro e X1 ⟨v', r, rfl, o1, o2, o3, ⟨o4, o5⟩, hx1⟩; obtain rfl := ord_empty0 o2 o4; obtain ⟨A', c', rfl, hS⟩ := SpP.of_own o1; have HS := Lib.hid hS; clear o1 o2 o3 o4 o5 hS; have hbX := hbw.trans hx1; have zx1 := hx1.size; replace m0 := (hx1.cells _ _ (by omega)).trans m0; replace m1 := (hx1.cells _ _ (by omega)).trans m1; replace m2 := (hx1.cells _ _ (by omega)).trans m2; replace m3 := (hx1.cells _ _ (by omega)).trans m3; replace m4 := (hx1.cells _ _ (by omega)).trans m4; replace r0 := (hx1.cells _ _ (by omega)).trans r0; replace r1 := (hx1.cells _ _ (by omega)).trans r1; replace r2 := (hx1.cells _ _ (by omega)).trans r2; replace r3 := (hx1.cells _ _ (by omega)).trans r3; replace r4 := (hx1.cells _ _ (by omega)).trans r4; replace r5 := (hx1.cells _ _ (by omega)).trans r5; replace rf0 := (hx1.frozens _ _ (by omega)).trans rf0; replace rf1 := (hx1.frozens _ _ (by omega)).trans rf1; replace rf2 := (hx1.frozens _ _ (by omega)).trans rf2; replace rf3 := (hx1.frozens _ _ (by omega)).trans rf3; replace rf4 := (hx1.frozens _ _ (by omega)).trans rf4; replace rf5 := (hx1.frozens _ _ (by omega)).trans rf5; replace s0 := (hx1.cells _ _ (by omega)).trans s0; replace s1 := (hx1.cells _ _ (by omega)).trans s1; replace s2 := (hx1.cells _ _ (by omega)).trans s2; replace s3 := (hx1.cells _ _ (by omega)).trans s3; replace s4 := (hx1.cells _ _ (by omega)).trans s4; replace s5 := (hx1.cells _ _ (by omega)).trans s5; replace sf0 := (hx1.frozens _ _ (by omega)).trans sf0; replace sf1 := (hx1.frozens _ _ (by omega)).trans sf1; replace sf2 := (hx1.frozens _ _ (by omega)).trans sf2; replace sf3 := (hx1.frozens _ _ (by omega)).trans sf3; replace sf4 := (hx1.frozens _ _ (by omega)).trans sf4; replace sf5 := (hx1.frozens _ _ (by omega)).trans sf5)
      refine bodyPost_ret (by simp [results, Tryz.results45, go_sem, r0, s0, rf0, sf0, r1, s1, rf1, sf1, r2, s2, rf2, sf2, r3, s3, rf3, sf3, r4, s4, rf4, sf4, r5, s5, rf5, sf5]; try rfl) rfl ⟨A', c', none, 0, rfl, SpP.low (SpP.other (SpP.low HS.out (show w.heap.size + 3 ≤ wr.heap.size from by omega)) (by simp) fun k o hk => ?_) (Nat.le_add_right _ _), StP.nil _ _, ?_⟩
      · have n1 : ¬ w.heap.size + 1 = k := by omega
        have n2 : ¬ w.heap.size + 2 = k := by omega
        simp [go_sem, n1, n2]
      · (repeat (first | with_reducible exact Bel.refl _ | with_reducible refine Bel.setCell ?_ (by first | exact Nat.le_refl _ | (dsimp only; omega)) _ | with_reducible refine Bel.alloc ?_ _ | with_reducible refine Bel.drew ?_ | with_reducible assumption | with_reducible refine Bel.trans ?_ (by assumption)))
end Go.Proofs.YtpmmbcobjibpeaaGreatDoor
namespace Go.Proofs.YtpmmbcobjibpeaaGreatDoor
set_option linter.unusedSimpArgs false
set_option linter.unusedVariables false
open Go.RowKit Go.Lib Go.Deep

/-! Sets: without, of texts. -/
set_option maxRecDepth 100000 in
set_option maxHeartbeats 8000000 in
theorem withoutS2_any (asp : List Sp) (aal : Bool) (aws : List ByteArray) (abo : Int) (anu : Bool) (bsp : List Sp) (bal : Bool) (bws : List ByteArray) (bbo : Int) (bnu : Bool) (aA : Option Addr) (ac : Nat) (aA2 : Option Addr) (ac2 : Nat) (bA : Option Addr) (bc : Nat) (bA2 : Option Addr) (bc2 : Nat) (w : World) (ha : Strs w aA2 aws) (hb0 : Strs w bA2 bws) (hA : aA2 = none → ac2 = 0) (hA2 : bA2 = none → bc2 = 0)
    (hn : aws.length * 16 ≤ 70368744177664) (hn2 : bws.length * 16 ≤ 70368744177664) (hs : ∀ s ∈ aws, Fits s) (hs2 : ∀ s ∈ bws, Fits s) :
    Calls Tryz.prog 49 #[(⟨2, asp, aal, aws, abo, anu⟩ : St).val aA ac aA2 ac2, (⟨2, bsp, bal, bws, bbo, bnu⟩ : St).val bA bc bA2 bc2] w (SetOut w ⟨2, [], aal && !bal, meetl aal aws (!bal) (keptl okw bws), 0, anu && !bnu⟩) := by
  have C1 := Lib.hid fun W (hW : Bel w W) => other_any bal bws bA2 bc2 W (hb0.keep hW) (by omega) hs2
  have hkl := keptl_len okw bws
  have C2 := Lib.hid fun W (hW : Bel w W) A' c' (h1 : Strs W A' (keptl okw bws)) (h2 : A' = none → c' = 0) => wmeet_any aal aws aA2 ac2 (!bal) (keptl okw bws) A' c' W (ha.keep hW) h1 hA h2 (by omega) (by omega) (fun _ _ => by omega) hs (fun s h => hs2 s ((keptl_mem _ _ _).1 h).1)
  unfold wset at C1 C2
  generalize keptl okw bws = ks at C1 C2 hkl ⊢
  generalize meetl aal aws (!bal) ks = r at C2 ⊢
  clear ha hb0 hA hA2 hn hn2 hs hs2 hkl
  rcases Bool.eq_false_or_eq_true anu with hnu | hnu
  all_goals
    go_enter Tryz.func49, Tryz.ntmps49
    go_upto_region 2 with fail
    refine under_name (w0 := w) (by (repeat (first | with_reducible exact Bel.refl _ | with_reducible refine Bel.setCell ?_ (by first | exact Nat.le_refl _ | (dsimp only; omega)) _ | with_reducible refine Bel.alloc ?_ _ | with_reducible refine Bel.drew ?_ | with_reducible assumption | with_reducible refine Bel.trans ?_ (by assumption)))) fun W hc hf hz hb => ?_
    have a0 : W.cell? ⟨w.heap.size, 0, none⟩ = some (.int .i64 2) := by simp [hc, go_sem, hnu]
    have a1 : W.cell? ⟨w.heap.size, 1, none⟩ = some (.slice aA asp.length ac) := by simp [hc, go_sem, hnu]
    have a2 : W.cell? ⟨w.heap.size, 2, none⟩ = some (.bool aal) := by simp [hc, go_sem, hnu]
    have a3 : W.cell? ⟨w.heap.size, 3, none⟩ = some (.slice aA2 aws.length ac2) := by simp [hc, go_sem, hnu]
    have a4 : W.cell? ⟨w.heap.size, 4, none⟩ = some (.int .i64 abo) := by simp [hc, go_sem, hnu]
    have a5 : W.cell? ⟨w.heap.size, 5, none⟩ = some (.bool anu) := by simp [hc, go_sem, hnu]
    have b0 : W.cell? ⟨w.heap.size + 1, 0, none⟩ = some (.int .i64 2) := by simp [hc, go_sem, hnu]
    have b1 : W.cell? ⟨w.heap.size + 1, 1, none⟩ = some (.slice bA bsp.length bc) := by simp [hc, go_sem, hnu]
    have b2 : W.cell? ⟨w.heap.size + 1, 2, none⟩ = some (.bool bal) := by simp [hc, go_sem, hnu]
    have b3 : W.cell? ⟨w.heap.size + 1, 3, none⟩ = some (.slice bA2 bws.length bc2) := by simp [hc, go_sem, hnu]
    have b4 : W.cell? ⟨w.heap.size + 1, 4, none⟩ = some (.int .i64 bbo) := by simp [hc, go_sem, hnu]
    have b5 : W.cell? ⟨w.heap.size + 1, 5, none⟩ = some (.bool bnu) := by simp [hc, go_sem, hnu]
    have r0 : W.cell? ⟨w.heap.size + 2, 0, none⟩ = some (.int .i64 0) := by simp [hc, go_sem]
    have r1 : W.cell? ⟨w.heap.size + 2, 1, none⟩ = some (.slice none 0 0) := by simp [hc, go_sem]
    have r2 : W.cell? ⟨w.heap.size + 2, 2, none⟩ = some (.bool false) := by simp [hc, go_sem]
    have r3 : W.cell? ⟨w.heap.size + 2, 3, none⟩ = some (.slice none 0 0) := by simp [hc, go_sem]
    have r4 : W.cell? ⟨w.heap.size + 2, 4, none⟩ = some (.int .i64 0) := by simp [hc, go_sem]
    have r5 : W.cell? ⟨w.heap.size + 2, 5, none⟩ = some (.bool false) := by simp [hc, go_sem]
    have rf0 : W.frozen? ⟨w.heap.size + 2, 0, none⟩ = false := by simp [hf, go_sem]
    have rf1 : W.frozen? ⟨w.heap.size + 2, 1, none⟩ = false := by simp [hf, go_sem]
    have rf2 : W.frozen? ⟨w.heap.size + 2, 2, none⟩ = false := by simp [hf, go_sem]
    have rf3 : W.frozen? ⟨w.heap.size + 2, 3, none⟩ = false := by simp [hf, go_sem]
    have rf4 : W.frozen? ⟨w.heap.size + 2, 4, none⟩ = false := by simp [hf, go_sem]
    have rf5 : W.frozen? ⟨w.heap.size + 2, 5, none⟩ = false := by simp [hf, go_sem]
    have m0 : W.cell? ⟨w.heap.size + 3, 0, none⟩ = some (.int .i64 2) := by simp [hc, go_sem, hnu]
    have m1 : W.cell? ⟨w.heap.size + 3, 1, none⟩ = some (.slice none 0 0) := by simp [hc, go_sem, hnu]
    have m2 : W.cell? ⟨w.heap.size + 3, 2, none⟩ = some (.bool false) := by simp [hc, go_sem, hnu]
    have m3 : W.cell? ⟨w.heap.size + 3, 3, none⟩ = some (.slice none 0 0) := by simp [hc, go_sem, hnu]
    have m4 : W.cell? ⟨w.heap.size + 3, 4, none⟩ = some (.int .i64 0) := by simp [hc, go_sem, hnu]
    have m5 : W.cell? ⟨w.heap.size + 3, 5, none⟩ = some (.bool (anu && !bnu)) := by simp [hc, go_sem, hnu]
    have mf0 : W.frozen? ⟨w.heap.size + 3, 0, none⟩ = false := by simp [hf, go_sem, hnu]
    have mf1 : W.frozen? ⟨w.heap.size + 3, 1, none⟩ = false := by simp [hf, go_sem, hnu]
    have mf2 : W.frozen? ⟨w.heap.size + 3, 2, none⟩ = false := by simp [hf, go_sem, hnu]
    have mf3 : W.frozen? ⟨w.heap.size + 3, 3, none⟩ = false := by simp [hf, go_sem, hnu]
    have mf4 : W.frozen? ⟨w.heap.size + 3, 4, none⟩ = false := by simp [hf, go_sem, hnu]
    have mf5 : W.frozen? ⟨w.heap.size + 3, 5, none⟩ = false := by simp [hf, go_sem, hnu]
    have z0 : w.heap.size + 4 ≤ W.heap.size := by simp [hz]
    clear hc hf hz
    go_upto_region 7 with fail
    refine wp_region_noPanic ?_
    refine wp_region_held (S := fun Y => Y.cell? ⟨w.heap.size, 2, none⟩ = some (.bool aal) ∧ Y.cell? ⟨w.heap.size, 3, none⟩ = some (.slice aA2 aws.length ac2) ∧ Y.cell? ⟨w.heap.size + 1, 2, none⟩ = some (.bool bal) ∧ Y.cell? ⟨w.heap.size + 1, 3, none⟩ = some (.slice bA2 bws.length bc2)) (by kernel_rfl) ?_
    have hX0 : Bel W { W with drawn := W.drawn + 1 } := (Bel.refl W).drew
    generalize { W with drawn := W.drawn + 1 } = X0 at hX0 ⊢
    have hb0 := hb.trans hX0
    replace a2 := (hX0.cells _ _ (by omega)).trans a2
    replace a3 := (hX0.cells _ _ (by omega)).trans a3
    replace b2 := (hX0.cells _ _ (by omega)).trans b2
    replace b3 := (hX0.cells _ _ (by omega)).trans b3
    replace r0 := (hX0.cells _ _ (by omega)).trans r0; replace r1 := (hX0.cells _ _ (by omega)).trans r1; replace r2 := (hX0.cells _ _ (by omega)).trans r2; replace r3 := (hX0.cells _ _ (by omega)).trans r3; replace r4 := (hX0.cells _ _ (by omega)).trans r4; replace r5 := (hX0.cells _ _ (by omega)).trans r5; replace rf0 := (hX0.frozens _ _ (by omega)).trans rf0; replace rf1 := (hX0.frozens _ _ (by omega)).trans rf1; replace rf2 := (hX0.frozens _ _ (by omega)).trans rf2; replace rf3 := (hX0.frozens _ _ (by omega)).trans rf3; replace rf4 := (hX0.frozens _ _ (by omega)).trans rf4; replace rf5 := (hX0.frozens _ _ (by omega)).trans rf5
    replace m0 := (hX0.cells _ _ (by omega)).trans m0; replace m1 := (hX0.cells _ _ (by omega)).trans m1; replace m2 := (hX0.cells _ _ (by omega)).trans m2; replace m3 := (hX0.cells _ _ (by omega)).trans m3; replace m4 := (hX0.cells _ _ (by omega)).trans m4; replace m5 := (hX0.cells _ _ (by omega)).trans m5; replace mf0 := (hX0.frozens _ _ (by omega)).trans mf0; replace mf1 := (hX0.frozens _ _ (by omega)).trans mf1; replace mf2 := (hX0.frozens _ _ (by omega)).trans mf2; replace mf3 := (hX0.frozens _ _ (by omega)).trans mf3; replace mf4 := (hX0.frozens _ _ (by omega)).trans mf4; replace mf5 := (hX0.frozens _ _ (by omega)).trans mf5
    have zX0 : w.heap.size + 4 ≤ _ := Nat.le_trans z0 hX0.size
    refine wpAnyH_take (i := 0) (oi := { dst := some 29, op := Op.fieldAddr 39 (Operand.tmp 2) 2, type := 0, pos := "kinds.go:78", after := #[], guard := none }) (v := .pointer (some ⟨w.heap.size, 2, none⟩)) rfl (by kernel_rfl) (by kernel_rfl) (by kernel_rfl) (fun _ _ _ h => h) (.inl ⟨by rfl, fun Y hS => by
          obtain ⟨k1, k2, k3, k4⟩ := hS
          go_simp; first | done | with_reducible rfl | rfl⟩) ⟨a2, a3, b2, b3⟩ ?_
    (try simp only [Act.put, List.setIfInBounds_toArray, List.set_cons_zero, List.set_cons_succ])
    refine wpAnyH_take (i := 1) (oi := { dst := some 30, op := Op.load 37 (Operand.tmp 29), type := 37, pos := "kinds.go:78", after := #[{ on := 0, ground := Ground.data }], guard := none }) (v := .agg #[.bool aal, .slice aA2 aws.length ac2]) rfl (by kernel_rfl) (by kernel_rfl) (by kernel_rfl) (fun _ _ _ h => h) (.inl ⟨by rfl, fun Y hS => by
          obtain ⟨k1, k2, k3, k4⟩ := hS
          go_simp; first | done | with_reducible rfl | rfl⟩) ⟨a2, a3, b2, b3⟩ ?_
    (try simp only [Act.put, List.setIfInBounds_toArray, List.set_cons_zero, List.set_cons_succ])
    refine wpAnyH_take (i := 2) (oi := { dst := some 31, op := Op.fieldAddr 39 (Operand.tmp 3) 2, type := 0, pos := "kinds.go:78", after := #[], guard := none }) (v := .pointer (some ⟨w.heap.size + 1, 2, none⟩)) rfl (by kernel_rfl) (by kernel_rfl) (by kernel_rfl) (fun _ _ _ h => h) (.inl ⟨by rfl, fun Y hS => by
          obtain ⟨k1, k2, k3, k4⟩ := hS
          go_simp; first | done | with_reducible rfl | rfl⟩) ⟨a2, a3, b2, b3⟩ ?_
    (try simp only [Act.put, List.setIfInBounds_toArray, List.set_cons_zero, List.set_cons_succ])
    refine wpAnyH_take (i := 3) (oi := { dst := some 32, op := Op.load 37 (Operand.tmp 31), type := 37, pos := "kinds.go:78", after := #[{ on := 2, ground := Ground.data }], guard := none }) (v := .agg #[.bool bal, .slice bA2 bws.length bc2]) rfl (by kernel_rfl) (by kernel_rfl) (by kernel_rfl) (fun _ _ _ h => h) (.inl ⟨by rfl, fun Y hS => by
          obtain ⟨k1, k2, k3, k4⟩ := hS
          go_simp; first | done | with_reducible rfl | rfl⟩) ⟨a2, a3, b2, b3⟩ ?_
    (try simp only [Act.put, List.setIfInBounds_toArray, List.set_cons_zero, List.set_cons_succ])
    refine wpAnyH_all (rs := [4]) (by kernel_rfl) (by simp) ?_
    intro i hi
    simp only [List.mem_cons, List.not_mem_nil, or_false] at hi
    subst hi
    refine wpOp_enter (o := { dst := some 33, op := Op.call { callee := Callee.value (Operand.func 82), args := #[Operand.tmp 32], argTypes := #[37] }, type := 37, pos := "kinds.go:78", after := #[{ on := 3, ground := Ground.data }], guard := none }) (R := fun v w' => ∃ A' c', v = .agg #[.bool !bal, .slice A' ks.length c'] ∧ StP X0.heap.size w' A' c' ks ∧ Bel X0 w') rfl (by rfl) (by go_simp; first | done | with_reducible rfl | rfl) ((C1.out X0 hb0).mono fun e w' ⟨A', c', h1, h2, h3, h4, h5⟩ => ⟨_, h1, A', c', rfl, StP.of_made h2 h3 h4, h5⟩) ?_
    rintro v X1 ⟨A1, c1, rfl, S1, hb'⟩
    replace a2 := (hb'.cells _ _ (by omega)).trans a2
    replace a3 := (hb'.cells _ _ (by omega)).trans a3
    replace b2 := (hb'.cells _ _ (by omega)).trans b2
    replace b3 := (hb'.cells _ _ (by omega)).trans b3
    replace r0 := (hb'.cells _ _ (by omega)).trans r0; replace r1 := (hb'.cells _ _ (by omega)).trans r1; replace r2 := (hb'.cells _ _ (by omega)).trans r2; replace r3 := (hb'.cells _ _ (by omega)).trans r3; replace r4 := (hb'.cells _ _ (by omega)).trans r4; replace r5 := (hb'.cells _ _ (by omega)).trans r5; replace rf0 := (hb'.frozens _ _ (by omega)).trans rf0; replace rf1 := (hb'.frozens _ _ (by omega)).trans rf1; replace rf2 := (hb'.frozens _ _ (by omega)).trans rf2; replace rf3 := (hb'.frozens _ _ (by omega)).trans rf3; replace rf4 := (hb'.frozens _ _ (by omega)).trans rf4; replace rf5 := (hb'.frozens _ _ (by omega)).trans rf5
    replace m0 := (hb'.cells _ _ (by omega)).trans m0; replace m1 := (hb'.cells _ _ (by omega)).trans m1; replace m2 := (hb'.cells _ _ (by omega)).trans m2; replace m3 := (hb'.cells _ _ (by omega)).trans m3; replace m4 := (hb'.cells _ _ (by omega)).trans m4; replace m5 := (hb'.cells _ _ (by omega)).trans m5; replace mf0 := (hb'.frozens _ _ (by omega)).trans mf0; replace mf1 := (hb'.frozens _ _ (by omega)).trans mf1; replace mf2 := (hb'.frozens _ _ (by omega)).trans mf2; replace mf3 := (hb'.frozens _ _ (by omega)).trans mf3; replace mf4 := (hb'.frozens _ _ (by omega)).trans mf4; replace mf5 := (hb'.frozens _ _ (by omega)).trans mf5
    have zX1 : w.heap.size + 4 ≤ _ := Nat.le_trans zX0 hb'.size
    have hb1 := hb0.trans hb'
    clear hb'
    refine ⟨⟨a2, a3, b2, b3⟩, ?_⟩
    (try simp only [Act.put, List.setIfInBounds_toArray, List.set_cons_zero, List.set_cons_succ])
    refine wpAnyH_all (rs := [5]) (by kernel_rfl) (by simp) ?_
    intro i hi
    simp only [List.mem_cons, List.not_mem_nil, or_false] at hi
    subst hi
    refine wpOp_enter (o := { dst := some 34, op := Op.call { callee := Callee.value (Operand.func 64), args := #[Operand.tmp 30, Operand.tmp 33], argTypes := #[37, 37] }, type := 37, pos := "kinds.go:78", after := #[{ on := 1, ground := Ground.data }, { on := 4, ground := Ground.data }, { on := 4, ground := Ground.chain }], guard := none }) (R := fun v w' => ∃ A' c', v = .agg #[.bool (aal && !bal), .slice A' r.length c'] ∧ StP X1.heap.size w' A' c' r ∧ Bel X1 w') rfl (by rfl) (by go_simp; first | done | with_reducible rfl | rfl) ((C2.out X1 hb1 A1 c1 S1.1 S1.2.1).mono fun e w' ⟨A', c', h1, h2, h3, h4, h5⟩ => ⟨_, h1, A', c', rfl, StP.of_made h2 h3 h4, h5⟩) ?_
    rintro v X2 ⟨A2, c2, rfl, S2, hb'⟩
    replace a2 := (hb'.cells _ _ (by omega)).trans a2
    replace a3 := (hb'.cells _ _ (by omega)).trans a3
    replace b2 := (hb'.cells _ _ (by omega)).trans b2
    replace b3 := (hb'.cells _ _ (by omega)).trans b3
    replace r0 := (hb'.cells _ _ (by omega)).trans r0; replace r1 := (hb'.cells _ _ (by omega)).trans r1; replace r2 := (hb'.cells _ _ (by omega)).trans r2; replace r3 := (hb'.cells _ _ (by omega)).trans r3; replace r4 := (hb'.cells _ _ (by omega)).trans r4; replace r5 := (hb'.cells _ _ (by omega)).trans r5; replace rf0 := (hb'.frozens _ _ (by omega)).trans rf0; replace rf1 := (hb'.frozens _ _ (by omega)).trans rf1; replace rf2 := (hb'.frozens _ _ (by omega)).trans rf2; replace rf3 := (hb'.frozens _ _ (by omega)).trans rf3; replace rf4 := (hb'.frozens _ _ (by omega)).trans rf4; replace rf5 := (hb'.frozens _ _ (by omega)).trans rf5
    replace m0 := (hb'.cells _ _ (by omega)).trans m0; replace m1 := (hb'.cells _ _ (by omega)).trans m1; replace m2 := (hb'.cells _ _ (by omega)).trans m2; replace m3 := (hb'.cells _ _ (by omega)).trans m3; replace m4 := (hb'.cells _ _ (by omega)).trans m4; replace m5 := (hb'.cells _ _ (by omega)).trans m5; replace mf0 := (hb'.frozens _ _ (by omega)).trans mf0; replace mf1 := (hb'.frozens _ _ (by omega)).trans mf1; replace mf2 := (hb'.frozens _ _ (by omega)).trans mf2; replace mf3 := (hb'.frozens _ _ (by omega)).trans mf3; replace mf4 := (hb'.frozens _ _ (by omega)).trans mf4; replace mf5 := (hb'.frozens _ _ (by omega)).trans mf5
    have zX2 : w.heap.size + 4 ≤ _ := Nat.le_trans zX1 hb'.size
    have hb2 := hb1.trans hb'
    clear hb'
    refine ⟨⟨a2, a3, b2, b3⟩, ?_⟩
    (try simp only [Act.put, List.setIfInBounds_toArray, List.set_cons_zero, List.set_cons_succ])
    refine wpAnyH_all (rs := [6]) (by kernel_rfl) (by simp) ?_
    intro i hi
    simp only [List.mem_cons, List.not_mem_nil, or_false] at hi
    subst hi
    refine wpOp_value (o := { dst := some 35, op := Op.fieldAddr 39 (Operand.tmp 5) 2, type := 0, pos := "kinds.go:78", after := #[{ on := 0, ground := Ground.phase }, { on := 1, ground := Ground.phase }, { on := 2, ground := Ground.phase }, { on := 3, ground := Ground.phase }, { on := 4, ground := Ground.phase }, { on := 5, ground := Ground.phase }], guard := none }) (v := .pointer (some ⟨w.heap.size + 3, 2, none⟩)) (w' := X2) rfl (by rfl) (by go_simp; first | done | with_reducible rfl | rfl) ?_
    refine ⟨⟨a2, a3, b2, b3⟩, ?_⟩
    (try simp only [Act.put, List.setIfInBounds_toArray, List.set_cons_zero, List.set_cons_succ])
    refine wpAnyH_all (rs := [7]) (by kernel_rfl) (by simp) ?_
    intro i hi
    simp only [List.mem_cons, List.not_mem_nil, or_false] at hi
    subst hi
    refine wpOp_skip (o := { dst := none, op := Op.store 37 (Operand.tmp 35) (Operand.tmp 34), type := 0, pos := "kinds.go:78", after := #[{ on := 6, ground := Ground.data }, { on := 5, ground := Ground.data }, { on := 5, ground := Ground.chain }, { on := 0, ground := Ground.phase }, { on := 1, ground := Ground.phase }, { on := 2, ground := Ground.phase }, { on := 3, ground := Ground.phase }, { on := 4, ground := Ground.phase }, { on := 5, ground := Ground.phase }], guard := none }) (w' := ((X2.setCell ⟨w.heap.size + 3, 2, none⟩ (.bool (aal && !bal))).setCell ⟨w.heap.size + 3, 3, none⟩ (.slice A2 r.length c2))) rfl (by rfl) (by go_simp; first | done | with_reducible rfl | rfl) ?_
    refine ⟨⟨by simp [go_sem, a2], by simp [go_sem, a3], by simp [go_sem, b2], by simp [go_sem, b3]⟩, ?_⟩
    (try simp only [Act.put, List.setIfInBounds_toArray, List.set_cons_zero, List.set_cons_succ])
    refine wpAnyH_done (by kernel_rfl) ?_ _
    refine NoPanic.normal ?_
    have HS := Lib.hid S2
    clear S1 S2
    go_wp2_with fail
    refine bodyPost_ret (by simp [results, Tryz.results49, go_sem, hnu, r0, m0, rf0, mf0, r1, m1, rf1, mf1, r2, m2, rf2, mf2, r3, m3, rf3, mf3, r4, m4, rf4, mf4, r5, m5, rf5, mf5]; try rfl) rfl ⟨none, 0, A2, c2, rfl, SpP.nil _ _, StP.low (StP.other (StP.low HS.out zX1) (by simp) fun k o hk => ?_) (Nat.le_add_right _ _), ?_⟩
    · have n1 : ¬ w.heap.size + 2 = k := by omega
      have n2 : ¬ w.heap.size + 3 = k := by omega
      simp [go_sem, n1, n2]
    · (repeat (first | with_reducible exact Bel.refl _ | with_reducible refine Bel.setCell ?_ (by first | exact Nat.le_refl _ | (dsimp only; omega)) _ | with_reducible refine Bel.alloc ?_ _ | with_reducible refine Bel.drew ?_ | with_reducible assumption | with_reducible refine Bel.trans ?_ (by assumption)))
end Go.Proofs.YtpmmbcobjibpeaaGreatDoor
namespace Go.Proofs.YtpmmbcobjibpeaaGreatDoor
set_option linter.unusedSimpArgs false
set_option linter.unusedVariables false
open Go.RowKit Go.Lib Go.Deep

/-! Sets: holding, whatever the kind. -/
theorem setIn_of {lo lo2 : Nat} {w : World} {A A2 : Option Addr} {c c2 : Nat} {s : St} (h : SpP lo w A c s.sp) (h2 : StP lo2 w A2 c2 s.ws) : SetIn w A c A2 c2 s := ⟨h.sl, h2.1, h2.2.1⟩
set_option maxRecDepth 100000 in
set_option maxHeartbeats 8000000 in
theorem holdGM_any (P2 : St → Prop) (P3 : St → St → Prop) (K sc : Int) (any0 not0 : Bool) (A0 : Option Addr) (n0 c0 : Nat) (l : List Tst) (A : Option Addr) (c : Nat) (w : World) (hK1 : 1 ≤ K) (hK4 : K ≤ 4)
    (H2 : ∀ W, Bel w W → Calls Tryz.prog 45 #[tyv K sc any0 not0 (.slice A0 n0 c0), .slice A l.length c] W fun e w' => ∃ s, SetOut W s e w' ∧ P2 s)
    (H3 : ∀ X s bA bc bA2 bc2 cA cc cA2 cc2, P2 s → SetIn X bA bc bA2 bc2 (allS K) → SetIn X cA cc cA2 cc2 s → Calls Tryz.prog 35 #[(allS K).val bA bc bA2 bc2, s.val cA cc cA2 cc2] X fun e w' => ∃ q, SetOut X q e w' ∧ P3 s q) :
    Calls Tryz.prog 37 #[tyv K sc any0 not0 (.slice A0 n0 c0), tsv false false (.slice A l.length c)] w fun e w' => ∃ s q, SetOut w q e w' ∧ P2 s ∧ P3 s q := by
  have C1 := Lib.hid fun W => sall_any K hK1 hK4 W
  have C2 := Lib.hid H2
  have C3 := Lib.hid H3
  clear H2 H3 hK1 hK4
  go_enter Tryz.func37, Tryz.ntmps37
  go_upto_region 1 with fail
  refine under_name (w0 := w) (by (repeat (first | with_reducible exact Bel.refl _ | with_reducible refine Bel.setCell ?_ (by first | exact Nat.le_refl _ | (dsimp only; omega)) _ | with_reducible refine Bel.alloc ?_ _ | with_reducible refine Bel.drew ?_ | with_reducible assumption | with_reducible refine Bel.trans ?_ (by assumption)))) fun W hc hf hz hb => ?_
  have m0 : W.cell? ⟨w.heap.size, 0, none⟩ = some (.int .i64 K) := by simp [hc, go_sem]
  have m1 : W.cell? ⟨w.heap.size, 1, none⟩ = some (.int .i64 sc) := by simp [hc, go_sem]
  have m2 : W.cell? ⟨w.heap.size, 2, none⟩ = some (.bool any0) := by simp [hc, go_sem]
  have m3 : W.cell? ⟨w.heap.size, 3, none⟩ = some (.bool not0) := by simp [hc, go_sem]
  have m4 : W.cell? ⟨w.heap.size, 4, none⟩ = some (.slice A0 n0 c0) := by simp [hc, go_sem]
  have x0 : W.cell? ⟨w.heap.size + 1, 0, none⟩ = some (.bool false) := by simp [hc, go_sem]
  have x1 : W.cell? ⟨w.heap.size + 1, 1, none⟩ = some (.bool false) := by simp [hc, go_sem]
  have x2 : W.cell? ⟨w.heap.size + 1, 2, none⟩ = some (.slice A l.length c) := by simp [hc, go_sem]
  have r0 : W.cell? ⟨w.heap.size + 2, 0, none⟩ = some (.int .i64 0) := by simp [hc, go_sem]
  have r1 : W.cell? ⟨w.heap.size + 2, 1, none⟩ = some (.slice none 0 0) := by simp [hc, go_sem]
  have r2 : W.cell? ⟨w.heap.size + 2, 2, none⟩ = some (.bool false) := by simp [hc, go_sem]
  have r3 : W.cell? ⟨w.heap.size + 2, 3, none⟩ = some (.slice none 0 0) := by simp [hc, go_sem]
  have r4 : W.cell? ⟨w.heap.size + 2, 4, none⟩ = some (.int .i64 0) := by simp [hc, go_sem]
  have r5 : W.cell? ⟨w.heap.size + 2, 5, none⟩ = some (.bool false) := by simp [hc, go_sem]
  have rf0 : W.frozen? ⟨w.heap.size + 2, 0, none⟩ = false := by simp [hf, go_sem]
  have rf1 : W.frozen? ⟨w.heap.size + 2, 1, none⟩ = false := by simp [hf, go_sem]
  have rf2 : W.frozen? ⟨w.heap.size + 2, 2, none⟩ = false := by simp [hf, go_sem]
  have rf3 : W.frozen? ⟨w.heap.size + 2, 3, none⟩ = false := by simp [hf, go_sem]
  have rf4 : W.frozen? ⟨w.heap.size + 2, 4, none⟩ = false := by simp [hf, go_sem]
  have rf5 : W.frozen? ⟨w.heap.size + 2, 5, none⟩ = false := by simp [hf, go_sem]
  have z0 : w.heap.size + 3 ≤ W.heap.size := by simp [hz]
  clear hc hf hz
  go_upto_region 5 with fail
  refine wp_region_noPanic ?_
  refine wp_region_held (S := fun X => Bel w X ∧ X.cell? ⟨w.heap.size, 0, none⟩ = some (.int .i64 K) ∧ X.cell? ⟨w.heap.size, 1, none⟩ = some (.int .i64 sc) ∧ X.cell? ⟨w.heap.size, 2, none⟩ = some (.bool any0) ∧ X.cell? ⟨w.heap.size, 3, none⟩ = some (.bool not0) ∧ X.cell? ⟨w.heap.size, 4, none⟩ = some (.slice A0 n0 c0) ∧ X.cell? ⟨w.heap.size + 1, 2, none⟩ = some (.slice A l.length c)) (by kernel_rfl) ?_
  have hX0 : Bel W { W with drawn := W.drawn + 1 } := (Bel.refl W).drew
  generalize { W with drawn := W.drawn + 1 } = X0 at hX0 ⊢
  replace m0 := (hX0.cells _ _ (by omega)).trans m0
  replace m1 := (hX0.cells _ _ (by omega)).trans m1
  replace m2 := (hX0.cells _ _ (by omega)).trans m2
  replace m3 := (hX0.cells _ _ (by omega)).trans m3
  replace m4 := (hX0.cells _ _ (by omega)).trans m4
  replace x2 := (hX0.cells _ _ (by omega)).trans x2
  have zX0 : w.heap.size + 3 ≤ X0.heap.size := Nat.le_trans z0 hX0.size
  have hb0 := hb.trans hX0
  refine wpAnyH_take (i := 0) (oi := { dst := some 22, op := Op.fieldAddr 26 (Operand.tmp 2) 0, type := 0, pos := "kinds.go:54", after := #[], guard := none }) (v := .pointer (some ⟨w.heap.size, 0, none⟩)) rfl (by kernel_rfl) (by kernel_rfl) (by kernel_rfl) (fun _ _ _ h => h) (.inl ⟨by rfl, fun X hS => by
      obtain ⟨_, k0, k1, k2, k3, k4, k5⟩ := hS
      go_simp; first | done | with_reducible rfl | rfl⟩) ⟨hb0, m0, m1, m2, m3, m4, x2⟩ ?_
  (try simp only [Act.put, List.setIfInBounds_toArray, List.set_cons_zero, List.set_cons_succ])
  refine wpAnyH_take (i := 1) (oi := { dst := some 23, op := Op.load 3 (Operand.tmp 22), type := 3, pos := "kinds.go:54", after := #[{ on := 0, ground := Ground.data }], guard := none }) (v := .int .i64 K) rfl (by kernel_rfl) (by kernel_rfl) (by kernel_rfl) (fun _ _ _ h => h) (.inl ⟨by rfl, fun X hS => by
      obtain ⟨_, k0, k1, k2, k3, k4, k5⟩ := hS
      go_simp; first | done | with_reducible rfl | rfl⟩) ⟨hb0, m0, m1, m2, m3, m4, x2⟩ ?_
  (try simp only [Act.put, List.setIfInBounds_toArray, List.set_cons_zero, List.set_cons_succ])
  refine wpAnyH_take (i := 3) (oi := { dst := some 25, op := Op.load 26 (Operand.tmp 2), type := 26, pos := "kinds.go:54", after := #[], guard := none }) (v := (tyv K sc any0 not0 (.slice A0 n0 c0))) rfl (by kernel_rfl) (by kernel_rfl) (by kernel_rfl) (fun _ _ _ h => h) (.inl ⟨by rfl, fun X hS => by
      obtain ⟨_, k0, k1, k2, k3, k4, k5⟩ := hS
      go_simp; first | done | with_reducible rfl | rfl⟩) ⟨hb0, m0, m1, m2, m3, m4, x2⟩ ?_
  (try simp only [Act.put, List.setIfInBounds_toArray, List.set_cons_zero, List.set_cons_succ])
  refine wpAnyH_take (i := 4) (oi := { dst := some 26, op := Op.fieldAddr 24 (Operand.tmp 3) 2, type := 0, pos := "kinds.go:54", after := #[], guard := none }) (v := .pointer (some ⟨w.heap.size + 1, 2, none⟩)) rfl (by kernel_rfl) (by kernel_rfl) (by kernel_rfl) (fun _ _ _ h => h) (.inl ⟨by rfl, fun X hS => by
      obtain ⟨_, k0, k1, k2, k3, k4, k5⟩ := hS
      go_simp; first | done | with_reducible rfl | rfl⟩) ⟨hb0, m0, m1, m2, m3, m4, x2⟩ ?_
  (try simp only [Act.put, List.setIfInBounds_toArray, List.set_cons_zero, List.set_cons_succ])
  refine wpAnyH_take (i := 5) (oi := { dst := some 27, op := Op.load 22 (Operand.tmp 26), type := 22, pos := "kinds.go:54", after := #[{ on := 4, ground := Ground.data }], guard := none }) (v := .slice A l.length c) rfl (by kernel_rfl) (by kernel_rfl) (by kernel_rfl) (fun _ _ _ h => h) (.inl ⟨by rfl, fun X hS => by
      obtain ⟨_, k0, k1, k2, k3, k4, k5⟩ := hS
      go_simp; first | done | with_reducible rfl | rfl⟩) ⟨hb0, m0, m1, m2, m3, m4, x2⟩ ?_
  (try simp only [Act.put, List.setIfInBounds_toArray, List.set_cons_zero, List.set_cons_succ])
  refine wpAnyH_all (rs := [2]) (by kernel_rfl) (by simp) ?_
  intro i hi
  simp only [List.mem_cons, List.not_mem_nil, or_false] at hi
  subst hi
  refine wpOp_enter (o := { dst := some 24, op := Op.call { callee := Callee.value (Operand.func 65), args := #[Operand.tmp 23], argTypes := #[3] }, type := 39, pos := "kinds.go:54", after := #[{ on := 1, ground := Ground.data }], guard := none }) (R := fun v w' => ∃ A1 c1 A2 c2, v = (allS K).val A1 c1 A2 c2 ∧ SpP X0.heap.size w' A1 c1 (allS K).sp ∧ StP X0.heap.size w' A2 c2 (allS K).ws ∧ Bel X0 w') rfl (by rfl) (by go_simp; first | done | with_reducible rfl | rfl) ((C1.out X0).mono fun e w' ⟨A1, c1, A2, c2, h1, h2, h3, h4⟩ => ⟨_, h1, A1, c1, A2, c2, rfl, h2, h3, h4⟩) ?_
  rintro v X1 ⟨A1, c1, A2, c2, rfl, S1, T1, hb'⟩
  replace m0 := (hb'.cells _ _ (by omega)).trans m0
  replace m1 := (hb'.cells _ _ (by omega)).trans m1
  replace m2 := (hb'.cells _ _ (by omega)).trans m2
  replace m3 := (hb'.cells _ _ (by omega)).trans m3
  replace m4 := (hb'.cells _ _ (by omega)).trans m4
  replace x2 := (hb'.cells _ _ (by omega)).trans x2
  have zX1 : w.heap.size + 3 ≤ X1.heap.size := Nat.le_trans zX0 hb'.size
  have hX1 := hX0.trans hb'
  have hb1 := hb0.trans hb'
  clear hb'
  refine ⟨⟨hb1, m0, m1, m2, m3, m4, x2⟩, ?_⟩
  (try simp only [Act.put, List.setIfInBounds_toArray, List.set_cons_zero, List.set_cons_succ])
  refine wpAnyH_all (rs := [6]) (by kernel_rfl) (by simp) ?_
  intro i hi
  simp only [List.mem_cons, List.not_mem_nil, or_false] at hi
  subst hi
  refine wpOp_enter (o := { dst := some 28, op := Op.call { callee := Callee.value (Operand.func 45), args := #[Operand.tmp 25, Operand.tmp 27], argTypes := #[26, 22] }, type := 39, pos := "kinds.go:54", after := #[{ on := 3, ground := Ground.data }, { on := 5, ground := Ground.data }, { on := 2, ground := Ground.chain }], guard := none }) (R := fun v w' => ∃ r A3 c3 A4 c4, v = St.val r A3 c3 A4 c4 ∧ SpP X1.heap.size w' A3 c3 r.sp ∧ StP X1.heap.size w' A4 c4 r.ws ∧ P2 r ∧ Bel X1 w') rfl (by rfl) (by go_simp; first | done | with_reducible rfl | rfl) ((C2.out X1 hb1).mono fun e w' ⟨r, ⟨A3, c3, A4, c4, h1, h2, h3, h4⟩, h5⟩ => ⟨_, h1, r, A3, c3, A4, c4, rfl, h2, h3, h5, h4⟩) ?_
  rintro v X2 ⟨r, A3, c3, A4, c4, rfl, S2, T2, HR, hb'⟩
  replace m0 := (hb'.cells _ _ (by omega)).trans m0
  replace m1 := (hb'.cells _ _ (by omega)).trans m1
  replace m2 := (hb'.cells _ _ (by omega)).trans m2
  replace m3 := (hb'.cells _ _ (by omega)).trans m3
  replace m4 := (hb'.cells _ _ (by omega)).trans m4
  replace x2 := (hb'.cells _ _ (by omega)).trans x2
  have zX2 : w.heap.size + 3 ≤ X2.heap.size := Nat.le_trans zX1 hb'.size
  have hX2 := hX1.trans hb'
  have hb2 := hb1.trans hb'
  replace S1 := S1.keep hb'
  replace T1 := T1.keep hb'
  clear hb'
  refine ⟨⟨hb2, m0, m1, m2, m3, m4, x2⟩, ?_⟩
  (try simp only [Act.put, List.setIfInBounds_toArray, List.set_cons_zero, List.set_cons_succ])
  refine wpAnyH_all (rs := [7]) (by kernel_rfl) (by simp) ?_
  intro i hi
  simp only [List.mem_cons, List.not_mem_nil, or_false] at hi
  subst hi
  refine wpOp_enter (o := { dst := some 29, op := Op.call { callee := Callee.value (Operand.func 35), args := #[Operand.tmp 24, Operand.tmp 28], argTypes := #[39, 39] }, type := 39, pos := "kinds.go:54", after := #[{ on := 2, ground := Ground.data }, { on := 6, ground := Ground.data }, { on := 6, ground := Ground.chain }], guard := none }) (R := fun v w' => ∃ q A5 c5 A6 c6, v = St.val q A5 c5 A6 c6 ∧ SpP X2.heap.size w' A5 c5 q.sp ∧ StP X2.heap.size w' A6 c6 q.ws ∧ P3 r q ∧ Bel X2 w') rfl (by rfl) (by go_simp; first | done | with_reducible rfl | rfl) ((C3.out X2 r A1 c1 A2 c2 A3 c3 A4 c4 HR (setIn_of S1 T1) (setIn_of S2 T2)).mono fun e w' ⟨q, ⟨A5, c5, A6, c6, h1, h2, h3, h4⟩, h5⟩ => ⟨_, h1, q, A5, c5, A6, c6, rfl, h2, h3, h5, h4⟩) ?_
  rintro v X3 ⟨⟨qk, qs, qa, qw, qb, qn⟩, A5, c5, A6, c6, rfl, S3, T3, HQ, hb'⟩
  simp only at S3 T3
  replace m0 := (hb'.cells _ _ (by omega)).trans m0
  replace m1 := (hb'.cells _ _ (by omega)).trans m1
  replace m2 := (hb'.cells _ _ (by omega)).trans m2
  replace m3 := (hb'.cells _ _ (by omega)).trans m3
  replace m4 := (hb'.cells _ _ (by omega)).trans m4
  replace x2 := (hb'.cells _ _ (by omega)).trans x2
  have zX3 : w.heap.size + 3 ≤ X3.heap.size := Nat.le_trans zX2 hb'.size
  have hX3 := hX2.trans hb'
  have hb3 := hb2.trans hb'
  clear hb'
  refine ⟨⟨hb3, m0, m1, m2, m3, m4, x2⟩, ?_⟩
  (try simp only [Act.put, List.setIfInBounds_toArray, List.set_cons_zero, List.set_cons_succ])
  replace r0 := (hX3.cells _ _ (by omega)).trans r0; replace r1 := (hX3.cells _ _ (by omega)).trans r1; replace r2 := (hX3.cells _ _ (by omega)).trans r2; replace r3 := (hX3.cells _ _ (by omega)).trans r3; replace r4 := (hX3.cells _ _ (by omega)).trans r4; replace r5 := (hX3.cells _ _ (by omega)).trans r5; replace rf0 := (hX3.frozens _ _ (by omega)).trans rf0; replace rf1 := (hX3.frozens _ _ (by omega)).trans rf1; replace rf2 := (hX3.frozens _ _ (by omega)).trans rf2; replace rf3 := (hX3.frozens _ _ (by omega)).trans rf3; replace rf4 := (hX3.frozens _ _ (by omega)).trans rf4; replace rf5 := (hX3.frozens _ _ (by omega)).trans rf5
  refine wpAnyH_all (rs := [8]) (by kernel_rfl) (by simp) ?_
  intro i hi
  simp only [List.mem_cons, List.not_mem_nil, or_false] at hi
  subst hi
  refine wpOp_skip (o := { dst := none, op := Op.store 39 (Operand.tmp 4) (Operand.tmp 29), type := 0, pos := "kinds.go:54", after := #[{ on := 7, ground := Ground.data }, { on := 7, ground := Ground.chain }, { on := 0, ground := Ground.phase }, { on := 1, ground := Ground.phase }, { on := 2, ground := Ground.phase }, { on := 3, ground := Ground.phase }, { on := 4, ground := Ground.phase }, { on := 5, ground := Ground.phase }, { on := 6, ground := Ground.phase }, { on := 7, ground := Ground.phase }], guard := none }) (w' := ((((((X3.setCell ⟨w.heap.size + 2, 0, none⟩ (.int .i64 qk)).setCell ⟨w.heap.size + 2, 1, none⟩ (.slice A5 qs.length c5)).setCell ⟨w.heap.size + 2, 2, none⟩ (.bool qa)).setCell ⟨w.heap.size + 2, 3, none⟩ (.slice A6 qw.length c6)).setCell ⟨w.heap.size + 2, 4, none⟩ (.int .i64 qb)).setCell ⟨w.heap.size + 2, 5, none⟩ (.bool qn))) rfl (by rfl) (by go_simp; first | done | with_reducible rfl | rfl) ?_
  have hZ : Bel w ((((((X3.setCell ⟨w.heap.size + 2, 0, none⟩ (.int .i64 qk)).setCell ⟨w.heap.size + 2, 1, none⟩ (.slice A5 qs.length c5)).setCell ⟨w.heap.size + 2, 2, none⟩ (.bool qa)).setCell ⟨w.heap.size + 2, 3, none⟩ (.slice A6 qw.length c6)).setCell ⟨w.heap.size + 2, 4, none⟩ (.int .i64 qb)).setCell ⟨w.heap.size + 2, 5, none⟩ (.bool qn)) := by
      (repeat (first | with_reducible exact Bel.refl _ | with_reducible refine Bel.setCell ?_ (by first | exact Nat.le_refl _ | (dsimp only; omega)) _ | with_reducible refine Bel.alloc ?_ _ | with_reducible refine Bel.drew ?_ | with_reducible assumption | with_reducible refine Bel.trans ?_ (by assumption)))
  refine ⟨⟨hZ, by simp [go_sem, m0], by simp [go_sem, m1], by simp [go_sem, m2], by simp [go_sem, m3], by simp [go_sem, m4], by simp [go_sem, x2]⟩, ?_⟩
  (try simp only [Act.put, List.setIfInBounds_toArray, List.set_cons_zero, List.set_cons_succ])
  have t0 : World.cell? ((((((X3.setCell ⟨w.heap.size + 2, 0, none⟩ (.int .i64 qk)).setCell ⟨w.heap.size + 2, 1, none⟩ (.slice A5 qs.length c5)).setCell ⟨w.heap.size + 2, 2, none⟩ (.bool qa)).setCell ⟨w.heap.size + 2, 3, none⟩ (.slice A6 qw.length c6)).setCell ⟨w.heap.size + 2, 4, none⟩ (.int .i64 qb)).setCell ⟨w.heap.size + 2, 5, none⟩ (.bool qn)) ⟨w.heap.size + 2, 0, none⟩ = some (.int .i64 qk) := by simp [go_sem, r0, r1, r2, r3, r4, r5]
  have t1 : World.cell? ((((((X3.setCell ⟨w.heap.size + 2, 0, none⟩ (.int .i64 qk)).setCell ⟨w.heap.size + 2, 1, none⟩ (.slice A5 qs.length c5)).setCell ⟨w.heap.size + 2, 2, none⟩ (.bool qa)).setCell ⟨w.heap.size + 2, 3, none⟩ (.slice A6 qw.length c6)).setCell ⟨w.heap.size + 2, 4, none⟩ (.int .i64 qb)).setCell ⟨w.heap.size + 2, 5, none⟩ (.bool qn)) ⟨w.heap.size + 2, 1, none⟩ = some (.slice A5 qs.length c5) := by simp [go_sem, r0, r1, r2, r3, r4, r5]
  have t2 : World.cell? ((((((X3.setCell ⟨w.heap.size + 2, 0, none⟩ (.int .i64 qk)).setCell ⟨w.heap.size + 2, 1, none⟩ (.slice A5 qs.length c5)).setCell ⟨w.heap.size + 2, 2, none⟩ (.bool qa)).setCell ⟨w.heap.size + 2, 3, none⟩ (.slice A6 qw.length c6)).setCell ⟨w.heap.size + 2, 4, none⟩ (.int .i64 qb)).setCell ⟨w.heap.size + 2, 5, none⟩ (.bool qn)) ⟨w.heap.size + 2, 2, none⟩ = some (.bool qa) := by simp [go_sem, r0, r1, r2, r3, r4, r5]
  have t3 : World.cell? ((((((X3.setCell ⟨w.heap.size + 2, 0, none⟩ (.int .i64 qk)).setCell ⟨w.heap.size + 2, 1, none⟩ (.slice A5 qs.length c5)).setCell ⟨w.heap.size + 2, 2, none⟩ (.bool qa)).setCell ⟨w.heap.size + 2, 3, none⟩ (.slice A6 qw.length c6)).setCell ⟨w.heap.size + 2, 4, none⟩ (.int .i64 qb)).setCell ⟨w.heap.size + 2, 5, none⟩ (.bool qn)) ⟨w.heap.size + 2, 3, none⟩ = some (.slice A6 qw.length c6) := by simp [go_sem, r0, r1, r2, r3, r4, r5]
  have t4 : World.cell? ((((((X3.setCell ⟨w.heap.size + 2, 0, none⟩ (.int .i64 qk)).setCell ⟨w.heap.size + 2, 1, none⟩ (.slice A5 qs.length c5)).setCell ⟨w.heap.size + 2, 2, none⟩ (.bool qa)).setCell ⟨w.heap.size + 2, 3, none⟩ (.slice A6 qw.length c6)).setCell ⟨w.heap.size + 2, 4, none⟩ (.int .i64 qb)).setCell ⟨w.heap.size + 2, 5, none⟩ (.bool qn)) ⟨w.heap.size + 2, 4, none⟩ = some (.int .i64 qb) := by simp [go_sem, r0, r1, r2, r3, r4, r5]
  have t5 : World.cell? ((((((X3.setCell ⟨w.heap.size + 2, 0, none⟩ (.int .i64 qk)).setCell ⟨w.heap.size + 2, 1, none⟩ (.slice A5 qs.length c5)).setCell ⟨w.heap.size + 2, 2, none⟩ (.bool qa)).setCell ⟨w.heap.size + 2, 3, none⟩ (.slice A6 qw.length c6)).setCell ⟨w.heap.size + 2, 4, none⟩ (.int .i64 qb)).setCell ⟨w.heap.size + 2, 5, none⟩ (.bool qn)) ⟨w.heap.size + 2, 5, none⟩ = some (.bool qn) := by simp [go_sem, r0, r1, r2, r3, r4, r5]
  replace S3 : SpP (w.heap.size + 3) ((((((X3.setCell ⟨w.heap.size + 2, 0, none⟩ (.int .i64 qk)).setCell ⟨w.heap.size + 2, 1, none⟩ (.slice A5 qs.length c5)).setCell ⟨w.heap.size + 2, 2, none⟩ (.bool qa)).setCell ⟨w.heap.size + 2, 3, none⟩ (.slice A6 qw.length c6)).setCell ⟨w.heap.size + 2, 4, none⟩ (.int .i64 qb)).setCell ⟨w.heap.size + 2, 5, none⟩ (.bool qn)) A5 c5 qs := SpP.other (SpP.low S3 zX2) (by simp) fun k o hk => by
      have n1 : ¬ w.heap.size + 2 = k := by omega
      simp [go_sem, n1]
  replace T3 : StP (w.heap.size + 3) ((((((X3.setCell ⟨w.heap.size + 2, 0, none⟩ (.int .i64 qk)).setCell ⟨w.heap.size + 2, 1, none⟩ (.slice A5 qs.length c5)).setCell ⟨w.heap.size + 2, 2, none⟩ (.bool qa)).setCell ⟨w.heap.size + 2, 3, none⟩ (.slice A6 qw.length c6)).setCell ⟨w.heap.size + 2, 4, none⟩ (.int .i64 qb)).setCell ⟨w.heap.size + 2, 5, none⟩ (.bool qn)) A6 c6 qw := StP.other (StP.low T3 zX2) (by simp) fun k o hk => by
      have n1 : ¬ w.heap.size + 2 = k := by omega
      simp [go_sem, n1]
  generalize ((((((X3.setCell ⟨w.heap.size + 2, 0, none⟩ (.int .i64 qk)).setCell ⟨w.heap.size + 2, 1, none⟩ (.slice A5 qs.length c5)).setCell ⟨w.heap.size + 2, 2, none⟩ (.bool qa)).setCell ⟨w.heap.size + 2, 3, none⟩ (.slice A6 qw.length c6)).setCell ⟨w.heap.size + 2, 4, none⟩ (.int .i64 qb)).setCell ⟨w.heap.size + 2, 5, none⟩ (.bool qn)) = X4 at hZ t0 t1 t2 t3 t4 t5 S3 T3 ⊢
  refine wpAnyH_done (by kernel_rfl) ?_ _
  refine NoPanic.normal ?_
  have HX := Lib.hid (And.intro HR HQ)
  have HS := Lib.hid (And.intro S3 T3)
  clear m0 m1 m2 m3 m4 x0 x1 x2 r0 rf0 r1 rf1 r2 rf2 r3 rf3 r4 rf4 r5 rf5 hX0 hX1 hX2 hX3 hb0 hb1 hb2 hb3 hb z0 zX0 zX1 zX2 zX3 S1 S2 S3 T1 T2 T3 HQ HR C1 C2 C3
  go_wp2_with fail
  refine bodyPost_ret (by simp [results, Tryz.results37, go_sem, t0, t1, t2, t3, t4, t5]; try rfl) rfl ⟨r, ⟨qk, qs, qa, qw, qb, qn⟩, ⟨A5, c5, A6, c6, rfl, SpP.low HS.out.1 (Nat.le_add_right _ _), StP.low HS.out.2 (Nat.le_add_right _ _), hZ⟩, HX.out⟩
set_option maxRecDepth 100000 in
set_option maxHeartbeats 8000000 in
theorem holdGW_any (P2 : St → Prop) (P3 : St → St → Prop) (K sc : Int) (any0 not0 : Bool) (A0 : Option Addr) (n0 c0 : Nat) (l : List Tst) (A : Option Addr) (c : Nat) (w : World) (hK1 : 1 ≤ K) (hK4 : K ≤ 4)
    (H2 : ∀ W, Bel w W → Calls Tryz.prog 45 #[tyv K sc any0 not0 (.slice A0 n0 c0), .slice A l.length c] W fun e w' => ∃ s, SetOut W s e w' ∧ P2 s)
    (H3 : ∀ X s bA bc bA2 bc2 cA cc cA2 cc2, P2 s → SetIn X bA bc bA2 bc2 (allS K) → SetIn X cA cc cA2 cc2 s → Calls Tryz.prog 49 #[(allS K).val bA bc bA2 bc2, s.val cA cc cA2 cc2] X fun e w' => ∃ q, SetOut X q e w' ∧ P3 s q) :
    Calls Tryz.prog 37 #[tyv K sc any0 not0 (.slice A0 n0 c0), tsv false true (.slice A l.length c)] w fun e w' => ∃ s q, SetOut w q e w' ∧ P2 s ∧ P3 s q := by
  have C1 := Lib.hid fun W => sall_any K hK1 hK4 W
  have C2 := Lib.hid H2
  have C3 := Lib.hid H3
  clear H2 H3 hK1 hK4
  go_enter Tryz.func37, Tryz.ntmps37
  go_upto_region 1 with fail
  refine under_name (w0 := w) (by (repeat (first | with_reducible exact Bel.refl _ | with_reducible refine Bel.setCell ?_ (by first | exact Nat.le_refl _ | (dsimp only; omega)) _ | with_reducible refine Bel.alloc ?_ _ | with_reducible refine Bel.drew ?_ | with_reducible assumption | with_reducible refine Bel.trans ?_ (by assumption)))) fun W hc hf hz hb => ?_
  have m0 : W.cell? ⟨w.heap.size, 0, none⟩ = some (.int .i64 K) := by simp [hc, go_sem]
  have m1 : W.cell? ⟨w.heap.size, 1, none⟩ = some (.int .i64 sc) := by simp [hc, go_sem]
  have m2 : W.cell? ⟨w.heap.size, 2, none⟩ = some (.bool any0) := by simp [hc, go_sem]
  have m3 : W.cell? ⟨w.heap.size, 3, none⟩ = some (.bool not0) := by simp [hc, go_sem]
  have m4 : W.cell? ⟨w.heap.size, 4, none⟩ = some (.slice A0 n0 c0) := by simp [hc, go_sem]
  have x0 : W.cell? ⟨w.heap.size + 1, 0, none⟩ = some (.bool false) := by simp [hc, go_sem]
  have x1 : W.cell? ⟨w.heap.size + 1, 1, none⟩ = some (.bool true) := by simp [hc, go_sem]
  have x2 : W.cell? ⟨w.heap.size + 1, 2, none⟩ = some (.slice A l.length c) := by simp [hc, go_sem]
  have r0 : W.cell? ⟨w.heap.size + 2, 0, none⟩ = some (.int .i64 0) := by simp [hc, go_sem]
  have r1 : W.cell? ⟨w.heap.size + 2, 1, none⟩ = some (.slice none 0 0) := by simp [hc, go_sem]
  have r2 : W.cell? ⟨w.heap.size + 2, 2, none⟩ = some (.bool false) := by simp [hc, go_sem]
  have r3 : W.cell? ⟨w.heap.size + 2, 3, none⟩ = some (.slice none 0 0) := by simp [hc, go_sem]
  have r4 : W.cell? ⟨w.heap.size + 2, 4, none⟩ = some (.int .i64 0) := by simp [hc, go_sem]
  have r5 : W.cell? ⟨w.heap.size + 2, 5, none⟩ = some (.bool false) := by simp [hc, go_sem]
  have rf0 : W.frozen? ⟨w.heap.size + 2, 0, none⟩ = false := by simp [hf, go_sem]
  have rf1 : W.frozen? ⟨w.heap.size + 2, 1, none⟩ = false := by simp [hf, go_sem]
  have rf2 : W.frozen? ⟨w.heap.size + 2, 2, none⟩ = false := by simp [hf, go_sem]
  have rf3 : W.frozen? ⟨w.heap.size + 2, 3, none⟩ = false := by simp [hf, go_sem]
  have rf4 : W.frozen? ⟨w.heap.size + 2, 4, none⟩ = false := by simp [hf, go_sem]
  have rf5 : W.frozen? ⟨w.heap.size + 2, 5, none⟩ = false := by simp [hf, go_sem]
  have z0 : w.heap.size + 3 ≤ W.heap.size := by simp [hz]
  clear hc hf hz
  go_upto_region 4 with fail
  refine wp_region_noPanic ?_
  refine wp_region_held (S := fun X => Bel w X ∧ X.cell? ⟨w.heap.size, 0, none⟩ = some (.int .i64 K) ∧ X.cell? ⟨w.heap.size, 1, none⟩ = some (.int .i64 sc) ∧ X.cell? ⟨w.heap.size, 2, none⟩ = some (.bool any0) ∧ X.cell? ⟨w.heap.size, 3, none⟩ = some (.bool not0) ∧ X.cell? ⟨w.heap.size, 4, none⟩ = some (.slice A0 n0 c0) ∧ X.cell? ⟨w.heap.size + 1, 2, none⟩ = some (.slice A l.length c)) (by kernel_rfl) ?_
  have hX0 : Bel W { W with drawn := W.drawn + 1 } := (Bel.refl W).drew
  generalize { W with drawn := W.drawn + 1 } = X0 at hX0 ⊢
  replace m0 := (hX0.cells _ _ (by omega)).trans m0
  replace m1 := (hX0.cells _ _ (by omega)).trans m1
  replace m2 := (hX0.cells _ _ (by omega)).trans m2
  replace m3 := (hX0.cells _ _ (by omega)).trans m3
  replace m4 := (hX0.cells _ _ (by omega)).trans m4
  replace x2 := (hX0.cells _ _ (by omega)).trans x2
  have zX0 : w.heap.size + 3 ≤ X0.heap.size := Nat.le_trans z0 hX0.size
  have hb0 := hb.trans hX0
  refine wpAnyH_take (i := 0) (oi := { dst := some 14, op := Op.fieldAddr 26 (Operand.tmp 2) 0, type := 0, pos := "kinds.go:52", after := #[], guard := none }) (v := .pointer (some ⟨w.heap.size, 0, none⟩)) rfl (by kernel_rfl) (by kernel_rfl) (by kernel_rfl) (fun _ _ _ h => h) (.inl ⟨by rfl, fun X hS => by
      obtain ⟨_, k0, k1, k2, k3, k4, k5⟩ := hS
      go_simp; first | done | with_reducible rfl | rfl⟩) ⟨hb0, m0, m1, m2, m3, m4, x2⟩ ?_
  (try simp only [Act.put, List.setIfInBounds_toArray, List.set_cons_zero, List.set_cons_succ])
  refine wpAnyH_take (i := 1) (oi := { dst := some 15, op := Op.load 3 (Operand.tmp 14), type := 3, pos := "kinds.go:52", after := #[{ on := 0, ground := Ground.data }], guard := none }) (v := .int .i64 K) rfl (by kernel_rfl) (by kernel_rfl) (by kernel_rfl) (fun _ _ _ h => h) (.inl ⟨by rfl, fun X hS => by
      obtain ⟨_, k0, k1, k2, k3, k4, k5⟩ := hS
      go_simp; first | done | with_reducible rfl | rfl⟩) ⟨hb0, m0, m1, m2, m3, m4, x2⟩ ?_
  (try simp only [Act.put, List.setIfInBounds_toArray, List.set_cons_zero, List.set_cons_succ])
  refine wpAnyH_take (i := 3) (oi := { dst := some 17, op := Op.load 26 (Operand.tmp 2), type := 26, pos := "kinds.go:52", after := #[], guard := none }) (v := (tyv K sc any0 not0 (.slice A0 n0 c0))) rfl (by kernel_rfl) (by kernel_rfl) (by kernel_rfl) (fun _ _ _ h => h) (.inl ⟨by rfl, fun X hS => by
      obtain ⟨_, k0, k1, k2, k3, k4, k5⟩ := hS
      go_simp; first | done | with_reducible rfl | rfl⟩) ⟨hb0, m0, m1, m2, m3, m4, x2⟩ ?_
  (try simp only [Act.put, List.setIfInBounds_toArray, List.set_cons_zero, List.set_cons_succ])
  refine wpAnyH_take (i := 4) (oi := { dst := some 18, op := Op.fieldAddr 24 (Operand.tmp 3) 2, type := 0, pos := "kinds.go:52", after := #[], guard := none }) (v := .pointer (some ⟨w.heap.size + 1, 2, none⟩)) rfl (by kernel_rfl) (by kernel_rfl) (by kernel_rfl) (fun _ _ _ h => h) (.inl ⟨by rfl, fun X hS => by
      obtain ⟨_, k0, k1, k2, k3, k4, k5⟩ := hS
      go_simp; first | done | with_reducible rfl | rfl⟩) ⟨hb0, m0, m1, m2, m3, m4, x2⟩ ?_
  (try simp only [Act.put, List.setIfInBounds_toArray, List.set_cons_zero, List.set_cons_succ])
  refine wpAnyH_take (i := 5) (oi := { dst := some 19, op := Op.load 22 (Operand.tmp 18), type := 22, pos := "kinds.go:52", after := #[{ on := 4, ground := Ground.data }], guard := none }) (v := .slice A l.length c) rfl (by kernel_rfl) (by kernel_rfl) (by kernel_rfl) (fun _ _ _ h => h) (.inl ⟨by rfl, fun X hS => by
      obtain ⟨_, k0, k1, k2, k3, k4, k5⟩ := hS
      go_simp; first | done | with_reducible rfl | rfl⟩) ⟨hb0, m0, m1, m2, m3, m4, x2⟩ ?_
  (try simp only [Act.put, List.setIfInBounds_toArray, List.set_cons_zero, List.set_cons_succ])
  refine wpAnyH_all (rs := [2]) (by kernel_rfl) (by simp) ?_
  intro i hi
  simp only [List.mem_cons, List.not_mem_nil, or_false] at hi
  subst hi
  refine wpOp_enter (o := { dst := some 16, op := Op.call { callee := Callee.value (Operand.func 65), args := #[Operand.tmp 15], argTypes := #[3] }, type := 39, pos := "kinds.go:52", after := #[{ on := 1, ground := Ground.data }], guard := none }) (R := fun v w' => ∃ A1 c1 A2 c2, v = (allS K).val A1 c1 A2 c2 ∧ SpP X0.heap.size w' A1 c1 (allS K).sp ∧ StP X0.heap.size w' A2 c2 (allS K).ws ∧ Bel X0 w') rfl (by rfl) (by go_simp; first | done | with_reducible rfl | rfl) ((C1.out X0).mono fun e w' ⟨A1, c1, A2, c2, h1, h2, h3, h4⟩ => ⟨_, h1, A1, c1, A2, c2, rfl, h2, h3, h4⟩) ?_
  rintro v X1 ⟨A1, c1, A2, c2, rfl, S1, T1, hb'⟩
  replace m0 := (hb'.cells _ _ (by omega)).trans m0
  replace m1 := (hb'.cells _ _ (by omega)).trans m1
  replace m2 := (hb'.cells _ _ (by omega)).trans m2
  replace m3 := (hb'.cells _ _ (by omega)).trans m3
  replace m4 := (hb'.cells _ _ (by omega)).trans m4
  replace x2 := (hb'.cells _ _ (by omega)).trans x2
  have zX1 : w.heap.size + 3 ≤ X1.heap.size := Nat.le_trans zX0 hb'.size
  have hX1 := hX0.trans hb'
  have hb1 := hb0.trans hb'
  clear hb'
  refine ⟨⟨hb1, m0, m1, m2, m3, m4, x2⟩, ?_⟩
  (try simp only [Act.put, List.setIfInBounds_toArray, List.set_cons_zero, List.set_cons_succ])
  refine wpAnyH_all (rs := [6]) (by kernel_rfl) (by simp) ?_
  intro i hi
  simp only [List.mem_cons, List.not_mem_nil, or_false] at hi
  subst hi
  refine wpOp_enter (o := { dst := some 20, op := Op.call { callee := Callee.value (Operand.func 45), args := #[Operand.tmp 17, Operand.tmp 19], argTypes := #[26, 22] }, type := 39, pos := "kinds.go:52", after := #[{ on := 3, ground := Ground.data }, { on := 5, ground := Ground.data }, { on := 2, ground := Ground.chain }], guard := none }) (R := fun v w' => ∃ r A3 c3 A4 c4, v = St.val r A3 c3 A4 c4 ∧ SpP X1.heap.size w' A3 c3 r.sp ∧ StP X1.heap.size w' A4 c4 r.ws ∧ P2 r ∧ Bel X1 w') rfl (by rfl) (by go_simp; first | done | with_reducible rfl | rfl) ((C2.out X1 hb1).mono fun e w' ⟨r, ⟨A3, c3, A4, c4, h1, h2, h3, h4⟩, h5⟩ => ⟨_, h1, r, A3, c3, A4, c4, rfl, h2, h3, h5, h4⟩) ?_
  rintro v X2 ⟨r, A3, c3, A4, c4, rfl, S2, T2, HR, hb'⟩
  replace m0 := (hb'.cells _ _ (by omega)).trans m0
  replace m1 := (hb'.cells _ _ (by omega)).trans m1
  replace m2 := (hb'.cells _ _ (by omega)).trans m2
  replace m3 := (hb'.cells _ _ (by omega)).trans m3
  replace m4 := (hb'.cells _ _ (by omega)).trans m4
  replace x2 := (hb'.cells _ _ (by omega)).trans x2
  have zX2 : w.heap.size + 3 ≤ X2.heap.size := Nat.le_trans zX1 hb'.size
  have hX2 := hX1.trans hb'
  have hb2 := hb1.trans hb'
  replace S1 := S1.keep hb'
  replace T1 := T1.keep hb'
  clear hb'
  refine ⟨⟨hb2, m0, m1, m2, m3, m4, x2⟩, ?_⟩
  (try simp only [Act.put, List.setIfInBounds_toArray, List.set_cons_zero, List.set_cons_succ])
  refine wpAnyH_all (rs := [7]) (by kernel_rfl) (by simp) ?_
  intro i hi
  simp only [List.mem_cons, List.not_mem_nil, or_false] at hi
  subst hi
  refine wpOp_enter (o := { dst := some 21, op := Op.call { callee := Callee.value (Operand.func 49), args := #[Operand.tmp 16, Operand.tmp 20], argTypes := #[39, 39] }, type := 39, pos := "kinds.go:52", after := #[{ on := 2, ground := Ground.data }, { on := 6, ground := Ground.data }, { on := 6, ground := Ground.chain }], guard := none }) (R := fun v w' => ∃ q A5 c5 A6 c6, v = St.val q A5 c5 A6 c6 ∧ SpP X2.heap.size w' A5 c5 q.sp ∧ StP X2.heap.size w' A6 c6 q.ws ∧ P3 r q ∧ Bel X2 w') rfl (by rfl) (by go_simp; first | done | with_reducible rfl | rfl) ((C3.out X2 r A1 c1 A2 c2 A3 c3 A4 c4 HR (setIn_of S1 T1) (setIn_of S2 T2)).mono fun e w' ⟨q, ⟨A5, c5, A6, c6, h1, h2, h3, h4⟩, h5⟩ => ⟨_, h1, q, A5, c5, A6, c6, rfl, h2, h3, h5, h4⟩) ?_
  rintro v X3 ⟨⟨qk, qs, qa, qw, qb, qn⟩, A5, c5, A6, c6, rfl, S3, T3, HQ, hb'⟩
  simp only at S3 T3
  replace m0 := (hb'.cells _ _ (by omega)).trans m0
  replace m1 := (hb'.cells _ _ (by omega)).trans m1
  replace m2 := (hb'.cells _ _ (by omega)).trans m2
  replace m3 := (hb'.cells _ _ (by omega)).trans m3
  replace m4 := (hb'.cells _ _ (by omega)).trans m4
  replace x2 := (hb'.cells _ _ (by omega)).trans x2
  have zX3 : w.heap.size + 3 ≤ X3.heap.size := Nat.le_trans zX2 hb'.size
  have hX3 := hX2.trans hb'
  have hb3 := hb2.trans hb'
  clear hb'
  refine ⟨⟨hb3, m0, m1, m2, m3, m4, x2⟩, ?_⟩
  (try simp only [Act.put, List.setIfInBounds_toArray, List.set_cons_zero, List.set_cons_succ])
  replace r0 := (hX3.cells _ _ (by omega)).trans r0; replace r1 := (hX3.cells _ _ (by omega)).trans r1; replace r2 := (hX3.cells _ _ (by omega)).trans r2; replace r3 := (hX3.cells _ _ (by omega)).trans r3; replace r4 := (hX3.cells _ _ (by omega)).trans r4; replace r5 := (hX3.cells _ _ (by omega)).trans r5; replace rf0 := (hX3.frozens _ _ (by omega)).trans rf0; replace rf1 := (hX3.frozens _ _ (by omega)).trans rf1; replace rf2 := (hX3.frozens _ _ (by omega)).trans rf2; replace rf3 := (hX3.frozens _ _ (by omega)).trans rf3; replace rf4 := (hX3.frozens _ _ (by omega)).trans rf4; replace rf5 := (hX3.frozens _ _ (by omega)).trans rf5
  refine wpAnyH_all (rs := [8]) (by kernel_rfl) (by simp) ?_
  intro i hi
  simp only [List.mem_cons, List.not_mem_nil, or_false] at hi
  subst hi
  refine wpOp_skip (o := { dst := none, op := Op.store 39 (Operand.tmp 4) (Operand.tmp 21), type := 0, pos := "kinds.go:52", after := #[{ on := 7, ground := Ground.data }, { on := 7, ground := Ground.chain }, { on := 0, ground := Ground.phase }, { on := 1, ground := Ground.phase }, { on := 2, ground := Ground.phase }, { on := 3, ground := Ground.phase }, { on := 4, ground := Ground.phase }, { on := 5, ground := Ground.phase }, { on := 6, ground := Ground.phase }, { on := 7, ground := Ground.phase }], guard := none }) (w' := ((((((X3.setCell ⟨w.heap.size + 2, 0, none⟩ (.int .i64 qk)).setCell ⟨w.heap.size + 2, 1, none⟩ (.slice A5 qs.length c5)).setCell ⟨w.heap.size + 2, 2, none⟩ (.bool qa)).setCell ⟨w.heap.size + 2, 3, none⟩ (.slice A6 qw.length c6)).setCell ⟨w.heap.size + 2, 4, none⟩ (.int .i64 qb)).setCell ⟨w.heap.size + 2, 5, none⟩ (.bool qn))) rfl (by rfl) (by go_simp; first | done | with_reducible rfl | rfl) ?_
  have hZ : Bel w ((((((X3.setCell ⟨w.heap.size + 2, 0, none⟩ (.int .i64 qk)).setCell ⟨w.heap.size + 2, 1, none⟩ (.slice A5 qs.length c5)).setCell ⟨w.heap.size + 2, 2, none⟩ (.bool qa)).setCell ⟨w.heap.size + 2, 3, none⟩ (.slice A6 qw.length c6)).setCell ⟨w.heap.size + 2, 4, none⟩ (.int .i64 qb)).setCell ⟨w.heap.size + 2, 5, none⟩ (.bool qn)) := by
      (repeat (first | with_reducible exact Bel.refl _ | with_reducible refine Bel.setCell ?_ (by first | exact Nat.le_refl _ | (dsimp only; omega)) _ | with_reducible refine Bel.alloc ?_ _ | with_reducible refine Bel.drew ?_ | with_reducible assumption | with_reducible refine Bel.trans ?_ (by assumption)))
  refine ⟨⟨hZ, by simp [go_sem, m0], by simp [go_sem, m1], by simp [go_sem, m2], by simp [go_sem, m3], by simp [go_sem, m4], by simp [go_sem, x2]⟩, ?_⟩
  (try simp only [Act.put, List.setIfInBounds_toArray, List.set_cons_zero, List.set_cons_succ])
  have t0 : World.cell? ((((((X3.setCell ⟨w.heap.size + 2, 0, none⟩ (.int .i64 qk)).setCell ⟨w.heap.size + 2, 1, none⟩ (.slice A5 qs.length c5)).setCell ⟨w.heap.size + 2, 2, none⟩ (.bool qa)).setCell ⟨w.heap.size + 2, 3, none⟩ (.slice A6 qw.length c6)).setCell ⟨w.heap.size + 2, 4, none⟩ (.int .i64 qb)).setCell ⟨w.heap.size + 2, 5, none⟩ (.bool qn)) ⟨w.heap.size + 2, 0, none⟩ = some (.int .i64 qk) := by simp [go_sem, r0, r1, r2, r3, r4, r5]
  have t1 : World.cell? ((((((X3.setCell ⟨w.heap.size + 2, 0, none⟩ (.int .i64 qk)).setCell ⟨w.heap.size + 2, 1, none⟩ (.slice A5 qs.length c5)).setCell ⟨w.heap.size + 2, 2, none⟩ (.bool qa)).setCell ⟨w.heap.size + 2, 3, none⟩ (.slice A6 qw.length c6)).setCell ⟨w.heap.size + 2, 4, none⟩ (.int .i64 qb)).setCell ⟨w.heap.size + 2, 5, none⟩ (.bool qn)) ⟨w.heap.size + 2, 1, none⟩ = some (.slice A5 qs.length c5) := by simp [go_sem, r0, r1, r2, r3, r4, r5]
  have t2 : World.cell? ((((((X3.setCell ⟨w.heap.size + 2, 0, none⟩ (.int .i64 qk)).setCell ⟨w.heap.size + 2, 1, none⟩ (.slice A5 qs.length c5)).setCell ⟨w.heap.size + 2, 2, none⟩ (.bool qa)).setCell ⟨w.heap.size + 2, 3, none⟩ (.slice A6 qw.length c6)).setCell ⟨w.heap.size + 2, 4, none⟩ (.int .i64 qb)).setCell ⟨w.heap.size + 2, 5, none⟩ (.bool qn)) ⟨w.heap.size + 2, 2, none⟩ = some (.bool qa) := by simp [go_sem, r0, r1, r2, r3, r4, r5]
  have t3 : World.cell? ((((((X3.setCell ⟨w.heap.size + 2, 0, none⟩ (.int .i64 qk)).setCell ⟨w.heap.size + 2, 1, none⟩ (.slice A5 qs.length c5)).setCell ⟨w.heap.size + 2, 2, none⟩ (.bool qa)).setCell ⟨w.heap.size + 2, 3, none⟩ (.slice A6 qw.length c6)).setCell ⟨w.heap.size + 2, 4, none⟩ (.int .i64 qb)).setCell ⟨w.heap.size + 2, 5, none⟩ (.bool qn)) ⟨w.heap.size + 2, 3, none⟩ = some (.slice A6 qw.length c6) := by simp [go_sem, r0, r1, r2, r3, r4, r5]
  have t4 : World.cell? ((((((X3.setCell ⟨w.heap.size + 2, 0, none⟩ (.int .i64 qk)).setCell ⟨w.heap.size + 2, 1, none⟩ (.slice A5 qs.length c5)).setCell ⟨w.heap.size + 2, 2, none⟩ (.bool qa)).setCell ⟨w.heap.size + 2, 3, none⟩ (.slice A6 qw.length c6)).setCell ⟨w.heap.size + 2, 4, none⟩ (.int .i64 qb)).setCell ⟨w.heap.size + 2, 5, none⟩ (.bool qn)) ⟨w.heap.size + 2, 4, none⟩ = some (.int .i64 qb) := by simp [go_sem, r0, r1, r2, r3, r4, r5]
  have t5 : World.cell? ((((((X3.setCell ⟨w.heap.size + 2, 0, none⟩ (.int .i64 qk)).setCell ⟨w.heap.size + 2, 1, none⟩ (.slice A5 qs.length c5)).setCell ⟨w.heap.size + 2, 2, none⟩ (.bool qa)).setCell ⟨w.heap.size + 2, 3, none⟩ (.slice A6 qw.length c6)).setCell ⟨w.heap.size + 2, 4, none⟩ (.int .i64 qb)).setCell ⟨w.heap.size + 2, 5, none⟩ (.bool qn)) ⟨w.heap.size + 2, 5, none⟩ = some (.bool qn) := by simp [go_sem, r0, r1, r2, r3, r4, r5]
  replace S3 : SpP (w.heap.size + 3) ((((((X3.setCell ⟨w.heap.size + 2, 0, none⟩ (.int .i64 qk)).setCell ⟨w.heap.size + 2, 1, none⟩ (.slice A5 qs.length c5)).setCell ⟨w.heap.size + 2, 2, none⟩ (.bool qa)).setCell ⟨w.heap.size + 2, 3, none⟩ (.slice A6 qw.length c6)).setCell ⟨w.heap.size + 2, 4, none⟩ (.int .i64 qb)).setCell ⟨w.heap.size + 2, 5, none⟩ (.bool qn)) A5 c5 qs := SpP.other (SpP.low S3 zX2) (by simp) fun k o hk => by
      have n1 : ¬ w.heap.size + 2 = k := by omega
      simp [go_sem, n1]
  replace T3 : StP (w.heap.size + 3) ((((((X3.setCell ⟨w.heap.size + 2, 0, none⟩ (.int .i64 qk)).setCell ⟨w.heap.size + 2, 1, none⟩ (.slice A5 qs.length c5)).setCell ⟨w.heap.size + 2, 2, none⟩ (.bool qa)).setCell ⟨w.heap.size + 2, 3, none⟩ (.slice A6 qw.length c6)).setCell ⟨w.heap.size + 2, 4, none⟩ (.int .i64 qb)).setCell ⟨w.heap.size + 2, 5, none⟩ (.bool qn)) A6 c6 qw := StP.other (StP.low T3 zX2) (by simp) fun k o hk => by
      have n1 : ¬ w.heap.size + 2 = k := by omega
      simp [go_sem, n1]
  generalize ((((((X3.setCell ⟨w.heap.size + 2, 0, none⟩ (.int .i64 qk)).setCell ⟨w.heap.size + 2, 1, none⟩ (.slice A5 qs.length c5)).setCell ⟨w.heap.size + 2, 2, none⟩ (.bool qa)).setCell ⟨w.heap.size + 2, 3, none⟩ (.slice A6 qw.length c6)).setCell ⟨w.heap.size + 2, 4, none⟩ (.int .i64 qb)).setCell ⟨w.heap.size + 2, 5, none⟩ (.bool qn)) = X4 at hZ t0 t1 t2 t3 t4 t5 S3 T3 ⊢
  refine wpAnyH_done (by kernel_rfl) ?_ _
  refine NoPanic.normal ?_
  have HX := Lib.hid (And.intro HR HQ)
  have HS := Lib.hid (And.intro S3 T3)
  clear m0 m1 m2 m3 m4 x0 x1 x2 r0 rf0 r1 rf1 r2 rf2 r3 rf3 r4 rf4 r5 rf5 hX0 hX1 hX2 hX3 hb0 hb1 hb2 hb3 hb z0 zX0 zX1 zX2 zX3 S1 S2 S3 T1 T2 T3 HQ HR C1 C2 C3
  go_wp2_with fail
  refine bodyPost_ret (by simp [results, Tryz.results37, go_sem, t0, t1, t2, t3, t4, t5]; try rfl) rfl ⟨r, ⟨qk, qs, qa, qw, qb, qn⟩, ⟨A5, c5, A6, c6, rfl, SpP.low HS.out.1 (Nat.le_add_right _ _), StP.low HS.out.2 (Nat.le_add_right _ _), hZ⟩, HX.out⟩
set_option maxRecDepth 100000 in
set_option maxHeartbeats 8000000 in
theorem holdGA_any (K sc : Int) (any0 not0 : Bool) (A0 : Option Addr) (n0 c0 : Nat) (nt : Bool) (n : Nat) (A : Option Addr) (c : Nat) (w : World) (hK1 : 1 ≤ K) (hK4 : K ≤ 4) :
    Calls Tryz.prog 37 #[tyv K sc any0 not0 (.slice A0 n0 c0), tsv true nt (.slice A n c)] w (SetOut w (allS K)) := by
  have C1 := Lib.hid fun W => sall_any K hK1 hK4 W
  have HK := Lib.hid (show (allS K).kind = K from rfl)
  generalize allS K = q at C1 HK ⊢
  obtain ⟨qk, qs, qa, qw, qb, qn⟩ := q
  simp only at HK
  clear hK1 hK4
  go_enter Tryz.func37, Tryz.ntmps37
  go_upto_region 1 with fail
  refine under_name (w0 := w) (by (repeat (first | with_reducible exact Bel.refl _ | with_reducible refine Bel.setCell ?_ (by first | exact Nat.le_refl _ | (dsimp only; omega)) _ | with_reducible refine Bel.alloc ?_ _ | with_reducible refine Bel.drew ?_ | with_reducible assumption | with_reducible refine Bel.trans ?_ (by assumption)))) fun W hc hf hz hb => ?_
  have m0 : W.cell? ⟨w.heap.size, 0, none⟩ = some (.int .i64 K) := by simp [hc, go_sem]
  have m1 : W.cell? ⟨w.heap.size, 1, none⟩ = some (.int .i64 sc) := by simp [hc, go_sem]
  have m2 : W.cell? ⟨w.heap.size, 2, none⟩ = some (.bool any0) := by simp [hc, go_sem]
  have m3 : W.cell? ⟨w.heap.size, 3, none⟩ = some (.bool not0) := by simp [hc, go_sem]
  have m4 : W.cell? ⟨w.heap.size, 4, none⟩ = some (.slice A0 n0 c0) := by simp [hc, go_sem]
  have x0 : W.cell? ⟨w.heap.size + 1, 0, none⟩ = some (.bool true) := by simp [hc, go_sem]
  have x1 : W.cell? ⟨w.heap.size + 1, 1, none⟩ = some (.bool nt) := by simp [hc, go_sem]
  have x2 : W.cell? ⟨w.heap.size + 1, 2, none⟩ = some (.slice A n c) := by simp [hc, go_sem]
  have r0 : W.cell? ⟨w.heap.size + 2, 0, none⟩ = some (.int .i64 0) := by simp [hc, go_sem]
  have r1 : W.cell? ⟨w.heap.size + 2, 1, none⟩ = some (.slice none 0 0) := by simp [hc, go_sem]
  have r2 : W.cell? ⟨w.heap.size + 2, 2, none⟩ = some (.bool false) := by simp [hc, go_sem]
  have r3 : W.cell? ⟨w.heap.size + 2, 3, none⟩ = some (.slice none 0 0) := by simp [hc, go_sem]
  have r4 : W.cell? ⟨w.heap.size + 2, 4, none⟩ = some (.int .i64 0) := by simp [hc, go_sem]
  have r5 : W.cell? ⟨w.heap.size + 2, 5, none⟩ = some (.bool false) := by simp [hc, go_sem]
  have rf0 : W.frozen? ⟨w.heap.size + 2, 0, none⟩ = false := by simp [hf, go_sem]
  have rf1 : W.frozen? ⟨w.heap.size + 2, 1, none⟩ = false := by simp [hf, go_sem]
  have rf2 : W.frozen? ⟨w.heap.size + 2, 2, none⟩ = false := by simp [hf, go_sem]
  have rf3 : W.frozen? ⟨w.heap.size + 2, 3, none⟩ = false := by simp [hf, go_sem]
  have rf4 : W.frozen? ⟨w.heap.size + 2, 4, none⟩ = false := by simp [hf, go_sem]
  have rf5 : W.frozen? ⟨w.heap.size + 2, 5, none⟩ = false := by simp [hf, go_sem]
  have z0 : w.heap.size + 3 ≤ W.heap.size := by simp [hz]
  clear hc hf hz
  go_wp2_with (go_at_call 65; (with_reducible refine Calls.mono (C1.out _) ?_); rintro e X1 ⟨A1, c1, A2, c2, rfl, S1, T1, hx1⟩; have zx1 : w.heap.size + 3 ≤ X1.heap.size := (Nat.le_trans z0 hx1.size); have hbX := hb.trans hx1; replace r0 := (hx1.cells _ _ (by omega)).trans r0; replace r1 := (hx1.cells _ _ (by omega)).trans r1; replace r2 := (hx1.cells _ _ (by omega)).trans r2; replace r3 := (hx1.cells _ _ (by omega)).trans r3; replace r4 := (hx1.cells _ _ (by omega)).trans r4; replace r5 := (hx1.cells _ _ (by omega)).trans r5; replace rf0 := (hx1.frozens _ _ (by omega)).trans rf0; replace rf1 := (hx1.frozens _ _ (by omega)).trans rf1; replace rf2 := (hx1.frozens _ _ (by omega)).trans rf2; replace rf3 := (hx1.frozens _ _ (by omega)).trans rf3; replace rf4 := (hx1.frozens _ _ (by omega)).trans rf4; replace rf5 := (hx1.frozens _ _ (by omega)).trans rf5)
  refine bodyPost_ret (by simp [results, Tryz.results37, go_sem, r0, rf0, r1, rf1, r2, rf2, r3, rf3, r4, rf4, r5, rf5]; try rfl) rfl ⟨A1, c1, A2, c2, rfl, SpP.low (SpP.other (SpP.low S1 z0) (by simp) fun k o hk => ?_) (Nat.le_add_right _ _), StP.low (StP.other (StP.low T1 z0) (by simp) fun k o hk => ?_) (Nat.le_add_right _ _), ?_⟩
  · have n1 : ¬ w.heap.size + 2 = k := by omega
    simp [go_sem, n1]
  · have n1 : ¬ w.heap.size + 2 = k := by omega
    simp [go_sem, n1]
  · (repeat (first | with_reducible exact Bel.refl _ | with_reducible refine Bel.setCell ?_ (by first | exact Nat.le_refl _ | (dsimp only; omega)) _ | with_reducible refine Bel.alloc ?_ _ | with_reducible refine Bel.drew ?_ | with_reducible assumption | with_reducible refine Bel.trans ?_ (by assumption)))
end Go.Proofs.YtpmmbcobjibpeaaGreatDoor
namespace Go.Proofs.YtpmmbcobjibpeaaGreatDoor
set_option linter.unusedSimpArgs false
set_option linter.unusedVariables false
open Go.RowKit Go.Lib Go.Deep

/-! Sets: full, whatever the kind. -/
/-- A set and null. -/
def St.wnul (s : St) : St := { s with nul := true }
set_option maxRecDepth 100000 in
set_option maxHeartbeats 8000000 in
theorem fullG_any (P : St → Prop) (K sc : Int) (any not : Bool) (l : List Tst) (A : Option Addr) (c : Nat) (w : World)
    (H : ∀ W, Bel w W → Calls Tryz.prog 37 #[tyv K sc any not (.slice A l.length c), tsv any not (.slice A l.length c)] W fun e w' => ∃ q, SetOut W q e w' ∧ P q) :
    Calls Tryz.prog 36 #[tyv K sc any not (.slice A l.length c)] w fun e w' => ∃ q, SetOut w q.wnul e w' ∧ P q := by
  have C := Lib.hid H
  clear H
  go_enter Tryz.func36, Tryz.ntmps36
  go_upto_region 1 with fail
  refine under_name (w0 := w) (by (repeat (first | with_reducible exact Bel.refl _ | with_reducible refine Bel.setCell ?_ (by first | exact Nat.le_refl _ | (dsimp only; omega)) _ | with_reducible refine Bel.alloc ?_ _ | with_reducible refine Bel.drew ?_ | with_reducible assumption | with_reducible refine Bel.trans ?_ (by assumption)))) fun W hc hf hz hb => ?_
  have m0 : W.cell? ⟨w.heap.size, 0, none⟩ = some (.int .i64 K) := by simp [hc, go_sem]
  have m1 : W.cell? ⟨w.heap.size, 1, none⟩ = some (.int .i64 sc) := by simp [hc, go_sem]
  have m2 : W.cell? ⟨w.heap.size, 2, none⟩ = some (.bool any) := by simp [hc, go_sem]
  have m3 : W.cell? ⟨w.heap.size, 3, none⟩ = some (.bool not) := by simp [hc, go_sem]
  have m4 : W.cell? ⟨w.heap.size, 4, none⟩ = some (.slice A l.length c) := by simp [hc, go_sem]
  have r0 : W.cell? ⟨w.heap.size + 1, 0, none⟩ = some (.int .i64 0) := by simp [hc, go_sem]
  have r1 : W.cell? ⟨w.heap.size + 1, 1, none⟩ = some (.slice none 0 0) := by simp [hc, go_sem]
  have r2 : W.cell? ⟨w.heap.size + 1, 2, none⟩ = some (.bool false) := by simp [hc, go_sem]
  have r3 : W.cell? ⟨w.heap.size + 1, 3, none⟩ = some (.slice none 0 0) := by simp [hc, go_sem]
  have r4 : W.cell? ⟨w.heap.size + 1, 4, none⟩ = some (.int .i64 0) := by simp [hc, go_sem]
  have r5 : W.cell? ⟨w.heap.size + 1, 5, none⟩ = some (.bool false) := by simp [hc, go_sem]
  have rf0 : W.frozen? ⟨w.heap.size + 1, 0, none⟩ = false := by simp [hf, go_sem]
  have rf1 : W.frozen? ⟨w.heap.size + 1, 1, none⟩ = false := by simp [hf, go_sem]
  have rf2 : W.frozen? ⟨w.heap.size + 1, 2, none⟩ = false := by simp [hf, go_sem]
  have rf3 : W.frozen? ⟨w.heap.size + 1, 3, none⟩ = false := by simp [hf, go_sem]
  have rf4 : W.frozen? ⟨w.heap.size + 1, 4, none⟩ = false := by simp [hf, go_sem]
  have rf5 : W.frozen? ⟨w.heap.size + 1, 5, none⟩ = false := by simp [hf, go_sem]
  have z0 : w.heap.size + 2 ≤ W.heap.size := by simp [hz]
  clear hc hf hz
  go_upto_region 3 with (go_at_call 37; (with_reducible refine Calls.mono (C.out _ hb) ?_); rintro e X1 ⟨⟨qk, qs, qa, qw, qb, qn⟩, ⟨A1, c1, A2, c2, rfl, S1, T1, hx1⟩, h1⟩; have HQ := Lib.hid h1; clear h1; simp only at S1 T1; have zx1 : w.heap.size + 2 ≤ X1.heap.size := (Nat.le_trans z0 hx1.size); have hbX := hb.trans hx1; have HS := Lib.hid (And.intro S1 T1); clear S1 T1; replace r0 := (hx1.cells _ _ (by omega)).trans r0; replace r1 := (hx1.cells _ _ (by omega)).trans r1; replace r2 := (hx1.cells _ _ (by omega)).trans r2; replace r3 := (hx1.cells _ _ (by omega)).trans r3; replace r4 := (hx1.cells _ _ (by omega)).trans r4; replace r5 := (hx1.cells _ _ (by omega)).trans r5; replace rf0 := (hx1.frozens _ _ (by omega)).trans rf0; replace rf1 := (hx1.frozens _ _ (by omega)).trans rf1; replace rf2 := (hx1.frozens _ _ (by omega)).trans rf2; replace rf3 := (hx1.frozens _ _ (by omega)).trans rf3; replace rf4 := (hx1.frozens _ _ (by omega)).trans rf4; replace rf5 := (hx1.frozens _ _ (by omega)).trans rf5)
  refine under_name (w0 := X1) (by (repeat (first | with_reducible exact Bel.refl _ | with_reducible refine Bel.setCell ?_ (by first | exact Nat.le_refl _ | (dsimp only; omega)) _ | with_reducible refine Bel.alloc ?_ _ | with_reducible refine Bel.drew ?_ | with_reducible assumption | with_reducible refine Bel.trans ?_ (by assumption)))) fun Y hc hf hz hy => ?_
  have s0 : Y.cell? ⟨X1.heap.size, 0, none⟩ = some (.int .i64 qk) := by simp [hc, go_sem]
  have s1 : Y.cell? ⟨X1.heap.size, 1, none⟩ = some (.slice A1 qs.length c1) := by simp [hc, go_sem]
  have s2 : Y.cell? ⟨X1.heap.size, 2, none⟩ = some (.bool qa) := by simp [hc, go_sem]
  have s3 : Y.cell? ⟨X1.heap.size, 3, none⟩ = some (.slice A2 qw.length c2) := by simp [hc, go_sem]
  have s4 : Y.cell? ⟨X1.heap.size, 4, none⟩ = some (.int .i64 qb) := by simp [hc, go_sem]
  have s5 : Y.cell? ⟨X1.heap.size, 5, none⟩ = some (.bool true) := by simp [hc, go_sem]
  have zy : X1.heap.size < Y.heap.size := by simp [hz]
  clear hc hf hz
  replace r0 := (hy.cells _ _ (by omega)).trans r0; replace r1 := (hy.cells _ _ (by omega)).trans r1; replace r2 := (hy.cells _ _ (by omega)).trans r2; replace r3 := (hy.cells _ _ (by omega)).trans r3; replace r4 := (hy.cells _ _ (by omega)).trans r4; replace r5 := (hy.cells _ _ (by omega)).trans r5; replace rf0 := (hy.frozens _ _ (by omega)).trans rf0; replace rf1 := (hy.frozens _ _ (by omega)).trans rf1; replace rf2 := (hy.frozens _ _ (by omega)).trans rf2; replace rf3 := (hy.frozens _ _ (by omega)).trans rf3; replace rf4 := (hy.frozens _ _ (by omega)).trans rf4; replace rf5 := (hy.frozens _ _ (by omega)).trans rf5
  have hbY := hbX.trans hy
  have lt1 : w.heap.size + 1 < Y.heap.size := by omega
  replace HS := Lib.hid (And.intro (SpP.low (HS.out.1.keep hy) z0) (StP.low (HS.out.2.keep hy) z0))
  clear hx1 hbX hy hb m0 m1 m2 m3 m4 C
  go_wp2_with fail
  refine bodyPost_ret (by simp [results, Tryz.results36, go_sem, St.wnul, r0, rf0, r1, rf1, r2, rf2, r3, rf3, r4, rf4, r5, rf5]; try rfl) rfl ⟨⟨qk, qs, qa, qw, qb, qn⟩, ⟨A1, c1, A2, c2, rfl, SpP.low (SpP.other HS.out.1 (by simp) fun k o hk => ?_) (Nat.le_add_right _ _), StP.low (StP.other HS.out.2 (by simp) fun k o hk => ?_) (Nat.le_add_right _ _), ?_⟩, HQ.out⟩
  · have n1 : ¬ w.heap.size + 1 = k := by omega
    simp [go_sem, n1]
  · have n1 : ¬ w.heap.size + 1 = k := by omega
    simp [go_sem, n1]
  · (repeat (first | with_reducible exact Bel.refl _ | with_reducible refine Bel.setCell ?_ (by first | exact Nat.le_refl _ | (dsimp only; omega)) _ | with_reducible refine Bel.alloc ?_ _ | with_reducible refine Bel.drew ?_ | with_reducible assumption | with_reducible refine Bel.trans ?_ (by assumption)))
end Go.Proofs.YtpmmbcobjibpeaaGreatDoor
namespace Go.Proofs.YtpmmbcobjibpeaaGreatDoor
set_option linter.unusedSimpArgs false
set_option linter.unusedVariables false
open Go.RowKit Go.Lib Go.Deep

/-! Sets: Of and Other, whatever the kind, where type and tests are sound. -/
set_option maxRecDepth 100000 in
set_option maxHeartbeats 8000000 in
theorem ofG_any (P1 P2 : St → Prop) (P3 : St → St → St → Prop) (K sc : Int) (any not : Bool) (l : List Tst) (A : Option Addr) (c : Nat) (any2 not2 : Bool) (m : List Tst) (B : Option Addr) (d : Nat) (w : World) (hs : Tsts w A l) (hl : l.length ≤ 999) (hm : Tsts w B m) (hml : m.length ≤ 999) (ht : ∀ t ∈ l, TOk t) (ht2 : ∀ t ∈ m, TOk t) (hy : tysnd K sc any not l = true) (hu : usnd any2 not2 m = true)
    (H1 : ∀ W, Bel w W → Calls Tryz.prog 36 #[tyv K sc any not (.slice A l.length c)] W fun e w' => ∃ q, SetOut W q e w' ∧ P1 q)
    (H2 : ∀ W, Bel w W → Calls Tryz.prog 37 #[tyv K sc any not (.slice A l.length c), tsv any2 not2 (.slice B m.length d)] W fun e w' => ∃ q, SetOut W q e w' ∧ P2 q)
    (H3 : ∀ X s t bA bc bA2 bc2 cA cc cA2 cc2, P1 s → P2 t → SetIn X bA bc bA2 bc2 s → SetIn X cA cc cA2 cc2 t → Calls Tryz.prog 35 #[s.val bA bc bA2 bc2, t.val cA cc cA2 cc2] X fun e w' => ∃ q, SetOut X q e w' ∧ P3 s t q) :
    Calls Tryz.prog 14 #[tyv K sc any not (.slice A l.length c), tsv any2 not2 (.slice B m.length d)] w fun e w' => ∃ p r q A1 c1 A2 c2, e = .returned (.tuple #[q.val A1 c1 A2 c2, .int .i64 0]) ∧ SpP w.heap.size w' A1 c1 q.sp ∧ StP w.heap.size w' A2 c2 q.ws ∧ Bel w w' ∧ P1 p ∧ P2 r ∧ P3 p r q := by
  have C0 := Lib.hid fun W (hW : Bel w W) => (show Calls Tryz.prog 10 #[tyv K sc any not (.slice A l.length c)] W fun e w' => e = .returned (.bool true) ∧ Bel W w' from by
    have := tsound_any K sc any not l A c W (hs.keep hW) (by omega) ht
    rw [hy] at this
    exact this)
  have C9 := Lib.hid fun W (hW : Bel w W) => (show Calls Tryz.prog 30 #[tsv any2 not2 (.slice B m.length d)] W fun e w' => e = .returned (.bool true) ∧ Bel W w' from by
    have := usound_any any2 not2 m B d W (hm.keep hW) (by omega) ht2
    rw [hu] at this
    exact this)
  have C1 := Lib.hid H1
  have C2 := Lib.hid H2
  have C3 := Lib.hid H3
  clear hs hl hm hml ht ht2 hy hu H1 H2 H3
  go_enter Tryz.func14, Tryz.ntmps14
  go_upto_region 1 with fail
  refine under_name (w0 := w) (by (repeat (first | with_reducible exact Bel.refl _ | with_reducible refine Bel.setCell ?_ (by first | exact Nat.le_refl _ | (dsimp only; omega)) _ | with_reducible refine Bel.alloc ?_ _ | with_reducible refine Bel.drew ?_ | with_reducible assumption | with_reducible refine Bel.trans ?_ (by assumption)))) fun V hc hf hz hbv => ?_
  have m0 : V.cell? ⟨w.heap.size, 0, none⟩ = some (.int .i64 K) := by simp [hc, go_sem]
  have m1 : V.cell? ⟨w.heap.size, 1, none⟩ = some (.int .i64 sc) := by simp [hc, go_sem]
  have m2 : V.cell? ⟨w.heap.size, 2, none⟩ = some (.bool any) := by simp [hc, go_sem]
  have m3 : V.cell? ⟨w.heap.size, 3, none⟩ = some (.bool not) := by simp [hc, go_sem]
  have m4 : V.cell? ⟨w.heap.size, 4, none⟩ = some (.slice A l.length c) := by simp [hc, go_sem]
  have x0 : V.cell? ⟨w.heap.size + 1, 0, none⟩ = some (.bool any2) := by simp [hc, go_sem]
  have x1 : V.cell? ⟨w.heap.size + 1, 1, none⟩ = some (.bool not2) := by simp [hc, go_sem]
  have x2 : V.cell? ⟨w.heap.size + 1, 2, none⟩ = some (.slice B m.length d) := by simp [hc, go_sem]
  have r0 : V.cell? ⟨w.heap.size + 2, 0, none⟩ = some (.int .i64 0) := by simp [hc, go_sem]
  have r1 : V.cell? ⟨w.heap.size + 2, 1, none⟩ = some (.slice none 0 0) := by simp [hc, go_sem]
  have r2 : V.cell? ⟨w.heap.size + 2, 2, none⟩ = some (.bool false) := by simp [hc, go_sem]
  have r3 : V.cell? ⟨w.heap.size + 2, 3, none⟩ = some (.slice none 0 0) := by simp [hc, go_sem]
  have r4 : V.cell? ⟨w.heap.size + 2, 4, none⟩ = some (.int .i64 0) := by simp [hc, go_sem]
  have r5 : V.cell? ⟨w.heap.size + 2, 5, none⟩ = some (.bool false) := by simp [hc, go_sem]
  have rf0 : V.frozen? ⟨w.heap.size + 2, 0, none⟩ = false := by simp [hf, go_sem]
  have rf1 : V.frozen? ⟨w.heap.size + 2, 1, none⟩ = false := by simp [hf, go_sem]
  have rf2 : V.frozen? ⟨w.heap.size + 2, 2, none⟩ = false := by simp [hf, go_sem]
  have rf3 : V.frozen? ⟨w.heap.size + 2, 3, none⟩ = false := by simp [hf, go_sem]
  have rf4 : V.frozen? ⟨w.heap.size + 2, 4, none⟩ = false := by simp [hf, go_sem]
  have rf5 : V.frozen? ⟨w.heap.size + 2, 5, none⟩ = false := by simp [hf, go_sem]
  have z0 : w.heap.size + 3 ≤ V.heap.size := by simp [hz]
  clear hc hf hz
  go_upto_region 3 with (first
    | (go_at_call 10; (with_reducible refine Calls.mono (C0.out _ hbv) ?_); rintro e V1 ⟨rfl, hv1⟩; have hbv1 := hbv.trans hv1; have zv1 : w.heap.size + 3 ≤ V1.heap.size := (Nat.le_trans z0 hv1.size); replace m0 := (hv1.cells _ _ (by omega)).trans m0; replace m1 := (hv1.cells _ _ (by omega)).trans m1; replace m2 := (hv1.cells _ _ (by omega)).trans m2; replace m3 := (hv1.cells _ _ (by omega)).trans m3; replace m4 := (hv1.cells _ _ (by omega)).trans m4; replace x0 := (hv1.cells _ _ (by omega)).trans x0; replace x1 := (hv1.cells _ _ (by omega)).trans x1; replace x2 := (hv1.cells _ _ (by omega)).trans x2; replace r0 := (hv1.cells _ _ (by omega)).trans r0; replace r1 := (hv1.cells _ _ (by omega)).trans r1; replace r2 := (hv1.cells _ _ (by omega)).trans r2; replace r3 := (hv1.cells _ _ (by omega)).trans r3; replace r4 := (hv1.cells _ _ (by omega)).trans r4; replace r5 := (hv1.cells _ _ (by omega)).trans r5; replace rf0 := (hv1.frozens _ _ (by omega)).trans rf0; replace rf1 := (hv1.frozens _ _ (by omega)).trans rf1; replace rf2 := (hv1.frozens _ _ (by omega)).trans rf2; replace rf3 := (hv1.frozens _ _ (by omega)).trans rf3; replace rf4 := (hv1.frozens _ _ (by omega)).trans rf4; replace rf5 := (hv1.frozens _ _ (by omega)).trans rf5)
    | (go_at_call 30; (with_reducible refine Calls.mono (C9.out _ hbv1) ?_); rintro e W ⟨rfl, hv2⟩; have hb := hbv1.trans hv2; have zW : w.heap.size + 3 ≤ W.heap.size := (Nat.le_trans zv1 hv2.size); replace m0 := (hv2.cells _ _ (by omega)).trans m0; replace m1 := (hv2.cells _ _ (by omega)).trans m1; replace m2 := (hv2.cells _ _ (by omega)).trans m2; replace m3 := (hv2.cells _ _ (by omega)).trans m3; replace m4 := (hv2.cells _ _ (by omega)).trans m4; replace x0 := (hv2.cells _ _ (by omega)).trans x0; replace x1 := (hv2.cells _ _ (by omega)).trans x1; replace x2 := (hv2.cells _ _ (by omega)).trans x2; replace r0 := (hv2.cells _ _ (by omega)).trans r0; replace r1 := (hv2.cells _ _ (by omega)).trans r1; replace r2 := (hv2.cells _ _ (by omega)).trans r2; replace r3 := (hv2.cells _ _ (by omega)).trans r3; replace r4 := (hv2.cells _ _ (by omega)).trans r4; replace r5 := (hv2.cells _ _ (by omega)).trans r5; replace rf0 := (hv2.frozens _ _ (by omega)).trans rf0; replace rf1 := (hv2.frozens _ _ (by omega)).trans rf1; replace rf2 := (hv2.frozens _ _ (by omega)).trans rf2; replace rf3 := (hv2.frozens _ _ (by omega)).trans rf3; replace rf4 := (hv2.frozens _ _ (by omega)).trans rf4; replace rf5 := (hv2.frozens _ _ (by omega)).trans rf5))
  clear hv1 hv2 hbv hbv1 zv1 z0 C0 C9
  refine wp_region_noPanic ?_
  refine wp_region_held (S := fun X => Bel w X ∧ X.cell? ⟨w.heap.size, 0, none⟩ = some (.int .i64 K) ∧ X.cell? ⟨w.heap.size, 1, none⟩ = some (.int .i64 sc) ∧ X.cell? ⟨w.heap.size, 2, none⟩ = some (.bool any) ∧ X.cell? ⟨w.heap.size, 3, none⟩ = some (.bool not) ∧ X.cell? ⟨w.heap.size, 4, none⟩ = some (.slice A l.length c) ∧ X.cell? ⟨w.heap.size + 1, 0, none⟩ = some (.bool any2) ∧ X.cell? ⟨w.heap.size + 1, 1, none⟩ = some (.bool not2) ∧ X.cell? ⟨w.heap.size + 1, 2, none⟩ = some (.slice B m.length d)) (by kernel_rfl) ?_
  have hX0 : Bel W { W with drawn := W.drawn + 1 } := (Bel.refl W).drew
  generalize { W with drawn := W.drawn + 1 } = X0 at hX0 ⊢
  replace m0 := (hX0.cells _ _ (by omega)).trans m0; replace m1 := (hX0.cells _ _ (by omega)).trans m1; replace m2 := (hX0.cells _ _ (by omega)).trans m2; replace m3 := (hX0.cells _ _ (by omega)).trans m3; replace m4 := (hX0.cells _ _ (by omega)).trans m4; replace x0 := (hX0.cells _ _ (by omega)).trans x0; replace x1 := (hX0.cells _ _ (by omega)).trans x1; replace x2 := (hX0.cells _ _ (by omega)).trans x2
  have zX0 : w.heap.size + 3 ≤ X0.heap.size := Nat.le_trans zW hX0.size
  have hb0 := hb.trans hX0
  refine wpAnyH_take (i := 0) (oi := { dst := some 15, op := Op.load 26 (Operand.tmp 2), type := 26, pos := "sets.go:43", after := #[], guard := none }) (v := (tyv K sc any not (.slice A l.length c))) rfl (by kernel_rfl) (by kernel_rfl) (by kernel_rfl) (fun _ _ _ h => h) (.inl ⟨by rfl, fun X hS => by
      obtain ⟨_, k0, k1, k2, k3, k4, k5, k6, k7⟩ := hS
      go_simp; first | done | with_reducible rfl | rfl⟩) ⟨hb0, m0, m1, m2, m3, m4, x0, x1, x2⟩ ?_
  (try simp only [Act.put, List.setIfInBounds_toArray, List.set_cons_zero, List.set_cons_succ])
  refine wpAnyH_take (i := 2) (oi := { dst := some 17, op := Op.load 26 (Operand.tmp 2), type := 26, pos := "sets.go:43", after := #[], guard := none }) (v := (tyv K sc any not (.slice A l.length c))) rfl (by kernel_rfl) (by kernel_rfl) (by kernel_rfl) (fun _ _ _ h => h) (.inl ⟨by rfl, fun X hS => by
      obtain ⟨_, k0, k1, k2, k3, k4, k5, k6, k7⟩ := hS
      go_simp; first | done | with_reducible rfl | rfl⟩) ⟨hb0, m0, m1, m2, m3, m4, x0, x1, x2⟩ ?_
  (try simp only [Act.put, List.setIfInBounds_toArray, List.set_cons_zero, List.set_cons_succ])
  refine wpAnyH_take (i := 3) (oi := { dst := some 18, op := Op.load 24 (Operand.tmp 3), type := 24, pos := "sets.go:43", after := #[], guard := none }) (v := (tsv any2 not2 (.slice B m.length d))) rfl (by kernel_rfl) (by kernel_rfl) (by kernel_rfl) (fun _ _ _ h => h) (.inl ⟨by rfl, fun X hS => by
      obtain ⟨_, k0, k1, k2, k3, k4, k5, k6, k7⟩ := hS
      go_simp; first | done | with_reducible rfl | rfl⟩) ⟨hb0, m0, m1, m2, m3, m4, x0, x1, x2⟩ ?_
  (try simp only [Act.put, List.setIfInBounds_toArray, List.set_cons_zero, List.set_cons_succ])
  refine wpAnyH_all (rs := [1]) (by kernel_rfl) (by simp) ?_
  intro i hi
  simp only [List.mem_cons, List.not_mem_nil, or_false] at hi
  subst hi
  refine wpOp_enter (o := { dst := some 16, op := Op.call { callee := Callee.value (Operand.func 36), args := #[Operand.tmp 15], argTypes := #[26] }, type := 39, pos := "sets.go:43", after := #[{ on := 0, ground := Ground.data }], guard := none }) (R := fun v w' => ∃ p A1 c1 A2 c2, v = St.val p A1 c1 A2 c2 ∧ SpP X0.heap.size w' A1 c1 p.sp ∧ StP X0.heap.size w' A2 c2 p.ws ∧ P1 p ∧ Bel X0 w') rfl (by rfl) (by go_simp; first | done | with_reducible rfl | rfl) ((C1.out X0 hb0).mono fun e w' ⟨p, ⟨A1, c1, A2, c2, h1, h2, h3, h4⟩, h5⟩ => ⟨_, h1, p, A1, c1, A2, c2, rfl, h2, h3, h5, h4⟩) ?_
  rintro v X1 ⟨p, A1, c1, A2, c2, rfl, S1, T1, HP, hb'⟩
  replace m0 := (hb'.cells _ _ (by omega)).trans m0; replace m1 := (hb'.cells _ _ (by omega)).trans m1; replace m2 := (hb'.cells _ _ (by omega)).trans m2; replace m3 := (hb'.cells _ _ (by omega)).trans m3; replace m4 := (hb'.cells _ _ (by omega)).trans m4; replace x0 := (hb'.cells _ _ (by omega)).trans x0; replace x1 := (hb'.cells _ _ (by omega)).trans x1; replace x2 := (hb'.cells _ _ (by omega)).trans x2
  have zX1 : w.heap.size + 3 ≤ X1.heap.size := Nat.le_trans zX0 hb'.size
  have hX1 := hX0.trans hb'
  have hb1 := hb0.trans hb'
  clear hb'
  refine ⟨⟨hb1, m0, m1, m2, m3, m4, x0, x1, x2⟩, ?_⟩
  (try simp only [Act.put, List.setIfInBounds_toArray, List.set_cons_zero, List.set_cons_succ])
  refine wpAnyH_all (rs := [4]) (by kernel_rfl) (by simp) ?_
  intro i hi
  simp only [List.mem_cons, List.not_mem_nil, or_false] at hi
  subst hi
  refine wpOp_enter (o := { dst := some 19, op := Op.call { callee := Callee.value (Operand.func 37), args := #[Operand.tmp 17, Operand.tmp 18], argTypes := #[26, 24] }, type := 39, pos := "sets.go:43", after := #[{ on := 2, ground := Ground.data }, { on := 3, ground := Ground.data }, { on := 1, ground := Ground.chain }], guard := none }) (R := fun v w' => ∃ r A3 c3 A4 c4, v = St.val r A3 c3 A4 c4 ∧ SpP X1.heap.size w' A3 c3 r.sp ∧ StP X1.heap.size w' A4 c4 r.ws ∧ P2 r ∧ Bel X1 w') rfl (by rfl) (by go_simp; first | done | with_reducible rfl | rfl) ((C2.out X1 hb1).mono fun e w' ⟨r, ⟨A3, c3, A4, c4, h1, h2, h3, h4⟩, h5⟩ => ⟨_, h1, r, A3, c3, A4, c4, rfl, h2, h3, h5, h4⟩) ?_
  rintro v X2 ⟨r, A3, c3, A4, c4, rfl, S2, T2, HR, hb'⟩
  replace m0 := (hb'.cells _ _ (by omega)).trans m0; replace m1 := (hb'.cells _ _ (by omega)).trans m1; replace m2 := (hb'.cells _ _ (by omega)).trans m2; replace m3 := (hb'.cells _ _ (by omega)).trans m3; replace m4 := (hb'.cells _ _ (by omega)).trans m4; replace x0 := (hb'.cells _ _ (by omega)).trans x0; replace x1 := (hb'.cells _ _ (by omega)).trans x1; replace x2 := (hb'.cells _ _ (by omega)).trans x2
  have zX2 : w.heap.size + 3 ≤ X2.heap.size := Nat.le_trans zX1 hb'.size
  have hX2 := hX1.trans hb'
  have hb2 := hb1.trans hb'
  replace S1 := S1.keep hb'
  replace T1 := T1.keep hb'
  clear hb'
  refine ⟨⟨hb2, m0, m1, m2, m3, m4, x0, x1, x2⟩, ?_⟩
  (try simp only [Act.put, List.setIfInBounds_toArray, List.set_cons_zero, List.set_cons_succ])
  refine wpAnyH_all (rs := [5]) (by kernel_rfl) (by simp) ?_
  intro i hi
  simp only [List.mem_cons, List.not_mem_nil, or_false] at hi
  subst hi
  refine wpOp_enter (o := { dst := some 20, op := Op.call { callee := Callee.value (Operand.func 35), args := #[Operand.tmp 16, Operand.tmp 19], argTypes := #[39, 39] }, type := 39, pos := "sets.go:43", after := #[{ on := 1, ground := Ground.data }, { on := 4, ground := Ground.data }, { on := 4, ground := Ground.chain }], guard := none }) (R := fun v w' => ∃ q A5 c5 A6 c6, v = St.val q A5 c5 A6 c6 ∧ SpP X2.heap.size w' A5 c5 q.sp ∧ StP X2.heap.size w' A6 c6 q.ws ∧ P3 p r q ∧ Bel X2 w') rfl (by rfl) (by go_simp; first | done | with_reducible rfl | rfl) ((C3.out X2 p r A1 c1 A2 c2 A3 c3 A4 c4 HP HR (setIn_of S1 T1) (setIn_of S2 T2)).mono fun e w' ⟨q, ⟨A5, c5, A6, c6, h1, h2, h3, h4⟩, h5⟩ => ⟨_, h1, q, A5, c5, A6, c6, rfl, h2, h3, h5, h4⟩) ?_
  rintro v X3 ⟨⟨qk, qs, qa, qw, qb, qn⟩, A5, c5, A6, c6, rfl, S3, T3, HQ, hb'⟩
  simp only at S3 T3
  replace m0 := (hb'.cells _ _ (by omega)).trans m0; replace m1 := (hb'.cells _ _ (by omega)).trans m1; replace m2 := (hb'.cells _ _ (by omega)).trans m2; replace m3 := (hb'.cells _ _ (by omega)).trans m3; replace m4 := (hb'.cells _ _ (by omega)).trans m4; replace x0 := (hb'.cells _ _ (by omega)).trans x0; replace x1 := (hb'.cells _ _ (by omega)).trans x1; replace x2 := (hb'.cells _ _ (by omega)).trans x2
  have zX3 : w.heap.size + 3 ≤ X3.heap.size := Nat.le_trans zX2 hb'.size
  have hX3 := hX2.trans hb'
  have hb3 := hb2.trans hb'
  clear hb'
  refine ⟨⟨hb3, m0, m1, m2, m3, m4, x0, x1, x2⟩, ?_⟩
  (try simp only [Act.put, List.setIfInBounds_toArray, List.set_cons_zero, List.set_cons_succ])
  have HX := Lib.hid (And.intro HP (And.intro HR HQ))
  replace r0 := (hX3.cells _ _ (by omega)).trans r0; replace r1 := (hX3.cells _ _ (by omega)).trans r1; replace r2 := (hX3.cells _ _ (by omega)).trans r2; replace r3 := (hX3.cells _ _ (by omega)).trans r3; replace r4 := (hX3.cells _ _ (by omega)).trans r4; replace r5 := (hX3.cells _ _ (by omega)).trans r5; replace rf0 := (hX3.frozens _ _ (by omega)).trans rf0; replace rf1 := (hX3.frozens _ _ (by omega)).trans rf1; replace rf2 := (hX3.frozens _ _ (by omega)).trans rf2; replace rf3 := (hX3.frozens _ _ (by omega)).trans rf3; replace rf4 := (hX3.frozens _ _ (by omega)).trans rf4; replace rf5 := (hX3.frozens _ _ (by omega)).trans rf5
  refine wpAnyH_all (rs := [6]) (by kernel_rfl) (by simp) ?_
  intro i hi
  simp only [List.mem_cons, List.not_mem_nil, or_false] at hi
  subst hi
  refine wpOp_skip (o := { dst := none, op := Op.store 39 (Operand.tmp 4) (Operand.tmp 20), type := 0, pos := "sets.go:43", after := #[{ on := 5, ground := Ground.data }, { on := 5, ground := Ground.chain }, { on := 0, ground := Ground.phase }, { on := 1, ground := Ground.phase }, { on := 2, ground := Ground.phase }, { on := 3, ground := Ground.phase }, { on := 4, ground := Ground.phase }, { on := 5, ground := Ground.phase }], guard := none }) (w' := ((((((X3.setCell ⟨w.heap.size + 2, 0, none⟩ (.int .i64 qk)).setCell ⟨w.heap.size + 2, 1, none⟩ (.slice A5 qs.length c5)).setCell ⟨w.heap.size + 2, 2, none⟩ (.bool qa)).setCell ⟨w.heap.size + 2, 3, none⟩ (.slice A6 qw.length c6)).setCell ⟨w.heap.size + 2, 4, none⟩ (.int .i64 qb)).setCell ⟨w.heap.size + 2, 5, none⟩ (.bool qn))) rfl (by rfl) (by go_simp; first | done | with_reducible rfl | rfl) ?_
  have hZ : Bel w ((((((X3.setCell ⟨w.heap.size + 2, 0, none⟩ (.int .i64 qk)).setCell ⟨w.heap.size + 2, 1, none⟩ (.slice A5 qs.length c5)).setCell ⟨w.heap.size + 2, 2, none⟩ (.bool qa)).setCell ⟨w.heap.size + 2, 3, none⟩ (.slice A6 qw.length c6)).setCell ⟨w.heap.size + 2, 4, none⟩ (.int .i64 qb)).setCell ⟨w.heap.size + 2, 5, none⟩ (.bool qn)) := by
      (repeat (first | with_reducible exact Bel.refl _ | with_reducible refine Bel.setCell ?_ (by first | exact Nat.le_refl _ | (dsimp only; omega)) _ | with_reducible refine Bel.alloc ?_ _ | with_reducible refine Bel.drew ?_ | with_reducible assumption | with_reducible refine Bel.trans ?_ (by assumption)))
  replace m0 : World.cell? ((((((X3.setCell ⟨w.heap.size + 2, 0, none⟩ (.int .i64 qk)).setCell ⟨w.heap.size + 2, 1, none⟩ (.slice A5 qs.length c5)).setCell ⟨w.heap.size + 2, 2, none⟩ (.bool qa)).setCell ⟨w.heap.size + 2, 3, none⟩ (.slice A6 qw.length c6)).setCell ⟨w.heap.size + 2, 4, none⟩ (.int .i64 qb)).setCell ⟨w.heap.size + 2, 5, none⟩ (.bool qn)) ⟨w.heap.size, 0, none⟩ = some (.int .i64 K) := by simp [go_sem, m0]
  replace m1 : World.cell? ((((((X3.setCell ⟨w.heap.size + 2, 0, none⟩ (.int .i64 qk)).setCell ⟨w.heap.size + 2, 1, none⟩ (.slice A5 qs.length c5)).setCell ⟨w.heap.size + 2, 2, none⟩ (.bool qa)).setCell ⟨w.heap.size + 2, 3, none⟩ (.slice A6 qw.length c6)).setCell ⟨w.heap.size + 2, 4, none⟩ (.int .i64 qb)).setCell ⟨w.heap.size + 2, 5, none⟩ (.bool qn)) ⟨w.heap.size, 1, none⟩ = some (.int .i64 sc) := by simp [go_sem, m1]
  replace m2 : World.cell? ((((((X3.setCell ⟨w.heap.size + 2, 0, none⟩ (.int .i64 qk)).setCell ⟨w.heap.size + 2, 1, none⟩ (.slice A5 qs.length c5)).setCell ⟨w.heap.size + 2, 2, none⟩ (.bool qa)).setCell ⟨w.heap.size + 2, 3, none⟩ (.slice A6 qw.length c6)).setCell ⟨w.heap.size + 2, 4, none⟩ (.int .i64 qb)).setCell ⟨w.heap.size + 2, 5, none⟩ (.bool qn)) ⟨w.heap.size, 2, none⟩ = some (.bool any) := by simp [go_sem, m2]
  replace m3 : World.cell? ((((((X3.setCell ⟨w.heap.size + 2, 0, none⟩ (.int .i64 qk)).setCell ⟨w.heap.size + 2, 1, none⟩ (.slice A5 qs.length c5)).setCell ⟨w.heap.size + 2, 2, none⟩ (.bool qa)).setCell ⟨w.heap.size + 2, 3, none⟩ (.slice A6 qw.length c6)).setCell ⟨w.heap.size + 2, 4, none⟩ (.int .i64 qb)).setCell ⟨w.heap.size + 2, 5, none⟩ (.bool qn)) ⟨w.heap.size, 3, none⟩ = some (.bool not) := by simp [go_sem, m3]
  replace m4 : World.cell? ((((((X3.setCell ⟨w.heap.size + 2, 0, none⟩ (.int .i64 qk)).setCell ⟨w.heap.size + 2, 1, none⟩ (.slice A5 qs.length c5)).setCell ⟨w.heap.size + 2, 2, none⟩ (.bool qa)).setCell ⟨w.heap.size + 2, 3, none⟩ (.slice A6 qw.length c6)).setCell ⟨w.heap.size + 2, 4, none⟩ (.int .i64 qb)).setCell ⟨w.heap.size + 2, 5, none⟩ (.bool qn)) ⟨w.heap.size, 4, none⟩ = some (.slice A l.length c) := by simp [go_sem, m4]
  replace x0 : World.cell? ((((((X3.setCell ⟨w.heap.size + 2, 0, none⟩ (.int .i64 qk)).setCell ⟨w.heap.size + 2, 1, none⟩ (.slice A5 qs.length c5)).setCell ⟨w.heap.size + 2, 2, none⟩ (.bool qa)).setCell ⟨w.heap.size + 2, 3, none⟩ (.slice A6 qw.length c6)).setCell ⟨w.heap.size + 2, 4, none⟩ (.int .i64 qb)).setCell ⟨w.heap.size + 2, 5, none⟩ (.bool qn)) ⟨w.heap.size + 1, 0, none⟩ = some (.bool any2) := by simp [go_sem, x0]
  replace x1 : World.cell? ((((((X3.setCell ⟨w.heap.size + 2, 0, none⟩ (.int .i64 qk)).setCell ⟨w.heap.size + 2, 1, none⟩ (.slice A5 qs.length c5)).setCell ⟨w.heap.size + 2, 2, none⟩ (.bool qa)).setCell ⟨w.heap.size + 2, 3, none⟩ (.slice A6 qw.length c6)).setCell ⟨w.heap.size + 2, 4, none⟩ (.int .i64 qb)).setCell ⟨w.heap.size + 2, 5, none⟩ (.bool qn)) ⟨w.heap.size + 1, 1, none⟩ = some (.bool not2) := by simp [go_sem, x1]
  replace x2 : World.cell? ((((((X3.setCell ⟨w.heap.size + 2, 0, none⟩ (.int .i64 qk)).setCell ⟨w.heap.size + 2, 1, none⟩ (.slice A5 qs.length c5)).setCell ⟨w.heap.size + 2, 2, none⟩ (.bool qa)).setCell ⟨w.heap.size + 2, 3, none⟩ (.slice A6 qw.length c6)).setCell ⟨w.heap.size + 2, 4, none⟩ (.int .i64 qb)).setCell ⟨w.heap.size + 2, 5, none⟩ (.bool qn)) ⟨w.heap.size + 1, 2, none⟩ = some (.slice B m.length d) := by simp [go_sem, x2]
  refine ⟨⟨hZ, m0, m1, m2, m3, m4, x0, x1, x2⟩, ?_⟩
  (try simp only [Act.put, List.setIfInBounds_toArray, List.set_cons_zero, List.set_cons_succ])
  have t0 : World.cell? ((((((X3.setCell ⟨w.heap.size + 2, 0, none⟩ (.int .i64 qk)).setCell ⟨w.heap.size + 2, 1, none⟩ (.slice A5 qs.length c5)).setCell ⟨w.heap.size + 2, 2, none⟩ (.bool qa)).setCell ⟨w.heap.size + 2, 3, none⟩ (.slice A6 qw.length c6)).setCell ⟨w.heap.size + 2, 4, none⟩ (.int .i64 qb)).setCell ⟨w.heap.size + 2, 5, none⟩ (.bool qn)) ⟨w.heap.size + 2, 0, none⟩ = some (.int .i64 qk) := by simp [go_sem, r0, r1, r2, r3, r4, r5]
  have t1 : World.cell? ((((((X3.setCell ⟨w.heap.size + 2, 0, none⟩ (.int .i64 qk)).setCell ⟨w.heap.size + 2, 1, none⟩ (.slice A5 qs.length c5)).setCell ⟨w.heap.size + 2, 2, none⟩ (.bool qa)).setCell ⟨w.heap.size + 2, 3, none⟩ (.slice A6 qw.length c6)).setCell ⟨w.heap.size + 2, 4, none⟩ (.int .i64 qb)).setCell ⟨w.heap.size + 2, 5, none⟩ (.bool qn)) ⟨w.heap.size + 2, 1, none⟩ = some (.slice A5 qs.length c5) := by simp [go_sem, r0, r1, r2, r3, r4, r5]
  have t2 : World.cell? ((((((X3.setCell ⟨w.heap.size + 2, 0, none⟩ (.int .i64 qk)).setCell ⟨w.heap.size + 2, 1, none⟩ (.slice A5 qs.length c5)).setCell ⟨w.heap.size + 2, 2, none⟩ (.bool qa)).setCell ⟨w.heap.size + 2, 3, none⟩ (.slice A6 qw.length c6)).setCell ⟨w.heap.size + 2, 4, none⟩ (.int .i64 qb)).setCell ⟨w.heap.size + 2, 5, none⟩ (.bool qn)) ⟨w.heap.size + 2, 2, none⟩ = some (.bool qa) := by simp [go_sem, r0, r1, r2, r3, r4, r5]
  have t3 : World.cell? ((((((X3.setCell ⟨w.heap.size + 2, 0, none⟩ (.int .i64 qk)).setCell ⟨w.heap.size + 2, 1, none⟩ (.slice A5 qs.length c5)).setCell ⟨w.heap.size + 2, 2, none⟩ (.bool qa)).setCell ⟨w.heap.size + 2, 3, none⟩ (.slice A6 qw.length c6)).setCell ⟨w.heap.size + 2, 4, none⟩ (.int .i64 qb)).setCell ⟨w.heap.size + 2, 5, none⟩ (.bool qn)) ⟨w.heap.size + 2, 3, none⟩ = some (.slice A6 qw.length c6) := by simp [go_sem, r0, r1, r2, r3, r4, r5]
  have t4 : World.cell? ((((((X3.setCell ⟨w.heap.size + 2, 0, none⟩ (.int .i64 qk)).setCell ⟨w.heap.size + 2, 1, none⟩ (.slice A5 qs.length c5)).setCell ⟨w.heap.size + 2, 2, none⟩ (.bool qa)).setCell ⟨w.heap.size + 2, 3, none⟩ (.slice A6 qw.length c6)).setCell ⟨w.heap.size + 2, 4, none⟩ (.int .i64 qb)).setCell ⟨w.heap.size + 2, 5, none⟩ (.bool qn)) ⟨w.heap.size + 2, 4, none⟩ = some (.int .i64 qb) := by simp [go_sem, r0, r1, r2, r3, r4, r5]
  have t5 : World.cell? ((((((X3.setCell ⟨w.heap.size + 2, 0, none⟩ (.int .i64 qk)).setCell ⟨w.heap.size + 2, 1, none⟩ (.slice A5 qs.length c5)).setCell ⟨w.heap.size + 2, 2, none⟩ (.bool qa)).setCell ⟨w.heap.size + 2, 3, none⟩ (.slice A6 qw.length c6)).setCell ⟨w.heap.size + 2, 4, none⟩ (.int .i64 qb)).setCell ⟨w.heap.size + 2, 5, none⟩ (.bool qn)) ⟨w.heap.size + 2, 5, none⟩ = some (.bool qn) := by simp [go_sem, r0, r1, r2, r3, r4, r5]
  replace S3 : SpP (w.heap.size + 3) ((((((X3.setCell ⟨w.heap.size + 2, 0, none⟩ (.int .i64 qk)).setCell ⟨w.heap.size + 2, 1, none⟩ (.slice A5 qs.length c5)).setCell ⟨w.heap.size + 2, 2, none⟩ (.bool qa)).setCell ⟨w.heap.size + 2, 3, none⟩ (.slice A6 qw.length c6)).setCell ⟨w.heap.size + 2, 4, none⟩ (.int .i64 qb)).setCell ⟨w.heap.size + 2, 5, none⟩ (.bool qn)) A5 c5 qs := SpP.other (SpP.low S3 zX2) (by simp) fun k o hk => by
      have n1 : ¬ w.heap.size + 2 = k := by omega
      simp [go_sem, n1]
  replace T3 : StP (w.heap.size + 3) ((((((X3.setCell ⟨w.heap.size + 2, 0, none⟩ (.int .i64 qk)).setCell ⟨w.heap.size + 2, 1, none⟩ (.slice A5 qs.length c5)).setCell ⟨w.heap.size + 2, 2, none⟩ (.bool qa)).setCell ⟨w.heap.size + 2, 3, none⟩ (.slice A6 qw.length c6)).setCell ⟨w.heap.size + 2, 4, none⟩ (.int .i64 qb)).setCell ⟨w.heap.size + 2, 5, none⟩ (.bool qn)) A6 c6 qw := StP.other (StP.low T3 zX2) (by simp) fun k o hk => by
      have n1 : ¬ w.heap.size + 2 = k := by omega
      simp [go_sem, n1]
  generalize ((((((X3.setCell ⟨w.heap.size + 2, 0, none⟩ (.int .i64 qk)).setCell ⟨w.heap.size + 2, 1, none⟩ (.slice A5 qs.length c5)).setCell ⟨w.heap.size + 2, 2, none⟩ (.bool qa)).setCell ⟨w.heap.size + 2, 3, none⟩ (.slice A6 qw.length c6)).setCell ⟨w.heap.size + 2, 4, none⟩ (.int .i64 qb)).setCell ⟨w.heap.size + 2, 5, none⟩ (.bool qn)) = X9 at hZ t0 t1 t2 t3 t4 t5 S3 T3 m0 m1 m2 m3 m4 x0 x1 x2 ⊢
  refine wpAnyH_all (rs := [7]) (by kernel_rfl) (by simp) ?_
  intro i hi
  simp only [List.mem_cons, List.not_mem_nil, or_false] at hi
  subst hi
  refine wpOp_value (o := { dst := some 5, op := Op.assign (Operand.const (Value.int IntKind.i64 0)), type := 40, pos := "sets.go:43", after := #[{ on := 6, ground := Ground.chain }, { on := 0, ground := Ground.phase }, { on := 1, ground := Ground.phase }, { on := 2, ground := Ground.phase }, { on := 3, ground := Ground.phase }, { on := 4, ground := Ground.phase }, { on := 5, ground := Ground.phase }, { on := 6, ground := Ground.phase }], guard := none }) (v := .int .i64 0) (w' := X9) rfl (by rfl) (by go_simp; first | done | with_reducible rfl | rfl) ?_
  refine ⟨⟨hZ, m0, m1, m2, m3, m4, x0, x1, x2⟩, ?_⟩
  (try simp only [Act.put, List.setIfInBounds_toArray, List.set_cons_zero, List.set_cons_succ])
  refine wpAnyH_done (by kernel_rfl) ?_ _
  refine NoPanic.normal ?_
  have HS := Lib.hid (And.intro S3 T3)
  clear m0 m1 m2 m3 m4 x0 x1 x2 r0 rf0 r1 rf1 r2 rf2 r3 rf3 r4 rf4 r5 rf5 S3 T3 hX0 hX1 hX2 hX3 hb0 hb1 hb2 hb3 hb zW zX0 zX1 zX2 zX3 S1 S2 T1 T2 HQ HR HP C1 C2 C3
  go_wp2_with fail
  refine bodyPost_ret (by simp [results, Tryz.results14, go_sem, t0, t1, t2, t3, t4, t5]; try rfl) rfl ⟨p, r, ⟨qk, qs, qa, qw, qb, qn⟩, A5, c5, A6, c6, rfl, SpP.low HS.out.1 (Nat.le_add_right _ _), StP.low HS.out.2 (Nat.le_add_right _ _), hZ, HX.out.1, HX.out.2.1, HX.out.2.2⟩
set_option maxRecDepth 100000 in
set_option maxHeartbeats 8000000 in
theorem otherG_any (P1 : St → Prop) (P3 : St → St → Prop) (K sc : Int) (any not : Bool) (l : List Tst) (A : Option Addr) (c : Nat) (b : List Sp) (ba : Bool) (bw : List ByteArray) (bb : Int) (bn : Bool) (B : Option Addr) (d : Nat) (B2 : Option Addr) (d2 : Nat) (w : World) (hs : Tsts w A l) (hl : l.length ≤ 999) (hb0 : SetIn w B d B2 d2 ⟨K, b, ba, bw, bb, bn⟩) (ht : ∀ t ∈ l, TOk t) (hy : tysnd K sc any not l = true)
    (H1 : ∀ W, Bel w W → Calls Tryz.prog 36 #[tyv K sc any not (.slice A l.length c)] W fun e w' => ∃ q, SetOut W q e w' ∧ P1 q)
    (H3 : ∀ X s bA bc bA2 bc2, Bel w X → P1 s → SetIn X bA bc bA2 bc2 s → SetIn X B d B2 d2 ⟨K, b, ba, bw, bb, bn⟩ → Calls Tryz.prog 49 #[s.val bA bc bA2 bc2, (⟨K, b, ba, bw, bb, bn⟩ : St).val B d B2 d2] X fun e w' => ∃ q, SetOut X q e w' ∧ P3 s q) :
    Calls Tryz.prog 25 #[tyv K sc any not (.slice A l.length c), (⟨K, b, ba, bw, bb, bn⟩ : St).val B d B2 d2] w fun e w' => ∃ p q A1 c1 A2 c2, e = .returned (.tuple #[q.val A1 c1 A2 c2, .int .i64 0]) ∧ SpP w.heap.size w' A1 c1 q.sp ∧ StP w.heap.size w' A2 c2 q.ws ∧ Bel w w' ∧ P1 p ∧ P3 p q := by
  have C0 := Lib.hid fun W (hW : Bel w W) => (show Calls Tryz.prog 10 #[tyv K sc any not (.slice A l.length c)] W fun e w' => e = .returned (.bool true) ∧ Bel W w' from by
    have := tsound_any K sc any not l A c W (hs.keep hW) (by omega) ht
    rw [hy] at this
    exact this)
  have C1 := Lib.hid H1
  have C3 := Lib.hid fun X s bA bc bA2 bc2 (hX : Bel w X) h1 h2 => H3 X s bA bc bA2 bc2 hX h1 h2 (hb0.keep hX)
  clear hs hl ht hy hb0 H1 H3
  go_enter Tryz.func25, Tryz.ntmps25
  go_upto_region 1 with fail
  refine under_name (w0 := w) (by (repeat (first | with_reducible exact Bel.refl _ | with_reducible refine Bel.setCell ?_ (by first | exact Nat.le_refl _ | (dsimp only; omega)) _ | with_reducible refine Bel.alloc ?_ _ | with_reducible refine Bel.drew ?_ | with_reducible assumption | with_reducible refine Bel.trans ?_ (by assumption)))) fun V hc hf hz hbv => ?_
  have m0 : V.cell? ⟨w.heap.size, 0, none⟩ = some (.int .i64 K) := by simp [hc, go_sem]
  have m1 : V.cell? ⟨w.heap.size, 1, none⟩ = some (.int .i64 sc) := by simp [hc, go_sem]
  have m2 : V.cell? ⟨w.heap.size, 2, none⟩ = some (.bool any) := by simp [hc, go_sem]
  have m3 : V.cell? ⟨w.heap.size, 3, none⟩ = some (.bool not) := by simp [hc, go_sem]
  have m4 : V.cell? ⟨w.heap.size, 4, none⟩ = some (.slice A l.length c) := by simp [hc, go_sem]
  have x0 : V.cell? ⟨w.heap.size + 1, 0, none⟩ = some (.int .i64 K) := by simp [hc, go_sem]
  have x1 : V.cell? ⟨w.heap.size + 1, 1, none⟩ = some (.slice B b.length d) := by simp [hc, go_sem]
  have x2 : V.cell? ⟨w.heap.size + 1, 2, none⟩ = some (.bool ba) := by simp [hc, go_sem]
  have x3 : V.cell? ⟨w.heap.size + 1, 3, none⟩ = some (.slice B2 bw.length d2) := by simp [hc, go_sem]
  have x4 : V.cell? ⟨w.heap.size + 1, 4, none⟩ = some (.int .i64 bb) := by simp [hc, go_sem]
  have x5 : V.cell? ⟨w.heap.size + 1, 5, none⟩ = some (.bool bn) := by simp [hc, go_sem]
  have r0 : V.cell? ⟨w.heap.size + 2, 0, none⟩ = some (.int .i64 0) := by simp [hc, go_sem]
  have r1 : V.cell? ⟨w.heap.size + 2, 1, none⟩ = some (.slice none 0 0) := by simp [hc, go_sem]
  have r2 : V.cell? ⟨w.heap.size + 2, 2, none⟩ = some (.bool false) := by simp [hc, go_sem]
  have r3 : V.cell? ⟨w.heap.size + 2, 3, none⟩ = some (.slice none 0 0) := by simp [hc, go_sem]
  have r4 : V.cell? ⟨w.heap.size + 2, 4, none⟩ = some (.int .i64 0) := by simp [hc, go_sem]
  have r5 : V.cell? ⟨w.heap.size + 2, 5, none⟩ = some (.bool false) := by simp [hc, go_sem]
  have rf0 : V.frozen? ⟨w.heap.size + 2, 0, none⟩ = false := by simp [hf, go_sem]
  have rf1 : V.frozen? ⟨w.heap.size + 2, 1, none⟩ = false := by simp [hf, go_sem]
  have rf2 : V.frozen? ⟨w.heap.size + 2, 2, none⟩ = false := by simp [hf, go_sem]
  have rf3 : V.frozen? ⟨w.heap.size + 2, 3, none⟩ = false := by simp [hf, go_sem]
  have rf4 : V.frozen? ⟨w.heap.size + 2, 4, none⟩ = false := by simp [hf, go_sem]
  have rf5 : V.frozen? ⟨w.heap.size + 2, 5, none⟩ = false := by simp [hf, go_sem]
  have z0 : w.heap.size + 3 ≤ V.heap.size := by simp [hz]
  clear hc hf hz
  go_upto_region 5 with (go_at_call 10; (with_reducible refine Calls.mono (C0.out _ hbv) ?_); rintro e W ⟨rfl, hv1⟩; have hb := hbv.trans hv1; have zW : w.heap.size + 3 ≤ W.heap.size := (Nat.le_trans z0 hv1.size); replace m0 := (hv1.cells _ _ (by omega)).trans m0; replace m1 := (hv1.cells _ _ (by omega)).trans m1; replace m2 := (hv1.cells _ _ (by omega)).trans m2; replace m3 := (hv1.cells _ _ (by omega)).trans m3; replace m4 := (hv1.cells _ _ (by omega)).trans m4; replace x0 := (hv1.cells _ _ (by omega)).trans x0; replace x1 := (hv1.cells _ _ (by omega)).trans x1; replace x2 := (hv1.cells _ _ (by omega)).trans x2; replace x3 := (hv1.cells _ _ (by omega)).trans x3; replace x4 := (hv1.cells _ _ (by omega)).trans x4; replace x5 := (hv1.cells _ _ (by omega)).trans x5; replace r0 := (hv1.cells _ _ (by omega)).trans r0; replace r1 := (hv1.cells _ _ (by omega)).trans r1; replace r2 := (hv1.cells _ _ (by omega)).trans r2; replace r3 := (hv1.cells _ _ (by omega)).trans r3; replace r4 := (hv1.cells _ _ (by omega)).trans r4; replace r5 := (hv1.cells _ _ (by omega)).trans r5; replace rf0 := (hv1.frozens _ _ (by omega)).trans rf0; replace rf1 := (hv1.frozens _ _ (by omega)).trans rf1; replace rf2 := (hv1.frozens _ _ (by omega)).trans rf2; replace rf3 := (hv1.frozens _ _ (by omega)).trans rf3; replace rf4 := (hv1.frozens _ _ (by omega)).trans rf4; replace rf5 := (hv1.frozens _ _ (by omega)).trans rf5)
  clear hv1 hbv z0 C0
  refine wp_region_noPanic ?_
  refine wp_region_held (S := fun X => Bel w X ∧ X.cell? ⟨w.heap.size, 0, none⟩ = some (.int .i64 K) ∧ X.cell? ⟨w.heap.size, 1, none⟩ = some (.int .i64 sc) ∧ X.cell? ⟨w.heap.size, 2, none⟩ = some (.bool any) ∧ X.cell? ⟨w.heap.size, 3, none⟩ = some (.bool not) ∧ X.cell? ⟨w.heap.size, 4, none⟩ = some (.slice A l.length c) ∧ X.cell? ⟨w.heap.size + 1, 0, none⟩ = some (.int .i64 K) ∧ X.cell? ⟨w.heap.size + 1, 1, none⟩ = some (.slice B b.length d) ∧ X.cell? ⟨w.heap.size + 1, 2, none⟩ = some (.bool ba) ∧ X.cell? ⟨w.heap.size + 1, 3, none⟩ = some (.slice B2 bw.length d2) ∧ X.cell? ⟨w.heap.size + 1, 4, none⟩ = some (.int .i64 bb) ∧ X.cell? ⟨w.heap.size + 1, 5, none⟩ = some (.bool bn)) (by kernel_rfl) ?_
  have hX0 : Bel W { W with drawn := W.drawn + 1 } := (Bel.refl W).drew
  generalize { W with drawn := W.drawn + 1 } = X0 at hX0 ⊢
  replace m0 := (hX0.cells _ _ (by omega)).trans m0; replace m1 := (hX0.cells _ _ (by omega)).trans m1; replace m2 := (hX0.cells _ _ (by omega)).trans m2; replace m3 := (hX0.cells _ _ (by omega)).trans m3; replace m4 := (hX0.cells _ _ (by omega)).trans m4; replace x0 := (hX0.cells _ _ (by omega)).trans x0; replace x1 := (hX0.cells _ _ (by omega)).trans x1; replace x2 := (hX0.cells _ _ (by omega)).trans x2; replace x3 := (hX0.cells _ _ (by omega)).trans x3; replace x4 := (hX0.cells _ _ (by omega)).trans x4; replace x5 := (hX0.cells _ _ (by omega)).trans x5
  have zX0 : w.heap.size + 3 ≤ X0.heap.size := Nat.le_trans zW hX0.size
  have hb0 := hb.trans hX0
  refine wpAnyH_take (i := 0) (oi := { dst := some 16, op := Op.load 26 (Operand.tmp 2), type := 26, pos := "sets.go:73", after := #[], guard := none }) (v := (tyv K sc any not (.slice A l.length c))) rfl (by kernel_rfl) (by kernel_rfl) (by kernel_rfl) (fun _ _ _ h => h) (.inl ⟨by rfl, fun X hS => by
      obtain ⟨_, k0, k1, k2, k3, k4, k5, k6, k7, k8, k9, k10⟩ := hS
      go_simp; first | done | with_reducible rfl | rfl⟩) ⟨hb0, m0, m1, m2, m3, m4, x0, x1, x2, x3, x4, x5⟩ ?_
  (try simp only [Act.put, List.setIfInBounds_toArray, List.set_cons_zero, List.set_cons_succ])
  refine wpAnyH_take (i := 2) (oi := { dst := some 18, op := Op.load 39 (Operand.tmp 3), type := 39, pos := "sets.go:73", after := #[], guard := none }) (v := ((⟨K, b, ba, bw, bb, bn⟩ : St).val B d B2 d2)) rfl (by kernel_rfl) (by kernel_rfl) (by kernel_rfl) (fun _ _ _ h => h) (.inl ⟨by rfl, fun X hS => by
      obtain ⟨_, k0, k1, k2, k3, k4, k5, k6, k7, k8, k9, k10⟩ := hS
      go_simp; first | done | with_reducible rfl | rfl⟩) ⟨hb0, m0, m1, m2, m3, m4, x0, x1, x2, x3, x4, x5⟩ ?_
  (try simp only [Act.put, List.setIfInBounds_toArray, List.set_cons_zero, List.set_cons_succ])
  refine wpAnyH_all (rs := [1]) (by kernel_rfl) (by simp) ?_
  intro i hi
  simp only [List.mem_cons, List.not_mem_nil, or_false] at hi
  subst hi
  refine wpOp_enter (o := { dst := some 17, op := Op.call { callee := Callee.value (Operand.func 36), args := #[Operand.tmp 16], argTypes := #[26] }, type := 39, pos := "sets.go:73", after := #[{ on := 0, ground := Ground.data }], guard := none }) (R := fun v w' => ∃ p A1 c1 A2 c2, v = St.val p A1 c1 A2 c2 ∧ SpP X0.heap.size w' A1 c1 p.sp ∧ StP X0.heap.size w' A2 c2 p.ws ∧ P1 p ∧ Bel X0 w') rfl (by rfl) (by go_simp; first | done | with_reducible rfl | rfl) ((C1.out X0 hb0).mono fun e w' ⟨p, ⟨A1, c1, A2, c2, h1, h2, h3, h4⟩, h5⟩ => ⟨_, h1, p, A1, c1, A2, c2, rfl, h2, h3, h5, h4⟩) ?_
  rintro v X1 ⟨p, A1, c1, A2, c2, rfl, S1, T1, HP, hb'⟩
  replace m0 := (hb'.cells _ _ (by omega)).trans m0; replace m1 := (hb'.cells _ _ (by omega)).trans m1; replace m2 := (hb'.cells _ _ (by omega)).trans m2; replace m3 := (hb'.cells _ _ (by omega)).trans m3; replace m4 := (hb'.cells _ _ (by omega)).trans m4; replace x0 := (hb'.cells _ _ (by omega)).trans x0; replace x1 := (hb'.cells _ _ (by omega)).trans x1; replace x2 := (hb'.cells _ _ (by omega)).trans x2; replace x3 := (hb'.cells _ _ (by omega)).trans x3; replace x4 := (hb'.cells _ _ (by omega)).trans x4; replace x5 := (hb'.cells _ _ (by omega)).trans x5
  have zX1 : w.heap.size + 3 ≤ X1.heap.size := Nat.le_trans zX0 hb'.size
  have hX1 := hX0.trans hb'
  have hb1 := hb0.trans hb'
  clear hb'
  refine ⟨⟨hb1, m0, m1, m2, m3, m4, x0, x1, x2, x3, x4, x5⟩, ?_⟩
  (try simp only [Act.put, List.setIfInBounds_toArray, List.set_cons_zero, List.set_cons_succ])
  refine wpAnyH_all (rs := [3]) (by kernel_rfl) (by simp) ?_
  intro i hi
  simp only [List.mem_cons, List.not_mem_nil, or_false] at hi
  subst hi
  refine wpOp_enter (o := { dst := some 19, op := Op.call { callee := Callee.value (Operand.func 49), args := #[Operand.tmp 17, Operand.tmp 18], argTypes := #[39, 39] }, type := 39, pos := "sets.go:73", after := #[{ on := 1, ground := Ground.data }, { on := 2, ground := Ground.data }, { on := 1, ground := Ground.chain }], guard := none }) (R := fun v w' => ∃ q A5 c5 A6 c6, v = St.val q A5 c5 A6 c6 ∧ SpP X1.heap.size w' A5 c5 q.sp ∧ StP X1.heap.size w' A6 c6 q.ws ∧ P3 p q ∧ Bel X1 w') rfl (by rfl) (by go_simp; first | done | with_reducible rfl | rfl) ((C3.out X1 p A1 c1 A2 c2 hb1 HP (setIn_of S1 T1)).mono fun e w' ⟨q, ⟨A5, c5, A6, c6, h1, h2, h3, h4⟩, h5⟩ => ⟨_, h1, q, A5, c5, A6, c6, rfl, h2, h3, h5, h4⟩) ?_
  rintro v X2 ⟨⟨qk, qs, qa, qw, qb, qn⟩, A5, c5, A6, c6, rfl, S3, T3, HQ, hb'⟩
  simp only at S3 T3
  replace m0 := (hb'.cells _ _ (by omega)).trans m0; replace m1 := (hb'.cells _ _ (by omega)).trans m1; replace m2 := (hb'.cells _ _ (by omega)).trans m2; replace m3 := (hb'.cells _ _ (by omega)).trans m3; replace m4 := (hb'.cells _ _ (by omega)).trans m4; replace x0 := (hb'.cells _ _ (by omega)).trans x0; replace x1 := (hb'.cells _ _ (by omega)).trans x1; replace x2 := (hb'.cells _ _ (by omega)).trans x2; replace x3 := (hb'.cells _ _ (by omega)).trans x3; replace x4 := (hb'.cells _ _ (by omega)).trans x4; replace x5 := (hb'.cells _ _ (by omega)).trans x5
  have zX2 : w.heap.size + 3 ≤ X2.heap.size := Nat.le_trans zX1 hb'.size
  have hX2 := hX1.trans hb'
  have hb2 := hb1.trans hb'
  clear hb'
  refine ⟨⟨hb2, m0, m1, m2, m3, m4, x0, x1, x2, x3, x4, x5⟩, ?_⟩
  (try simp only [Act.put, List.setIfInBounds_toArray, List.set_cons_zero, List.set_cons_succ])
  have HX := Lib.hid (And.intro HP HQ)
  replace r0 := (hX2.cells _ _ (by omega)).trans r0; replace r1 := (hX2.cells _ _ (by omega)).trans r1; replace r2 := (hX2.cells _ _ (by omega)).trans r2; replace r3 := (hX2.cells _ _ (by omega)).trans r3; replace r4 := (hX2.cells _ _ (by omega)).trans r4; replace r5 := (hX2.cells _ _ (by omega)).trans r5; replace rf0 := (hX2.frozens _ _ (by omega)).trans rf0; replace rf1 := (hX2.frozens _ _ (by omega)).trans rf1; replace rf2 := (hX2.frozens _ _ (by omega)).trans rf2; replace rf3 := (hX2.frozens _ _ (by omega)).trans rf3; replace rf4 := (hX2.frozens _ _ (by omega)).trans rf4; replace rf5 := (hX2.frozens _ _ (by omega)).trans rf5
  refine wpAnyH_all (rs := [4]) (by kernel_rfl) (by simp) ?_
  intro i hi
  simp only [List.mem_cons, List.not_mem_nil, or_false] at hi
  subst hi
  refine wpOp_skip (o := { dst := none, op := Op.store 39 (Operand.tmp 4) (Operand.tmp 19), type := 0, pos := "sets.go:73", after := #[{ on := 3, ground := Ground.data }, { on := 3, ground := Ground.chain }, { on := 0, ground := Ground.phase }, { on := 1, ground := Ground.phase }, { on := 2, ground := Ground.phase }, { on := 3, ground := Ground.phase }], guard := none }) (w' := ((((((X2.setCell ⟨w.heap.size + 2, 0, none⟩ (.int .i64 qk)).setCell ⟨w.heap.size + 2, 1, none⟩ (.slice A5 qs.length c5)).setCell ⟨w.heap.size + 2, 2, none⟩ (.bool qa)).setCell ⟨w.heap.size + 2, 3, none⟩ (.slice A6 qw.length c6)).setCell ⟨w.heap.size + 2, 4, none⟩ (.int .i64 qb)).setCell ⟨w.heap.size + 2, 5, none⟩ (.bool qn))) rfl (by rfl) (by go_simp; first | done | with_reducible rfl | rfl) ?_
  have hZ : Bel w ((((((X2.setCell ⟨w.heap.size + 2, 0, none⟩ (.int .i64 qk)).setCell ⟨w.heap.size + 2, 1, none⟩ (.slice A5 qs.length c5)).setCell ⟨w.heap.size + 2, 2, none⟩ (.bool qa)).setCell ⟨w.heap.size + 2, 3, none⟩ (.slice A6 qw.length c6)).setCell ⟨w.heap.size + 2, 4, none⟩ (.int .i64 qb)).setCell ⟨w.heap.size + 2, 5, none⟩ (.bool qn)) := by
      (repeat (first | with_reducible exact Bel.refl _ | with_reducible refine Bel.setCell ?_ (by first | exact Nat.le_refl _ | (dsimp only; omega)) _ | with_reducible refine Bel.alloc ?_ _ | with_reducible refine Bel.drew ?_ | with_reducible assumption | with_reducible refine Bel.trans ?_ (by assumption)))
  replace m0 : World.cell? ((((((X2.setCell ⟨w.heap.size + 2, 0, none⟩ (.int .i64 qk)).setCell ⟨w.heap.size + 2, 1, none⟩ (.slice A5 qs.length c5)).setCell ⟨w.heap.size + 2, 2, none⟩ (.bool qa)).setCell ⟨w.heap.size + 2, 3, none⟩ (.slice A6 qw.length c6)).setCell ⟨w.heap.size + 2, 4, none⟩ (.int .i64 qb)).setCell ⟨w.heap.size + 2, 5, none⟩ (.bool qn)) ⟨w.heap.size, 0, none⟩ = some (.int .i64 K) := by simp [go_sem, m0]
  replace m1 : World.cell? ((((((X2.setCell ⟨w.heap.size + 2, 0, none⟩ (.int .i64 qk)).setCell ⟨w.heap.size + 2, 1, none⟩ (.slice A5 qs.length c5)).setCell ⟨w.heap.size + 2, 2, none⟩ (.bool qa)).setCell ⟨w.heap.size + 2, 3, none⟩ (.slice A6 qw.length c6)).setCell ⟨w.heap.size + 2, 4, none⟩ (.int .i64 qb)).setCell ⟨w.heap.size + 2, 5, none⟩ (.bool qn)) ⟨w.heap.size, 1, none⟩ = some (.int .i64 sc) := by simp [go_sem, m1]
  replace m2 : World.cell? ((((((X2.setCell ⟨w.heap.size + 2, 0, none⟩ (.int .i64 qk)).setCell ⟨w.heap.size + 2, 1, none⟩ (.slice A5 qs.length c5)).setCell ⟨w.heap.size + 2, 2, none⟩ (.bool qa)).setCell ⟨w.heap.size + 2, 3, none⟩ (.slice A6 qw.length c6)).setCell ⟨w.heap.size + 2, 4, none⟩ (.int .i64 qb)).setCell ⟨w.heap.size + 2, 5, none⟩ (.bool qn)) ⟨w.heap.size, 2, none⟩ = some (.bool any) := by simp [go_sem, m2]
  replace m3 : World.cell? ((((((X2.setCell ⟨w.heap.size + 2, 0, none⟩ (.int .i64 qk)).setCell ⟨w.heap.size + 2, 1, none⟩ (.slice A5 qs.length c5)).setCell ⟨w.heap.size + 2, 2, none⟩ (.bool qa)).setCell ⟨w.heap.size + 2, 3, none⟩ (.slice A6 qw.length c6)).setCell ⟨w.heap.size + 2, 4, none⟩ (.int .i64 qb)).setCell ⟨w.heap.size + 2, 5, none⟩ (.bool qn)) ⟨w.heap.size, 3, none⟩ = some (.bool not) := by simp [go_sem, m3]
  replace m4 : World.cell? ((((((X2.setCell ⟨w.heap.size + 2, 0, none⟩ (.int .i64 qk)).setCell ⟨w.heap.size + 2, 1, none⟩ (.slice A5 qs.length c5)).setCell ⟨w.heap.size + 2, 2, none⟩ (.bool qa)).setCell ⟨w.heap.size + 2, 3, none⟩ (.slice A6 qw.length c6)).setCell ⟨w.heap.size + 2, 4, none⟩ (.int .i64 qb)).setCell ⟨w.heap.size + 2, 5, none⟩ (.bool qn)) ⟨w.heap.size, 4, none⟩ = some (.slice A l.length c) := by simp [go_sem, m4]
  replace x0 : World.cell? ((((((X2.setCell ⟨w.heap.size + 2, 0, none⟩ (.int .i64 qk)).setCell ⟨w.heap.size + 2, 1, none⟩ (.slice A5 qs.length c5)).setCell ⟨w.heap.size + 2, 2, none⟩ (.bool qa)).setCell ⟨w.heap.size + 2, 3, none⟩ (.slice A6 qw.length c6)).setCell ⟨w.heap.size + 2, 4, none⟩ (.int .i64 qb)).setCell ⟨w.heap.size + 2, 5, none⟩ (.bool qn)) ⟨w.heap.size + 1, 0, none⟩ = some (.int .i64 K) := by simp [go_sem, x0]
  replace x1 : World.cell? ((((((X2.setCell ⟨w.heap.size + 2, 0, none⟩ (.int .i64 qk)).setCell ⟨w.heap.size + 2, 1, none⟩ (.slice A5 qs.length c5)).setCell ⟨w.heap.size + 2, 2, none⟩ (.bool qa)).setCell ⟨w.heap.size + 2, 3, none⟩ (.slice A6 qw.length c6)).setCell ⟨w.heap.size + 2, 4, none⟩ (.int .i64 qb)).setCell ⟨w.heap.size + 2, 5, none⟩ (.bool qn)) ⟨w.heap.size + 1, 1, none⟩ = some (.slice B b.length d) := by simp [go_sem, x1]
  replace x2 : World.cell? ((((((X2.setCell ⟨w.heap.size + 2, 0, none⟩ (.int .i64 qk)).setCell ⟨w.heap.size + 2, 1, none⟩ (.slice A5 qs.length c5)).setCell ⟨w.heap.size + 2, 2, none⟩ (.bool qa)).setCell ⟨w.heap.size + 2, 3, none⟩ (.slice A6 qw.length c6)).setCell ⟨w.heap.size + 2, 4, none⟩ (.int .i64 qb)).setCell ⟨w.heap.size + 2, 5, none⟩ (.bool qn)) ⟨w.heap.size + 1, 2, none⟩ = some (.bool ba) := by simp [go_sem, x2]
  replace x3 : World.cell? ((((((X2.setCell ⟨w.heap.size + 2, 0, none⟩ (.int .i64 qk)).setCell ⟨w.heap.size + 2, 1, none⟩ (.slice A5 qs.length c5)).setCell ⟨w.heap.size + 2, 2, none⟩ (.bool qa)).setCell ⟨w.heap.size + 2, 3, none⟩ (.slice A6 qw.length c6)).setCell ⟨w.heap.size + 2, 4, none⟩ (.int .i64 qb)).setCell ⟨w.heap.size + 2, 5, none⟩ (.bool qn)) ⟨w.heap.size + 1, 3, none⟩ = some (.slice B2 bw.length d2) := by simp [go_sem, x3]
  replace x4 : World.cell? ((((((X2.setCell ⟨w.heap.size + 2, 0, none⟩ (.int .i64 qk)).setCell ⟨w.heap.size + 2, 1, none⟩ (.slice A5 qs.length c5)).setCell ⟨w.heap.size + 2, 2, none⟩ (.bool qa)).setCell ⟨w.heap.size + 2, 3, none⟩ (.slice A6 qw.length c6)).setCell ⟨w.heap.size + 2, 4, none⟩ (.int .i64 qb)).setCell ⟨w.heap.size + 2, 5, none⟩ (.bool qn)) ⟨w.heap.size + 1, 4, none⟩ = some (.int .i64 bb) := by simp [go_sem, x4]
  replace x5 : World.cell? ((((((X2.setCell ⟨w.heap.size + 2, 0, none⟩ (.int .i64 qk)).setCell ⟨w.heap.size + 2, 1, none⟩ (.slice A5 qs.length c5)).setCell ⟨w.heap.size + 2, 2, none⟩ (.bool qa)).setCell ⟨w.heap.size + 2, 3, none⟩ (.slice A6 qw.length c6)).setCell ⟨w.heap.size + 2, 4, none⟩ (.int .i64 qb)).setCell ⟨w.heap.size + 2, 5, none⟩ (.bool qn)) ⟨w.heap.size + 1, 5, none⟩ = some (.bool bn) := by simp [go_sem, x5]
  refine ⟨⟨hZ, m0, m1, m2, m3, m4, x0, x1, x2, x3, x4, x5⟩, ?_⟩
  (try simp only [Act.put, List.setIfInBounds_toArray, List.set_cons_zero, List.set_cons_succ])
  have t0 : World.cell? ((((((X2.setCell ⟨w.heap.size + 2, 0, none⟩ (.int .i64 qk)).setCell ⟨w.heap.size + 2, 1, none⟩ (.slice A5 qs.length c5)).setCell ⟨w.heap.size + 2, 2, none⟩ (.bool qa)).setCell ⟨w.heap.size + 2, 3, none⟩ (.slice A6 qw.length c6)).setCell ⟨w.heap.size + 2, 4, none⟩ (.int .i64 qb)).setCell ⟨w.heap.size + 2, 5, none⟩ (.bool qn)) ⟨w.heap.size + 2, 0, none⟩ = some (.int .i64 qk) := by simp [go_sem, r0, r1, r2, r3, r4, r5]
  have t1 : World.cell? ((((((X2.setCell ⟨w.heap.size + 2, 0, none⟩ (.int .i64 qk)).setCell ⟨w.heap.size + 2, 1, none⟩ (.slice A5 qs.length c5)).setCell ⟨w.heap.size + 2, 2, none⟩ (.bool qa)).setCell ⟨w.heap.size + 2, 3, none⟩ (.slice A6 qw.length c6)).setCell ⟨w.heap.size + 2, 4, none⟩ (.int .i64 qb)).setCell ⟨w.heap.size + 2, 5, none⟩ (.bool qn)) ⟨w.heap.size + 2, 1, none⟩ = some (.slice A5 qs.length c5) := by simp [go_sem, r0, r1, r2, r3, r4, r5]
  have t2 : World.cell? ((((((X2.setCell ⟨w.heap.size + 2, 0, none⟩ (.int .i64 qk)).setCell ⟨w.heap.size + 2, 1, none⟩ (.slice A5 qs.length c5)).setCell ⟨w.heap.size + 2, 2, none⟩ (.bool qa)).setCell ⟨w.heap.size + 2, 3, none⟩ (.slice A6 qw.length c6)).setCell ⟨w.heap.size + 2, 4, none⟩ (.int .i64 qb)).setCell ⟨w.heap.size + 2, 5, none⟩ (.bool qn)) ⟨w.heap.size + 2, 2, none⟩ = some (.bool qa) := by simp [go_sem, r0, r1, r2, r3, r4, r5]
  have t3 : World.cell? ((((((X2.setCell ⟨w.heap.size + 2, 0, none⟩ (.int .i64 qk)).setCell ⟨w.heap.size + 2, 1, none⟩ (.slice A5 qs.length c5)).setCell ⟨w.heap.size + 2, 2, none⟩ (.bool qa)).setCell ⟨w.heap.size + 2, 3, none⟩ (.slice A6 qw.length c6)).setCell ⟨w.heap.size + 2, 4, none⟩ (.int .i64 qb)).setCell ⟨w.heap.size + 2, 5, none⟩ (.bool qn)) ⟨w.heap.size + 2, 3, none⟩ = some (.slice A6 qw.length c6) := by simp [go_sem, r0, r1, r2, r3, r4, r5]
  have t4 : World.cell? ((((((X2.setCell ⟨w.heap.size + 2, 0, none⟩ (.int .i64 qk)).setCell ⟨w.heap.size + 2, 1, none⟩ (.slice A5 qs.length c5)).setCell ⟨w.heap.size + 2, 2, none⟩ (.bool qa)).setCell ⟨w.heap.size + 2, 3, none⟩ (.slice A6 qw.length c6)).setCell ⟨w.heap.size + 2, 4, none⟩ (.int .i64 qb)).setCell ⟨w.heap.size + 2, 5, none⟩ (.bool qn)) ⟨w.heap.size + 2, 4, none⟩ = some (.int .i64 qb) := by simp [go_sem, r0, r1, r2, r3, r4, r5]
  have t5 : World.cell? ((((((X2.setCell ⟨w.heap.size + 2, 0, none⟩ (.int .i64 qk)).setCell ⟨w.heap.size + 2, 1, none⟩ (.slice A5 qs.length c5)).setCell ⟨w.heap.size + 2, 2, none⟩ (.bool qa)).setCell ⟨w.heap.size + 2, 3, none⟩ (.slice A6 qw.length c6)).setCell ⟨w.heap.size + 2, 4, none⟩ (.int .i64 qb)).setCell ⟨w.heap.size + 2, 5, none⟩ (.bool qn)) ⟨w.heap.size + 2, 5, none⟩ = some (.bool qn) := by simp [go_sem, r0, r1, r2, r3, r4, r5]
  replace S3 : SpP (w.heap.size + 3) ((((((X2.setCell ⟨w.heap.size + 2, 0, none⟩ (.int .i64 qk)).setCell ⟨w.heap.size + 2, 1, none⟩ (.slice A5 qs.length c5)).setCell ⟨w.heap.size + 2, 2, none⟩ (.bool qa)).setCell ⟨w.heap.size + 2, 3, none⟩ (.slice A6 qw.length c6)).setCell ⟨w.heap.size + 2, 4, none⟩ (.int .i64 qb)).setCell ⟨w.heap.size + 2, 5, none⟩ (.bool qn)) A5 c5 qs := SpP.other (SpP.low S3 zX1) (by simp) fun k o hk => by
      have n1 : ¬ w.heap.size + 2 = k := by omega
      simp [go_sem, n1]
  replace T3 : StP (w.heap.size + 3) ((((((X2.setCell ⟨w.heap.size + 2, 0, none⟩ (.int .i64 qk)).setCell ⟨w.heap.size + 2, 1, none⟩ (.slice A5 qs.length c5)).setCell ⟨w.heap.size + 2, 2, none⟩ (.bool qa)).setCell ⟨w.heap.size + 2, 3, none⟩ (.slice A6 qw.length c6)).setCell ⟨w.heap.size + 2, 4, none⟩ (.int .i64 qb)).setCell ⟨w.heap.size + 2, 5, none⟩ (.bool qn)) A6 c6 qw := StP.other (StP.low T3 zX1) (by simp) fun k o hk => by
      have n1 : ¬ w.heap.size + 2 = k := by omega
      simp [go_sem, n1]
  generalize ((((((X2.setCell ⟨w.heap.size + 2, 0, none⟩ (.int .i64 qk)).setCell ⟨w.heap.size + 2, 1, none⟩ (.slice A5 qs.length c5)).setCell ⟨w.heap.size + 2, 2, none⟩ (.bool qa)).setCell ⟨w.heap.size + 2, 3, none⟩ (.slice A6 qw.length c6)).setCell ⟨w.heap.size + 2, 4, none⟩ (.int .i64 qb)).setCell ⟨w.heap.size + 2, 5, none⟩ (.bool qn)) = X9 at hZ t0 t1 t2 t3 t4 t5 S3 T3 m0 m1 m2 m3 m4 x0 x1 x2 x3 x4 x5 ⊢
  refine wpAnyH_all (rs := [5]) (by kernel_rfl) (by simp) ?_
  intro i hi
  simp only [List.mem_cons, List.not_mem_nil, or_false] at hi
  subst hi
  refine wpOp_value (o := { dst := some 5, op := Op.assign (Operand.const (Value.int IntKind.i64 0)), type := 40, pos := "sets.go:73", after := #[{ on := 4, ground := Ground.chain }, { on := 0, ground := Ground.phase }, { on := 1, ground := Ground.phase }, { on := 2, ground := Ground.phase }, { on := 3, ground := Ground.phase }, { on := 4, ground := Ground.phase }], guard := none }) (v := .int .i64 0) (w' := X9) rfl (by rfl) (by go_simp; first | done | with_reducible rfl | rfl) ?_
  refine ⟨⟨hZ, m0, m1, m2, m3, m4, x0, x1, x2, x3, x4, x5⟩, ?_⟩
  (try simp only [Act.put, List.setIfInBounds_toArray, List.set_cons_zero, List.set_cons_succ])
  refine wpAnyH_done (by kernel_rfl) ?_ _
  refine NoPanic.normal ?_
  have HS := Lib.hid (And.intro S3 T3)
  clear m0 m1 m2 m3 m4 x0 x1 x2 x3 x4 x5 r0 rf0 r1 rf1 r2 rf2 r3 rf3 r4 rf4 r5 rf5 S3 T3 hX0 hX1 hX2 hb0 hb1 hb2 hb zW zX0 zX1 zX2 S1 T1 HQ HP C1 C3
  go_wp2_with fail
  refine bodyPost_ret (by simp [results, Tryz.results25, go_sem, t0, t1, t2, t3, t4, t5]; try rfl) rfl ⟨p, ⟨qk, qs, qa, qw, qb, qn⟩, A5, c5, A6, c6, rfl, SpP.low HS.out.1 (Nat.le_add_right _ _), StP.low HS.out.2 (Nat.le_add_right _ _), hZ, HX.out.1, HX.out.2⟩
end Go.Proofs.YtpmmbcobjibpeaaGreatDoor
namespace Go.Proofs.YtpmmbcobjibpeaaGreatDoor
set_option linter.unusedSimpArgs false
set_option linter.unusedVariables false
open Go.RowKit Go.Lib Go.Deep
attribute [local go_sem ↓] eql_val neq_val

/-! Sets: Empty, of texts and truths; Has. -/
set_option maxRecDepth 100000 in
set_option maxHeartbeats 4000000 in
theorem emptyT_any (p : List Sp) (al : Bool) (ws : List ByteArray) (bo : Int) (nu : Bool) (A1 : Option Addr) (c1 : Nat) (A2 : Option Addr) (c2 : Nat) (w : World) (hS : Strs w A2 ws) (hl : ws.length ≤ 9223372036854775807) (hr : ∀ s ∈ ws, Fits s) :
    Calls Tryz.prog 24 #[(⟨2, p, al, ws, bo, nu⟩ : St).val A1 c1 A2 c2] w fun e w' => e = .returned (.bool (!nu && emptyw al ws)) ∧ Bel w w' := by
  have C1 := Lib.hid fun W => known_any 2 W
  have hk : knd 2 = true := rfl
  rw [hk] at C1
  have C2 := Lib.hid fun W (hW : Bel w W) => empty_any al ws A2 c2 W (hS.keep hW) hl hr
  clear hS hl hr
  generalize emptyw al ws = R at C2 ⊢
  cases nu with
  | true =>
    go_enter Tryz.func24, Tryz.ntmps24
    go_wp2_with (go_at_call 29; (with_reducible refine Calls.mono (C1.out _) ?_); rintro e W1 ⟨rfl, hb1⟩; have hbX := ((Bel.refl w).alloc _).trans hb1)
    go_ret
    exact ⟨rfl, hbX⟩
  | false =>
    go_enter Tryz.func24, Tryz.ntmps24
    go_wp2_with (go_at_call 48; refine (C2.out _ ((Bel.refl w).alloc _)).mono ?_; rintro e W1 ⟨rfl, hb1⟩; have hbX := ((Bel.refl w).alloc _).trans hb1)
    go_ret
    exact ⟨rfl, hbX⟩
set_option maxRecDepth 100000 in
set_option maxHeartbeats 4000000 in
theorem emptyB_any (p : List Sp) (al : Bool) (ws : List ByteArray) (bo : Int) (nu : Bool) (A1 : Option Addr) (c1 : Nat) (A2 : Option Addr) (c2 : Nat) (w : World) :
    Calls Tryz.prog 24 #[(⟨3, p, al, ws, bo, nu⟩ : St).val A1 c1 A2 c2] w fun e w' => e = .returned (.bool (!nu && (bits BinOp.and IntKind.i64 bo 3 == 0))) ∧ Bel w w' := by
  have C1 := Lib.hid fun W => known_any 3 W
  have hk : knd 3 = true := rfl
  rw [hk] at C1
  cases nu with
  | true =>
    go_enter Tryz.func24, Tryz.ntmps24
    go_wp2_with (go_at_call 29; (with_reducible refine Calls.mono (C1.out _) ?_); rintro e W1 ⟨rfl, hb1⟩; have hbX := ((Bel.refl w).alloc _).trans hb1)
    go_ret
    exact ⟨rfl, hbX⟩
  | false =>
    go_enter Tryz.func24, Tryz.ntmps24
    go_wp2_with fail
    go_ret
    refine ⟨?_, ?_⟩
    · first
        | rfl
        | simp
    · (repeat (first | with_reducible exact Bel.refl _ | with_reducible refine Bel.setCell ?_ (by first | exact Nat.le_refl _ | (dsimp only; omega)) _ | with_reducible refine Bel.alloc ?_ _ | with_reducible refine Bel.drew ?_ | with_reducible assumption | with_reducible refine Bel.trans ?_ (by assumption)))
/-- Is a sound value of the type in a set? -/
def hasV (s : St) (sc : Int) (v : Val) : Bool :=
  if v.kind = 1 ∨ v.kind = 4 then smemB s.sp (unP sc v).1 else if v.kind = 2 then hasw s.all s.ws v.text else if v.kind = 3 then !(bits BinOp.and IntKind.i64 s.bools (bitV v) == 0) else s.nul
def hasT (k sc : Int) (any not : Bool) (l : List Tst) (s : St) (v : Val) : Bool := decide (s.kind = k) && (inT k sc any not l v && hasV s sc v)
set_option maxRecDepth 100000 in
set_option maxHeartbeats 8000000 in
theorem shas_any (k sc : Int) (any not : Bool) (l : List Tst) (A : Option Addr) (c : Nat) (s : St) (B : Option Addr) (d : Nat) (B2 : Option Addr) (d2 : Nat) (v : Val) (w : World) (hs : Tsts w A l) (hl : l.length ≤ 9223372036854775807) (ht : ∀ t ∈ l, TOk t) (hv : v.text.size ≤ 9223372036854775807)
    (hB : SetIn w B d B2 d2 s) (hp : s.sp.length ≤ 1000000) (hq : s.ws.length ≤ 9223372036854775807) :
    Calls Tryz.prog 28 #[tyv k sc any not (.slice A l.length c), s.val B d B2 d2, v.val] w fun e w' => e = .returned (.bool (hasT k sc any not l s v)) ∧ Bel w w' := by
  have C1 := Lib.hid fun W (hW : Bel w W) => tin_any k sc any not l A c v W (hs.keep hW) hl ht hv
  have C2 := Lib.hid fun W => unit_any k sc any not A l.length c v W
  have C3 := Lib.hid fun W n (hW : Bel w W) => has_any (.slice B s.sp.length d) s.sp n W (hB.1.keep hW) hp
  have C4 := Lib.hid fun W (hW : Bel w W) => whas_any s.all s.ws B2 d2 v.text W (hB.2.1.keep hW) hq hv
  have C5 := Lib.hid fun W h => bit_any v h W
  have hT := Lib.hid (show hasT k sc any not l s v = (decide (s.kind = k) && (inT k sc any not l v && hasV s sc v)) from rfl)
  have hN : inT k sc any not l v = true → v.kind = 3 → v.num = 0 ∨ v.num = 1 := fun h h3 => by
    have hvs : vsnd v = true := by
      unfold inT at h
      simp only [Bool.and_eq_true] at h
      exact h.1.2
    unfold vsnd at hvs
    rw [if_neg (by omega), if_neg (by omega), if_neg (by omega), if_pos h3] at hvs
    simp only [Bool.and_eq_true, Bool.or_eq_true, decide_eq_true_eq] at hvs
    exact hvs.2
  generalize hasT k sc any not l s v = R at hT ⊢
  generalize inT k sc any not l v = q1 at hT C1 hN
  have hV := Lib.hid (show hasV s sc v = if v.kind = 1 ∨ v.kind = 4 then smemB s.sp (unP sc v).1 else if v.kind = 2 then hasw s.all s.ws v.text else if v.kind = 3 then !(bits BinOp.and IntKind.i64 s.bools (bitV v) == 0) else s.nul from rfl)
  generalize hasV s sc v = q2 at hT hV
  generalize unP sc v = u at C2 hV
  generalize bitV v = bv at C5 hV
  obtain ⟨u1, u2⟩ := u
  obtain ⟨sk, b, ba, bw, bb, bn⟩ := s
  obtain ⟨v0, v1, v2, v3, v4⟩ := v
  simp only at hT hV hN C1 C2 C3 C4 C5
  clear hs hl ht hv hB hp hq
  by_cases hk : sk = k
  · subst hk
    cases q1 with
    | false =>
      obtain rfl : R = false := by have := hT.out; simpa using this
      clear hT hV hN C2 C3 C4 C5
      go_enter Tryz.func28, Tryz.ntmps28
      go_wp2_with (go_at_call 12; (with_reducible refine Calls.mono (C1.out _ ((((Bel.refl w).alloc _).alloc _).alloc _)) ?_); rintro e W1 ⟨rfl, hb1⟩; have hbX := ((((Bel.refl w).alloc _).alloc _).alloc _).trans hb1)
      go_ret
      exact ⟨rfl, hbX⟩
    | true =>
      obtain rfl : R = q2 := by have := hT.out; simpa using this
      clear hT
      have hN := Lib.hid (hN rfl)
      by_cases h14 : v0 = 1 ∨ v0 = 4
      · obtain rfl : R = smemB b u1 := by have := hV.out; rw [if_pos h14] at this; exact this
        clear hV hN C4 C5
        rcases h14 with rfl | rfl
        · go_enter Tryz.func28, Tryz.ntmps28
          go_upto_region 1 with fail
          refine under_name (w0 := w) (by (repeat (first | with_reducible exact Bel.refl _ | with_reducible refine Bel.setCell ?_ (by first | exact Nat.le_refl _ | (dsimp only; omega)) _ | with_reducible refine Bel.alloc ?_ _ | with_reducible refine Bel.drew ?_ | with_reducible assumption | with_reducible refine Bel.trans ?_ (by assumption)))) fun V hc hf hz hbv => ?_
          have m0 : V.cell? ⟨w.heap.size, 0, none⟩ = some (.int .i64 sk) := by simp [hc, go_sem]
          have m1 : V.cell? ⟨w.heap.size, 1, none⟩ = some (.int .i64 sc) := by simp [hc, go_sem]
          have m2 : V.cell? ⟨w.heap.size, 2, none⟩ = some (.bool any) := by simp [hc, go_sem]
          have m3 : V.cell? ⟨w.heap.size, 3, none⟩ = some (.bool not) := by simp [hc, go_sem]
          have m4 : V.cell? ⟨w.heap.size, 4, none⟩ = some (.slice A l.length c) := by simp [hc, go_sem]
          have x0 : V.cell? ⟨w.heap.size + 1, 0, none⟩ = some (.int .i64 sk) := by simp [hc, go_sem]
          have x1 : V.cell? ⟨w.heap.size + 1, 1, none⟩ = some (.slice B b.length d) := by simp [hc, go_sem]
          have x2 : V.cell? ⟨w.heap.size + 1, 2, none⟩ = some (.bool ba) := by simp [hc, go_sem]
          have x3 : V.cell? ⟨w.heap.size + 1, 3, none⟩ = some (.slice B2 bw.length d2) := by simp [hc, go_sem]
          have x4 : V.cell? ⟨w.heap.size + 1, 4, none⟩ = some (.int .i64 bb) := by simp [hc, go_sem]
          have x5 : V.cell? ⟨w.heap.size + 1, 5, none⟩ = some (.bool bn) := by simp [hc, go_sem]
          have y0 : V.cell? ⟨w.heap.size + 2, 0, none⟩ = some (.int .i64 1) := by simp [hc, go_sem]
          have y1 : V.cell? ⟨w.heap.size + 2, 1, none⟩ = some (.int .i64 v1) := by simp [hc, go_sem]
          have y2 : V.cell? ⟨w.heap.size + 2, 2, none⟩ = some (.int .i64 v2) := by simp [hc, go_sem]
          have y3 : V.cell? ⟨w.heap.size + 2, 3, none⟩ = some (.string v3) := by simp [hc, go_sem]
          have y4 : V.cell? ⟨w.heap.size + 2, 4, none⟩ = some (.int .i64 v4) := by simp [hc, go_sem]
          have z0 : w.heap.size + 3 ≤ V.heap.size := by simp [hz]
          clear hc hf hz
          go_wp2_with (first
            | (go_at_call 12; (with_reducible refine Calls.mono (C1.out _ hbv) ?_); rintro e W ⟨rfl, hv1⟩; have hb := hbv.trans hv1; have zW : w.heap.size + 3 ≤ W.heap.size := (Nat.le_trans z0 hv1.size); replace m0 := (hv1.cells _ _ (by omega)).trans m0; replace m1 := (hv1.cells _ _ (by omega)).trans m1; replace m2 := (hv1.cells _ _ (by omega)).trans m2; replace m3 := (hv1.cells _ _ (by omega)).trans m3; replace m4 := (hv1.cells _ _ (by omega)).trans m4; replace x0 := (hv1.cells _ _ (by omega)).trans x0; replace x1 := (hv1.cells _ _ (by omega)).trans x1; replace x2 := (hv1.cells _ _ (by omega)).trans x2; replace x3 := (hv1.cells _ _ (by omega)).trans x3; replace x4 := (hv1.cells _ _ (by omega)).trans x4; replace x5 := (hv1.cells _ _ (by omega)).trans x5; replace y0 := (hv1.cells _ _ (by omega)).trans y0; replace y1 := (hv1.cells _ _ (by omega)).trans y1; replace y2 := (hv1.cells _ _ (by omega)).trans y2; replace y3 := (hv1.cells _ _ (by omega)).trans y3; replace y4 := (hv1.cells _ _ (by omega)).trans y4)
            | (go_at_call 50; (with_reducible refine Calls.mono (C2.out _) ?_); rintro e W2 ⟨rfl, hv2⟩; have hb2 := hb.trans hv2; have zW2 : w.heap.size + 3 ≤ W2.heap.size := (Nat.le_trans zW hv2.size); replace m0 := (hv2.cells _ _ (by omega)).trans m0; replace m1 := (hv2.cells _ _ (by omega)).trans m1; replace m2 := (hv2.cells _ _ (by omega)).trans m2; replace m3 := (hv2.cells _ _ (by omega)).trans m3; replace m4 := (hv2.cells _ _ (by omega)).trans m4; replace x0 := (hv2.cells _ _ (by omega)).trans x0; replace x1 := (hv2.cells _ _ (by omega)).trans x1; replace x2 := (hv2.cells _ _ (by omega)).trans x2; replace x3 := (hv2.cells _ _ (by omega)).trans x3; replace x4 := (hv2.cells _ _ (by omega)).trans x4; replace x5 := (hv2.cells _ _ (by omega)).trans x5; replace y0 := (hv2.cells _ _ (by omega)).trans y0; replace y1 := (hv2.cells _ _ (by omega)).trans y1; replace y2 := (hv2.cells _ _ (by omega)).trans y2; replace y3 := (hv2.cells _ _ (by omega)).trans y3; replace y4 := (hv2.cells _ _ (by omega)).trans y4)
            | (go_at_call 51; (with_reducible refine Calls.mono (C3.out _ _ hb2) ?_); rintro e W3 ⟨rfl, hv3⟩; have hb3 := hb2.trans hv3))
          go_ret
          exact ⟨rfl, hb3⟩
        · go_enter Tryz.func28, Tryz.ntmps28
          go_upto_region 1 with fail
          refine under_name (w0 := w) (by (repeat (first | with_reducible exact Bel.refl _ | with_reducible refine Bel.setCell ?_ (by first | exact Nat.le_refl _ | (dsimp only; omega)) _ | with_reducible refine Bel.alloc ?_ _ | with_reducible refine Bel.drew ?_ | with_reducible assumption | with_reducible refine Bel.trans ?_ (by assumption)))) fun V hc hf hz hbv => ?_
          have m0 : V.cell? ⟨w.heap.size, 0, none⟩ = some (.int .i64 sk) := by simp [hc, go_sem]
          have m1 : V.cell? ⟨w.heap.size, 1, none⟩ = some (.int .i64 sc) := by simp [hc, go_sem]
          have m2 : V.cell? ⟨w.heap.size, 2, none⟩ = some (.bool any) := by simp [hc, go_sem]
          have m3 : V.cell? ⟨w.heap.size, 3, none⟩ = some (.bool not) := by simp [hc, go_sem]
          have m4 : V.cell? ⟨w.heap.size, 4, none⟩ = some (.slice A l.length c) := by simp [hc, go_sem]
          have x0 : V.cell? ⟨w.heap.size + 1, 0, none⟩ = some (.int .i64 sk) := by simp [hc, go_sem]
          have x1 : V.cell? ⟨w.heap.size + 1, 1, none⟩ = some (.slice B b.length d) := by simp [hc, go_sem]
          have x2 : V.cell? ⟨w.heap.size + 1, 2, none⟩ = some (.bool ba) := by simp [hc, go_sem]
          have x3 : V.cell? ⟨w.heap.size + 1, 3, none⟩ = some (.slice B2 bw.length d2) := by simp [hc, go_sem]
          have x4 : V.cell? ⟨w.heap.size + 1, 4, none⟩ = some (.int .i64 bb) := by simp [hc, go_sem]
          have x5 : V.cell? ⟨w.heap.size + 1, 5, none⟩ = some (.bool bn) := by simp [hc, go_sem]
          have y0 : V.cell? ⟨w.heap.size + 2, 0, none⟩ = some (.int .i64 4) := by simp [hc, go_sem]
          have y1 : V.cell? ⟨w.heap.size + 2, 1, none⟩ = some (.int .i64 v1) := by simp [hc, go_sem]
          have y2 : V.cell? ⟨w.heap.size + 2, 2, none⟩ = some (.int .i64 v2) := by simp [hc, go_sem]
          have y3 : V.cell? ⟨w.heap.size + 2, 3, none⟩ = some (.string v3) := by simp [hc, go_sem]
          have y4 : V.cell? ⟨w.heap.size + 2, 4, none⟩ = some (.int .i64 v4) := by simp [hc, go_sem]
          have z0 : w.heap.size + 3 ≤ V.heap.size := by simp [hz]
          clear hc hf hz
          go_wp2_with (first
            | (go_at_call 12; (with_reducible refine Calls.mono (C1.out _ hbv) ?_); rintro e W ⟨rfl, hv1⟩; have hb := hbv.trans hv1; have zW : w.heap.size + 3 ≤ W.heap.size := (Nat.le_trans z0 hv1.size); replace m0 := (hv1.cells _ _ (by omega)).trans m0; replace m1 := (hv1.cells _ _ (by omega)).trans m1; replace m2 := (hv1.cells _ _ (by omega)).trans m2; replace m3 := (hv1.cells _ _ (by omega)).trans m3; replace m4 := (hv1.cells _ _ (by omega)).trans m4; replace x0 := (hv1.cells _ _ (by omega)).trans x0; replace x1 := (hv1.cells _ _ (by omega)).trans x1; replace x2 := (hv1.cells _ _ (by omega)).trans x2; replace x3 := (hv1.cells _ _ (by omega)).trans x3; replace x4 := (hv1.cells _ _ (by omega)).trans x4; replace x5 := (hv1.cells _ _ (by omega)).trans x5; replace y0 := (hv1.cells _ _ (by omega)).trans y0; replace y1 := (hv1.cells _ _ (by omega)).trans y1; replace y2 := (hv1.cells _ _ (by omega)).trans y2; replace y3 := (hv1.cells _ _ (by omega)).trans y3; replace y4 := (hv1.cells _ _ (by omega)).trans y4)
            | (go_at_call 50; (with_reducible refine Calls.mono (C2.out _) ?_); rintro e W2 ⟨rfl, hv2⟩; have hb2 := hb.trans hv2; have zW2 : w.heap.size + 3 ≤ W2.heap.size := (Nat.le_trans zW hv2.size); replace m0 := (hv2.cells _ _ (by omega)).trans m0; replace m1 := (hv2.cells _ _ (by omega)).trans m1; replace m2 := (hv2.cells _ _ (by omega)).trans m2; replace m3 := (hv2.cells _ _ (by omega)).trans m3; replace m4 := (hv2.cells _ _ (by omega)).trans m4; replace x0 := (hv2.cells _ _ (by omega)).trans x0; replace x1 := (hv2.cells _ _ (by omega)).trans x1; replace x2 := (hv2.cells _ _ (by omega)).trans x2; replace x3 := (hv2.cells _ _ (by omega)).trans x3; replace x4 := (hv2.cells _ _ (by omega)).trans x4; replace x5 := (hv2.cells _ _ (by omega)).trans x5; replace y0 := (hv2.cells _ _ (by omega)).trans y0; replace y1 := (hv2.cells _ _ (by omega)).trans y1; replace y2 := (hv2.cells _ _ (by omega)).trans y2; replace y3 := (hv2.cells _ _ (by omega)).trans y3; replace y4 := (hv2.cells _ _ (by omega)).trans y4)
            | (go_at_call 51; (with_reducible refine Calls.mono (C3.out _ _ hb2) ?_); rintro e W3 ⟨rfl, hv3⟩; have hb3 := hb2.trans hv3))
          go_ret
          exact ⟨rfl, hb3⟩
      · by_cases h2 : v0 = 2
        · subst h2
          obtain rfl : R = hasw ba bw v3 := by have := hV.out; simpa using this
          clear hV hN C2 C3 C5
          go_enter Tryz.func28, Tryz.ntmps28
          go_upto_region 1 with fail
          refine under_name (w0 := w) (by (repeat (first | with_reducible exact Bel.refl _ | with_reducible refine Bel.setCell ?_ (by first | exact Nat.le_refl _ | (dsimp only; omega)) _ | with_reducible refine Bel.alloc ?_ _ | with_reducible refine Bel.drew ?_ | with_reducible assumption | with_reducible refine Bel.trans ?_ (by assumption)))) fun V hc hf hz hbv => ?_
          have m0 : V.cell? ⟨w.heap.size, 0, none⟩ = some (.int .i64 sk) := by simp [hc, go_sem]
          have m1 : V.cell? ⟨w.heap.size, 1, none⟩ = some (.int .i64 sc) := by simp [hc, go_sem]
          have m2 : V.cell? ⟨w.heap.size, 2, none⟩ = some (.bool any) := by simp [hc, go_sem]
          have m3 : V.cell? ⟨w.heap.size, 3, none⟩ = some (.bool not) := by simp [hc, go_sem]
          have m4 : V.cell? ⟨w.heap.size, 4, none⟩ = some (.slice A l.length c) := by simp [hc, go_sem]
          have x0 : V.cell? ⟨w.heap.size + 1, 0, none⟩ = some (.int .i64 sk) := by simp [hc, go_sem]
          have x1 : V.cell? ⟨w.heap.size + 1, 1, none⟩ = some (.slice B b.length d) := by simp [hc, go_sem]
          have x2 : V.cell? ⟨w.heap.size + 1, 2, none⟩ = some (.bool ba) := by simp [hc, go_sem]
          have x3 : V.cell? ⟨w.heap.size + 1, 3, none⟩ = some (.slice B2 bw.length d2) := by simp [hc, go_sem]
          have x4 : V.cell? ⟨w.heap.size + 1, 4, none⟩ = some (.int .i64 bb) := by simp [hc, go_sem]
          have x5 : V.cell? ⟨w.heap.size + 1, 5, none⟩ = some (.bool bn) := by simp [hc, go_sem]
          have y0 : V.cell? ⟨w.heap.size + 2, 0, none⟩ = some (.int .i64 2) := by simp [hc, go_sem]
          have y1 : V.cell? ⟨w.heap.size + 2, 1, none⟩ = some (.int .i64 v1) := by simp [hc, go_sem]
          have y2 : V.cell? ⟨w.heap.size + 2, 2, none⟩ = some (.int .i64 v2) := by simp [hc, go_sem]
          have y3 : V.cell? ⟨w.heap.size + 2, 3, none⟩ = some (.string v3) := by simp [hc, go_sem]
          have y4 : V.cell? ⟨w.heap.size + 2, 4, none⟩ = some (.int .i64 v4) := by simp [hc, go_sem]
          have z0 : w.heap.size + 3 ≤ V.heap.size := by simp [hz]
          clear hc hf hz
          go_wp2_with (first
            | (go_at_call 12; (with_reducible refine Calls.mono (C1.out _ hbv) ?_); rintro e W ⟨rfl, hv1⟩; have hb := hbv.trans hv1; have zW : w.heap.size + 3 ≤ W.heap.size := (Nat.le_trans z0 hv1.size); replace m0 := (hv1.cells _ _ (by omega)).trans m0; replace m1 := (hv1.cells _ _ (by omega)).trans m1; replace m2 := (hv1.cells _ _ (by omega)).trans m2; replace m3 := (hv1.cells _ _ (by omega)).trans m3; replace m4 := (hv1.cells _ _ (by omega)).trans m4; replace x0 := (hv1.cells _ _ (by omega)).trans x0; replace x1 := (hv1.cells _ _ (by omega)).trans x1; replace x2 := (hv1.cells _ _ (by omega)).trans x2; replace x3 := (hv1.cells _ _ (by omega)).trans x3; replace x4 := (hv1.cells _ _ (by omega)).trans x4; replace x5 := (hv1.cells _ _ (by omega)).trans x5; replace y0 := (hv1.cells _ _ (by omega)).trans y0; replace y1 := (hv1.cells _ _ (by omega)).trans y1; replace y2 := (hv1.cells _ _ (by omega)).trans y2; replace y3 := (hv1.cells _ _ (by omega)).trans y3; replace y4 := (hv1.cells _ _ (by omega)).trans y4)
            | (go_at_call 52; (refine Calls.mono (C4.out _ hb) ?_); rintro e W2 ⟨rfl, hv2⟩; have hb2 := hb.trans hv2))
          go_ret
          exact ⟨rfl, hb2⟩
        · by_cases h3 : v0 = 3
          · subst h3
            obtain rfl : R = !(bits BinOp.and IntKind.i64 bb bv == 0) := by have := hV.out; simpa using this
            clear hV C2 C3 C4
            go_enter Tryz.func28, Tryz.ntmps28
            go_upto_region 1 with fail
            refine under_name (w0 := w) (by (repeat (first | with_reducible exact Bel.refl _ | with_reducible refine Bel.setCell ?_ (by first | exact Nat.le_refl _ | (dsimp only; omega)) _ | with_reducible refine Bel.alloc ?_ _ | with_reducible refine Bel.drew ?_ | with_reducible assumption | with_reducible refine Bel.trans ?_ (by assumption)))) fun V hc hf hz hbv => ?_
            have m0 : V.cell? ⟨w.heap.size, 0, none⟩ = some (.int .i64 sk) := by simp [hc, go_sem]
            have m1 : V.cell? ⟨w.heap.size, 1, none⟩ = some (.int .i64 sc) := by simp [hc, go_sem]
            have m2 : V.cell? ⟨w.heap.size, 2, none⟩ = some (.bool any) := by simp [hc, go_sem]
            have m3 : V.cell? ⟨w.heap.size, 3, none⟩ = some (.bool not) := by simp [hc, go_sem]
            have m4 : V.cell? ⟨w.heap.size, 4, none⟩ = some (.slice A l.length c) := by simp [hc, go_sem]
            have x0 : V.cell? ⟨w.heap.size + 1, 0, none⟩ = some (.int .i64 sk) := by simp [hc, go_sem]
            have x1 : V.cell? ⟨w.heap.size + 1, 1, none⟩ = some (.slice B b.length d) := by simp [hc, go_sem]
            have x2 : V.cell? ⟨w.heap.size + 1, 2, none⟩ = some (.bool ba) := by simp [hc, go_sem]
            have x3 : V.cell? ⟨w.heap.size + 1, 3, none⟩ = some (.slice B2 bw.length d2) := by simp [hc, go_sem]
            have x4 : V.cell? ⟨w.heap.size + 1, 4, none⟩ = some (.int .i64 bb) := by simp [hc, go_sem]
            have x5 : V.cell? ⟨w.heap.size + 1, 5, none⟩ = some (.bool bn) := by simp [hc, go_sem]
            have y0 : V.cell? ⟨w.heap.size + 2, 0, none⟩ = some (.int .i64 3) := by simp [hc, go_sem]
            have y1 : V.cell? ⟨w.heap.size + 2, 1, none⟩ = some (.int .i64 v1) := by simp [hc, go_sem]
            have y2 : V.cell? ⟨w.heap.size + 2, 2, none⟩ = some (.int .i64 v2) := by simp [hc, go_sem]
            have y3 : V.cell? ⟨w.heap.size + 2, 3, none⟩ = some (.string v3) := by simp [hc, go_sem]
            have y4 : V.cell? ⟨w.heap.size + 2, 4, none⟩ = some (.int .i64 v4) := by simp [hc, go_sem]
            have z0 : w.heap.size + 3 ≤ V.heap.size := by simp [hz]
            clear hc hf hz
            go_upto_region 11 with (go_at_call 12; (with_reducible refine Calls.mono (C1.out _ hbv) ?_); rintro e W ⟨rfl, hv1⟩; have hb := hbv.trans hv1; have zW : w.heap.size + 3 ≤ W.heap.size := (Nat.le_trans z0 hv1.size); replace m0 := (hv1.cells _ _ (by omega)).trans m0; replace m1 := (hv1.cells _ _ (by omega)).trans m1; replace m2 := (hv1.cells _ _ (by omega)).trans m2; replace m3 := (hv1.cells _ _ (by omega)).trans m3; replace m4 := (hv1.cells _ _ (by omega)).trans m4; replace x0 := (hv1.cells _ _ (by omega)).trans x0; replace x1 := (hv1.cells _ _ (by omega)).trans x1; replace x2 := (hv1.cells _ _ (by omega)).trans x2; replace x3 := (hv1.cells _ _ (by omega)).trans x3; replace x4 := (hv1.cells _ _ (by omega)).trans x4; replace x5 := (hv1.cells _ _ (by omega)).trans x5; replace y0 := (hv1.cells _ _ (by omega)).trans y0; replace y1 := (hv1.cells _ _ (by omega)).trans y1; replace y2 := (hv1.cells _ _ (by omega)).trans y2; replace y3 := (hv1.cells _ _ (by omega)).trans y3; replace y4 := (hv1.cells _ _ (by omega)).trans y4)
            clear hv1 hbv z0 C1
            refine wp_region_noPanic ?_
            refine wp_region_held (S := fun X => Bel w X ∧ X.cell? ⟨w.heap.size, 0, none⟩ = some (.int .i64 sk) ∧ X.cell? ⟨w.heap.size, 1, none⟩ = some (.int .i64 sc) ∧ X.cell? ⟨w.heap.size, 2, none⟩ = some (.bool any) ∧ X.cell? ⟨w.heap.size, 3, none⟩ = some (.bool not) ∧ X.cell? ⟨w.heap.size, 4, none⟩ = some (.slice A l.length c) ∧ X.cell? ⟨w.heap.size + 1, 0, none⟩ = some (.int .i64 sk) ∧ X.cell? ⟨w.heap.size + 1, 1, none⟩ = some (.slice B b.length d) ∧ X.cell? ⟨w.heap.size + 1, 2, none⟩ = some (.bool ba) ∧ X.cell? ⟨w.heap.size + 1, 3, none⟩ = some (.slice B2 bw.length d2) ∧ X.cell? ⟨w.heap.size + 1, 4, none⟩ = some (.int .i64 bb) ∧ X.cell? ⟨w.heap.size + 1, 5, none⟩ = some (.bool bn) ∧ X.cell? ⟨w.heap.size + 2, 0, none⟩ = some (.int .i64 3) ∧ X.cell? ⟨w.heap.size + 2, 1, none⟩ = some (.int .i64 v1) ∧ X.cell? ⟨w.heap.size + 2, 2, none⟩ = some (.int .i64 v2) ∧ X.cell? ⟨w.heap.size + 2, 3, none⟩ = some (.string v3) ∧ X.cell? ⟨w.heap.size + 2, 4, none⟩ = some (.int .i64 v4)) (by kernel_rfl) ?_
            have hX0 : Bel W { W with drawn := W.drawn + 1 } := (Bel.refl W).drew
            generalize { W with drawn := W.drawn + 1 } = X0 at hX0 ⊢
            replace m0 := (hX0.cells _ _ (by omega)).trans m0; replace m1 := (hX0.cells _ _ (by omega)).trans m1; replace m2 := (hX0.cells _ _ (by omega)).trans m2; replace m3 := (hX0.cells _ _ (by omega)).trans m3; replace m4 := (hX0.cells _ _ (by omega)).trans m4; replace x0 := (hX0.cells _ _ (by omega)).trans x0; replace x1 := (hX0.cells _ _ (by omega)).trans x1; replace x2 := (hX0.cells _ _ (by omega)).trans x2; replace x3 := (hX0.cells _ _ (by omega)).trans x3; replace x4 := (hX0.cells _ _ (by omega)).trans x4; replace x5 := (hX0.cells _ _ (by omega)).trans x5; replace y0 := (hX0.cells _ _ (by omega)).trans y0; replace y1 := (hX0.cells _ _ (by omega)).trans y1; replace y2 := (hX0.cells _ _ (by omega)).trans y2; replace y3 := (hX0.cells _ _ (by omega)).trans y3; replace y4 := (hX0.cells _ _ (by omega)).trans y4
            have zX0 : w.heap.size + 3 ≤ X0.heap.size := Nat.le_trans zW hX0.size
            have hb0 := hb.trans hX0
            refine wpAnyH_take (i := 0) (oi := { dst := some 44, op := Op.fieldAddr 39 (Operand.tmp 4) 3, type := 0, pos := "sets.go:104", after := #[], guard := none }) (v := .pointer (some ⟨w.heap.size + 1, 4, none⟩)) rfl (by kernel_rfl) (by kernel_rfl) (by kernel_rfl) (fun _ _ _ h => h) (.inl ⟨by rfl, fun X hS => by
                  obtain ⟨_, k0, k1, k2, k3, k4, k5, k6, k7, k8, k9, k10, k11, k12, k13, k14, k15⟩ := hS
                  go_simp; first | done | with_reducible rfl | rfl⟩) ⟨hb0, m0, m1, m2, m3, m4, x0, x1, x2, x3, x4, x5, y0, y1, y2, y3, y4⟩ ?_
            (try simp only [Act.put, List.setIfInBounds_toArray, List.set_cons_zero, List.set_cons_succ])
            refine wpAnyH_take (i := 1) (oi := { dst := some 45, op := Op.load 3 (Operand.tmp 44), type := 3, pos := "sets.go:104", after := #[{ on := 0, ground := Ground.data }], guard := none }) (v := .int .i64 bb) rfl (by kernel_rfl) (by kernel_rfl) (by kernel_rfl) (fun _ _ _ h => h) (.inl ⟨by rfl, fun X hS => by
                  obtain ⟨_, k0, k1, k2, k3, k4, k5, k6, k7, k8, k9, k10, k11, k12, k13, k14, k15⟩ := hS
                  go_simp; first | done | with_reducible rfl | rfl⟩) ⟨hb0, m0, m1, m2, m3, m4, x0, x1, x2, x3, x4, x5, y0, y1, y2, y3, y4⟩ ?_
            (try simp only [Act.put, List.setIfInBounds_toArray, List.set_cons_zero, List.set_cons_succ])
            refine wpAnyH_take (i := 2) (oi := { dst := some 46, op := Op.load 30 (Operand.tmp 5), type := 30, pos := "sets.go:104", after := #[], guard := none }) (v := ((⟨3, v1, v2, v3, v4⟩ : Val).val)) rfl (by kernel_rfl) (by kernel_rfl) (by kernel_rfl) (fun _ _ _ h => h) (.inl ⟨by rfl, fun X hS => by
                  obtain ⟨_, k0, k1, k2, k3, k4, k5, k6, k7, k8, k9, k10, k11, k12, k13, k14, k15⟩ := hS
                  go_simp; first | done | with_reducible rfl | rfl⟩) ⟨hb0, m0, m1, m2, m3, m4, x0, x1, x2, x3, x4, x5, y0, y1, y2, y3, y4⟩ ?_
            (try simp only [Act.put, List.setIfInBounds_toArray, List.set_cons_zero, List.set_cons_succ])
            refine wpAnyH_all (rs := [3]) (by kernel_rfl) (by simp) ?_
            intro i hi
            simp only [List.mem_cons, List.not_mem_nil, or_false] at hi
            subst hi
            refine wpOp_enter (o := { dst := some 47, op := Op.call { callee := Callee.value (Operand.func 53), args := #[Operand.tmp 46], argTypes := #[30] }, type := 3, pos := "sets.go:104", after := #[{ on := 2, ground := Ground.data }], guard := none }) (R := fun v w' => v = .int .i64 bv ∧ Bel X0 w') rfl (by rfl) (by go_simp; first | done | with_reducible rfl | rfl) ((C5.out X0 (by have := hN.out; simpa using this)).mono fun e w' ⟨h1, h2⟩ => ⟨_, h1, rfl, h2⟩) ?_
            rintro v X1 ⟨rfl, hb'⟩
            replace m0 := (hb'.cells _ _ (by omega)).trans m0; replace m1 := (hb'.cells _ _ (by omega)).trans m1; replace m2 := (hb'.cells _ _ (by omega)).trans m2; replace m3 := (hb'.cells _ _ (by omega)).trans m3; replace m4 := (hb'.cells _ _ (by omega)).trans m4; replace x0 := (hb'.cells _ _ (by omega)).trans x0; replace x1 := (hb'.cells _ _ (by omega)).trans x1; replace x2 := (hb'.cells _ _ (by omega)).trans x2; replace x3 := (hb'.cells _ _ (by omega)).trans x3; replace x4 := (hb'.cells _ _ (by omega)).trans x4; replace x5 := (hb'.cells _ _ (by omega)).trans x5; replace y0 := (hb'.cells _ _ (by omega)).trans y0; replace y1 := (hb'.cells _ _ (by omega)).trans y1; replace y2 := (hb'.cells _ _ (by omega)).trans y2; replace y3 := (hb'.cells _ _ (by omega)).trans y3; replace y4 := (hb'.cells _ _ (by omega)).trans y4
            have hb1 := hb0.trans hb'
            clear hb'
            refine ⟨⟨hb1, m0, m1, m2, m3, m4, x0, x1, x2, x3, x4, x5, y0, y1, y2, y3, y4⟩, ?_⟩
            (try simp only [Act.put, List.setIfInBounds_toArray, List.set_cons_zero, List.set_cons_succ])
            refine wpAnyH_all (rs := [4]) (by kernel_rfl) (by simp) ?_
            intro i hi
            simp only [List.mem_cons, List.not_mem_nil, or_false] at hi
            subst hi
            refine wpOp_value (o := { dst := some 48, op := Op.binOp BinOp.and 3 (Operand.tmp 45) (Operand.tmp 47) 3, type := 3, pos := "sets.go:104", after := #[{ on := 1, ground := Ground.data }, { on := 3, ground := Ground.data }], guard := none }) (v := .int .i64 (bits BinOp.and IntKind.i64 bb bv)) (w' := X1) rfl (by rfl) (by go_simp; first | done | with_reducible rfl | rfl) ?_
            refine ⟨⟨hb1, m0, m1, m2, m3, m4, x0, x1, x2, x3, x4, x5, y0, y1, y2, y3, y4⟩, ?_⟩
            (try simp only [Act.put, List.setIfInBounds_toArray, List.set_cons_zero, List.set_cons_succ])
            refine wpAnyH_all (rs := [5]) (by kernel_rfl) (by simp) ?_
            intro i hi
            simp only [List.mem_cons, List.not_mem_nil, or_false] at hi
            subst hi
            refine wpOp_value (o := { dst := some 49, op := Op.binOp BinOp.neq 3 (Operand.tmp 48) (Operand.const (Value.int IntKind.i64 0)) 3, type := 4, pos := "sets.go:104", after := #[{ on := 4, ground := Ground.data }], guard := none }) (v := .bool (!(bits BinOp.and IntKind.i64 bb bv == 0))) (w' := X1) rfl (by rfl) (by go_simp; first | done | with_reducible rfl | rfl) ?_
            refine ⟨⟨hb1, m0, m1, m2, m3, m4, x0, x1, x2, x3, x4, x5, y0, y1, y2, y3, y4⟩, ?_⟩
            (try simp only [Act.put, List.setIfInBounds_toArray, List.set_cons_zero, List.set_cons_succ])
            refine wpAnyH_all (rs := [6]) (by kernel_rfl) (by simp) ?_
            intro i hi
            simp only [List.mem_cons, List.not_mem_nil, or_false] at hi
            subst hi
            refine wpOp_value (o := { dst := some 6, op := Op.assign (Operand.tmp 49), type := 4, pos := "sets.go:104", after := #[{ on := 5, ground := Ground.data }, { on := 3, ground := Ground.chain }, { on := 0, ground := Ground.phase }, { on := 1, ground := Ground.phase }, { on := 2, ground := Ground.phase }, { on := 3, ground := Ground.phase }, { on := 4, ground := Ground.phase }, { on := 5, ground := Ground.phase }], guard := none }) (v := .bool (!(bits BinOp.and IntKind.i64 bb bv == 0))) (w' := X1) rfl (by rfl) (by go_simp; first | done | with_reducible rfl | rfl) ?_
            refine ⟨⟨hb1, m0, m1, m2, m3, m4, x0, x1, x2, x3, x4, x5, y0, y1, y2, y3, y4⟩, ?_⟩
            (try simp only [Act.put, List.setIfInBounds_toArray, List.set_cons_zero, List.set_cons_succ])
            refine wpAnyH_done (by kernel_rfl) ?_ _
            refine NoPanic.normal ?_
            go_wp2_with fail
            go_ret
            exact ⟨rfl, hb1⟩
          · obtain rfl : bn = R := by have := hV.out; rw [if_neg h14, if_neg h2, if_neg h3] at this; exact this.symm
            have e1 : (v0 == 1) = false := by simp; omega
            have e4 : (v0 == 4) = false := by simp; omega
            have e2 : (v0 == 2) = false := by simp [h2]
            have e3 : (v0 == 3) = false := by simp [h3]
            clear hV hN C2 C3 C4 C5
            go_enter Tryz.func28, Tryz.ntmps28
            go_upto_region 1 with fail
            refine under_name (w0 := w) (by (repeat (first | with_reducible exact Bel.refl _ | with_reducible refine Bel.setCell ?_ (by first | exact Nat.le_refl _ | (dsimp only; omega)) _ | with_reducible refine Bel.alloc ?_ _ | with_reducible refine Bel.drew ?_ | with_reducible assumption | with_reducible refine Bel.trans ?_ (by assumption)))) fun V hc hf hz hbv => ?_
            have m0 : V.cell? ⟨w.heap.size, 0, none⟩ = some (.int .i64 sk) := by simp [hc, go_sem]
            have m1 : V.cell? ⟨w.heap.size, 1, none⟩ = some (.int .i64 sc) := by simp [hc, go_sem]
            have m2 : V.cell? ⟨w.heap.size, 2, none⟩ = some (.bool any) := by simp [hc, go_sem]
            have m3 : V.cell? ⟨w.heap.size, 3, none⟩ = some (.bool not) := by simp [hc, go_sem]
            have m4 : V.cell? ⟨w.heap.size, 4, none⟩ = some (.slice A l.length c) := by simp [hc, go_sem]
            have x0 : V.cell? ⟨w.heap.size + 1, 0, none⟩ = some (.int .i64 sk) := by simp [hc, go_sem]
            have x1 : V.cell? ⟨w.heap.size + 1, 1, none⟩ = some (.slice B b.length d) := by simp [hc, go_sem]
            have x2 : V.cell? ⟨w.heap.size + 1, 2, none⟩ = some (.bool ba) := by simp [hc, go_sem]
            have x3 : V.cell? ⟨w.heap.size + 1, 3, none⟩ = some (.slice B2 bw.length d2) := by simp [hc, go_sem]
            have x4 : V.cell? ⟨w.heap.size + 1, 4, none⟩ = some (.int .i64 bb) := by simp [hc, go_sem]
            have x5 : V.cell? ⟨w.heap.size + 1, 5, none⟩ = some (.bool bn) := by simp [hc, go_sem]
            have y0 : V.cell? ⟨w.heap.size + 2, 0, none⟩ = some (.int .i64 v0) := by simp [hc, go_sem]
            have y1 : V.cell? ⟨w.heap.size + 2, 1, none⟩ = some (.int .i64 v1) := by simp [hc, go_sem]
            have y2 : V.cell? ⟨w.heap.size + 2, 2, none⟩ = some (.int .i64 v2) := by simp [hc, go_sem]
            have y3 : V.cell? ⟨w.heap.size + 2, 3, none⟩ = some (.string v3) := by simp [hc, go_sem]
            have y4 : V.cell? ⟨w.heap.size + 2, 4, none⟩ = some (.int .i64 v4) := by simp [hc, go_sem]
            have z0 : w.heap.size + 3 ≤ V.heap.size := by simp [hz]
            clear hc hf hz
            go_wp2_with (go_at_call 12; (with_reducible refine Calls.mono (C1.out _ hbv) ?_); rintro e W ⟨rfl, hv1⟩; have hb := hbv.trans hv1; have zW : w.heap.size + 3 ≤ W.heap.size := (Nat.le_trans z0 hv1.size); replace m0 := (hv1.cells _ _ (by omega)).trans m0; replace m1 := (hv1.cells _ _ (by omega)).trans m1; replace m2 := (hv1.cells _ _ (by omega)).trans m2; replace m3 := (hv1.cells _ _ (by omega)).trans m3; replace m4 := (hv1.cells _ _ (by omega)).trans m4; replace x0 := (hv1.cells _ _ (by omega)).trans x0; replace x1 := (hv1.cells _ _ (by omega)).trans x1; replace x2 := (hv1.cells _ _ (by omega)).trans x2; replace x3 := (hv1.cells _ _ (by omega)).trans x3; replace x4 := (hv1.cells _ _ (by omega)).trans x4; replace x5 := (hv1.cells _ _ (by omega)).trans x5; replace y0 := (hv1.cells _ _ (by omega)).trans y0; replace y1 := (hv1.cells _ _ (by omega)).trans y1; replace y2 := (hv1.cells _ _ (by omega)).trans y2; replace y3 := (hv1.cells _ _ (by omega)).trans y3; replace y4 := (hv1.cells _ _ (by omega)).trans y4)
            go_ret
            exact ⟨rfl, hb⟩
  · have ek : (sk == k) = false := by simp [hk]
    obtain rfl : R = false := by have := hT.out; simpa [hk] using this
    clear hT hV hN C1 C2 C3 C4 C5
    go_enter Tryz.func28, Tryz.ntmps28
    go_wp2_with fail
    go_ret
    refine ⟨rfl, ?_⟩
    (repeat (first | with_reducible exact Bel.refl _ | with_reducible refine Bel.setCell ?_ (by first | exact Nat.le_refl _ | (dsimp only; omega)) _ | with_reducible refine Bel.alloc ?_ _ | with_reducible refine Bel.drew ?_ | with_reducible assumption | with_reducible refine Bel.trans ?_ (by assumption)))
end Go.Proofs.YtpmmbcobjibpeaaGreatDoor
namespace Go.Proofs.YtpmmbcobjibpeaaGreatDoor
set_option linter.unusedSimpArgs false
set_option linter.unusedVariables false
open Go.RowKit Go.Lib Go.Deep
attribute [local go_sem ↓] eql_val neq_val

/-! Sets: Of and Other of what is unsound; Meet. -/
/-- The set of no kind. -/
def zeroS : St := ⟨0, [], false, [], 0, false⟩
/-- What Of and Other give where they refuse. -/
def zeroV (er : Int) : Value := .tuple #[zeroS.val none 0 none 0, .int .i64 er]
set_option maxRecDepth 100000 in
set_option maxHeartbeats 8000000 in
theorem ofZ_any (k sc : Int) (any not : Bool) (l : List Tst) (A : Option Addr) (c : Nat) (any2 not2 : Bool) (m : List Tst) (B : Option Addr) (d : Nat) (w : World) (hs : Tsts w A l) (hl : l.length ≤ 9223372036854775807) (hm : Tsts w B m) (hml : m.length ≤ 9223372036854775807) (ht : ∀ t ∈ l, TOk t) (ht2 : ∀ t ∈ m, TOk t) (hy : (tysnd k sc any not l && usnd any2 not2 m) = false) :
    Calls Tryz.prog 14 #[tyv k sc any not (.slice A l.length c), tsv any2 not2 (.slice B m.length d)] w fun e w' => e = .returned (zeroV 2) ∧ Bel w w' := by
  have C1 := Lib.hid fun W (hW : Bel w W) => tsound_any k sc any not l A c W (hs.keep hW) hl ht
  have C2 := Lib.hid fun W (hW : Bel w W) => usound_any any2 not2 m B d W (hm.keep hW) hml ht2
  generalize tysnd k sc any not l = q1 at C1 hy
  generalize usnd any2 not2 m = q2 at C2 hy
  clear hs hl hm hml ht ht2
  cases q1 with
  | false =>
    clear hy C2
    go_enter Tryz.func14, Tryz.ntmps14
    go_upto_region 1 with fail
    refine under_name (w0 := w) (by (repeat (first | with_reducible exact Bel.refl _ | with_reducible refine Bel.setCell ?_ (by first | exact Nat.le_refl _ | (dsimp only; omega)) _ | with_reducible refine Bel.alloc ?_ _ | with_reducible refine Bel.drew ?_ | with_reducible assumption | with_reducible refine Bel.trans ?_ (by assumption)))) fun V hc hf hz hbv => ?_
    have m0 : V.cell? ⟨w.heap.size, 0, none⟩ = some (.int .i64 k) := by simp [hc, go_sem]
    have m1 : V.cell? ⟨w.heap.size, 1, none⟩ = some (.int .i64 sc) := by simp [hc, go_sem]
    have m2 : V.cell? ⟨w.heap.size, 2, none⟩ = some (.bool any) := by simp [hc, go_sem]
    have m3 : V.cell? ⟨w.heap.size, 3, none⟩ = some (.bool not) := by simp [hc, go_sem]
    have m4 : V.cell? ⟨w.heap.size, 4, none⟩ = some (.slice A l.length c) := by simp [hc, go_sem]
    have x0 : V.cell? ⟨w.heap.size + 1, 0, none⟩ = some (.bool any2) := by simp [hc, go_sem]
    have x1 : V.cell? ⟨w.heap.size + 1, 1, none⟩ = some (.bool not2) := by simp [hc, go_sem]
    have x2 : V.cell? ⟨w.heap.size + 1, 2, none⟩ = some (.slice B m.length d) := by simp [hc, go_sem]
    have r0 : V.cell? ⟨w.heap.size + 2, 0, none⟩ = some (.int .i64 0) := by simp [hc, go_sem]
    have r1 : V.cell? ⟨w.heap.size + 2, 1, none⟩ = some (.slice none 0 0) := by simp [hc, go_sem]
    have r2 : V.cell? ⟨w.heap.size + 2, 2, none⟩ = some (.bool false) := by simp [hc, go_sem]
    have r3 : V.cell? ⟨w.heap.size + 2, 3, none⟩ = some (.slice none 0 0) := by simp [hc, go_sem]
    have r4 : V.cell? ⟨w.heap.size + 2, 4, none⟩ = some (.int .i64 0) := by simp [hc, go_sem]
    have r5 : V.cell? ⟨w.heap.size + 2, 5, none⟩ = some (.bool false) := by simp [hc, go_sem]
    have rf0 : V.frozen? ⟨w.heap.size + 2, 0, none⟩ = false := by simp [hf, go_sem]
    have rf1 : V.frozen? ⟨w.heap.size + 2, 1, none⟩ = false := by simp [hf, go_sem]
    have rf2 : V.frozen? ⟨w.heap.size + 2, 2, none⟩ = false := by simp [hf, go_sem]
    have rf3 : V.frozen? ⟨w.heap.size + 2, 3, none⟩ = false := by simp [hf, go_sem]
    have rf4 : V.frozen? ⟨w.heap.size + 2, 4, none⟩ = false := by simp [hf, go_sem]
    have rf5 : V.frozen? ⟨w.heap.size + 2, 5, none⟩ = false := by simp [hf, go_sem]
    have z0 : w.heap.size + 3 ≤ V.heap.size := by simp [hz]
    clear hc hf hz
    go_wp2_with (go_at_call 10; (with_reducible refine Calls.mono (C1.out _ hbv) ?_); rintro e W ⟨rfl, hv1⟩; have hb := hbv.trans hv1; have zW : w.heap.size + 3 ≤ W.heap.size := (Nat.le_trans z0 hv1.size); replace m0 := (hv1.cells _ _ (by omega)).trans m0; replace m1 := (hv1.cells _ _ (by omega)).trans m1; replace m2 := (hv1.cells _ _ (by omega)).trans m2; replace m3 := (hv1.cells _ _ (by omega)).trans m3; replace m4 := (hv1.cells _ _ (by omega)).trans m4; replace x0 := (hv1.cells _ _ (by omega)).trans x0; replace x1 := (hv1.cells _ _ (by omega)).trans x1; replace x2 := (hv1.cells _ _ (by omega)).trans x2; replace r0 := (hv1.cells _ _ (by omega)).trans r0; replace r1 := (hv1.cells _ _ (by omega)).trans r1; replace r2 := (hv1.cells _ _ (by omega)).trans r2; replace r3 := (hv1.cells _ _ (by omega)).trans r3; replace r4 := (hv1.cells _ _ (by omega)).trans r4; replace r5 := (hv1.cells _ _ (by omega)).trans r5; replace rf0 := (hv1.frozens _ _ (by omega)).trans rf0; replace rf1 := (hv1.frozens _ _ (by omega)).trans rf1; replace rf2 := (hv1.frozens _ _ (by omega)).trans rf2; replace rf3 := (hv1.frozens _ _ (by omega)).trans rf3; replace rf4 := (hv1.frozens _ _ (by omega)).trans rf4; replace rf5 := (hv1.frozens _ _ (by omega)).trans rf5)
    refine bodyPost_ret (by simp [results, Tryz.results14, go_sem, r0, rf0, r1, rf1, r2, rf2, r3, rf3, r4, rf4, r5, rf5, zeroV, zeroS, St.val]; try rfl) rfl ⟨rfl, ?_⟩
    (repeat (first | with_reducible exact Bel.refl _ | with_reducible refine Bel.setCell ?_ (by first | exact Nat.le_refl _ | (dsimp only; omega)) _ | with_reducible refine Bel.alloc ?_ _ | with_reducible refine Bel.drew ?_ | with_reducible assumption | with_reducible refine Bel.trans ?_ (by assumption)))
  | true =>
    obtain rfl : q2 = false := by simpa using hy
    clear hy
    go_enter Tryz.func14, Tryz.ntmps14
    go_upto_region 1 with fail
    refine under_name (w0 := w) (by (repeat (first | with_reducible exact Bel.refl _ | with_reducible refine Bel.setCell ?_ (by first | exact Nat.le_refl _ | (dsimp only; omega)) _ | with_reducible refine Bel.alloc ?_ _ | with_reducible refine Bel.drew ?_ | with_reducible assumption | with_reducible refine Bel.trans ?_ (by assumption)))) fun V hc hf hz hbv => ?_
    have m0 : V.cell? ⟨w.heap.size, 0, none⟩ = some (.int .i64 k) := by simp [hc, go_sem]
    have m1 : V.cell? ⟨w.heap.size, 1, none⟩ = some (.int .i64 sc) := by simp [hc, go_sem]
    have m2 : V.cell? ⟨w.heap.size, 2, none⟩ = some (.bool any) := by simp [hc, go_sem]
    have m3 : V.cell? ⟨w.heap.size, 3, none⟩ = some (.bool not) := by simp [hc, go_sem]
    have m4 : V.cell? ⟨w.heap.size, 4, none⟩ = some (.slice A l.length c) := by simp [hc, go_sem]
    have x0 : V.cell? ⟨w.heap.size + 1, 0, none⟩ = some (.bool any2) := by simp [hc, go_sem]
    have x1 : V.cell? ⟨w.heap.size + 1, 1, none⟩ = some (.bool not2) := by simp [hc, go_sem]
    have x2 : V.cell? ⟨w.heap.size + 1, 2, none⟩ = some (.slice B m.length d) := by simp [hc, go_sem]
    have r0 : V.cell? ⟨w.heap.size + 2, 0, none⟩ = some (.int .i64 0) := by simp [hc, go_sem]
    have r1 : V.cell? ⟨w.heap.size + 2, 1, none⟩ = some (.slice none 0 0) := by simp [hc, go_sem]
    have r2 : V.cell? ⟨w.heap.size + 2, 2, none⟩ = some (.bool false) := by simp [hc, go_sem]
    have r3 : V.cell? ⟨w.heap.size + 2, 3, none⟩ = some (.slice none 0 0) := by simp [hc, go_sem]
    have r4 : V.cell? ⟨w.heap.size + 2, 4, none⟩ = some (.int .i64 0) := by simp [hc, go_sem]
    have r5 : V.cell? ⟨w.heap.size + 2, 5, none⟩ = some (.bool false) := by simp [hc, go_sem]
    have rf0 : V.frozen? ⟨w.heap.size + 2, 0, none⟩ = false := by simp [hf, go_sem]
    have rf1 : V.frozen? ⟨w.heap.size + 2, 1, none⟩ = false := by simp [hf, go_sem]
    have rf2 : V.frozen? ⟨w.heap.size + 2, 2, none⟩ = false := by simp [hf, go_sem]
    have rf3 : V.frozen? ⟨w.heap.size + 2, 3, none⟩ = false := by simp [hf, go_sem]
    have rf4 : V.frozen? ⟨w.heap.size + 2, 4, none⟩ = false := by simp [hf, go_sem]
    have rf5 : V.frozen? ⟨w.heap.size + 2, 5, none⟩ = false := by simp [hf, go_sem]
    have z0 : w.heap.size + 3 ≤ V.heap.size := by simp [hz]
    clear hc hf hz
    go_wp2_with (first
      | (go_at_call 10; (with_reducible refine Calls.mono (C1.out _ hbv) ?_); rintro e W ⟨rfl, hv1⟩; have hb := hbv.trans hv1; have zW : w.heap.size + 3 ≤ W.heap.size := (Nat.le_trans z0 hv1.size); replace m0 := (hv1.cells _ _ (by omega)).trans m0; replace m1 := (hv1.cells _ _ (by omega)).trans m1; replace m2 := (hv1.cells _ _ (by omega)).trans m2; replace m3 := (hv1.cells _ _ (by omega)).trans m3; replace m4 := (hv1.cells _ _ (by omega)).trans m4; replace x0 := (hv1.cells _ _ (by omega)).trans x0; replace x1 := (hv1.cells _ _ (by omega)).trans x1; replace x2 := (hv1.cells _ _ (by omega)).trans x2; replace r0 := (hv1.cells _ _ (by omega)).trans r0; replace r1 := (hv1.cells _ _ (by omega)).trans r1; replace r2 := (hv1.cells _ _ (by omega)).trans r2; replace r3 := (hv1.cells _ _ (by omega)).trans r3; replace r4 := (hv1.cells _ _ (by omega)).trans r4; replace r5 := (hv1.cells _ _ (by omega)).trans r5; replace rf0 := (hv1.frozens _ _ (by omega)).trans rf0; replace rf1 := (hv1.frozens _ _ (by omega)).trans rf1; replace rf2 := (hv1.frozens _ _ (by omega)).trans rf2; replace rf3 := (hv1.frozens _ _ (by omega)).trans rf3; replace rf4 := (hv1.frozens _ _ (by omega)).trans rf4; replace rf5 := (hv1.frozens _ _ (by omega)).trans rf5)
      | (go_at_call 30; (with_reducible refine Calls.mono (C2.out _ hb) ?_); rintro e W2 ⟨rfl, hv2⟩; have hb2 := hb.trans hv2; replace m0 := (hv2.cells _ _ (by omega)).trans m0; replace m1 := (hv2.cells _ _ (by omega)).trans m1; replace m2 := (hv2.cells _ _ (by omega)).trans m2; replace m3 := (hv2.cells _ _ (by omega)).trans m3; replace m4 := (hv2.cells _ _ (by omega)).trans m4; replace x0 := (hv2.cells _ _ (by omega)).trans x0; replace x1 := (hv2.cells _ _ (by omega)).trans x1; replace x2 := (hv2.cells _ _ (by omega)).trans x2; replace r0 := (hv2.cells _ _ (by omega)).trans r0; replace r1 := (hv2.cells _ _ (by omega)).trans r1; replace r2 := (hv2.cells _ _ (by omega)).trans r2; replace r3 := (hv2.cells _ _ (by omega)).trans r3; replace r4 := (hv2.cells _ _ (by omega)).trans r4; replace r5 := (hv2.cells _ _ (by omega)).trans r5; replace rf0 := (hv2.frozens _ _ (by omega)).trans rf0; replace rf1 := (hv2.frozens _ _ (by omega)).trans rf1; replace rf2 := (hv2.frozens _ _ (by omega)).trans rf2; replace rf3 := (hv2.frozens _ _ (by omega)).trans rf3; replace rf4 := (hv2.frozens _ _ (by omega)).trans rf4; replace rf5 := (hv2.frozens _ _ (by omega)).trans rf5))
    refine bodyPost_ret (by simp [results, Tryz.results14, go_sem, r0, rf0, r1, rf1, r2, rf2, r3, rf3, r4, rf4, r5, rf5, zeroV, zeroS, St.val]; try rfl) rfl ⟨rfl, ?_⟩
    (repeat (first | with_reducible exact Bel.refl _ | with_reducible refine Bel.setCell ?_ (by first | exact Nat.le_refl _ | (dsimp only; omega)) _ | with_reducible refine Bel.alloc ?_ _ | with_reducible refine Bel.drew ?_ | with_reducible assumption | with_reducible refine Bel.trans ?_ (by assumption)))
set_option maxRecDepth 100000 in
set_option maxHeartbeats 8000000 in
theorem otherZ_any (k sc : Int) (any not : Bool) (l : List Tst) (A : Option Addr) (c : Nat) (w : World) (hs : Tsts w A l) (hl : l.length ≤ 9223372036854775807) (ht : ∀ t ∈ l, TOk t) :
    Calls Tryz.prog 25 #[tyv k sc any not (.slice A l.length c), zeroS.val none 0 none 0] w fun e w' => (∃ er, e = .returned (zeroV er)) ∧ Bel w w' := by
  have C1 := Lib.hid fun W (hW : Bel w W) => tsound_any k sc any not l A c W (hs.keep hW) hl ht
  have hk : tysnd k sc any not l = true → (0 == k) = false := fun h => by
    unfold tysnd knd at h
    simp only [Bool.and_eq_true, decide_eq_true_eq] at h
    rw [beq_eq_false_iff_ne]; omega
  generalize tysnd k sc any not l = q1 at C1 hk
  clear hs hl ht
  unfold zeroS
  cases q1 with
  | false =>
    clear hk
    go_enter Tryz.func25, Tryz.ntmps25
    go_upto_region 1 with fail
    refine under_name (w0 := w) (by (repeat (first | with_reducible exact Bel.refl _ | with_reducible refine Bel.setCell ?_ (by first | exact Nat.le_refl _ | (dsimp only; omega)) _ | with_reducible refine Bel.alloc ?_ _ | with_reducible refine Bel.drew ?_ | with_reducible assumption | with_reducible refine Bel.trans ?_ (by assumption)))) fun V hc hf hz hbv => ?_
    have m0 : V.cell? ⟨w.heap.size, 0, none⟩ = some (.int .i64 k) := by simp [hc, go_sem]
    have m1 : V.cell? ⟨w.heap.size, 1, none⟩ = some (.int .i64 sc) := by simp [hc, go_sem]
    have m2 : V.cell? ⟨w.heap.size, 2, none⟩ = some (.bool any) := by simp [hc, go_sem]
    have m3 : V.cell? ⟨w.heap.size, 3, none⟩ = some (.bool not) := by simp [hc, go_sem]
    have m4 : V.cell? ⟨w.heap.size, 4, none⟩ = some (.slice A l.length c) := by simp [hc, go_sem]
    have x0 : V.cell? ⟨w.heap.size + 1, 0, none⟩ = some (.int .i64 0) := by simp [hc, go_sem]
    have x1 : V.cell? ⟨w.heap.size + 1, 1, none⟩ = some (.slice none 0 0) := by simp [hc, go_sem]
    have x2 : V.cell? ⟨w.heap.size + 1, 2, none⟩ = some (.bool false) := by simp [hc, go_sem]
    have x3 : V.cell? ⟨w.heap.size + 1, 3, none⟩ = some (.slice none 0 0) := by simp [hc, go_sem]
    have x4 : V.cell? ⟨w.heap.size + 1, 4, none⟩ = some (.int .i64 0) := by simp [hc, go_sem]
    have x5 : V.cell? ⟨w.heap.size + 1, 5, none⟩ = some (.bool false) := by simp [hc, go_sem]
    have r0 : V.cell? ⟨w.heap.size + 2, 0, none⟩ = some (.int .i64 0) := by simp [hc, go_sem]
    have r1 : V.cell? ⟨w.heap.size + 2, 1, none⟩ = some (.slice none 0 0) := by simp [hc, go_sem]
    have r2 : V.cell? ⟨w.heap.size + 2, 2, none⟩ = some (.bool false) := by simp [hc, go_sem]
    have r3 : V.cell? ⟨w.heap.size + 2, 3, none⟩ = some (.slice none 0 0) := by simp [hc, go_sem]
    have r4 : V.cell? ⟨w.heap.size + 2, 4, none⟩ = some (.int .i64 0) := by simp [hc, go_sem]
    have r5 : V.cell? ⟨w.heap.size + 2, 5, none⟩ = some (.bool false) := by simp [hc, go_sem]
    have rf0 : V.frozen? ⟨w.heap.size + 2, 0, none⟩ = false := by simp [hf, go_sem]
    have rf1 : V.frozen? ⟨w.heap.size + 2, 1, none⟩ = false := by simp [hf, go_sem]
    have rf2 : V.frozen? ⟨w.heap.size + 2, 2, none⟩ = false := by simp [hf, go_sem]
    have rf3 : V.frozen? ⟨w.heap.size + 2, 3, none⟩ = false := by simp [hf, go_sem]
    have rf4 : V.frozen? ⟨w.heap.size + 2, 4, none⟩ = false := by simp [hf, go_sem]
    have rf5 : V.frozen? ⟨w.heap.size + 2, 5, none⟩ = false := by simp [hf, go_sem]
    have z0 : w.heap.size + 3 ≤ V.heap.size := by simp [hz]
    clear hc hf hz
    go_wp2_with (go_at_call 10; (with_reducible refine Calls.mono (C1.out _ hbv) ?_); rintro e W ⟨rfl, hv1⟩; have hb := hbv.trans hv1; have zW : w.heap.size + 3 ≤ W.heap.size := (Nat.le_trans z0 hv1.size); replace m0 := (hv1.cells _ _ (by omega)).trans m0; replace m1 := (hv1.cells _ _ (by omega)).trans m1; replace m2 := (hv1.cells _ _ (by omega)).trans m2; replace m3 := (hv1.cells _ _ (by omega)).trans m3; replace m4 := (hv1.cells _ _ (by omega)).trans m4; replace x0 := (hv1.cells _ _ (by omega)).trans x0; replace x1 := (hv1.cells _ _ (by omega)).trans x1; replace x2 := (hv1.cells _ _ (by omega)).trans x2; replace x3 := (hv1.cells _ _ (by omega)).trans x3; replace x4 := (hv1.cells _ _ (by omega)).trans x4; replace x5 := (hv1.cells _ _ (by omega)).trans x5; replace r0 := (hv1.cells _ _ (by omega)).trans r0; replace r1 := (hv1.cells _ _ (by omega)).trans r1; replace r2 := (hv1.cells _ _ (by omega)).trans r2; replace r3 := (hv1.cells _ _ (by omega)).trans r3; replace r4 := (hv1.cells _ _ (by omega)).trans r4; replace r5 := (hv1.cells _ _ (by omega)).trans r5; replace rf0 := (hv1.frozens _ _ (by omega)).trans rf0; replace rf1 := (hv1.frozens _ _ (by omega)).trans rf1; replace rf2 := (hv1.frozens _ _ (by omega)).trans rf2; replace rf3 := (hv1.frozens _ _ (by omega)).trans rf3; replace rf4 := (hv1.frozens _ _ (by omega)).trans rf4; replace rf5 := (hv1.frozens _ _ (by omega)).trans rf5)
    refine bodyPost_ret (by simp [results, Tryz.results25, go_sem, r0, rf0, r1, rf1, r2, rf2, r3, rf3, r4, rf4, r5, rf5, zeroV, zeroS, St.val]; try rfl) rfl ⟨⟨2, rfl⟩, ?_⟩
    (repeat (first | with_reducible exact Bel.refl _ | with_reducible refine Bel.setCell ?_ (by first | exact Nat.le_refl _ | (dsimp only; omega)) _ | with_reducible refine Bel.alloc ?_ _ | with_reducible refine Bel.drew ?_ | with_reducible assumption | with_reducible refine Bel.trans ?_ (by assumption)))
  | true =>
    have hk := hk rfl
    go_enter Tryz.func25, Tryz.ntmps25
    go_upto_region 1 with fail
    refine under_name (w0 := w) (by (repeat (first | with_reducible exact Bel.refl _ | with_reducible refine Bel.setCell ?_ (by first | exact Nat.le_refl _ | (dsimp only; omega)) _ | with_reducible refine Bel.alloc ?_ _ | with_reducible refine Bel.drew ?_ | with_reducible assumption | with_reducible refine Bel.trans ?_ (by assumption)))) fun V hc hf hz hbv => ?_
    have m0 : V.cell? ⟨w.heap.size, 0, none⟩ = some (.int .i64 k) := by simp [hc, go_sem]
    have m1 : V.cell? ⟨w.heap.size, 1, none⟩ = some (.int .i64 sc) := by simp [hc, go_sem]
    have m2 : V.cell? ⟨w.heap.size, 2, none⟩ = some (.bool any) := by simp [hc, go_sem]
    have m3 : V.cell? ⟨w.heap.size, 3, none⟩ = some (.bool not) := by simp [hc, go_sem]
    have m4 : V.cell? ⟨w.heap.size, 4, none⟩ = some (.slice A l.length c) := by simp [hc, go_sem]
    have x0 : V.cell? ⟨w.heap.size + 1, 0, none⟩ = some (.int .i64 0) := by simp [hc, go_sem]
    have x1 : V.cell? ⟨w.heap.size + 1, 1, none⟩ = some (.slice none 0 0) := by simp [hc, go_sem]
    have x2 : V.cell? ⟨w.heap.size + 1, 2, none⟩ = some (.bool false) := by simp [hc, go_sem]
    have x3 : V.cell? ⟨w.heap.size + 1, 3, none⟩ = some (.slice none 0 0) := by simp [hc, go_sem]
    have x4 : V.cell? ⟨w.heap.size + 1, 4, none⟩ = some (.int .i64 0) := by simp [hc, go_sem]
    have x5 : V.cell? ⟨w.heap.size + 1, 5, none⟩ = some (.bool false) := by simp [hc, go_sem]
    have r0 : V.cell? ⟨w.heap.size + 2, 0, none⟩ = some (.int .i64 0) := by simp [hc, go_sem]
    have r1 : V.cell? ⟨w.heap.size + 2, 1, none⟩ = some (.slice none 0 0) := by simp [hc, go_sem]
    have r2 : V.cell? ⟨w.heap.size + 2, 2, none⟩ = some (.bool false) := by simp [hc, go_sem]
    have r3 : V.cell? ⟨w.heap.size + 2, 3, none⟩ = some (.slice none 0 0) := by simp [hc, go_sem]
    have r4 : V.cell? ⟨w.heap.size + 2, 4, none⟩ = some (.int .i64 0) := by simp [hc, go_sem]
    have r5 : V.cell? ⟨w.heap.size + 2, 5, none⟩ = some (.bool false) := by simp [hc, go_sem]
    have rf0 : V.frozen? ⟨w.heap.size + 2, 0, none⟩ = false := by simp [hf, go_sem]
    have rf1 : V.frozen? ⟨w.heap.size + 2, 1, none⟩ = false := by simp [hf, go_sem]
    have rf2 : V.frozen? ⟨w.heap.size + 2, 2, none⟩ = false := by simp [hf, go_sem]
    have rf3 : V.frozen? ⟨w.heap.size + 2, 3, none⟩ = false := by simp [hf, go_sem]
    have rf4 : V.frozen? ⟨w.heap.size + 2, 4, none⟩ = false := by simp [hf, go_sem]
    have rf5 : V.frozen? ⟨w.heap.size + 2, 5, none⟩ = false := by simp [hf, go_sem]
    have z0 : w.heap.size + 3 ≤ V.heap.size := by simp [hz]
    clear hc hf hz
    go_wp2_with (go_at_call 10; (with_reducible refine Calls.mono (C1.out _ hbv) ?_); rintro e W ⟨rfl, hv1⟩; have hb := hbv.trans hv1; have zW : w.heap.size + 3 ≤ W.heap.size := (Nat.le_trans z0 hv1.size); replace m0 := (hv1.cells _ _ (by omega)).trans m0; replace m1 := (hv1.cells _ _ (by omega)).trans m1; replace m2 := (hv1.cells _ _ (by omega)).trans m2; replace m3 := (hv1.cells _ _ (by omega)).trans m3; replace m4 := (hv1.cells _ _ (by omega)).trans m4; replace x0 := (hv1.cells _ _ (by omega)).trans x0; replace x1 := (hv1.cells _ _ (by omega)).trans x1; replace x2 := (hv1.cells _ _ (by omega)).trans x2; replace x3 := (hv1.cells _ _ (by omega)).trans x3; replace x4 := (hv1.cells _ _ (by omega)).trans x4; replace x5 := (hv1.cells _ _ (by omega)).trans x5; replace r0 := (hv1.cells _ _ (by omega)).trans r0; replace r1 := (hv1.cells _ _ (by omega)).trans r1; replace r2 := (hv1.cells _ _ (by omega)).trans r2; replace r3 := (hv1.cells _ _ (by omega)).trans r3; replace r4 := (hv1.cells _ _ (by omega)).trans r4; replace r5 := (hv1.cells _ _ (by omega)).trans r5; replace rf0 := (hv1.frozens _ _ (by omega)).trans rf0; replace rf1 := (hv1.frozens _ _ (by omega)).trans rf1; replace rf2 := (hv1.frozens _ _ (by omega)).trans rf2; replace rf3 := (hv1.frozens _ _ (by omega)).trans rf3; replace rf4 := (hv1.frozens _ _ (by omega)).trans rf4; replace rf5 := (hv1.frozens _ _ (by omega)).trans rf5)
    refine bodyPost_ret (by simp [results, Tryz.results25, go_sem, r0, rf0, r1, rf1, r2, rf2, r3, rf3, r4, rf4, r5, rf5, zeroV, zeroS, St.val]; try rfl) rfl ⟨⟨1, rfl⟩, ?_⟩
    (repeat (first | with_reducible exact Bel.refl _ | with_reducible refine Bel.setCell ?_ (by first | exact Nat.le_refl _ | (dsimp only; omega)) _ | with_reducible refine Bel.alloc ?_ _ | with_reducible refine Bel.drew ?_ | with_reducible assumption | with_reducible refine Bel.trans ?_ (by assumption)))
set_option maxRecDepth 100000 in
set_option maxHeartbeats 8000000 in
theorem MeetG_any (P : St → Prop) (K : Int) (a : List Sp) (aa : Bool) (aw : List ByteArray) (ab : Int) (an : Bool) (b : List Sp) (ba : Bool) (bw : List ByteArray) (bb : Int) (bn : Bool) (aA : Option Addr) (ac : Nat) (aA2 : Option Addr) (ac2 : Nat) (bA : Option Addr) (bc : Nat) (bA2 : Option Addr) (bc2 : Nat) (w : World) (hK : knd K = true)
    (H : ∀ W, Bel w W → Calls Tryz.prog 35 #[(⟨K, a, aa, aw, ab, an⟩ : St).val aA ac aA2 ac2, (⟨K, b, ba, bw, bb, bn⟩ : St).val bA bc bA2 bc2] W fun e w' => ∃ q, SetOut W q e w' ∧ P q) :
    Calls Tryz.prog 26 #[(⟨K, a, aa, aw, ab, an⟩ : St).val aA ac aA2 ac2, (⟨K, b, ba, bw, bb, bn⟩ : St).val bA bc bA2 bc2] w fun e w' => ∃ q A1 c1 A2 c2, e = .returned (.tuple #[q.val A1 c1 A2 c2, .int .i64 0]) ∧ SpP w.heap.size w' A1 c1 q.sp ∧ StP w.heap.size w' A2 c2 q.ws ∧ Bel w w' ∧ P q := by
  have C1 := Lib.hid fun W => known_any K W
  rw [hK] at C1
  have C2 := Lib.hid H
  clear H hK
  go_enter Tryz.func26, Tryz.ntmps26
  go_upto_region 1 with fail
  refine under_name (w0 := w) (by (repeat (first | with_reducible exact Bel.refl _ | with_reducible refine Bel.setCell ?_ (by first | exact Nat.le_refl _ | (dsimp only; omega)) _ | with_reducible refine Bel.alloc ?_ _ | with_reducible refine Bel.drew ?_ | with_reducible assumption | with_reducible refine Bel.trans ?_ (by assumption)))) fun V hc hf hz hbv => ?_
  have m0 : V.cell? ⟨w.heap.size, 0, none⟩ = some (.int .i64 K) := by simp [hc, go_sem]
  have m1 : V.cell? ⟨w.heap.size, 1, none⟩ = some (.slice aA a.length ac) := by simp [hc, go_sem]
  have m2 : V.cell? ⟨w.heap.size, 2, none⟩ = some (.bool aa) := by simp [hc, go_sem]
  have m3 : V.cell? ⟨w.heap.size, 3, none⟩ = some (.slice aA2 aw.length ac2) := by simp [hc, go_sem]
  have m4 : V.cell? ⟨w.heap.size, 4, none⟩ = some (.int .i64 ab) := by simp [hc, go_sem]
  have m5 : V.cell? ⟨w.heap.size, 5, none⟩ = some (.bool an) := by simp [hc, go_sem]
  have x0 : V.cell? ⟨w.heap.size + 1, 0, none⟩ = some (.int .i64 K) := by simp [hc, go_sem]
  have x1 : V.cell? ⟨w.heap.size + 1, 1, none⟩ = some (.slice bA b.length bc) := by simp [hc, go_sem]
  have x2 : V.cell? ⟨w.heap.size + 1, 2, none⟩ = some (.bool ba) := by simp [hc, go_sem]
  have x3 : V.cell? ⟨w.heap.size + 1, 3, none⟩ = some (.slice bA2 bw.length bc2) := by simp [hc, go_sem]
  have x4 : V.cell? ⟨w.heap.size + 1, 4, none⟩ = some (.int .i64 bb) := by simp [hc, go_sem]
  have x5 : V.cell? ⟨w.heap.size + 1, 5, none⟩ = some (.bool bn) := by simp [hc, go_sem]
  have r0 : V.cell? ⟨w.heap.size + 2, 0, none⟩ = some (.int .i64 0) := by simp [hc, go_sem]
  have r1 : V.cell? ⟨w.heap.size + 2, 1, none⟩ = some (.slice none 0 0) := by simp [hc, go_sem]
  have r2 : V.cell? ⟨w.heap.size + 2, 2, none⟩ = some (.bool false) := by simp [hc, go_sem]
  have r3 : V.cell? ⟨w.heap.size + 2, 3, none⟩ = some (.slice none 0 0) := by simp [hc, go_sem]
  have r4 : V.cell? ⟨w.heap.size + 2, 4, none⟩ = some (.int .i64 0) := by simp [hc, go_sem]
  have r5 : V.cell? ⟨w.heap.size + 2, 5, none⟩ = some (.bool false) := by simp [hc, go_sem]
  have rf0 : V.frozen? ⟨w.heap.size + 2, 0, none⟩ = false := by simp [hf, go_sem]
  have rf1 : V.frozen? ⟨w.heap.size + 2, 1, none⟩ = false := by simp [hf, go_sem]
  have rf2 : V.frozen? ⟨w.heap.size + 2, 2, none⟩ = false := by simp [hf, go_sem]
  have rf3 : V.frozen? ⟨w.heap.size + 2, 3, none⟩ = false := by simp [hf, go_sem]
  have rf4 : V.frozen? ⟨w.heap.size + 2, 4, none⟩ = false := by simp [hf, go_sem]
  have rf5 : V.frozen? ⟨w.heap.size + 2, 5, none⟩ = false := by simp [hf, go_sem]
  have z0 : w.heap.size + 3 ≤ V.heap.size := by simp [hz]
  clear hc hf hz
  go_wp2_with (first
    | (go_at_call 29; (with_reducible refine Calls.mono (C1.out _) ?_); rintro e W ⟨rfl, hv1⟩; have hb := hbv.trans hv1; have zW : w.heap.size + 3 ≤ W.heap.size := (Nat.le_trans z0 hv1.size); replace m0 := (hv1.cells _ _ (by omega)).trans m0; replace m1 := (hv1.cells _ _ (by omega)).trans m1; replace m2 := (hv1.cells _ _ (by omega)).trans m2; replace m3 := (hv1.cells _ _ (by omega)).trans m3; replace m4 := (hv1.cells _ _ (by omega)).trans m4; replace m5 := (hv1.cells _ _ (by omega)).trans m5; replace x0 := (hv1.cells _ _ (by omega)).trans x0; replace x1 := (hv1.cells _ _ (by omega)).trans x1; replace x2 := (hv1.cells _ _ (by omega)).trans x2; replace x3 := (hv1.cells _ _ (by omega)).trans x3; replace x4 := (hv1.cells _ _ (by omega)).trans x4; replace x5 := (hv1.cells _ _ (by omega)).trans x5; replace r0 := (hv1.cells _ _ (by omega)).trans r0; replace r1 := (hv1.cells _ _ (by omega)).trans r1; replace r2 := (hv1.cells _ _ (by omega)).trans r2; replace r3 := (hv1.cells _ _ (by omega)).trans r3; replace r4 := (hv1.cells _ _ (by omega)).trans r4; replace r5 := (hv1.cells _ _ (by omega)).trans r5; replace rf0 := (hv1.frozens _ _ (by omega)).trans rf0; replace rf1 := (hv1.frozens _ _ (by omega)).trans rf1; replace rf2 := (hv1.frozens _ _ (by omega)).trans rf2; replace rf3 := (hv1.frozens _ _ (by omega)).trans rf3; replace rf4 := (hv1.frozens _ _ (by omega)).trans rf4; replace rf5 := (hv1.frozens _ _ (by omega)).trans rf5)
    | (go_at_call 35; (with_reducible refine Calls.mono (C2.out _ hb) ?_); rintro e X ⟨⟨qk, qs, qa, qw, qb, qn⟩, ⟨A1, c1, A2, c2, rfl, S1, T1, hx1⟩, h1⟩; have HQ := Lib.hid h1; clear h1; simp only at S1 T1; have hbX := hb.trans hx1; have HS := Lib.hid (And.intro S1 T1); clear S1 T1; replace r0 := (hx1.cells _ _ (by omega)).trans r0; replace r1 := (hx1.cells _ _ (by omega)).trans r1; replace r2 := (hx1.cells _ _ (by omega)).trans r2; replace r3 := (hx1.cells _ _ (by omega)).trans r3; replace r4 := (hx1.cells _ _ (by omega)).trans r4; replace r5 := (hx1.cells _ _ (by omega)).trans r5; replace rf0 := (hx1.frozens _ _ (by omega)).trans rf0; replace rf1 := (hx1.frozens _ _ (by omega)).trans rf1; replace rf2 := (hx1.frozens _ _ (by omega)).trans rf2; replace rf3 := (hx1.frozens _ _ (by omega)).trans rf3; replace rf4 := (hx1.frozens _ _ (by omega)).trans rf4; replace rf5 := (hx1.frozens _ _ (by omega)).trans rf5))
  refine bodyPost_ret (by simp [results, Tryz.results26, go_sem, r0, rf0, r1, rf1, r2, rf2, r3, rf3, r4, rf4, r5, rf5]; try rfl) rfl ⟨⟨qk, qs, qa, qw, qb, qn⟩, A1, c1, A2, c2, rfl, SpP.low (SpP.other (SpP.low HS.out.1 zW) (by simp) fun k o hk => ?_) (Nat.le_add_right _ _), StP.low (StP.other (StP.low HS.out.2 zW) (by simp) fun k o hk => ?_) (Nat.le_add_right _ _), ?_, HQ.out⟩
  · have n1 : ¬ w.heap.size + 2 = k := by omega
    simp [go_sem, n1]
  · have n1 : ¬ w.heap.size + 2 = k := by omega
    simp [go_sem, n1]
  · (repeat (first | with_reducible exact Bel.refl _ | with_reducible refine Bel.setCell ?_ (by first | exact Nat.le_refl _ | (dsimp only; omega)) _ | with_reducible refine Bel.alloc ?_ _ | with_reducible refine Bel.drew ?_ | with_reducible assumption | with_reducible refine Bel.trans ?_ (by assumption)))
end Go.Proofs.YtpmmbcobjibpeaaGreatDoor
