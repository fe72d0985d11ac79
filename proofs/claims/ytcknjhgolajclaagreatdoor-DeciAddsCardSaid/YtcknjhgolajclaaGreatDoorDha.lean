import Derived.Test.YtcknjhgolajclaaGreatDoorDfb
import Derived.Deep.CutBlock
import Derived.Deep.DeepCutAuto
namespace Go.Proofs.YtcknjhgolajclaaGreatDoor
set_option linter.unusedSimpArgs false
set_option linter.unusedVariables false
open Go.RowKit

/-! Deci: the document's long rows, compared and taken from one another. -/
theorem Arr2.other {w : World} {b : Nat} {x y : Int} (h : Arr2 w b x y) {a : Addr} (ha : b ≠ a.block) (v : Value) : Arr2 (w.setCell a v) b x y := by
  obtain ⟨h1, h2, h3⟩ := h
  refine ⟨by simpa using h1, ?_, ?_⟩
  · rw [← h2]; exact World.cell?_of_block (Deep.blk_setCell_other _ _ _ _ ha)
  · rw [← h3]; exact World.cell?_of_block (Deep.blk_setCell_other _ _ _ _ ha)
def lv (n : Int) (s : Nat) : Nat := n.natAbs * 10 ^ (12 - s)
theorem lv_lt {n : Int} (s : Nat) (h : small n) : lv n s < 10 ^ 24 := by
  have h1 := h.1
  have h2 := h.2
  have h3 : 10 ^ (12 - s) ≤ 10 ^ 12 := Nat.pow_le_pow_right (by omega) (by omega)
  have := Nat.mul_le_mul (show n.natAbs ≤ 999999999999 by omega) h3
  unfold lv
  omega
theorem lv_dg {n : Int} {s : Nat} (hs : s ≤ 12) (k : Nat) : dg (lv n s) (k + (12 - s)) = dg n.natAbs k := dg_up _ _ _
theorem lv_low {n : Int} {s : Nat} (i : Nat) (h : i < 12 - s) : dg (lv n s) i = 0 := dg_low _ _ _ h
theorem lv_high {n : Int} {s : Nat} (h : small n) (i : Nat) (hi : 12 + (12 - s) ≤ i) : dg (lv n s) i = 0 := by
  refine dg_big _ _ ?_
  have h1 := h.1
  have h2 := h.2
  unfold lv
  have e : 10 ^ (12 + (12 - s)) = 10 ^ 12 * 10 ^ (12 - s) := Nat.pow_add ..
  have h3 : 10 ^ (12 + (12 - s)) ≤ 10 ^ i := Nat.pow_le_pow_right (by omega) hi
  have h4 : n.natAbs * 10 ^ (12 - s) < 10 ^ 12 * 10 ^ (12 - s) := Nat.mul_lt_mul_of_pos_right (by omega) (p10 _)
  omega
def LongOut (V : Nat) (w : World) (e : Ending) (w' : World) : Prop := ∃ g, e = .returned (.slice (some ⟨g, 0, none⟩) 60 60) ∧ w.heap.size ≤ g ∧ DRow w' g 0 60 (dg V) ∧ Bel w w'
set_option maxRecDepth 100000 in
set_option maxHeartbeats 2000000 in
theorem rlong_raw (n : Int) (s : Nat) (hn : small n) (hs : s ≤ 6) (w : World) : Calls Tryz.prog 15 #[.agg #[.int .i64 n, .int .i64 s]] w (LongOut (lv n s) w) := by
  have hmk : ∀ w, (Instr.makeSlice 36 (.int .i64 60) (.int .i64 60)).run Tryz.prog w = .ok (.slice (some ⟨w.heap.size, 0, none⟩) 60 60) (w.alloc (.cells (madeCells #[.int .i64 0] 60) 3)) := make_row 60 (by omega)
  have HS := Lib.hid fun w => rsize_any n hn w
  have hx : n.natAbs ≤ 999999999999 := by have := hn.1; have := hn.2; omega
  have HD := Lib.hid fun w => rdigits_any n.natAbs hx w
  have HN := Lib.hid hn
  have i1 : (s : Int) ≤ 6 := by omega
  clear hx hn
  go_enter Tryz.func15, Tryz.ntmps15
  go_upto_region 2 with (fail)
  refine under_name (((Bel.refl w).alloc _).alloc _) fun W hc hf hz hb => ?_
  have hA : Arr2 W w.heap.size n s := by simp [Arr2, hz, hc, hf, go_sem]
  have hO : DRow W (w.heap.size + 1) 0 60 (fun _ => 0) := by
    have h := (made_row (w.alloc (.cells #[.int .i64 n, .int .i64 s] 23)) 60 3).same hc hf hz
    simpa using h
  have hzz : W.heap.size = w.heap.size + 1 + 1 := by rw [hz]; simp
  have HZZ := Lib.hid hzz
  clear hc hf hz hmk hzz
  go_wp2_with (first
    | (go_at_call 28; refine (HS.out _).mono ?_; rintro e W1 ⟨rfl, rfl⟩)
    | (go_at_call 27; refine (HD.out _).mono ?_; rintro e W2 ⟨rfl, hX, hb1⟩; replace hA := hA.keep hb1; replace hO := hO.keep hb1; replace hb := hb.trans hb1; clear hb1))
  have hne1 : ¬ W1.heap.size = w.heap.size + 1 := by have := HZZ.out; omega
  have hne2 : ¬ w.heap.size + 1 = W1.heap.size := by have := HZZ.out; omega
  have HNE := Lib.hid (And.intro hne1 hne2)
  go_loopg [5] 12 (fun g i wr => ∃ k : Nat, k ≤ 12 ∧ i = .int .i64 k ∧ Hid (g = 12 - k) ∧ Arr2 wr w.heap.size n s ∧ DRow wr (w.heap.size + 1) 0 60 (below (dg (lv n s)) (k + (12 - s))) ∧ DRow wr W1.heap.size 0 12 (dg n.natAbs) ∧ Bel w wr)
  case atStart => exact ⟨0, by omega, rfl, rfl, hA, hO.ext fun i _ => by
    unfold below
    by_cases h : i < 0 + (12 - s)
    · rw [if_pos h, lv_low i (by omega)]
    · rw [if_neg h], hX, hb⟩
  case round =>
    clear hA hO hX hb
    obtain ⟨k, hk, rfl, hh, hA, hO, hX, hb⟩ := hrel
    by_cases hlt : k < 12
    · obtain ⟨c1, -⟩ := hX.at0 hlt
      obtain ⟨c2, c3⟩ := hO.at0 (show k + 12 - s < 60 by omega)
      have j1 : (k : Int) < 12 := by omega
      have E := Lib.hid (lv_dg (n := n) (show s ≤ 12 by omega) k)
      have E2 := Lib.hid (show k + 12 - s = k + (12 - s) by omega)
      generalize hd : dg n.natAbs k = d at *
      clear hd
      go_wp2
      go_region
      go_wp2
      go_roundg (gk - 1)
      case measure => have := hh.out; omega
      case rel => exact ⟨k + 1, by omega, by go_num, (show _ = _ by have := hh.out; omega), (hA.other (by simp) _).keep (Bel.refl _).drew, by
          rw [E2.out, ← E.out]
          exact ((hO.put (k + (12 - s)) _ (by omega)).ext fun i _ => by rw [below_upd, show k + (12 - s) + 1 = k + 1 + (12 - s) by omega]).drew,
        (hX.other hne1 _).drew, (hb.setCell (Nat.le_succ _) _).drew⟩
    · obtain rfl : k = 12 := by omega
      go_wp2
      go_ret
      exact ⟨_, rfl, Nat.le_succ _, hO.ext fun i _ => by
        unfold below
        by_cases h : i < 12 + (12 - s)
        · rw [if_pos h]
        · rw [if_neg h, lv_high HN.out i (by omega)], hb⟩
theorem rlong_any (n s : Int) (h : SndD n s) (w : World) : Calls Tryz.prog 15 #[.agg #[.int .i64 n, .int .i64 s]] w (LongOut (lv n s.toNat) w) := by
  have := rlong_raw n s.toNat h.2.2.1 (by have := h.2.1; omega) w
  rwa [show ((s.toNat : Nat) : Int) = s by have := h.1; omega] at this
theorem ret_bool {a b : Bool} (h : a = b) : Ending.returned (.bool a) = .returned (.bool b) := by rw [h]
set_option maxHeartbeats 2000000 in
theorem rless_any (b1 b2 x y : Nat) (hx0 : x < 10 ^ 60) (hy0 : y < 10 ^ 60) (w : World) (hx : DRow w b1 0 60 (dg x)) (hy : DRow w b2 0 60 (dg y)) :
    Calls Tryz.prog 14 #[.slice (some ⟨b1, 0, none⟩) 60 60, .slice (some ⟨b2, 0, none⟩) 60 60] w fun e w' => e = .returned (.bool (decide (x < y))) ∧ Bel w w' := by
  have H0 := Lib.hid (show x / 10 ^ 60 = y / 10 ^ 60 by rw [Nat.div_eq_of_lt hx0, Nat.div_eq_of_lt hy0])
  clear hx0 hy0
  go_enter Tryz.func14, Tryz.ntmps14
  go_wp2_with fail
  go_loopg [5] 60 (fun g i wr => ∃ (k : Nat) (z : Int), i = .int .i64 z ∧ Hid (z = (k : Int) - 1 ∧ k ≤ 60 ∧ g = k ∧ x / 10 ^ k = y / 10 ^ k) ∧ Bel w wr)
  case atStart => exact ⟨60, 59, rfl, ⟨rfl, Nat.le_refl _, rfl, H0.out⟩, Bel.refl w⟩
  case round =>
    obtain ⟨k, z, rfl, hh, hb⟩ := hrel
    obtain ⟨hz, hk, -, he⟩ := hh.out
    by_cases h0 : k = 0
    · subst h0
      obtain rfl : z = -1 := by omega
      have L := Lib.hid (show decide (x < y) = false by rw [decide_eq_false_iff_not]; simp at he; omega)
      clear hz hk he
      go_wp2
      go_ret
      exact ⟨ret_bool L.out.symm, hb⟩
    · obtain ⟨j, rfl⟩ : ∃ j, k = j + 1 := ⟨k - 1, by omega⟩
      obtain rfl : z = (j : Int) := by omega
      obtain ⟨c1, -⟩ := (hx.keep hb).at0 (show j < 60 by omega)
      obtain ⟨c2, -⟩ := (hy.keep hb).at0 (show j < 60 by omega)
      have j1 : (j : Int) < 60 := by omega
      have LD := Lib.hid (less_digit x y j he)
      have LS := Lib.hid (less_step x y j he)
      generalize dg x j = p at *
      generalize dg y j = q at *
      clear hz hk he h0
      by_cases hpq : p = q
      · subst hpq
        have L2 := Lib.hid (LS.out rfl)
        go_wp2
        go_quiet (fail)
        go_wp2
        go_roundg (gk - 1)
        case measure => have := hh.out.2.2.1; omega
        case rel => exact ⟨j, (j : Int) - 1, rfl, ⟨rfl, by omega, by have := hh.out.2.2.1; omega, L2.out⟩, hb.drewN _⟩
      · have L := Lib.hid (LD.out hpq)
        have e1 : ¬ (p : Int) = q := by omega
        have e2 : ((p : Int) != q) = true := by rw [bne_iff_ne]; exact e1
        clear hpq
        go_wp2
        go_quiet (fail)
        go_wp2
        go_quiet (fail)
        go_wp2
        go_ret
        exact ⟨ret_bool (by rw [decide_eq_decide, L.out] <;> omega), (hb.drewN _).drewN _⟩
set_option maxHeartbeats 2000000 in
theorem rminus_any (b1 b2 x y : Nat) (hle : y ≤ x) (w : World) (hx : DRow w b1 0 60 (dg x)) (hy : DRow w b2 0 60 (dg y)) :
    Calls Tryz.prog 24 #[.slice (some ⟨b1, 0, none⟩) 60 60, .slice (some ⟨b2, 0, none⟩) 60 60] w (LongOut (x - y) w) := by
  have hmk : ∀ w, (Instr.makeSlice 36 (.int .i64 60) (.int .i64 60)).run Tryz.prog w = .ok (.slice (some ⟨w.heap.size, 0, none⟩) 60 60) (w.alloc (.cells (madeCells #[.int .i64 0] 60) 3)) := make_row 60 (by omega)
  have HL := Lib.hid hle
  clear hle
  go_enter Tryz.func24, Tryz.ntmps24
  go_wp2
  have hD := made_row w 60 3
  have hb := (Bel.refl w).alloc (.cells (madeCells #[.int .i64 0] 60) 3)
  go_loopg [6, 7] 60 (fun g c i wr => ∃ k : Nat, k ≤ 60 ∧ c = .int .i64 ((bor x y k : Nat) : Int) ∧ i = .int .i64 k ∧ Hid (g = 60 - k) ∧ DRow wr w.heap.size 0 60 (below (dg (x - y)) k) ∧ Bel w wr)
  case atStart => exact ⟨0, by omega, by rw [bor_0]; rfl, rfl, rfl, hD.ext fun i hi => by simp [below], hb⟩
  case round =>
    clear hD hb hmk
    obtain ⟨k, hk, rfl, rfl, hh, hD, hb⟩ := hrel
    by_cases hlt : k < 60
    · obtain ⟨c1, c2⟩ := hD.at0 hlt
      obtain ⟨c3, -⟩ := (hx.keep hb).at0 hlt
      obtain ⟨c5, -⟩ := (hy.keep hb).at0 hlt
      have d1 : ((dg x k : Nat) : Int) ≤ 9 := by have := dg_lt x k; omega
      have d2 : ((dg y k : Nat) : Int) ≤ 9 := by have := dg_lt y k; omega
      have d3 : ((bor x y k : Nat) : Int) ≤ 1 := by have := bor_le x y k; omega
      have hd := minus_digit x y k HL.out
      have hbo := minus_borrow x y k HL.out
      generalize dg x k = p at *
      generalize dg y k = q at *
      generalize bor x y k = r at *
      have i1 : (0 : Int) ≤ k := by omega
      have i2 : (k : Int) < 60 := by omega
      by_cases hneg : p < q + r
      · rw [if_pos hneg] at hd hbo
        have E := Lib.hid (show (p : Int) - q - r + 10 = ((dg (x - y) k : Nat) : Int) by omega)
        have F := Lib.hid hbo
        have t1 : (p : Int) - q - r < 0 := by omega
        clear hd hbo hneg
        go_wp2
        go_quiet (fail)
        go_wp2
        go_roundg (gk - 1)
        case measure => have := hh.out; omega
        case rel => exact ⟨k + 1, by omega, by rw [← F.out]; rfl, by go_num, (show _ = _ by have := hh.out; omega), by rw [E.out]; exact ((hD.drewN _).put k (dg (x - y) k) hlt).ext fun i _ => below_upd _ _ _, (hb.drewN _).setCell (Nat.le_refl _) _⟩
      · rw [if_neg hneg] at hd hbo
        have E := Lib.hid (show (p : Int) - q - r = ((dg (x - y) k : Nat) : Int) by omega)
        have F := Lib.hid hbo
        have t1 : ¬ (p : Int) - q - r < 0 := by omega
        clear hd hbo hneg
        go_wp2
        go_quiet (fail)
        go_wp2
        go_roundg (gk - 1)
        case measure => have := hh.out; omega
        case rel => exact ⟨k + 1, by omega, by rw [← F.out]; rfl, by go_num, (show _ = _ by have := hh.out; omega), by rw [E.out]; exact ((hD.drewN _).put k (dg (x - y) k) hlt).ext fun i _ => below_upd _ _ _, (hb.drewN _).setCell (Nat.le_refl _) _⟩
    · obtain rfl : k = 60 := by omega
      go_wp2
      go_ret
      exact ⟨_, rfl, Nat.le_refl _, hD.ext fun i hi => by simp [below, hi], hb⟩
end Go.Proofs.YtcknjhgolajclaaGreatDoor
