import Derived.Test.YtpmmbcobjibpeaaGreatDoorSm6
import Derived.Deep.Heap
import Derived.Test.YtpmmbcobjibpeaaGreatDoorOpn
import Derived.Test.YtpmmbcobjibpeaaGreatDoorUni
import Derived.Test.YtpmmbcobjibpeaaGreatDoorOwn
import Derived.Test.YtpmmbcobjibpeaaGreatDoorShg
import Derived.Test.YtpmmbcobjibpeaaGreatDoorWdd
import Derived.Test.YtpmmbcobjibpeaaGreatDoorWdm
namespace Go.Proofs.YtpmmbcobjibpeaaGreatDoor
set_option linter.unusedSimpArgs false
set_option linter.unusedVariables false
section
open Go.RowKit Go.Lib Go.Deep
attribute [local go_sem ↓] eql_val neq_val
set_option maxRecDepth 100000 in
set_option maxHeartbeats 8000000 in
theorem rhas_any (k sc : Int) (any not : Bool) (l : List Tst) (A : Option Addr) (c : Nat) (s : St) (B : Option Addr) (d : Nat) (B2 : Option Addr) (d2 : Nat) (v : Val) (w : World) (hs : Tsts w A l) (hl : l.length ≤ 9223372036854775807) (ht : ∀ t ∈ l, TOk t) (hv : v.text.size ≤ 9223372036854775807)
    (hB : SetIn w B d B2 d2 s) (hp : s.sp.length ≤ 1000000) (hq : s.ws.length ≤ 9223372036854775807) (hk : s.kind = k) (h3 : k = 3 → ∃ x y, s.bools = bitsOf x y) :
    Calls Tryz.prog 20 #[tyv k sc any not (.slice A l.length c), s.val B d B2 d2, v.val] w fun e w' => e = .returned (.bool (hasT k sc any not l s v)) ∧ Bel w w' := by
  have C1 := Lib.hid fun W (hW : Bel w W) => rtin_any k sc any not l A c v W (hs.keep hW) hl ht hv
  have C2 := Lib.hid fun W => runits_any k sc any not A l.length c v W
  have C3 := Lib.hid fun W n (hW : Bel w W) => rspans_any (.slice B s.sp.length d) s.sp n W (hB.1.keep hW) hp
  have C4 := Lib.hid fun W (hW : Bel w W) => rwords_any s.all s.ws B2 d2 v.text W (hB.2.1.keep hW) hq hv
  have hT := Lib.hid (show hasT k sc any not l s v = (inT k sc any not l v && hasV s sc v) from by unfold hasT; rw [hk]; simp)
  have hN : inT k sc any not l v = true → v.kind = 0 ∨ v.kind = k ∧ (1 ≤ k ∧ k ≤ 4) ∧ (k = 3 → v.num = 0 ∨ v.num = 1) := fun h => by
    have hy : tysnd k sc any not l = true := by
      unfold inT at h
      simp only [Bool.and_eq_true] at h
      exact h.1.1
    rcases (inT_parts h).2 with h0 | ⟨h1, _⟩
    · exact .inl h0
    · exact .inr ⟨h1, (tysnd_parts hy).2.1, fun h4 => (vsnd_bool (inT_parts h).1 (h1.trans h4)).2⟩
  have hbt : k = 3 → ∃ x y, s.bools = bitsOf x y ∧ (bits BinOp.and IntKind.i64 s.bools 1 == 1) = x ∧ (bits BinOp.and IntKind.i64 s.bools 2 == 2) = y := fun h => by
    obtain ⟨x, y, e⟩ := h3 h
    refine ⟨x, y, e, ?_, ?_⟩
    · rw [e]; cases x <;> cases y <;> decide +kernel
    · rw [e]; cases x <;> cases y <;> decide +kernel
  have hV := Lib.hid (show hasV s sc v = if v.kind = 1 ∨ v.kind = 4 then smemB s.sp (unP sc v).1 else if v.kind = 2 then hasw s.all s.ws v.text else if v.kind = 3 then !(bits BinOp.and IntKind.i64 s.bools (bitV v) == 0) else s.nul from rfl)
  have hbh := Lib.hid fun x y => bits_has x y v
  generalize hasT k sc any not l s v = R at hT ⊢
  generalize inT k sc any not l v = q1 at hT C1 hN
  generalize hasV s sc v = q2 at hT hV
  generalize unP sc v = u at C2 hV
  generalize bitV v = bv at hbh hV
  obtain ⟨u1, u2⟩ := u
  obtain ⟨sk, b, ba, bw, bb, bn⟩ := s
  obtain ⟨v0, v1, v2, v3, v4⟩ := v
  simp only at hT hV hN C1 C2 C3 C4 hk hbt hbh
  subst hk
  clear hs hl ht hv hB hp hq h3
  cases q1 with
  | false =>
    obtain rfl : R = false := by have := hT.out; simpa using this
    clear hT hV hN C2 C3 C4 hbt hbh
    go_enter Tryz.func20, Tryz.ntmps20
    go_upto_region 1 with fail
    refine under_name (w0 := w) (by (repeat (first | with_reducible exact Bel.refl _ | with_reducible refine Bel.setCell ?_ (by first | exact Nat.le_refl _ | (dsimp only; omega)) _ | with_reducible refine Bel.alloc ?_ _ | with_reducible refine Bel.drew ?_ | with_reducible assumption | with_reducible refine Bel.trans ?_ (by assumption)))) fun V hc hf hz hbv => ?_
    have m0 : V.cell? ⟨w.heap.size, 0, none⟩ = some (.int .i64 sk) := by simp [hc, go_sem]
    have m1 : V.cell? ⟨w.heap.size, 1, none⟩ = some (.int .i64 sc) := by simp [hc, go_sem]
    have m2 : V.cell? ⟨w.heap.size, 2, none⟩ = some (.bool any) := by simp [hc, go_sem]
    have m3 : V.cell? ⟨w.heap.size, 3, none⟩ = some (.bool not) := by simp [hc, go_sem]
    have m4 : V.cell? ⟨w.heap.size, 4, none⟩ = some (.slice A l.length c) := by simp [hc, go_sem]
    have x0 : V.cell? ⟨w.heap.size + 1, 0, none⟩ = some (.int .i64 sk) := by simp [hc, go_sem]
    have x1 : V.cell? ⟨w.heap.size + 1, 1, none⟩ = some (.slice B b.length d) := by simp [hc, go_sem]
    have x2 : V.cell? ⟨w.heap.size + 1, 2, none⟩ = some (.bool ba) := by simp [hc, go_sem]
    have x3 : V.cell? ⟨w.heap.size + 1, 3, none⟩ = some (.slice B2 bw.length d2) := by simp [hc, go_sem]
    have x4 : V.cell? ⟨w.heap.size + 1, 4, none⟩ = some (.int .i64 bb) := by simp [hc, go_sem]
    have x5 : V.cell? ⟨w.heap.size + 1, 5, none⟩ = some (.bool bn) := by simp [hc, go_sem]
    have y0 : V.cell? ⟨w.heap.size + 2, 0, none⟩ = some (.int .i64 v0) := by simp [hc, go_sem]
    have y1 : V.cell? ⟨w.heap.size + 2, 1, none⟩ = some (.int .i64 v1) := by simp [hc, go_sem]
    have y2 : V.cell? ⟨w.heap.size + 2, 2, none⟩ = some (.int .i64 v2) := by simp [hc, go_sem]
    have y3 : V.cell? ⟨w.heap.size + 2, 3, none⟩ = some (.string v3) := by simp [hc, go_sem]
    have y4 : V.cell? ⟨w.heap.size + 2, 4, none⟩ = some (.int .i64 v4) := by simp [hc, go_sem]
    have z0 : w.heap.size + 3 ≤ V.heap.size := by simp [hz]
    clear hc hf hz
    go_wp2_with (go_at_call 13; (with_reducible refine Calls.mono (C1.out _ hbv) ?_); rintro e W ⟨rfl, hv1⟩; have hb := hbv.trans hv1; have zW : w.heap.size + 3 ≤ W.heap.size := (Nat.le_trans z0 hv1.size); replace m0 := (hv1.cells _ _ (by omega)).trans m0; replace m1 := (hv1.cells _ _ (by omega)).trans m1; replace m2 := (hv1.cells _ _ (by omega)).trans m2; replace m3 := (hv1.cells _ _ (by omega)).trans m3; replace m4 := (hv1.cells _ _ (by omega)).trans m4; replace x0 := (hv1.cells _ _ (by omega)).trans x0; replace x1 := (hv1.cells _ _ (by omega)).trans x1; replace x2 := (hv1.cells _ _ (by omega)).trans x2; replace x3 := (hv1.cells _ _ (by omega)).trans x3; replace x4 := (hv1.cells _ _ (by omega)).trans x4; replace x5 := (hv1.cells _ _ (by omega)).trans x5; replace y0 := (hv1.cells _ _ (by omega)).trans y0; replace y1 := (hv1.cells _ _ (by omega)).trans y1; replace y2 := (hv1.cells _ _ (by omega)).trans y2; replace y3 := (hv1.cells _ _ (by omega)).trans y3; replace y4 := (hv1.cells _ _ (by omega)).trans y4)
    go_ret
    exact ⟨rfl, hb⟩
  | true =>
    obtain rfl : R = q2 := by have := hT.out; simpa using this
    clear hT
    rcases hN rfl with rfl | ⟨rfl, hk4, hn⟩
    · obtain rfl : bn = R := by have := hV.out; simpa using this.symm
      clear hV hN C2 C3 C4 hbt hbh
      go_enter Tryz.func20, Tryz.ntmps20
      go_upto_region 1 with fail
      refine under_name (w0 := w) (by (repeat (first | with_reducible exact Bel.refl _ | with_reducible refine Bel.setCell ?_ (by first | exact Nat.le_refl _ | (dsimp only; omega)) _ | with_reducible refine Bel.alloc ?_ _ | with_reducible refine Bel.drew ?_ | with_reducible assumption | with_reducible refine Bel.trans ?_ (by assumption)))) fun V hc hf hz hbv => ?_
      have m0 : V.cell? ⟨w.heap.size, 0, none⟩ = some (.int .i64 sk) := by simp [hc, go_sem]
      have m1 : V.cell? ⟨w.heap.size, 1, none⟩ = some (.int .i64 sc) := by simp [hc, go_sem]
      have m2 : V.cell? ⟨w.heap.size, 2, none⟩ = some (.bool any) := by simp [hc, go_sem]
      have m3 : V.cell? ⟨w.heap.size, 3, none⟩ = some (.bool not) := by simp [hc, go_sem]
      have m4 : V.cell? ⟨w.heap.size, 4, none⟩ = some (.slice A l.length c) := by simp [hc, go_sem]
      have x0 : V.cell? ⟨w.heap.size + 1, 0, none⟩ = some (.int .i64 sk) := by simp [hc, go_sem]
      have x1 : V.cell? ⟨w.heap.size + 1, 1, none⟩ = some (.slice B b.length d) := by simp [hc, go_sem]
      have x2 : V.cell? ⟨w.heap.size + 1, 2, none⟩ = some (.bool ba) := by simp [hc, go_sem]
      have x3 : V.cell? ⟨w.heap.size + 1, 3, none⟩ = some (.slice B2 bw.length d2) := by simp [hc, go_sem]
      have x4 : V.cell? ⟨w.heap.size + 1, 4, none⟩ = some (.int .i64 bb) := by simp [hc, go_sem]
      have x5 : V.cell? ⟨w.heap.size + 1, 5, none⟩ = some (.bool bn) := by simp [hc, go_sem]
      have y0 : V.cell? ⟨w.heap.size + 2, 0, none⟩ = some (.int .i64 0) := by simp [hc, go_sem]
      have y1 : V.cell? ⟨w.heap.size + 2, 1, none⟩ = some (.int .i64 v1) := by simp [hc, go_sem]
      have y2 : V.cell? ⟨w.heap.size + 2, 2, none⟩ = some (.int .i64 v2) := by simp [hc, go_sem]
      have y3 : V.cell? ⟨w.heap.size + 2, 3, none⟩ = some (.string v3) := by simp [hc, go_sem]
      have y4 : V.cell? ⟨w.heap.size + 2, 4, none⟩ = some (.int .i64 v4) := by simp [hc, go_sem]
      have z0 : w.heap.size + 3 ≤ V.heap.size := by simp [hz]
      clear hc hf hz
      go_wp2_with (go_at_call 13; (with_reducible refine Calls.mono (C1.out _ hbv) ?_); rintro e W ⟨rfl, hv1⟩; have hb := hbv.trans hv1; have zW : w.heap.size + 3 ≤ W.heap.size := (Nat.le_trans z0 hv1.size); replace m0 := (hv1.cells _ _ (by omega)).trans m0; replace m1 := (hv1.cells _ _ (by omega)).trans m1; replace m2 := (hv1.cells _ _ (by omega)).trans m2; replace m3 := (hv1.cells _ _ (by omega)).trans m3; replace m4 := (hv1.cells _ _ (by omega)).trans m4; replace x0 := (hv1.cells _ _ (by omega)).trans x0; replace x1 := (hv1.cells _ _ (by omega)).trans x1; replace x2 := (hv1.cells _ _ (by omega)).trans x2; replace x3 := (hv1.cells _ _ (by omega)).trans x3; replace x4 := (hv1.cells _ _ (by omega)).trans x4; replace x5 := (hv1.cells _ _ (by omega)).trans x5; replace y0 := (hv1.cells _ _ (by omega)).trans y0; replace y1 := (hv1.cells _ _ (by omega)).trans y1; replace y2 := (hv1.cells _ _ (by omega)).trans y2; replace y3 := (hv1.cells _ _ (by omega)).trans y3; replace y4 := (hv1.cells _ _ (by omega)).trans y4)
      go_ret
      exact ⟨rfl, hb⟩
    · by_cases h2 : v0 = 2
      · subst h2
        obtain rfl : R = hasw ba bw v3 := by have := hV.out; simpa using this
        clear hV hN C2 C3 hbt hbh hn
        go_enter Tryz.func20, Tryz.ntmps20
        go_upto_region 1 with fail
        refine under_name (w0 := w) (by (repeat (first | with_reducible exact Bel.refl _ | with_reducible refine Bel.setCell ?_ (by first | exact Nat.le_refl _ | (dsimp only; omega)) _ | with_reducible refine Bel.alloc ?_ _ | with_reducible refine Bel.drew ?_ | with_reducible assumption | with_reducible refine Bel.trans ?_ (by assumption)))) fun V hc hf hz hbv => ?_
        have m0 : V.cell? ⟨w.heap.size, 0, none⟩ = some (.int .i64 2) := by simp [hc, go_sem]
        have m1 : V.cell? ⟨w.heap.size, 1, none⟩ = some (.int .i64 sc) := by simp [hc, go_sem]
        have m2 : V.cell? ⟨w.heap.size, 2, none⟩ = some (.bool any) := by simp [hc, go_sem]
        have m3 : V.cell? ⟨w.heap.size, 3, none⟩ = some (.bool not) := by simp [hc, go_sem]
        have m4 : V.cell? ⟨w.heap.size, 4, none⟩ = some (.slice A l.length c) := by simp [hc, go_sem]
        have x0 : V.cell? ⟨w.heap.size + 1, 0, none⟩ = some (.int .i64 2) := by simp [hc, go_sem]
        have x1 : V.cell? ⟨w.heap.size + 1, 1, none⟩ = some (.slice B b.length d) := by simp [hc, go_sem]
        have x2 : V.cell? ⟨w.heap.size + 1, 2, none⟩ = some (.bool ba) := by simp [hc, go_sem]
        have x3 : V.cell? ⟨w.heap.size + 1, 3, none⟩ = some (.slice B2 bw.length d2) := by simp [hc, go_sem]
        have x4 : V.cell? ⟨w.heap.size + 1, 4, none⟩ = some (.int .i64 bb) := by simp [hc, go_sem]
        have x5 : V.cell? ⟨w.heap.size + 1, 5, none⟩ = some (.bool bn) := by simp [hc, go_sem]
        have y0 : V.cell? ⟨w.heap.size + 2, 0, none⟩ = some (.int .i64 2) := by simp [hc, go_sem]
        have y1 : V.cell? ⟨w.heap.size + 2, 1, none⟩ = some (.int .i64 v1) := by simp [hc, go_sem]
        have y2 : V.cell? ⟨w.heap.size + 2, 2, none⟩ = some (.int .i64 v2) := by simp [hc, go_sem]
        have y3 : V.cell? ⟨w.heap.size + 2, 3, none⟩ = some (.string v3) := by simp [hc, go_sem]
        have y4 : V.cell? ⟨w.heap.size + 2, 4, none⟩ = some (.int .i64 v4) := by simp [hc, go_sem]
        have z0 : w.heap.size + 3 ≤ V.heap.size := by simp [hz]
        clear hc hf hz
        go_wp2_with (first
          | (go_at_call 13; (with_reducible refine Calls.mono (C1.out _ hbv) ?_); rintro e W ⟨rfl, hv1⟩; have hb := hbv.trans hv1; have zW : w.heap.size + 3 ≤ W.heap.size := (Nat.le_trans z0 hv1.size); replace m0 := (hv1.cells _ _ (by omega)).trans m0; replace m1 := (hv1.cells _ _ (by omega)).trans m1; replace m2 := (hv1.cells _ _ (by omega)).trans m2; replace m3 := (hv1.cells _ _ (by omega)).trans m3; replace m4 := (hv1.cells _ _ (by omega)).trans m4; replace x0 := (hv1.cells _ _ (by omega)).trans x0; replace x1 := (hv1.cells _ _ (by omega)).trans x1; replace x2 := (hv1.cells _ _ (by omega)).trans x2; replace x3 := (hv1.cells _ _ (by omega)).trans x3; replace x4 := (hv1.cells _ _ (by omega)).trans x4; replace x5 := (hv1.cells _ _ (by omega)).trans x5; replace y0 := (hv1.cells _ _ (by omega)).trans y0; replace y1 := (hv1.cells _ _ (by omega)).trans y1; replace y2 := (hv1.cells _ _ (by omega)).trans y2; replace y3 := (hv1.cells _ _ (by omega)).trans y3; replace y4 := (hv1.cells _ _ (by omega)).trans y4)
          | (go_at_call 41; (refine Calls.mono (C4.out _ hb) ?_); rintro e W2 ⟨rfl, hv2⟩; have hb2 := hb.trans hv2))
        go_ret
        exact ⟨rfl, hb2⟩
      · by_cases h3 : v0 = 3
        · subst h3
          obtain ⟨x, y, rfl, e1, e2⟩ := hbt rfl
          have hbh := hbh.out x y
          obtain rfl : R = if v4 = 0 then x else y := by have := hV.out; simp only [show ¬ ((3 : Int) = 1 ∨ (3 : Int) = 4) by decide, show ¬ ((3 : Int) = 2) by decide, if_false, if_true] at this; rw [this, hbh]
          have hn := hn rfl
          clear hV hN C2 C3 C4 hbt hbh
          generalize bitsOf x y = bb at e1 e2 ⊢
          rcases hn with rfl | rfl
          · cases x <;> cases y
            all_goals
                go_enter Tryz.func20, Tryz.ntmps20
                go_upto_region 1 with fail
                refine under_name (w0 := w) (by (repeat (first | with_reducible exact Bel.refl _ | with_reducible refine Bel.setCell ?_ (by first | exact Nat.le_refl _ | (dsimp only; omega)) _ | with_reducible refine Bel.alloc ?_ _ | with_reducible refine Bel.drew ?_ | with_reducible assumption | with_reducible refine Bel.trans ?_ (by assumption)))) fun V hc hf hz hbv => ?_
                have m0 : V.cell? ⟨w.heap.size, 0, none⟩ = some (.int .i64 3) := by simp [hc, go_sem]
                have m1 : V.cell? ⟨w.heap.size, 1, none⟩ = some (.int .i64 sc) := by simp [hc, go_sem]
                have m2 : V.cell? ⟨w.heap.size, 2, none⟩ = some (.bool any) := by simp [hc, go_sem]
                have m3 : V.cell? ⟨w.heap.size, 3, none⟩ = some (.bool not) := by simp [hc, go_sem]
                have m4 : V.cell? ⟨w.heap.size, 4, none⟩ = some (.slice A l.length c) := by simp [hc, go_sem]
                have x0 : V.cell? ⟨w.heap.size + 1, 0, none⟩ = some (.int .i64 3) := by simp [hc, go_sem]
                have x1 : V.cell? ⟨w.heap.size + 1, 1, none⟩ = some (.slice B b.length d) := by simp [hc, go_sem]
                have x2 : V.cell? ⟨w.heap.size + 1, 2, none⟩ = some (.bool ba) := by simp [hc, go_sem]
                have x3 : V.cell? ⟨w.heap.size + 1, 3, none⟩ = some (.slice B2 bw.length d2) := by simp [hc, go_sem]
                have x4 : V.cell? ⟨w.heap.size + 1, 4, none⟩ = some (.int .i64 bb) := by simp [hc, go_sem]
                have x5 : V.cell? ⟨w.heap.size + 1, 5, none⟩ = some (.bool bn) := by simp [hc, go_sem]
                have y0 : V.cell? ⟨w.heap.size + 2, 0, none⟩ = some (.int .i64 3) := by simp [hc, go_sem]
                have y1 : V.cell? ⟨w.heap.size + 2, 1, none⟩ = some (.int .i64 v1) := by simp [hc, go_sem]
                have y2 : V.cell? ⟨w.heap.size + 2, 2, none⟩ = some (.int .i64 v2) := by simp [hc, go_sem]
                have y3 : V.cell? ⟨w.heap.size + 2, 3, none⟩ = some (.string v3) := by simp [hc, go_sem]
                have y4 : V.cell? ⟨w.heap.size + 2, 4, none⟩ = some (.int .i64 0) := by simp [hc, go_sem]
                have z0 : w.heap.size + 3 ≤ V.heap.size := by simp [hz]
                clear hc hf hz
                go_wp2_with (go_at_call 13; (with_reducible refine Calls.mono (C1.out _ hbv) ?_); rintro e W ⟨rfl, hv1⟩; have hb := hbv.trans hv1; have zW : w.heap.size + 3 ≤ W.heap.size := (Nat.le_trans z0 hv1.size); replace m0 := (hv1.cells _ _ (by omega)).trans m0; replace m1 := (hv1.cells _ _ (by omega)).trans m1; replace m2 := (hv1.cells _ _ (by omega)).trans m2; replace m3 := (hv1.cells _ _ (by omega)).trans m3; replace m4 := (hv1.cells _ _ (by omega)).trans m4; replace x0 := (hv1.cells _ _ (by omega)).trans x0; replace x1 := (hv1.cells _ _ (by omega)).trans x1; replace x2 := (hv1.cells _ _ (by omega)).trans x2; replace x3 := (hv1.cells _ _ (by omega)).trans x3; replace x4 := (hv1.cells _ _ (by omega)).trans x4; replace x5 := (hv1.cells _ _ (by omega)).trans x5; replace y0 := (hv1.cells _ _ (by omega)).trans y0; replace y1 := (hv1.cells _ _ (by omega)).trans y1; replace y2 := (hv1.cells _ _ (by omega)).trans y2; replace y3 := (hv1.cells _ _ (by omega)).trans y3; replace y4 := (hv1.cells _ _ (by omega)).trans y4)
                go_ret
                exact ⟨rfl, hb⟩
          · cases x <;> cases y
            all_goals
                go_enter Tryz.func20, Tryz.ntmps20
                go_upto_region 1 with fail
                refine under_name (w0 := w) (by (repeat (first | with_reducible exact Bel.refl _ | with_reducible refine Bel.setCell ?_ (by first | exact Nat.le_refl _ | (dsimp only; omega)) _ | with_reducible refine Bel.alloc ?_ _ | with_reducible refine Bel.drew ?_ | with_reducible assumption | with_reducible refine Bel.trans ?_ (by assumption)))) fun V hc hf hz hbv => ?_
                have m0 : V.cell? ⟨w.heap.size, 0, none⟩ = some (.int .i64 3) := by simp [hc, go_sem]
                have m1 : V.cell? ⟨w.heap.size, 1, none⟩ = some (.int .i64 sc) := by simp [hc, go_sem]
                have m2 : V.cell? ⟨w.heap.size, 2, none⟩ = some (.bool any) := by simp [hc, go_sem]
                have m3 : V.cell? ⟨w.heap.size, 3, none⟩ = some (.bool not) := by simp [hc, go_sem]
                have m4 : V.cell? ⟨w.heap.size, 4, none⟩ = some (.slice A l.length c) := by simp [hc, go_sem]
                have x0 : V.cell? ⟨w.heap.size + 1, 0, none⟩ = some (.int .i64 3) := by simp [hc, go_sem]
                have x1 : V.cell? ⟨w.heap.size + 1, 1, none⟩ = some (.slice B b.length d) := by simp [hc, go_sem]
                have x2 : V.cell? ⟨w.heap.size + 1, 2, none⟩ = some (.bool ba) := by simp [hc, go_sem]
                have x3 : V.cell? ⟨w.heap.size + 1, 3, none⟩ = some (.slice B2 bw.length d2) := by simp [hc, go_sem]
                have x4 : V.cell? ⟨w.heap.size + 1, 4, none⟩ = some (.int .i64 bb) := by simp [hc, go_sem]
                have x5 : V.cell? ⟨w.heap.size + 1, 5, none⟩ = some (.bool bn) := by simp [hc, go_sem]
                have y0 : V.cell? ⟨w.heap.size + 2, 0, none⟩ = some (.int .i64 3) := by simp [hc, go_sem]
                have y1 : V.cell? ⟨w.heap.size + 2, 1, none⟩ = some (.int .i64 v1) := by simp [hc, go_sem]
                have y2 : V.cell? ⟨w.heap.size + 2, 2, none⟩ = some (.int .i64 v2) := by simp [hc, go_sem]
                have y3 : V.cell? ⟨w.heap.size + 2, 3, none⟩ = some (.string v3) := by simp [hc, go_sem]
                have y4 : V.cell? ⟨w.heap.size + 2, 4, none⟩ = some (.int .i64 1) := by simp [hc, go_sem]
                have z0 : w.heap.size + 3 ≤ V.heap.size := by simp [hz]
                clear hc hf hz
                go_wp2_with (go_at_call 13; (with_reducible refine Calls.mono (C1.out _ hbv) ?_); rintro e W ⟨rfl, hv1⟩; have hb := hbv.trans hv1; have zW : w.heap.size + 3 ≤ W.heap.size := (Nat.le_trans z0 hv1.size); replace m0 := (hv1.cells _ _ (by omega)).trans m0; replace m1 := (hv1.cells _ _ (by omega)).trans m1; replace m2 := (hv1.cells _ _ (by omega)).trans m2; replace m3 := (hv1.cells _ _ (by omega)).trans m3; replace m4 := (hv1.cells _ _ (by omega)).trans m4; replace x0 := (hv1.cells _ _ (by omega)).trans x0; replace x1 := (hv1.cells _ _ (by omega)).trans x1; replace x2 := (hv1.cells _ _ (by omega)).trans x2; replace x3 := (hv1.cells _ _ (by omega)).trans x3; replace x4 := (hv1.cells _ _ (by omega)).trans x4; replace x5 := (hv1.cells _ _ (by omega)).trans x5; replace y0 := (hv1.cells _ _ (by omega)).trans y0; replace y1 := (hv1.cells _ _ (by omega)).trans y1; replace y2 := (hv1.cells _ _ (by omega)).trans y2; replace y3 := (hv1.cells _ _ (by omega)).trans y3; replace y4 := (hv1.cells _ _ (by omega)).trans y4)
                go_ret
                exact ⟨rfl, hb⟩
        · by_cases h14 : v0 = 1 ∨ v0 = 4
          · obtain rfl : R = smemB b u1 := by have := hV.out; rw [if_pos h14] at this; exact this
            clear hV hN C4 hbt hbh hn
            rcases h14 with rfl | rfl
            · go_enter Tryz.func20, Tryz.ntmps20
              go_upto_region 1 with fail
              refine under_name (w0 := w) (by (repeat (first | with_reducible exact Bel.refl _ | with_reducible refine Bel.setCell ?_ (by first | exact Nat.le_refl _ | (dsimp only; omega)) _ | with_reducible refine Bel.alloc ?_ _ | with_reducible refine Bel.drew ?_ | with_reducible assumption | with_reducible refine Bel.trans ?_ (by assumption)))) fun V hc hf hz hbv => ?_
              have m0 : V.cell? ⟨w.heap.size, 0, none⟩ = some (.int .i64 1) := by simp [hc, go_sem]
              have m1 : V.cell? ⟨w.heap.size, 1, none⟩ = some (.int .i64 sc) := by simp [hc, go_sem]
              have m2 : V.cell? ⟨w.heap.size, 2, none⟩ = some (.bool any) := by simp [hc, go_sem]
              have m3 : V.cell? ⟨w.heap.size, 3, none⟩ = some (.bool not) := by simp [hc, go_sem]
              have m4 : V.cell? ⟨w.heap.size, 4, none⟩ = some (.slice A l.length c) := by simp [hc, go_sem]
              have x0 : V.cell? ⟨w.heap.size + 1, 0, none⟩ = some (.int .i64 1) := by simp [hc, go_sem]
              have x1 : V.cell? ⟨w.heap.size + 1, 1, none⟩ = some (.slice B b.length d) := by simp [hc, go_sem]
              have x2 : V.cell? ⟨w.heap.size + 1, 2, none⟩ = some (.bool ba) := by simp [hc, go_sem]
              have x3 : V.cell? ⟨w.heap.size + 1, 3, none⟩ = some (.slice B2 bw.length d2) := by simp [hc, go_sem]
              have x4 : V.cell? ⟨w.heap.size + 1, 4, none⟩ = some (.int .i64 bb) := by simp [hc, go_sem]
              have x5 : V.cell? ⟨w.heap.size + 1, 5, none⟩ = some (.bool bn) := by simp [hc, go_sem]
              have y0 : V.cell? ⟨w.heap.size + 2, 0, none⟩ = some (.int .i64 1) := by simp [hc, go_sem]
              have y1 : V.cell? ⟨w.heap.size + 2, 1, none⟩ = some (.int .i64 v1) := by simp [hc, go_sem]
              have y2 : V.cell? ⟨w.heap.size + 2, 2, none⟩ = some (.int .i64 v2) := by simp [hc, go_sem]
              have y3 : V.cell? ⟨w.heap.size + 2, 3, none⟩ = some (.string v3) := by simp [hc, go_sem]
              have y4 : V.cell? ⟨w.heap.size + 2, 4, none⟩ = some (.int .i64 v4) := by simp [hc, go_sem]
              have z0 : w.heap.size + 3 ≤ V.heap.size := by simp [hz]
              clear hc hf hz
              go_upto_region 10 with (go_at_call 13; (with_reducible refine Calls.mono (C1.out _ hbv) ?_); rintro e W ⟨rfl, hv1⟩; have hb := hbv.trans hv1; have zW : w.heap.size + 3 ≤ W.heap.size := (Nat.le_trans z0 hv1.size); replace m0 := (hv1.cells _ _ (by omega)).trans m0; replace m1 := (hv1.cells _ _ (by omega)).trans m1; replace m2 := (hv1.cells _ _ (by omega)).trans m2; replace m3 := (hv1.cells _ _ (by omega)).trans m3; replace m4 := (hv1.cells _ _ (by omega)).trans m4; replace x0 := (hv1.cells _ _ (by omega)).trans x0; replace x1 := (hv1.cells _ _ (by omega)).trans x1; replace x2 := (hv1.cells _ _ (by omega)).trans x2; replace x3 := (hv1.cells _ _ (by omega)).trans x3; replace x4 := (hv1.cells _ _ (by omega)).trans x4; replace x5 := (hv1.cells _ _ (by omega)).trans x5; replace y0 := (hv1.cells _ _ (by omega)).trans y0; replace y1 := (hv1.cells _ _ (by omega)).trans y1; replace y2 := (hv1.cells _ _ (by omega)).trans y2; replace y3 := (hv1.cells _ _ (by omega)).trans y3; replace y4 := (hv1.cells _ _ (by omega)).trans y4)
              have t0 : w.heap.size < W.heap.size := by omega
              have t1 : w.heap.size + 1 < W.heap.size := by omega
              have t2 : w.heap.size + 2 < W.heap.size := by omega
              have t2' : w.heap.size + 1 + 1 < W.heap.size := by omega
              refine wp_region_uni (S := (fun w' => Bel W w' ∧ (∀ b o, b < W.heap.size → w'.cell? ⟨b, o, none⟩ = W.cell? ⟨b, o, none⟩))) (by kernel_rfl) (by kernel_rfl) keep0 ?_
              repeat (first | (refine wpUni_skip (by rfl) ?_; (try simp only [Act.put, List.setIfInBounds_toArray, List.set_cons_zero, List.set_cons_succ]))
                                                            | (refine wpUni_value (by rfl) (fun w hS => by (try dsimp only at hS); go_simp; first | done | with_reducible rfl) ?_; (try simp only [Act.put, List.setIfInBounds_toArray, List.set_cons_zero, List.set_cons_succ]))
                                                            | (refine wpUni_call (f := 43) (by rfl) (fun w => by go_simp; first | done | with_reducible rfl) (fun w hS => (C2.out w).mono fun e w' ⟨he, hb⟩ => ⟨he, keep1 hS hb⟩) ?_; (try simp only [Act.put, List.setIfInBounds_toArray, List.set_cons_zero, List.set_cons_succ]))
                                                            | (refine wpUni_call (f := 42) (by rfl) (fun w => by go_simp; first | done | with_reducible rfl) (fun w hS => (C3.out w u1 (hb.trans hS.1)).mono fun e w' ⟨he, hb⟩ => ⟨he, keep1 hS hb⟩) ?_; (try simp only [Act.put, List.setIfInBounds_toArray, List.set_cons_zero, List.set_cons_succ])))
              refine wpUni_nil fun W1 hS => ?_
              have hb9 := hb.trans hS.1
              clear hS
              go_wp2_with fail
              go_ret
              exact ⟨rfl, hb9⟩
            · go_enter Tryz.func20, Tryz.ntmps20
              go_upto_region 1 with fail
              refine under_name (w0 := w) (by (repeat (first | with_reducible exact Bel.refl _ | with_reducible refine Bel.setCell ?_ (by first | exact Nat.le_refl _ | (dsimp only; omega)) _ | with_reducible refine Bel.alloc ?_ _ | with_reducible refine Bel.drew ?_ | with_reducible assumption | with_reducible refine Bel.trans ?_ (by assumption)))) fun V hc hf hz hbv => ?_
              have m0 : V.cell? ⟨w.heap.size, 0, none⟩ = some (.int .i64 4) := by simp [hc, go_sem]
              have m1 : V.cell? ⟨w.heap.size, 1, none⟩ = some (.int .i64 sc) := by simp [hc, go_sem]
              have m2 : V.cell? ⟨w.heap.size, 2, none⟩ = some (.bool any) := by simp [hc, go_sem]
              have m3 : V.cell? ⟨w.heap.size, 3, none⟩ = some (.bool not) := by simp [hc, go_sem]
              have m4 : V.cell? ⟨w.heap.size, 4, none⟩ = some (.slice A l.length c) := by simp [hc, go_sem]
              have x0 : V.cell? ⟨w.heap.size + 1, 0, none⟩ = some (.int .i64 4) := by simp [hc, go_sem]
              have x1 : V.cell? ⟨w.heap.size + 1, 1, none⟩ = some (.slice B b.length d) := by simp [hc, go_sem]
              have x2 : V.cell? ⟨w.heap.size + 1, 2, none⟩ = some (.bool ba) := by simp [hc, go_sem]
              have x3 : V.cell? ⟨w.heap.size + 1, 3, none⟩ = some (.slice B2 bw.length d2) := by simp [hc, go_sem]
              have x4 : V.cell? ⟨w.heap.size + 1, 4, none⟩ = some (.int .i64 bb) := by simp [hc, go_sem]
              have x5 : V.cell? ⟨w.heap.size + 1, 5, none⟩ = some (.bool bn) := by simp [hc, go_sem]
              have y0 : V.cell? ⟨w.heap.size + 2, 0, none⟩ = some (.int .i64 4) := by simp [hc, go_sem]
              have y1 : V.cell? ⟨w.heap.size + 2, 1, none⟩ = some (.int .i64 v1) := by simp [hc, go_sem]
              have y2 : V.cell? ⟨w.heap.size + 2, 2, none⟩ = some (.int .i64 v2) := by simp [hc, go_sem]
              have y3 : V.cell? ⟨w.heap.size + 2, 3, none⟩ = some (.string v3) := by simp [hc, go_sem]
              have y4 : V.cell? ⟨w.heap.size + 2, 4, none⟩ = some (.int .i64 v4) := by simp [hc, go_sem]
              have z0 : w.heap.size + 3 ≤ V.heap.size := by simp [hz]
              clear hc hf hz
              go_upto_region 10 with (go_at_call 13; (with_reducible refine Calls.mono (C1.out _ hbv) ?_); rintro e W ⟨rfl, hv1⟩; have hb := hbv.trans hv1; have zW : w.heap.size + 3 ≤ W.heap.size := (Nat.le_trans z0 hv1.size); replace m0 := (hv1.cells _ _ (by omega)).trans m0; replace m1 := (hv1.cells _ _ (by omega)).trans m1; replace m2 := (hv1.cells _ _ (by omega)).trans m2; replace m3 := (hv1.cells _ _ (by omega)).trans m3; replace m4 := (hv1.cells _ _ (by omega)).trans m4; replace x0 := (hv1.cells _ _ (by omega)).trans x0; replace x1 := (hv1.cells _ _ (by omega)).trans x1; replace x2 := (hv1.cells _ _ (by omega)).trans x2; replace x3 := (hv1.cells _ _ (by omega)).trans x3; replace x4 := (hv1.cells _ _ (by omega)).trans x4; replace x5 := (hv1.cells _ _ (by omega)).trans x5; replace y0 := (hv1.cells _ _ (by omega)).trans y0; replace y1 := (hv1.cells _ _ (by omega)).trans y1; replace y2 := (hv1.cells _ _ (by omega)).trans y2; replace y3 := (hv1.cells _ _ (by omega)).trans y3; replace y4 := (hv1.cells _ _ (by omega)).trans y4)
              have t0 : w.heap.size < W.heap.size := by omega
              have t1 : w.heap.size + 1 < W.heap.size := by omega
              have t2 : w.heap.size + 2 < W.heap.size := by omega
              have t2' : w.heap.size + 1 + 1 < W.heap.size := by omega
              refine wp_region_uni (S := (fun w' => Bel W w' ∧ (∀ b o, b < W.heap.size → w'.cell? ⟨b, o, none⟩ = W.cell? ⟨b, o, none⟩))) (by kernel_rfl) (by kernel_rfl) keep0 ?_
              repeat (first | (refine wpUni_skip (by rfl) ?_; (try simp only [Act.put, List.setIfInBounds_toArray, List.set_cons_zero, List.set_cons_succ]))
                                                            | (refine wpUni_value (by rfl) (fun w hS => by (try dsimp only at hS); go_simp; first | done | with_reducible rfl) ?_; (try simp only [Act.put, List.setIfInBounds_toArray, List.set_cons_zero, List.set_cons_succ]))
                                                            | (refine wpUni_call (f := 43) (by rfl) (fun w => by go_simp; first | done | with_reducible rfl) (fun w hS => (C2.out w).mono fun e w' ⟨he, hb⟩ => ⟨he, keep1 hS hb⟩) ?_; (try simp only [Act.put, List.setIfInBounds_toArray, List.set_cons_zero, List.set_cons_succ]))
                                                            | (refine wpUni_call (f := 42) (by rfl) (fun w => by go_simp; first | done | with_reducible rfl) (fun w hS => (C3.out w u1 (hb.trans hS.1)).mono fun e w' ⟨he, hb⟩ => ⟨he, keep1 hS hb⟩) ?_; (try simp only [Act.put, List.setIfInBounds_toArray, List.set_cons_zero, List.set_cons_succ])))
              refine wpUni_nil fun W1 hS => ?_
              have hb9 := hb.trans hS.1
              clear hS
              go_wp2_with fail
              go_ret
              exact ⟨rfl, hb9⟩
          · exfalso
            omega
set_option maxRecDepth 100000 in
set_option maxHeartbeats 8000000 in
theorem PickG_any (P1 P3 : St → Prop) (K sc : Int) (any not : Bool) (l : List Tst) (A : Option Addr) (c : Nat) (p : List Sp) (pa : Bool) (pw : List ByteArray) (pb : Int) (nu : Bool) (A1 : Option Addr) (c1 : Nat) (A2 : Option Addr) (c2 : Nat) (v : Val) (w : World) (hs : Tsts w A l) (hl : l.length ≤ 999) (ht : ∀ t ∈ l, TOk t) (hy : tysnd K sc any not l = true) (hB : SetIn w A1 c1 A2 c2 (⟨K, p, pa, pw, pb, nu⟩ : St))
    (H1 : ∀ W, Bel w W → Calls Tryz.prog 36 #[tyv K sc any not (.slice A l.length c)] W fun e w' => ∃ q, SetOut W q e w' ∧ P1 q)
    (H3 : ∀ X o bA bc bA2 bc2, P1 o → SetIn X bA bc bA2 bc2 o → SetIn X A1 c1 A2 c2 (⟨K, p, pa, pw, pb, nu⟩ : St) → Calls Tryz.prog 35 #[St.val o bA bc bA2 bc2, (⟨K, p, pa, pw, pb, nu⟩ : St).val A1 c1 A2 c2] X fun e w' => ∃ q, SetOut X q e w' ∧ P3 q)
    (H4 : ∀ X q bA bc bA2 bc2, P3 q → SetIn X bA bc bA2 bc2 q → Calls Tryz.prog 24 #[St.val q bA bc bA2 bc2] X fun e w' => e = .returned (.bool false) ∧ Bel X w')
    (H5 : ∀ X q bA bc bA2 bc2, Bel w X → P3 q → SetIn X bA bc bA2 bc2 q → Calls Tryz.prog 46 #[tyv K sc any not (.slice A l.length c), St.val q bA bc bA2 bc2] X fun e w' => (∃ er, e = .returned (.tuple #[v.val, .int .i64 er])) ∧ Bel X w') :
    Calls Tryz.prog 23 #[tyv K sc any not (.slice A l.length c), (⟨K, p, pa, pw, pb, nu⟩ : St).val A1 c1 A2 c2] w fun e w' => e = .returned (.tuple #[v.val, .int .i64 0]) ∧ Bel w w' := by
  have C0 := Lib.hid fun W (hW : Bel w W) => (show Calls Tryz.prog 10 #[tyv K sc any not (.slice A l.length c)] W fun e w' => e = .returned (.bool true) ∧ Bel W w' from by
    have := tsound_any K sc any not l A c W (hs.keep hW) (by omega) ht
    rw [hy] at this
    exact this)
  have C1 := Lib.hid H1
  have C3 := Lib.hid fun X o bA bc bA2 bc2 (hX : Bel w X) h1 h2 => H3 X o bA bc bA2 bc2 h1 h2 (hB.keep hX)
  have C4 := Lib.hid H4
  have C5 := Lib.hid H5
  clear hs hl ht hy hB H1 H3 H4 H5
  obtain ⟨v0, v1, v2, v3, v4⟩ := v
  go_enter Tryz.func23, Tryz.ntmps23
  go_upto_region 1 with fail
  refine under_name (w0 := w) (by (repeat (first | with_reducible exact Bel.refl _ | with_reducible refine Bel.setCell ?_ (by first | exact Nat.le_refl _ | (dsimp only; omega)) _ | with_reducible refine Bel.alloc ?_ _ | with_reducible refine Bel.drew ?_ | with_reducible assumption | with_reducible refine Bel.trans ?_ (by assumption)))) fun V hc hf hz hbv => ?_
  have m0 : V.cell? ⟨w.heap.size, 0, none⟩ = some (.int .i64 K) := by simp [hc, go_sem]
  have m1 : V.cell? ⟨w.heap.size, 1, none⟩ = some (.int .i64 sc) := by simp [hc, go_sem]
  have m2 : V.cell? ⟨w.heap.size, 2, none⟩ = some (.bool any) := by simp [hc, go_sem]
  have m3 : V.cell? ⟨w.heap.size, 3, none⟩ = some (.bool not) := by simp [hc, go_sem]
  have m4 : V.cell? ⟨w.heap.size, 4, none⟩ = some (.slice A l.length c) := by simp [hc, go_sem]
  have x0 : V.cell? ⟨w.heap.size + 1, 0, none⟩ = some (.int .i64 K) := by simp [hc, go_sem]
  have x1 : V.cell? ⟨w.heap.size + 1, 1, none⟩ = some (.slice A1 p.length c1) := by simp [hc, go_sem]
  have x2 : V.cell? ⟨w.heap.size + 1, 2, none⟩ = some (.bool pa) := by simp [hc, go_sem]
  have x3 : V.cell? ⟨w.heap.size + 1, 3, none⟩ = some (.slice A2 pw.length c2) := by simp [hc, go_sem]
  have x4 : V.cell? ⟨w.heap.size + 1, 4, none⟩ = some (.int .i64 pb) := by simp [hc, go_sem]
  have x5 : V.cell? ⟨w.heap.size + 1, 5, none⟩ = some (.bool nu) := by simp [hc, go_sem]
  have xf0 : V.frozen? ⟨w.heap.size + 1, 0, none⟩ = false := by simp [hf, go_sem]
  have xf1 : V.frozen? ⟨w.heap.size + 1, 1, none⟩ = false := by simp [hf, go_sem]
  have xf2 : V.frozen? ⟨w.heap.size + 1, 2, none⟩ = false := by simp [hf, go_sem]
  have xf3 : V.frozen? ⟨w.heap.size + 1, 3, none⟩ = false := by simp [hf, go_sem]
  have xf4 : V.frozen? ⟨w.heap.size + 1, 4, none⟩ = false := by simp [hf, go_sem]
  have xf5 : V.frozen? ⟨w.heap.size + 1, 5, none⟩ = false := by simp [hf, go_sem]
  have r0 : V.cell? ⟨w.heap.size + 2, 0, none⟩ = some (.int .i64 0) := by simp [hc, go_sem]
  have r1 : V.cell? ⟨w.heap.size + 2, 1, none⟩ = some (.int .i64 0) := by simp [hc, go_sem]
  have r2 : V.cell? ⟨w.heap.size + 2, 2, none⟩ = some (.int .i64 0) := by simp [hc, go_sem]
  have r3 : V.cell? ⟨w.heap.size + 2, 3, none⟩ = some (.string ⟨#[]⟩) := by simp [hc, go_sem]
  have r4 : V.cell? ⟨w.heap.size + 2, 4, none⟩ = some (.int .i64 0) := by simp [hc, go_sem]
  have rf0 : V.frozen? ⟨w.heap.size + 2, 0, none⟩ = false := by simp [hf, go_sem]
  have rf1 : V.frozen? ⟨w.heap.size + 2, 1, none⟩ = false := by simp [hf, go_sem]
  have rf2 : V.frozen? ⟨w.heap.size + 2, 2, none⟩ = false := by simp [hf, go_sem]
  have rf3 : V.frozen? ⟨w.heap.size + 2, 3, none⟩ = false := by simp [hf, go_sem]
  have rf4 : V.frozen? ⟨w.heap.size + 2, 4, none⟩ = false := by simp [hf, go_sem]
  have z0 : w.heap.size + 3 ≤ V.heap.size := by simp [hz]
  clear hc hf hz
  go_upto_region 5 with (go_at_call 10; (with_reducible refine Calls.mono (C0.out _ hbv) ?_); rintro e W ⟨rfl, hv1⟩; have hb := hbv.trans hv1; have zW : w.heap.size + 3 ≤ W.heap.size := (Nat.le_trans z0 hv1.size); replace m0 := (hv1.cells _ _ (by omega)).trans m0; replace m1 := (hv1.cells _ _ (by omega)).trans m1; replace m2 := (hv1.cells _ _ (by omega)).trans m2; replace m3 := (hv1.cells _ _ (by omega)).trans m3; replace m4 := (hv1.cells _ _ (by omega)).trans m4; replace x0 := (hv1.cells _ _ (by omega)).trans x0; replace x1 := (hv1.cells _ _ (by omega)).trans x1; replace x2 := (hv1.cells _ _ (by omega)).trans x2; replace x3 := (hv1.cells _ _ (by omega)).trans x3; replace x4 := (hv1.cells _ _ (by omega)).trans x4; replace x5 := (hv1.cells _ _ (by omega)).trans x5; replace xf0 := (hv1.frozens _ _ (by omega)).trans xf0; replace xf1 := (hv1.frozens _ _ (by omega)).trans xf1; replace xf2 := (hv1.frozens _ _ (by omega)).trans xf2; replace xf3 := (hv1.frozens _ _ (by omega)).trans xf3; replace xf4 := (hv1.frozens _ _ (by omega)).trans xf4; replace xf5 := (hv1.frozens _ _ (by omega)).trans xf5; replace r0 := (hv1.cells _ _ (by omega)).trans r0; replace r1 := (hv1.cells _ _ (by omega)).trans r1; replace r2 := (hv1.cells _ _ (by omega)).trans r2; replace r3 := (hv1.cells _ _ (by omega)).trans r3; replace r4 := (hv1.cells _ _ (by omega)).trans r4; replace rf0 := (hv1.frozens _ _ (by omega)).trans rf0; replace rf1 := (hv1.frozens _ _ (by omega)).trans rf1; replace rf2 := (hv1.frozens _ _ (by omega)).trans rf2; replace rf3 := (hv1.frozens _ _ (by omega)).trans rf3; replace rf4 := (hv1.frozens _ _ (by omega)).trans rf4)
  clear hv1 hbv z0 C0
  refine wp_region_noPanic ?_
  refine wp_region_held (S := fun X => Bel w X ∧ X.cell? ⟨w.heap.size, 0, none⟩ = some (.int .i64 K) ∧ X.cell? ⟨w.heap.size, 1, none⟩ = some (.int .i64 sc) ∧ X.cell? ⟨w.heap.size, 2, none⟩ = some (.bool any) ∧ X.cell? ⟨w.heap.size, 3, none⟩ = some (.bool not) ∧ X.cell? ⟨w.heap.size, 4, none⟩ = some (.slice A l.length c)) (by kernel_rfl) ?_
  have hX0 : Bel W { W with drawn := W.drawn + 1 } := (Bel.refl W).drew
  generalize { W with drawn := W.drawn + 1 } = X0 at hX0 ⊢
  replace m0 := (hX0.cells _ _ (by omega)).trans m0; replace m1 := (hX0.cells _ _ (by omega)).trans m1; replace m2 := (hX0.cells _ _ (by omega)).trans m2; replace m3 := (hX0.cells _ _ (by omega)).trans m3; replace m4 := (hX0.cells _ _ (by omega)).trans m4; replace x0 := (hX0.cells _ _ (by omega)).trans x0; replace x1 := (hX0.cells _ _ (by omega)).trans x1; replace x2 := (hX0.cells _ _ (by omega)).trans x2; replace x3 := (hX0.cells _ _ (by omega)).trans x3; replace x4 := (hX0.cells _ _ (by omega)).trans x4; replace x5 := (hX0.cells _ _ (by omega)).trans x5; replace xf0 := (hX0.frozens _ _ (by omega)).trans xf0; replace xf1 := (hX0.frozens _ _ (by omega)).trans xf1; replace xf2 := (hX0.frozens _ _ (by omega)).trans xf2; replace xf3 := (hX0.frozens _ _ (by omega)).trans xf3; replace xf4 := (hX0.frozens _ _ (by omega)).trans xf4; replace xf5 := (hX0.frozens _ _ (by omega)).trans xf5; replace r0 := (hX0.cells _ _ (by omega)).trans r0; replace r1 := (hX0.cells _ _ (by omega)).trans r1; replace r2 := (hX0.cells _ _ (by omega)).trans r2; replace r3 := (hX0.cells _ _ (by omega)).trans r3; replace r4 := (hX0.cells _ _ (by omega)).trans r4; replace rf0 := (hX0.frozens _ _ (by omega)).trans rf0; replace rf1 := (hX0.frozens _ _ (by omega)).trans rf1; replace rf2 := (hX0.frozens _ _ (by omega)).trans rf2; replace rf3 := (hX0.frozens _ _ (by omega)).trans rf3; replace rf4 := (hX0.frozens _ _ (by omega)).trans rf4
  have zX0 : w.heap.size + 3 ≤ X0.heap.size := Nat.le_trans zW hX0.size
  have hb0 := hb.trans hX0
  refine wpAnyH_take (i := 0) (oi := { dst := some 18, op := Op.load 26 (Operand.tmp 2), type := 26, pos := "sets.go:117", after := #[], guard := none }) (v := (tyv K sc any not (.slice A l.length c))) rfl (by kernel_rfl) (by kernel_rfl) (by kernel_rfl) (fun _ _ _ h => h) (.inl ⟨by rfl, fun X hS => by
      obtain ⟨_, k0, k1, k2, k3, k4⟩ := hS
      go_simp; first | done | with_reducible rfl | rfl⟩) ⟨hb0, m0, m1, m2, m3, m4⟩ ?_
  (try simp only [Act.put, List.setIfInBounds_toArray, List.set_cons_zero, List.set_cons_succ])
  refine wpAnyH_all (rs := [1, 2]) (by kernel_rfl) (by simp) ?_
  intro i hi
  simp only [List.mem_cons, List.not_mem_nil, or_false] at hi
  rcases hi with rfl | rfl
  · refine wpOp_enter (o := { dst := some 19, op := Op.call { callee := Callee.value (Operand.func 36), args := #[Operand.tmp 18], argTypes := #[26] }, type := 39, pos := "sets.go:117", after := #[{ on := 0, ground := Ground.data }], guard := none }) (R := fun v w' => ∃ o B1 d1 B2 d2, v = St.val o B1 d1 B2 d2 ∧ SetIn w' B1 d1 B2 d2 o ∧ P1 o ∧ Bel X0 w') rfl (by rfl) (by go_simp; first | done | with_reducible rfl | rfl) ((C1.out X0 hb0).mono fun e w' ⟨o, ⟨B1, d1, B2, d2, h1, h2, h3, h4⟩, h5⟩ => ⟨_, h1, o, B1, d1, B2, d2, rfl, setIn_of h2 h3, h5, h4⟩) ?_
    rintro v X1 ⟨o, B1, d1, B2, d2, rfl, S1, HO, hb'⟩
    replace m0 := (hb'.cells _ _ (by omega)).trans m0; replace m1 := (hb'.cells _ _ (by omega)).trans m1; replace m2 := (hb'.cells _ _ (by omega)).trans m2; replace m3 := (hb'.cells _ _ (by omega)).trans m3; replace m4 := (hb'.cells _ _ (by omega)).trans m4; replace x0 := (hb'.cells _ _ (by omega)).trans x0; replace x1 := (hb'.cells _ _ (by omega)).trans x1; replace x2 := (hb'.cells _ _ (by omega)).trans x2; replace x3 := (hb'.cells _ _ (by omega)).trans x3; replace x4 := (hb'.cells _ _ (by omega)).trans x4; replace x5 := (hb'.cells _ _ (by omega)).trans x5; replace xf0 := (hb'.frozens _ _ (by omega)).trans xf0; replace xf1 := (hb'.frozens _ _ (by omega)).trans xf1; replace xf2 := (hb'.frozens _ _ (by omega)).trans xf2; replace xf3 := (hb'.frozens _ _ (by omega)).trans xf3; replace xf4 := (hb'.frozens _ _ (by omega)).trans xf4; replace xf5 := (hb'.frozens _ _ (by omega)).trans xf5; replace r0 := (hb'.cells _ _ (by omega)).trans r0; replace r1 := (hb'.cells _ _ (by omega)).trans r1; replace r2 := (hb'.cells _ _ (by omega)).trans r2; replace r3 := (hb'.cells _ _ (by omega)).trans r3; replace r4 := (hb'.cells _ _ (by omega)).trans r4; replace rf0 := (hb'.frozens _ _ (by omega)).trans rf0; replace rf1 := (hb'.frozens _ _ (by omega)).trans rf1; replace rf2 := (hb'.frozens _ _ (by omega)).trans rf2; replace rf3 := (hb'.frozens _ _ (by omega)).trans rf3; replace rf4 := (hb'.frozens _ _ (by omega)).trans rf4
    have zX1 : w.heap.size + 3 ≤ X1.heap.size := Nat.le_trans zX0 hb'.size
    have hb1 := hb0.trans hb'
    clear hb'
    refine ⟨⟨hb1, m0, m1, m2, m3, m4⟩, ?_⟩
    (try simp only [Act.put, List.setIfInBounds_toArray, List.set_cons_zero, List.set_cons_succ])
    refine wpAnyH_all (rs := [2]) (by kernel_rfl) (by simp) ?_
    intro i hi
    simp only [List.mem_cons, List.not_mem_nil, or_false] at hi
    subst hi
    refine wpOp_value (o := { dst := some 20, op := Op.load 39 (Operand.tmp 3), type := 39, pos := "sets.go:117", after := #[], guard := none }) (v := ((⟨K, p, pa, pw, pb, nu⟩ : St).val A1 c1 A2 c2)) (w' := X1) rfl (by rfl) (by go_simp; first | done | with_reducible rfl | rfl) ?_
    refine ⟨⟨hb1, m0, m1, m2, m3, m4⟩, ?_⟩
    (try simp only [Act.put, List.setIfInBounds_toArray, List.set_cons_zero, List.set_cons_succ])
    refine wpAnyH_all (rs := [3]) (by kernel_rfl) (by simp) ?_
    intro i hi
    simp only [List.mem_cons, List.not_mem_nil, or_false] at hi
    subst hi
    refine wpOp_enter (o := { dst := some 21, op := Op.call { callee := Callee.value (Operand.func 35), args := #[Operand.tmp 19, Operand.tmp 20], argTypes := #[39, 39] }, type := 39, pos := "sets.go:117", after := #[{ on := 1, ground := Ground.data }, { on := 2, ground := Ground.data }, { on := 1, ground := Ground.chain }], guard := none }) (R := fun v w' => ∃ q A5 c5 A6 c6, v = St.val q A5 c5 A6 c6 ∧ SpP X1.heap.size w' A5 c5 q.sp ∧ StP X1.heap.size w' A6 c6 q.ws ∧ P3 q ∧ Bel X1 w') rfl (by rfl) (by go_simp; first | done | with_reducible rfl | rfl) ((C3.out X1 o B1 d1 B2 d2 hb1 HO S1).mono fun e w' ⟨q, ⟨A5, c5, A6, c6, h1, h2, h3, h4⟩, h5⟩ => ⟨_, h1, q, A5, c5, A6, c6, rfl, h2, h3, h5, h4⟩) ?_
    rintro v X2 ⟨⟨qk, qs, qa, qw, qb, qn⟩, A5, c5, A6, c6, rfl, S3, T3, HQ, hb'⟩
    simp only at S3 T3
    replace m0 := (hb'.cells _ _ (by omega)).trans m0; replace m1 := (hb'.cells _ _ (by omega)).trans m1; replace m2 := (hb'.cells _ _ (by omega)).trans m2; replace m3 := (hb'.cells _ _ (by omega)).trans m3; replace m4 := (hb'.cells _ _ (by omega)).trans m4; replace x0 := (hb'.cells _ _ (by omega)).trans x0; replace x1 := (hb'.cells _ _ (by omega)).trans x1; replace x2 := (hb'.cells _ _ (by omega)).trans x2; replace x3 := (hb'.cells _ _ (by omega)).trans x3; replace x4 := (hb'.cells _ _ (by omega)).trans x4; replace x5 := (hb'.cells _ _ (by omega)).trans x5; replace xf0 := (hb'.frozens _ _ (by omega)).trans xf0; replace xf1 := (hb'.frozens _ _ (by omega)).trans xf1; replace xf2 := (hb'.frozens _ _ (by omega)).trans xf2; replace xf3 := (hb'.frozens _ _ (by omega)).trans xf3; replace xf4 := (hb'.frozens _ _ (by omega)).trans xf4; replace xf5 := (hb'.frozens _ _ (by omega)).trans xf5; replace r0 := (hb'.cells _ _ (by omega)).trans r0; replace r1 := (hb'.cells _ _ (by omega)).trans r1; replace r2 := (hb'.cells _ _ (by omega)).trans r2; replace r3 := (hb'.cells _ _ (by omega)).trans r3; replace r4 := (hb'.cells _ _ (by omega)).trans r4; replace rf0 := (hb'.frozens _ _ (by omega)).trans rf0; replace rf1 := (hb'.frozens _ _ (by omega)).trans rf1; replace rf2 := (hb'.frozens _ _ (by omega)).trans rf2; replace rf3 := (hb'.frozens _ _ (by omega)).trans rf3; replace rf4 := (hb'.frozens _ _ (by omega)).trans rf4
    have zX2 : w.heap.size + 3 ≤ X2.heap.size := Nat.le_trans zX1 hb'.size
    have hb2 := hb1.trans hb'
    clear hb'
    refine ⟨⟨hb2, m0, m1, m2, m3, m4⟩, ?_⟩
    (try simp only [Act.put, List.setIfInBounds_toArray, List.set_cons_zero, List.set_cons_succ])
    refine wpAnyH_all (rs := [4]) (by kernel_rfl) (by simp) ?_
    intro i hi
    simp only [List.mem_cons, List.not_mem_nil, or_false] at hi
    subst hi
    refine wpOp_skip (o := { dst := none, op := Op.store 39 (Operand.tmp 3) (Operand.tmp 21), type := 0, pos := "sets.go:117", after := #[{ on := 3, ground := Ground.data }, { on := 3, ground := Ground.chain }, { on := 0, ground := Ground.phase }, { on := 1, ground := Ground.phase }, { on := 2, ground := Ground.phase }, { on := 3, ground := Ground.phase }], guard := none }) (w' := ((((((X2.setCell ⟨w.heap.size + 1, 0, none⟩ (.int .i64 qk)).setCell ⟨w.heap.size + 1, 1, none⟩ (.slice A5 qs.length c5)).setCell ⟨w.heap.size + 1, 2, none⟩ (.bool qa)).setCell ⟨w.heap.size + 1, 3, none⟩ (.slice A6 qw.length c6)).setCell ⟨w.heap.size + 1, 4, none⟩ (.int .i64 qb)).setCell ⟨w.heap.size + 1, 5, none⟩ (.bool qn))) rfl (by rfl) (by go_simp; first | done | with_reducible rfl | rfl) ?_
    have hZ : Bel w ((((((X2.setCell ⟨w.heap.size + 1, 0, none⟩ (.int .i64 qk)).setCell ⟨w.heap.size + 1, 1, none⟩ (.slice A5 qs.length c5)).setCell ⟨w.heap.size + 1, 2, none⟩ (.bool qa)).setCell ⟨w.heap.size + 1, 3, none⟩ (.slice A6 qw.length c6)).setCell ⟨w.heap.size + 1, 4, none⟩ (.int .i64 qb)).setCell ⟨w.heap.size + 1, 5, none⟩ (.bool qn)) := by
        (repeat (first | with_reducible exact Bel.refl _ | with_reducible refine Bel.setCell ?_ (by first | exact Nat.le_refl _ | (dsimp only; omega)) _ | with_reducible refine Bel.alloc ?_ _ | with_reducible refine Bel.drew ?_ | with_reducible assumption | with_reducible refine Bel.trans ?_ (by assumption)))
    replace m0 : World.cell? ((((((X2.setCell ⟨w.heap.size + 1, 0, none⟩ (.int .i64 qk)).setCell ⟨w.heap.size + 1, 1, none⟩ (.slice A5 qs.length c5)).setCell ⟨w.heap.size + 1, 2, none⟩ (.bool qa)).setCell ⟨w.heap.size + 1, 3, none⟩ (.slice A6 qw.length c6)).setCell ⟨w.heap.size + 1, 4, none⟩ (.int .i64 qb)).setCell ⟨w.heap.size + 1, 5, none⟩ (.bool qn)) ⟨w.heap.size, 0, none⟩ = some (.int .i64 K) := by simp [go_sem, m0]
    replace m1 : World.cell? ((((((X2.setCell ⟨w.heap.size + 1, 0, none⟩ (.int .i64 qk)).setCell ⟨w.heap.size + 1, 1, none⟩ (.slice A5 qs.length c5)).setCell ⟨w.heap.size + 1, 2, none⟩ (.bool qa)).setCell ⟨w.heap.size + 1, 3, none⟩ (.slice A6 qw.length c6)).setCell ⟨w.heap.size + 1, 4, none⟩ (.int .i64 qb)).setCell ⟨w.heap.size + 1, 5, none⟩ (.bool qn)) ⟨w.heap.size, 1, none⟩ = some (.int .i64 sc) := by simp [go_sem, m1]
    replace m2 : World.cell? ((((((X2.setCell ⟨w.heap.size + 1, 0, none⟩ (.int .i64 qk)).setCell ⟨w.heap.size + 1, 1, none⟩ (.slice A5 qs.length c5)).setCell ⟨w.heap.size + 1, 2, none⟩ (.bool qa)).setCell ⟨w.heap.size + 1, 3, none⟩ (.slice A6 qw.length c6)).setCell ⟨w.heap.size + 1, 4, none⟩ (.int .i64 qb)).setCell ⟨w.heap.size + 1, 5, none⟩ (.bool qn)) ⟨w.heap.size, 2, none⟩ = some (.bool any) := by simp [go_sem, m2]
    replace m3 : World.cell? ((((((X2.setCell ⟨w.heap.size + 1, 0, none⟩ (.int .i64 qk)).setCell ⟨w.heap.size + 1, 1, none⟩ (.slice A5 qs.length c5)).setCell ⟨w.heap.size + 1, 2, none⟩ (.bool qa)).setCell ⟨w.heap.size + 1, 3, none⟩ (.slice A6 qw.length c6)).setCell ⟨w.heap.size + 1, 4, none⟩ (.int .i64 qb)).setCell ⟨w.heap.size + 1, 5, none⟩ (.bool qn)) ⟨w.heap.size, 3, none⟩ = some (.bool not) := by simp [go_sem, m3]
    replace m4 : World.cell? ((((((X2.setCell ⟨w.heap.size + 1, 0, none⟩ (.int .i64 qk)).setCell ⟨w.heap.size + 1, 1, none⟩ (.slice A5 qs.length c5)).setCell ⟨w.heap.size + 1, 2, none⟩ (.bool qa)).setCell ⟨w.heap.size + 1, 3, none⟩ (.slice A6 qw.length c6)).setCell ⟨w.heap.size + 1, 4, none⟩ (.int .i64 qb)).setCell ⟨w.heap.size + 1, 5, none⟩ (.bool qn)) ⟨w.heap.size, 4, none⟩ = some (.slice A l.length c) := by simp [go_sem, m4]
    have t0 : World.cell? ((((((X2.setCell ⟨w.heap.size + 1, 0, none⟩ (.int .i64 qk)).setCell ⟨w.heap.size + 1, 1, none⟩ (.slice A5 qs.length c5)).setCell ⟨w.heap.size + 1, 2, none⟩ (.bool qa)).setCell ⟨w.heap.size + 1, 3, none⟩ (.slice A6 qw.length c6)).setCell ⟨w.heap.size + 1, 4, none⟩ (.int .i64 qb)).setCell ⟨w.heap.size + 1, 5, none⟩ (.bool qn)) ⟨w.heap.size + 1, 0, none⟩ = some (.int .i64 qk) := by simp [go_sem, x0, x1, x2, x3, x4, x5]
    have t1 : World.cell? ((((((X2.setCell ⟨w.heap.size + 1, 0, none⟩ (.int .i64 qk)).setCell ⟨w.heap.size + 1, 1, none⟩ (.slice A5 qs.length c5)).setCell ⟨w.heap.size + 1, 2, none⟩ (.bool qa)).setCell ⟨w.heap.size + 1, 3, none⟩ (.slice A6 qw.length c6)).setCell ⟨w.heap.size + 1, 4, none⟩ (.int .i64 qb)).setCell ⟨w.heap.size + 1, 5, none⟩ (.bool qn)) ⟨w.heap.size + 1, 1, none⟩ = some (.slice A5 qs.length c5) := by simp [go_sem, x0, x1, x2, x3, x4, x5]
    have t2 : World.cell? ((((((X2.setCell ⟨w.heap.size + 1, 0, none⟩ (.int .i64 qk)).setCell ⟨w.heap.size + 1, 1, none⟩ (.slice A5 qs.length c5)).setCell ⟨w.heap.size + 1, 2, none⟩ (.bool qa)).setCell ⟨w.heap.size + 1, 3, none⟩ (.slice A6 qw.length c6)).setCell ⟨w.heap.size + 1, 4, none⟩ (.int .i64 qb)).setCell ⟨w.heap.size + 1, 5, none⟩ (.bool qn)) ⟨w.heap.size + 1, 2, none⟩ = some (.bool qa) := by simp [go_sem, x0, x1, x2, x3, x4, x5]
    have t3 : World.cell? ((((((X2.setCell ⟨w.heap.size + 1, 0, none⟩ (.int .i64 qk)).setCell ⟨w.heap.size + 1, 1, none⟩ (.slice A5 qs.length c5)).setCell ⟨w.heap.size + 1, 2, none⟩ (.bool qa)).setCell ⟨w.heap.size + 1, 3, none⟩ (.slice A6 qw.length c6)).setCell ⟨w.heap.size + 1, 4, none⟩ (.int .i64 qb)).setCell ⟨w.heap.size + 1, 5, none⟩ (.bool qn)) ⟨w.heap.size + 1, 3, none⟩ = some (.slice A6 qw.length c6) := by simp [go_sem, x0, x1, x2, x3, x4, x5]
    have t4 : World.cell? ((((((X2.setCell ⟨w.heap.size + 1, 0, none⟩ (.int .i64 qk)).setCell ⟨w.heap.size + 1, 1, none⟩ (.slice A5 qs.length c5)).setCell ⟨w.heap.size + 1, 2, none⟩ (.bool qa)).setCell ⟨w.heap.size + 1, 3, none⟩ (.slice A6 qw.length c6)).setCell ⟨w.heap.size + 1, 4, none⟩ (.int .i64 qb)).setCell ⟨w.heap.size + 1, 5, none⟩ (.bool qn)) ⟨w.heap.size + 1, 4, none⟩ = some (.int .i64 qb) := by simp [go_sem, x0, x1, x2, x3, x4, x5]
    have t5 : World.cell? ((((((X2.setCell ⟨w.heap.size + 1, 0, none⟩ (.int .i64 qk)).setCell ⟨w.heap.size + 1, 1, none⟩ (.slice A5 qs.length c5)).setCell ⟨w.heap.size + 1, 2, none⟩ (.bool qa)).setCell ⟨w.heap.size + 1, 3, none⟩ (.slice A6 qw.length c6)).setCell ⟨w.heap.size + 1, 4, none⟩ (.int .i64 qb)).setCell ⟨w.heap.size + 1, 5, none⟩ (.bool qn)) ⟨w.heap.size + 1, 5, none⟩ = some (.bool qn) := by simp [go_sem, x0, x1, x2, x3, x4, x5]
    replace r0 : World.cell? ((((((X2.setCell ⟨w.heap.size + 1, 0, none⟩ (.int .i64 qk)).setCell ⟨w.heap.size + 1, 1, none⟩ (.slice A5 qs.length c5)).setCell ⟨w.heap.size + 1, 2, none⟩ (.bool qa)).setCell ⟨w.heap.size + 1, 3, none⟩ (.slice A6 qw.length c6)).setCell ⟨w.heap.size + 1, 4, none⟩ (.int .i64 qb)).setCell ⟨w.heap.size + 1, 5, none⟩ (.bool qn)) ⟨w.heap.size + 2, 0, none⟩ = some (.int .i64 0) := by simp [go_sem, r0]
    replace r1 : World.cell? ((((((X2.setCell ⟨w.heap.size + 1, 0, none⟩ (.int .i64 qk)).setCell ⟨w.heap.size + 1, 1, none⟩ (.slice A5 qs.length c5)).setCell ⟨w.heap.size + 1, 2, none⟩ (.bool qa)).setCell ⟨w.heap.size + 1, 3, none⟩ (.slice A6 qw.length c6)).setCell ⟨w.heap.size + 1, 4, none⟩ (.int .i64 qb)).setCell ⟨w.heap.size + 1, 5, none⟩ (.bool qn)) ⟨w.heap.size + 2, 1, none⟩ = some (.int .i64 0) := by simp [go_sem, r1]
    replace r2 : World.cell? ((((((X2.setCell ⟨w.heap.size + 1, 0, none⟩ (.int .i64 qk)).setCell ⟨w.heap.size + 1, 1, none⟩ (.slice A5 qs.length c5)).setCell ⟨w.heap.size + 1, 2, none⟩ (.bool qa)).setCell ⟨w.heap.size + 1, 3, none⟩ (.slice A6 qw.length c6)).setCell ⟨w.heap.size + 1, 4, none⟩ (.int .i64 qb)).setCell ⟨w.heap.size + 1, 5, none⟩ (.bool qn)) ⟨w.heap.size + 2, 2, none⟩ = some (.int .i64 0) := by simp [go_sem, r2]
    replace r3 : World.cell? ((((((X2.setCell ⟨w.heap.size + 1, 0, none⟩ (.int .i64 qk)).setCell ⟨w.heap.size + 1, 1, none⟩ (.slice A5 qs.length c5)).setCell ⟨w.heap.size + 1, 2, none⟩ (.bool qa)).setCell ⟨w.heap.size + 1, 3, none⟩ (.slice A6 qw.length c6)).setCell ⟨w.heap.size + 1, 4, none⟩ (.int .i64 qb)).setCell ⟨w.heap.size + 1, 5, none⟩ (.bool qn)) ⟨w.heap.size + 2, 3, none⟩ = some (.string ⟨#[]⟩) := by simp [go_sem, r3]
    replace r4 : World.cell? ((((((X2.setCell ⟨w.heap.size + 1, 0, none⟩ (.int .i64 qk)).setCell ⟨w.heap.size + 1, 1, none⟩ (.slice A5 qs.length c5)).setCell ⟨w.heap.size + 1, 2, none⟩ (.bool qa)).setCell ⟨w.heap.size + 1, 3, none⟩ (.slice A6 qw.length c6)).setCell ⟨w.heap.size + 1, 4, none⟩ (.int .i64 qb)).setCell ⟨w.heap.size + 1, 5, none⟩ (.bool qn)) ⟨w.heap.size + 2, 4, none⟩ = some (.int .i64 0) := by simp [go_sem, r4]
    replace rf0 : World.frozen? ((((((X2.setCell ⟨w.heap.size + 1, 0, none⟩ (.int .i64 qk)).setCell ⟨w.heap.size + 1, 1, none⟩ (.slice A5 qs.length c5)).setCell ⟨w.heap.size + 1, 2, none⟩ (.bool qa)).setCell ⟨w.heap.size + 1, 3, none⟩ (.slice A6 qw.length c6)).setCell ⟨w.heap.size + 1, 4, none⟩ (.int .i64 qb)).setCell ⟨w.heap.size + 1, 5, none⟩ (.bool qn)) ⟨w.heap.size + 2, 0, none⟩ = false := by simp [go_sem, rf0]
    replace rf1 : World.frozen? ((((((X2.setCell ⟨w.heap.size + 1, 0, none⟩ (.int .i64 qk)).setCell ⟨w.heap.size + 1, 1, none⟩ (.slice A5 qs.length c5)).setCell ⟨w.heap.size + 1, 2, none⟩ (.bool qa)).setCell ⟨w.heap.size + 1, 3, none⟩ (.slice A6 qw.length c6)).setCell ⟨w.heap.size + 1, 4, none⟩ (.int .i64 qb)).setCell ⟨w.heap.size + 1, 5, none⟩ (.bool qn)) ⟨w.heap.size + 2, 1, none⟩ = false := by simp [go_sem, rf1]
    replace rf2 : World.frozen? ((((((X2.setCell ⟨w.heap.size + 1, 0, none⟩ (.int .i64 qk)).setCell ⟨w.heap.size + 1, 1, none⟩ (.slice A5 qs.length c5)).setCell ⟨w.heap.size + 1, 2, none⟩ (.bool qa)).setCell ⟨w.heap.size + 1, 3, none⟩ (.slice A6 qw.length c6)).setCell ⟨w.heap.size + 1, 4, none⟩ (.int .i64 qb)).setCell ⟨w.heap.size + 1, 5, none⟩ (.bool qn)) ⟨w.heap.size + 2, 2, none⟩ = false := by simp [go_sem, rf2]
    replace rf3 : World.frozen? ((((((X2.setCell ⟨w.heap.size + 1, 0, none⟩ (.int .i64 qk)).setCell ⟨w.heap.size + 1, 1, none⟩ (.slice A5 qs.length c5)).setCell ⟨w.heap.size + 1, 2, none⟩ (.bool qa)).setCell ⟨w.heap.size + 1, 3, none⟩ (.slice A6 qw.length c6)).setCell ⟨w.heap.size + 1, 4, none⟩ (.int .i64 qb)).setCell ⟨w.heap.size + 1, 5, none⟩ (.bool qn)) ⟨w.heap.size + 2, 3, none⟩ = false := by simp [go_sem, rf3]
    replace rf4 : World.frozen? ((((((X2.setCell ⟨w.heap.size + 1, 0, none⟩ (.int .i64 qk)).setCell ⟨w.heap.size + 1, 1, none⟩ (.slice A5 qs.length c5)).setCell ⟨w.heap.size + 1, 2, none⟩ (.bool qa)).setCell ⟨w.heap.size + 1, 3, none⟩ (.slice A6 qw.length c6)).setCell ⟨w.heap.size + 1, 4, none⟩ (.int .i64 qb)).setCell ⟨w.heap.size + 1, 5, none⟩ (.bool qn)) ⟨w.heap.size + 2, 4, none⟩ = false := by simp [go_sem, rf4]
    replace S3 : SpP (w.heap.size + 3) ((((((X2.setCell ⟨w.heap.size + 1, 0, none⟩ (.int .i64 qk)).setCell ⟨w.heap.size + 1, 1, none⟩ (.slice A5 qs.length c5)).setCell ⟨w.heap.size + 1, 2, none⟩ (.bool qa)).setCell ⟨w.heap.size + 1, 3, none⟩ (.slice A6 qw.length c6)).setCell ⟨w.heap.size + 1, 4, none⟩ (.int .i64 qb)).setCell ⟨w.heap.size + 1, 5, none⟩ (.bool qn)) A5 c5 qs := SpP.other (SpP.low S3 zX1) (by simp) fun k o hk => by
        have n1 : ¬ w.heap.size + 1 = k := by omega
        simp [go_sem, n1]
    replace T3 : StP (w.heap.size + 3) ((((((X2.setCell ⟨w.heap.size + 1, 0, none⟩ (.int .i64 qk)).setCell ⟨w.heap.size + 1, 1, none⟩ (.slice A5 qs.length c5)).setCell ⟨w.heap.size + 1, 2, none⟩ (.bool qa)).setCell ⟨w.heap.size + 1, 3, none⟩ (.slice A6 qw.length c6)).setCell ⟨w.heap.size + 1, 4, none⟩ (.int .i64 qb)).setCell ⟨w.heap.size + 1, 5, none⟩ (.bool qn)) A6 c6 qw := StP.other (StP.low T3 zX1) (by simp) fun k o hk => by
        have n1 : ¬ w.heap.size + 1 = k := by omega
        simp [go_sem, n1]
    have zX4 : w.heap.size + 3 ≤ ((((((X2.setCell ⟨w.heap.size + 1, 0, none⟩ (.int .i64 qk)).setCell ⟨w.heap.size + 1, 1, none⟩ (.slice A5 qs.length c5)).setCell ⟨w.heap.size + 1, 2, none⟩ (.bool qa)).setCell ⟨w.heap.size + 1, 3, none⟩ (.slice A6 qw.length c6)).setCell ⟨w.heap.size + 1, 4, none⟩ (.int .i64 qb)).setCell ⟨w.heap.size + 1, 5, none⟩ (.bool qn)).heap.size := by simpa using zX2
    refine ⟨⟨hZ, m0, m1, m2, m3, m4⟩, ?_⟩
    (try simp only [Act.put, List.setIfInBounds_toArray, List.set_cons_zero, List.set_cons_succ])
    generalize ((((((X2.setCell ⟨w.heap.size + 1, 0, none⟩ (.int .i64 qk)).setCell ⟨w.heap.size + 1, 1, none⟩ (.slice A5 qs.length c5)).setCell ⟨w.heap.size + 1, 2, none⟩ (.bool qa)).setCell ⟨w.heap.size + 1, 3, none⟩ (.slice A6 qw.length c6)).setCell ⟨w.heap.size + 1, 4, none⟩ (.int .i64 qb)).setCell ⟨w.heap.size + 1, 5, none⟩ (.bool qn)) = X4 at hZ zX4 t0 t1 t2 t3 t4 t5 S3 T3 m0 m1 m2 m3 m4 r0 r1 r2 r3 r4 rf0 rf1 rf2 rf3 rf4 ⊢
    refine wpAnyH_done (by kernel_rfl) ?_ _
    refine NoPanic.normal ?_
    have EM := Lib.hid fun W (hW : Bel X4 W) => C4.out W ⟨qk, qs, qa, qw, qb, qn⟩ A5 c5 A6 c6 HQ (setIn_of (S3.keep hW) (T3.keep hW))
    have PK := Lib.hid fun W (hW : Bel X4 W) => C5.out W ⟨qk, qs, qa, qw, qb, qn⟩ A5 c5 A6 c6 (hZ.trans hW) HQ (setIn_of (S3.keep hW) (T3.keep hW))
    clear S3 T3 HQ HO S1 C1 C3 C4 C5 hb0 hb1 hb2 hb zW zX0 zX1 zX2 hX0 x0 x1 x2 x3 x4 x5 xf0 xf1 xf2 xf3 xf4 xf5
    go_upto_region 9 with (first
      | (go_at_call 24; (with_reducible refine Calls.mono (EM.out _ (Bel.refl X4)) ?_); rintro e Y1 ⟨rfl, hy1⟩; have zy1 : w.heap.size + 3 ≤ Y1.heap.size := (Nat.le_trans zX4 hy1.size); replace m0 := (hy1.cells _ _ (by omega)).trans m0; replace m1 := (hy1.cells _ _ (by omega)).trans m1; replace m2 := (hy1.cells _ _ (by omega)).trans m2; replace m3 := (hy1.cells _ _ (by omega)).trans m3; replace m4 := (hy1.cells _ _ (by omega)).trans m4; replace t0 := (hy1.cells _ _ (by omega)).trans t0; replace t1 := (hy1.cells _ _ (by omega)).trans t1; replace t2 := (hy1.cells _ _ (by omega)).trans t2; replace t3 := (hy1.cells _ _ (by omega)).trans t3; replace t4 := (hy1.cells _ _ (by omega)).trans t4; replace t5 := (hy1.cells _ _ (by omega)).trans t5; replace r0 := (hy1.cells _ _ (by omega)).trans r0; replace r1 := (hy1.cells _ _ (by omega)).trans r1; replace r2 := (hy1.cells _ _ (by omega)).trans r2; replace r3 := (hy1.cells _ _ (by omega)).trans r3; replace r4 := (hy1.cells _ _ (by omega)).trans r4; replace rf0 := (hy1.frozens _ _ (by omega)).trans rf0; replace rf1 := (hy1.frozens _ _ (by omega)).trans rf1; replace rf2 := (hy1.frozens _ _ (by omega)).trans rf2; replace rf3 := (hy1.frozens _ _ (by omega)).trans rf3; replace rf4 := (hy1.frozens _ _ (by omega)).trans rf4)
      | (go_at_call 46; (with_reducible refine Calls.mono (PK.out _ hy1) ?_); rintro e Y2 ⟨⟨er, rfl⟩, hy2⟩; have zy2 : w.heap.size + 3 ≤ Y2.heap.size := (Nat.le_trans zy1 hy2.size); have lt3 : w.heap.size + 2 < Y2.heap.size := (by omega); replace r0 := (hy2.cells _ _ (by omega)).trans r0; replace r1 := (hy2.cells _ _ (by omega)).trans r1; replace r2 := (hy2.cells _ _ (by omega)).trans r2; replace r3 := (hy2.cells _ _ (by omega)).trans r3; replace r4 := (hy2.cells _ _ (by omega)).trans r4; replace rf0 := (hy2.frozens _ _ (by omega)).trans rf0; replace rf1 := (hy2.frozens _ _ (by omega)).trans rf1; replace rf2 := (hy2.frozens _ _ (by omega)).trans rf2; replace rf3 := (hy2.frozens _ _ (by omega)).trans rf3; replace rf4 := (hy2.frozens _ _ (by omega)).trans rf4))
    refine under_name (w0 := Y2) (by (repeat (first | with_reducible exact Bel.refl _ | with_reducible refine Bel.setCell ?_ (by first | exact Nat.le_refl _ | (dsimp only; omega)) _ | with_reducible refine Bel.alloc ?_ _ | with_reducible refine Bel.drew ?_ | with_reducible assumption | with_reducible refine Bel.trans ?_ (by assumption)))) fun Y hc hf hz hy => ?_
    have d0 : Y.cell? ⟨Y2.heap.size, 0, none⟩ = some (.int .i64 v0) := by simp [hc, go_sem]
    have d1 : Y.cell? ⟨Y2.heap.size, 1, none⟩ = some (.int .i64 v1) := by simp [hc, go_sem]
    have d2 : Y.cell? ⟨Y2.heap.size, 2, none⟩ = some (.int .i64 v2) := by simp [hc, go_sem]
    have d3 : Y.cell? ⟨Y2.heap.size, 3, none⟩ = some (.string v3) := by simp [hc, go_sem]
    have d4 : Y.cell? ⟨Y2.heap.size, 4, none⟩ = some (.int .i64 v4) := by simp [hc, go_sem]
    clear hc hf hz
    replace r0 := (hy.cells _ _ (by omega)).trans r0; replace r1 := (hy.cells _ _ (by omega)).trans r1; replace r2 := (hy.cells _ _ (by omega)).trans r2; replace r3 := (hy.cells _ _ (by omega)).trans r3; replace r4 := (hy.cells _ _ (by omega)).trans r4; replace rf0 := (hy.frozens _ _ (by omega)).trans rf0; replace rf1 := (hy.frozens _ _ (by omega)).trans rf1; replace rf2 := (hy.frozens _ _ (by omega)).trans rf2; replace rf3 := (hy.frozens _ _ (by omega)).trans rf3; replace rf4 := (hy.frozens _ _ (by omega)).trans rf4
    have hbE := ((hZ.trans hy1).trans hy2).trans hy
    clear m0 m1 m2 m3 m4 t0 t1 t2 t3 t4 t5 hy1 hy2 hy hZ EM PK lt3 zy1 zX4
    go_wp2_with fail
    refine bodyPost_ret (by simp [results, Tryz.results23, go_sem, r0, rf0, r1, rf1, r2, rf2, r3, rf3, r4, rf4]; try rfl) rfl ⟨rfl, ?_⟩
    (repeat (first | with_reducible exact Bel.refl _ | with_reducible refine Bel.setCell ?_ (by first | exact Nat.le_refl _ | (dsimp only; omega)) _ | with_reducible refine Bel.alloc ?_ _ | with_reducible refine Bel.drew ?_ | with_reducible assumption | with_reducible refine Bel.trans ?_ (by assumption)))
  · refine wpOp_value (o := { dst := some 20, op := Op.load 39 (Operand.tmp 3), type := 39, pos := "sets.go:117", after := #[], guard := none }) (v := ((⟨K, p, pa, pw, pb, nu⟩ : St).val A1 c1 A2 c2)) (w' := X0) rfl (by rfl) (by go_simp; first | done | with_reducible rfl | rfl) ?_
    refine ⟨⟨hb0, m0, m1, m2, m3, m4⟩, ?_⟩
    (try simp only [Act.put, List.setIfInBounds_toArray, List.set_cons_zero, List.set_cons_succ])
    refine wpAnyH_all (rs := [1]) (by kernel_rfl) (by simp) ?_
    intro i hi
    simp only [List.mem_cons, List.not_mem_nil, or_false] at hi
    subst hi
    refine wpOp_enter (o := { dst := some 19, op := Op.call { callee := Callee.value (Operand.func 36), args := #[Operand.tmp 18], argTypes := #[26] }, type := 39, pos := "sets.go:117", after := #[{ on := 0, ground := Ground.data }], guard := none }) (R := fun v w' => ∃ o B1 d1 B2 d2, v = St.val o B1 d1 B2 d2 ∧ SetIn w' B1 d1 B2 d2 o ∧ P1 o ∧ Bel X0 w') rfl (by rfl) (by go_simp; first | done | with_reducible rfl | rfl) ((C1.out X0 hb0).mono fun e w' ⟨o, ⟨B1, d1, B2, d2, h1, h2, h3, h4⟩, h5⟩ => ⟨_, h1, o, B1, d1, B2, d2, rfl, setIn_of h2 h3, h5, h4⟩) ?_
    rintro v X1 ⟨o, B1, d1, B2, d2, rfl, S1, HO, hb'⟩
    replace m0 := (hb'.cells _ _ (by omega)).trans m0; replace m1 := (hb'.cells _ _ (by omega)).trans m1; replace m2 := (hb'.cells _ _ (by omega)).trans m2; replace m3 := (hb'.cells _ _ (by omega)).trans m3; replace m4 := (hb'.cells _ _ (by omega)).trans m4; replace x0 := (hb'.cells _ _ (by omega)).trans x0; replace x1 := (hb'.cells _ _ (by omega)).trans x1; replace x2 := (hb'.cells _ _ (by omega)).trans x2; replace x3 := (hb'.cells _ _ (by omega)).trans x3; replace x4 := (hb'.cells _ _ (by omega)).trans x4; replace x5 := (hb'.cells _ _ (by omega)).trans x5; replace xf0 := (hb'.frozens _ _ (by omega)).trans xf0; replace xf1 := (hb'.frozens _ _ (by omega)).trans xf1; replace xf2 := (hb'.frozens _ _ (by omega)).trans xf2; replace xf3 := (hb'.frozens _ _ (by omega)).trans xf3; replace xf4 := (hb'.frozens _ _ (by omega)).trans xf4; replace xf5 := (hb'.frozens _ _ (by omega)).trans xf5; replace r0 := (hb'.cells _ _ (by omega)).trans r0; replace r1 := (hb'.cells _ _ (by omega)).trans r1; replace r2 := (hb'.cells _ _ (by omega)).trans r2; replace r3 := (hb'.cells _ _ (by omega)).trans r3; replace r4 := (hb'.cells _ _ (by omega)).trans r4; replace rf0 := (hb'.frozens _ _ (by omega)).trans rf0; replace rf1 := (hb'.frozens _ _ (by omega)).trans rf1; replace rf2 := (hb'.frozens _ _ (by omega)).trans rf2; replace rf3 := (hb'.frozens _ _ (by omega)).trans rf3; replace rf4 := (hb'.frozens _ _ (by omega)).trans rf4
    have zX1 : w.heap.size + 3 ≤ X1.heap.size := Nat.le_trans zX0 hb'.size
    have hb1 := hb0.trans hb'
    clear hb'
    refine ⟨⟨hb1, m0, m1, m2, m3, m4⟩, ?_⟩
    (try simp only [Act.put, List.setIfInBounds_toArray, List.set_cons_zero, List.set_cons_succ])
    refine wpAnyH_all (rs := [3]) (by kernel_rfl) (by simp) ?_
    intro i hi
    simp only [List.mem_cons, List.not_mem_nil, or_false] at hi
    subst hi
    refine wpOp_enter (o := { dst := some 21, op := Op.call { callee := Callee.value (Operand.func 35), args := #[Operand.tmp 19, Operand.tmp 20], argTypes := #[39, 39] }, type := 39, pos := "sets.go:117", after := #[{ on := 1, ground := Ground.data }, { on := 2, ground := Ground.data }, { on := 1, ground := Ground.chain }], guard := none }) (R := fun v w' => ∃ q A5 c5 A6 c6, v = St.val q A5 c5 A6 c6 ∧ SpP X1.heap.size w' A5 c5 q.sp ∧ StP X1.heap.size w' A6 c6 q.ws ∧ P3 q ∧ Bel X1 w') rfl (by rfl) (by go_simp; first | done | with_reducible rfl | rfl) ((C3.out X1 o B1 d1 B2 d2 hb1 HO S1).mono fun e w' ⟨q, ⟨A5, c5, A6, c6, h1, h2, h3, h4⟩, h5⟩ => ⟨_, h1, q, A5, c5, A6, c6, rfl, h2, h3, h5, h4⟩) ?_
    rintro v X2 ⟨⟨qk, qs, qa, qw, qb, qn⟩, A5, c5, A6, c6, rfl, S3, T3, HQ, hb'⟩
    simp only at S3 T3
    replace m0 := (hb'.cells _ _ (by omega)).trans m0; replace m1 := (hb'.cells _ _ (by omega)).trans m1; replace m2 := (hb'.cells _ _ (by omega)).trans m2; replace m3 := (hb'.cells _ _ (by omega)).trans m3; replace m4 := (hb'.cells _ _ (by omega)).trans m4; replace x0 := (hb'.cells _ _ (by omega)).trans x0; replace x1 := (hb'.cells _ _ (by omega)).trans x1; replace x2 := (hb'.cells _ _ (by omega)).trans x2; replace x3 := (hb'.cells _ _ (by omega)).trans x3; replace x4 := (hb'.cells _ _ (by omega)).trans x4; replace x5 := (hb'.cells _ _ (by omega)).trans x5; replace xf0 := (hb'.frozens _ _ (by omega)).trans xf0; replace xf1 := (hb'.frozens _ _ (by omega)).trans xf1; replace xf2 := (hb'.frozens _ _ (by omega)).trans xf2; replace xf3 := (hb'.frozens _ _ (by omega)).trans xf3; replace xf4 := (hb'.frozens _ _ (by omega)).trans xf4; replace xf5 := (hb'.frozens _ _ (by omega)).trans xf5; replace r0 := (hb'.cells _ _ (by omega)).trans r0; replace r1 := (hb'.cells _ _ (by omega)).trans r1; replace r2 := (hb'.cells _ _ (by omega)).trans r2; replace r3 := (hb'.cells _ _ (by omega)).trans r3; replace r4 := (hb'.cells _ _ (by omega)).trans r4; replace rf0 := (hb'.frozens _ _ (by omega)).trans rf0; replace rf1 := (hb'.frozens _ _ (by omega)).trans rf1; replace rf2 := (hb'.frozens _ _ (by omega)).trans rf2; replace rf3 := (hb'.frozens _ _ (by omega)).trans rf3; replace rf4 := (hb'.frozens _ _ (by omega)).trans rf4
    have zX2 : w.heap.size + 3 ≤ X2.heap.size := Nat.le_trans zX1 hb'.size
    have hb2 := hb1.trans hb'
    clear hb'
    refine ⟨⟨hb2, m0, m1, m2, m3, m4⟩, ?_⟩
    (try simp only [Act.put, List.setIfInBounds_toArray, List.set_cons_zero, List.set_cons_succ])
    refine wpAnyH_all (rs := [4]) (by kernel_rfl) (by simp) ?_
    intro i hi
    simp only [List.mem_cons, List.not_mem_nil, or_false] at hi
    subst hi
    refine wpOp_skip (o := { dst := none, op := Op.store 39 (Operand.tmp 3) (Operand.tmp 21), type := 0, pos := "sets.go:117", after := #[{ on := 3, ground := Ground.data }, { on := 3, ground := Ground.chain }, { on := 0, ground := Ground.phase }, { on := 1, ground := Ground.phase }, { on := 2, ground := Ground.phase }, { on := 3, ground := Ground.phase }], guard := none }) (w' := ((((((X2.setCell ⟨w.heap.size + 1, 0, none⟩ (.int .i64 qk)).setCell ⟨w.heap.size + 1, 1, none⟩ (.slice A5 qs.length c5)).setCell ⟨w.heap.size + 1, 2, none⟩ (.bool qa)).setCell ⟨w.heap.size + 1, 3, none⟩ (.slice A6 qw.length c6)).setCell ⟨w.heap.size + 1, 4, none⟩ (.int .i64 qb)).setCell ⟨w.heap.size + 1, 5, none⟩ (.bool qn))) rfl (by rfl) (by go_simp; first | done | with_reducible rfl | rfl) ?_
    have hZ : Bel w ((((((X2.setCell ⟨w.heap.size + 1, 0, none⟩ (.int .i64 qk)).setCell ⟨w.heap.size + 1, 1, none⟩ (.slice A5 qs.length c5)).setCell ⟨w.heap.size + 1, 2, none⟩ (.bool qa)).setCell ⟨w.heap.size + 1, 3, none⟩ (.slice A6 qw.length c6)).setCell ⟨w.heap.size + 1, 4, none⟩ (.int .i64 qb)).setCell ⟨w.heap.size + 1, 5, none⟩ (.bool qn)) := by
        (repeat (first | with_reducible exact Bel.refl _ | with_reducible refine Bel.setCell ?_ (by first | exact Nat.le_refl _ | (dsimp only; omega)) _ | with_reducible refine Bel.alloc ?_ _ | with_reducible refine Bel.drew ?_ | with_reducible assumption | with_reducible refine Bel.trans ?_ (by assumption)))
    replace m0 : World.cell? ((((((X2.setCell ⟨w.heap.size + 1, 0, none⟩ (.int .i64 qk)).setCell ⟨w.heap.size + 1, 1, none⟩ (.slice A5 qs.length c5)).setCell ⟨w.heap.size + 1, 2, none⟩ (.bool qa)).setCell ⟨w.heap.size + 1, 3, none⟩ (.slice A6 qw.length c6)).setCell ⟨w.heap.size + 1, 4, none⟩ (.int .i64 qb)).setCell ⟨w.heap.size + 1, 5, none⟩ (.bool qn)) ⟨w.heap.size, 0, none⟩ = some (.int .i64 K) := by simp [go_sem, m0]
    replace m1 : World.cell? ((((((X2.setCell ⟨w.heap.size + 1, 0, none⟩ (.int .i64 qk)).setCell ⟨w.heap.size + 1, 1, none⟩ (.slice A5 qs.length c5)).setCell ⟨w.heap.size + 1, 2, none⟩ (.bool qa)).setCell ⟨w.heap.size + 1, 3, none⟩ (.slice A6 qw.length c6)).setCell ⟨w.heap.size + 1, 4, none⟩ (.int .i64 qb)).setCell ⟨w.heap.size + 1, 5, none⟩ (.bool qn)) ⟨w.heap.size, 1, none⟩ = some (.int .i64 sc) := by simp [go_sem, m1]
    replace m2 : World.cell? ((((((X2.setCell ⟨w.heap.size + 1, 0, none⟩ (.int .i64 qk)).setCell ⟨w.heap.size + 1, 1, none⟩ (.slice A5 qs.length c5)).setCell ⟨w.heap.size + 1, 2, none⟩ (.bool qa)).setCell ⟨w.heap.size + 1, 3, none⟩ (.slice A6 qw.length c6)).setCell ⟨w.heap.size + 1, 4, none⟩ (.int .i64 qb)).setCell ⟨w.heap.size + 1, 5, none⟩ (.bool qn)) ⟨w.heap.size, 2, none⟩ = some (.bool any) := by simp [go_sem, m2]
    replace m3 : World.cell? ((((((X2.setCell ⟨w.heap.size + 1, 0, none⟩ (.int .i64 qk)).setCell ⟨w.heap.size + 1, 1, none⟩ (.slice A5 qs.length c5)).setCell ⟨w.heap.size + 1, 2, none⟩ (.bool qa)).setCell ⟨w.heap.size + 1, 3, none⟩ (.slice A6 qw.length c6)).setCell ⟨w.heap.size + 1, 4, none⟩ (.int .i64 qb)).setCell ⟨w.heap.size + 1, 5, none⟩ (.bool qn)) ⟨w.heap.size, 3, none⟩ = some (.bool not) := by simp [go_sem, m3]
    replace m4 : World.cell? ((((((X2.setCell ⟨w.heap.size + 1, 0, none⟩ (.int .i64 qk)).setCell ⟨w.heap.size + 1, 1, none⟩ (.slice A5 qs.length c5)).setCell ⟨w.heap.size + 1, 2, none⟩ (.bool qa)).setCell ⟨w.heap.size + 1, 3, none⟩ (.slice A6 qw.length c6)).setCell ⟨w.heap.size + 1, 4, none⟩ (.int .i64 qb)).setCell ⟨w.heap.size + 1, 5, none⟩ (.bool qn)) ⟨w.heap.size, 4, none⟩ = some (.slice A l.length c) := by simp [go_sem, m4]
    have t0 : World.cell? ((((((X2.setCell ⟨w.heap.size + 1, 0, none⟩ (.int .i64 qk)).setCell ⟨w.heap.size + 1, 1, none⟩ (.slice A5 qs.length c5)).setCell ⟨w.heap.size + 1, 2, none⟩ (.bool qa)).setCell ⟨w.heap.size + 1, 3, none⟩ (.slice A6 qw.length c6)).setCell ⟨w.heap.size + 1, 4, none⟩ (.int .i64 qb)).setCell ⟨w.heap.size + 1, 5, none⟩ (.bool qn)) ⟨w.heap.size + 1, 0, none⟩ = some (.int .i64 qk) := by simp [go_sem, x0, x1, x2, x3, x4, x5]
    have t1 : World.cell? ((((((X2.setCell ⟨w.heap.size + 1, 0, none⟩ (.int .i64 qk)).setCell ⟨w.heap.size + 1, 1, none⟩ (.slice A5 qs.length c5)).setCell ⟨w.heap.size + 1, 2, none⟩ (.bool qa)).setCell ⟨w.heap.size + 1, 3, none⟩ (.slice A6 qw.length c6)).setCell ⟨w.heap.size + 1, 4, none⟩ (.int .i64 qb)).setCell ⟨w.heap.size + 1, 5, none⟩ (.bool qn)) ⟨w.heap.size + 1, 1, none⟩ = some (.slice A5 qs.length c5) := by simp [go_sem, x0, x1, x2, x3, x4, x5]
    have t2 : World.cell? ((((((X2.setCell ⟨w.heap.size + 1, 0, none⟩ (.int .i64 qk)).setCell ⟨w.heap.size + 1, 1, none⟩ (.slice A5 qs.length c5)).setCell ⟨w.heap.size + 1, 2, none⟩ (.bool qa)).setCell ⟨w.heap.size + 1, 3, none⟩ (.slice A6 qw.length c6)).setCell ⟨w.heap.size + 1, 4, none⟩ (.int .i64 qb)).setCell ⟨w.heap.size + 1, 5, none⟩ (.bool qn)) ⟨w.heap.size + 1, 2, none⟩ = some (.bool qa) := by simp [go_sem, x0, x1, x2, x3, x4, x5]
    have t3 : World.cell? ((((((X2.setCell ⟨w.heap.size + 1, 0, none⟩ (.int .i64 qk)).setCell ⟨w.heap.size + 1, 1, none⟩ (.slice A5 qs.length c5)).setCell ⟨w.heap.size + 1, 2, none⟩ (.bool qa)).setCell ⟨w.heap.size + 1, 3, none⟩ (.slice A6 qw.length c6)).setCell ⟨w.heap.size + 1, 4, none⟩ (.int .i64 qb)).setCell ⟨w.heap.size + 1, 5, none⟩ (.bool qn)) ⟨w.heap.size + 1, 3, none⟩ = some (.slice A6 qw.length c6) := by simp [go_sem, x0, x1, x2, x3, x4, x5]
    have t4 : World.cell? ((((((X2.setCell ⟨w.heap.size + 1, 0, none⟩ (.int .i64 qk)).setCell ⟨w.heap.size + 1, 1, none⟩ (.slice A5 qs.length c5)).setCell ⟨w.heap.size + 1, 2, none⟩ (.bool qa)).setCell ⟨w.heap.size + 1, 3, none⟩ (.slice A6 qw.length c6)).setCell ⟨w.heap.size + 1, 4, none⟩ (.int .i64 qb)).setCell ⟨w.heap.size + 1, 5, none⟩ (.bool qn)) ⟨w.heap.size + 1, 4, none⟩ = some (.int .i64 qb) := by simp [go_sem, x0, x1, x2, x3, x4, x5]
    have t5 : World.cell? ((((((X2.setCell ⟨w.heap.size + 1, 0, none⟩ (.int .i64 qk)).setCell ⟨w.heap.size + 1, 1, none⟩ (.slice A5 qs.length c5)).setCell ⟨w.heap.size + 1, 2, none⟩ (.bool qa)).setCell ⟨w.heap.size + 1, 3, none⟩ (.slice A6 qw.length c6)).setCell ⟨w.heap.size + 1, 4, none⟩ (.int .i64 qb)).setCell ⟨w.heap.size + 1, 5, none⟩ (.bool qn)) ⟨w.heap.size + 1, 5, none⟩ = some (.bool qn) := by simp [go_sem, x0, x1, x2, x3, x4, x5]
    replace r0 : World.cell? ((((((X2.setCell ⟨w.heap.size + 1, 0, none⟩ (.int .i64 qk)).setCell ⟨w.heap.size + 1, 1, none⟩ (.slice A5 qs.length c5)).setCell ⟨w.heap.size + 1, 2, none⟩ (.bool qa)).setCell ⟨w.heap.size + 1, 3, none⟩ (.slice A6 qw.length c6)).setCell ⟨w.heap.size + 1, 4, none⟩ (.int .i64 qb)).setCell ⟨w.heap.size + 1, 5, none⟩ (.bool qn)) ⟨w.heap.size + 2, 0, none⟩ = some (.int .i64 0) := by simp [go_sem, r0]
    replace r1 : World.cell? ((((((X2.setCell ⟨w.heap.size + 1, 0, none⟩ (.int .i64 qk)).setCell ⟨w.heap.size + 1, 1, none⟩ (.slice A5 qs.length c5)).setCell ⟨w.heap.size + 1, 2, none⟩ (.bool qa)).setCell ⟨w.heap.size + 1, 3, none⟩ (.slice A6 qw.length c6)).setCell ⟨w.heap.size + 1, 4, none⟩ (.int .i64 qb)).setCell ⟨w.heap.size + 1, 5, none⟩ (.bool qn)) ⟨w.heap.size + 2, 1, none⟩ = some (.int .i64 0) := by simp [go_sem, r1]
    replace r2 : World.cell? ((((((X2.setCell ⟨w.heap.size + 1, 0, none⟩ (.int .i64 qk)).setCell ⟨w.heap.size + 1, 1, none⟩ (.slice A5 qs.length c5)).setCell ⟨w.heap.size + 1, 2, none⟩ (.bool qa)).setCell ⟨w.heap.size + 1, 3, none⟩ (.slice A6 qw.length c6)).setCell ⟨w.heap.size + 1, 4, none⟩ (.int .i64 qb)).setCell ⟨w.heap.size + 1, 5, none⟩ (.bool qn)) ⟨w.heap.size + 2, 2, none⟩ = some (.int .i64 0) := by simp [go_sem, r2]
    replace r3 : World.cell? ((((((X2.setCell ⟨w.heap.size + 1, 0, none⟩ (.int .i64 qk)).setCell ⟨w.heap.size + 1, 1, none⟩ (.slice A5 qs.length c5)).setCell ⟨w.heap.size + 1, 2, none⟩ (.bool qa)).setCell ⟨w.heap.size + 1, 3, none⟩ (.slice A6 qw.length c6)).setCell ⟨w.heap.size + 1, 4, none⟩ (.int .i64 qb)).setCell ⟨w.heap.size + 1, 5, none⟩ (.bool qn)) ⟨w.heap.size + 2, 3, none⟩ = some (.string ⟨#[]⟩) := by simp [go_sem, r3]
    replace r4 : World.cell? ((((((X2.setCell ⟨w.heap.size + 1, 0, none⟩ (.int .i64 qk)).setCell ⟨w.heap.size + 1, 1, none⟩ (.slice A5 qs.length c5)).setCell ⟨w.heap.size + 1, 2, none⟩ (.bool qa)).setCell ⟨w.heap.size + 1, 3, none⟩ (.slice A6 qw.length c6)).setCell ⟨w.heap.size + 1, 4, none⟩ (.int .i64 qb)).setCell ⟨w.heap.size + 1, 5, none⟩ (.bool qn)) ⟨w.heap.size + 2, 4, none⟩ = some (.int .i64 0) := by simp [go_sem, r4]
    replace rf0 : World.frozen? ((((((X2.setCell ⟨w.heap.size + 1, 0, none⟩ (.int .i64 qk)).setCell ⟨w.heap.size + 1, 1, none⟩ (.slice A5 qs.length c5)).setCell ⟨w.heap.size + 1, 2, none⟩ (.bool qa)).setCell ⟨w.heap.size + 1, 3, none⟩ (.slice A6 qw.length c6)).setCell ⟨w.heap.size + 1, 4, none⟩ (.int .i64 qb)).setCell ⟨w.heap.size + 1, 5, none⟩ (.bool qn)) ⟨w.heap.size + 2, 0, none⟩ = false := by simp [go_sem, rf0]
    replace rf1 : World.frozen? ((((((X2.setCell ⟨w.heap.size + 1, 0, none⟩ (.int .i64 qk)).setCell ⟨w.heap.size + 1, 1, none⟩ (.slice A5 qs.length c5)).setCell ⟨w.heap.size + 1, 2, none⟩ (.bool qa)).setCell ⟨w.heap.size + 1, 3, none⟩ (.slice A6 qw.length c6)).setCell ⟨w.heap.size + 1, 4, none⟩ (.int .i64 qb)).setCell ⟨w.heap.size + 1, 5, none⟩ (.bool qn)) ⟨w.heap.size + 2, 1, none⟩ = false := by simp [go_sem, rf1]
    replace rf2 : World.frozen? ((((((X2.setCell ⟨w.heap.size + 1, 0, none⟩ (.int .i64 qk)).setCell ⟨w.heap.size + 1, 1, none⟩ (.slice A5 qs.length c5)).setCell ⟨w.heap.size + 1, 2, none⟩ (.bool qa)).setCell ⟨w.heap.size + 1, 3, none⟩ (.slice A6 qw.length c6)).setCell ⟨w.heap.size + 1, 4, none⟩ (.int .i64 qb)).setCell ⟨w.heap.size + 1, 5, none⟩ (.bool qn)) ⟨w.heap.size + 2, 2, none⟩ = false := by simp [go_sem, rf2]
    replace rf3 : World.frozen? ((((((X2.setCell ⟨w.heap.size + 1, 0, none⟩ (.int .i64 qk)).setCell ⟨w.heap.size + 1, 1, none⟩ (.slice A5 qs.length c5)).setCell ⟨w.heap.size + 1, 2, none⟩ (.bool qa)).setCell ⟨w.heap.size + 1, 3, none⟩ (.slice A6 qw.length c6)).setCell ⟨w.heap.size + 1, 4, none⟩ (.int .i64 qb)).setCell ⟨w.heap.size + 1, 5, none⟩ (.bool qn)) ⟨w.heap.size + 2, 3, none⟩ = false := by simp [go_sem, rf3]
    replace rf4 : World.frozen? ((((((X2.setCell ⟨w.heap.size + 1, 0, none⟩ (.int .i64 qk)).setCell ⟨w.heap.size + 1, 1, none⟩ (.slice A5 qs.length c5)).setCell ⟨w.heap.size + 1, 2, none⟩ (.bool qa)).setCell ⟨w.heap.size + 1, 3, none⟩ (.slice A6 qw.length c6)).setCell ⟨w.heap.size + 1, 4, none⟩ (.int .i64 qb)).setCell ⟨w.heap.size + 1, 5, none⟩ (.bool qn)) ⟨w.heap.size + 2, 4, none⟩ = false := by simp [go_sem, rf4]
    replace S3 : SpP (w.heap.size + 3) ((((((X2.setCell ⟨w.heap.size + 1, 0, none⟩ (.int .i64 qk)).setCell ⟨w.heap.size + 1, 1, none⟩ (.slice A5 qs.length c5)).setCell ⟨w.heap.size + 1, 2, none⟩ (.bool qa)).setCell ⟨w.heap.size + 1, 3, none⟩ (.slice A6 qw.length c6)).setCell ⟨w.heap.size + 1, 4, none⟩ (.int .i64 qb)).setCell ⟨w.heap.size + 1, 5, none⟩ (.bool qn)) A5 c5 qs := SpP.other (SpP.low S3 zX1) (by simp) fun k o hk => by
        have n1 : ¬ w.heap.size + 1 = k := by omega
        simp [go_sem, n1]
    replace T3 : StP (w.heap.size + 3) ((((((X2.setCell ⟨w.heap.size + 1, 0, none⟩ (.int .i64 qk)).setCell ⟨w.heap.size + 1, 1, none⟩ (.slice A5 qs.length c5)).setCell ⟨w.heap.size + 1, 2, none⟩ (.bool qa)).setCell ⟨w.heap.size + 1, 3, none⟩ (.slice A6 qw.length c6)).setCell ⟨w.heap.size + 1, 4, none⟩ (.int .i64 qb)).setCell ⟨w.heap.size + 1, 5, none⟩ (.bool qn)) A6 c6 qw := StP.other (StP.low T3 zX1) (by simp) fun k o hk => by
        have n1 : ¬ w.heap.size + 1 = k := by omega
        simp [go_sem, n1]
    have zX4 : w.heap.size + 3 ≤ ((((((X2.setCell ⟨w.heap.size + 1, 0, none⟩ (.int .i64 qk)).setCell ⟨w.heap.size + 1, 1, none⟩ (.slice A5 qs.length c5)).setCell ⟨w.heap.size + 1, 2, none⟩ (.bool qa)).setCell ⟨w.heap.size + 1, 3, none⟩ (.slice A6 qw.length c6)).setCell ⟨w.heap.size + 1, 4, none⟩ (.int .i64 qb)).setCell ⟨w.heap.size + 1, 5, none⟩ (.bool qn)).heap.size := by simpa using zX2
    refine ⟨⟨hZ, m0, m1, m2, m3, m4⟩, ?_⟩
    (try simp only [Act.put, List.setIfInBounds_toArray, List.set_cons_zero, List.set_cons_succ])
    generalize ((((((X2.setCell ⟨w.heap.size + 1, 0, none⟩ (.int .i64 qk)).setCell ⟨w.heap.size + 1, 1, none⟩ (.slice A5 qs.length c5)).setCell ⟨w.heap.size + 1, 2, none⟩ (.bool qa)).setCell ⟨w.heap.size + 1, 3, none⟩ (.slice A6 qw.length c6)).setCell ⟨w.heap.size + 1, 4, none⟩ (.int .i64 qb)).setCell ⟨w.heap.size + 1, 5, none⟩ (.bool qn)) = X4 at hZ zX4 t0 t1 t2 t3 t4 t5 S3 T3 m0 m1 m2 m3 m4 r0 r1 r2 r3 r4 rf0 rf1 rf2 rf3 rf4 ⊢
    refine wpAnyH_done (by kernel_rfl) ?_ _
    refine NoPanic.normal ?_
    have EM := Lib.hid fun W (hW : Bel X4 W) => C4.out W ⟨qk, qs, qa, qw, qb, qn⟩ A5 c5 A6 c6 HQ (setIn_of (S3.keep hW) (T3.keep hW))
    have PK := Lib.hid fun W (hW : Bel X4 W) => C5.out W ⟨qk, qs, qa, qw, qb, qn⟩ A5 c5 A6 c6 (hZ.trans hW) HQ (setIn_of (S3.keep hW) (T3.keep hW))
    clear S3 T3 HQ HO S1 C1 C3 C4 C5 hb0 hb1 hb2 hb zW zX0 zX1 zX2 hX0 x0 x1 x2 x3 x4 x5 xf0 xf1 xf2 xf3 xf4 xf5
    go_upto_region 9 with (first
      | (go_at_call 24; (with_reducible refine Calls.mono (EM.out _ (Bel.refl X4)) ?_); rintro e Y1 ⟨rfl, hy1⟩; have zy1 : w.heap.size + 3 ≤ Y1.heap.size := (Nat.le_trans zX4 hy1.size); replace m0 := (hy1.cells _ _ (by omega)).trans m0; replace m1 := (hy1.cells _ _ (by omega)).trans m1; replace m2 := (hy1.cells _ _ (by omega)).trans m2; replace m3 := (hy1.cells _ _ (by omega)).trans m3; replace m4 := (hy1.cells _ _ (by omega)).trans m4; replace t0 := (hy1.cells _ _ (by omega)).trans t0; replace t1 := (hy1.cells _ _ (by omega)).trans t1; replace t2 := (hy1.cells _ _ (by omega)).trans t2; replace t3 := (hy1.cells _ _ (by omega)).trans t3; replace t4 := (hy1.cells _ _ (by omega)).trans t4; replace t5 := (hy1.cells _ _ (by omega)).trans t5; replace r0 := (hy1.cells _ _ (by omega)).trans r0; replace r1 := (hy1.cells _ _ (by omega)).trans r1; replace r2 := (hy1.cells _ _ (by omega)).trans r2; replace r3 := (hy1.cells _ _ (by omega)).trans r3; replace r4 := (hy1.cells _ _ (by omega)).trans r4; replace rf0 := (hy1.frozens _ _ (by omega)).trans rf0; replace rf1 := (hy1.frozens _ _ (by omega)).trans rf1; replace rf2 := (hy1.frozens _ _ (by omega)).trans rf2; replace rf3 := (hy1.frozens _ _ (by omega)).trans rf3; replace rf4 := (hy1.frozens _ _ (by omega)).trans rf4)
      | (go_at_call 46; (with_reducible refine Calls.mono (PK.out _ hy1) ?_); rintro e Y2 ⟨⟨er, rfl⟩, hy2⟩; have zy2 : w.heap.size + 3 ≤ Y2.heap.size := (Nat.le_trans zy1 hy2.size); have lt3 : w.heap.size + 2 < Y2.heap.size := (by omega); replace r0 := (hy2.cells _ _ (by omega)).trans r0; replace r1 := (hy2.cells _ _ (by omega)).trans r1; replace r2 := (hy2.cells _ _ (by omega)).trans r2; replace r3 := (hy2.cells _ _ (by omega)).trans r3; replace r4 := (hy2.cells _ _ (by omega)).trans r4; replace rf0 := (hy2.frozens _ _ (by omega)).trans rf0; replace rf1 := (hy2.frozens _ _ (by omega)).trans rf1; replace rf2 := (hy2.frozens _ _ (by omega)).trans rf2; replace rf3 := (hy2.frozens _ _ (by omega)).trans rf3; replace rf4 := (hy2.frozens _ _ (by omega)).trans rf4))
    refine under_name (w0 := Y2) (by (repeat (first | with_reducible exact Bel.refl _ | with_reducible refine Bel.setCell ?_ (by first | exact Nat.le_refl _ | (dsimp only; omega)) _ | with_reducible refine Bel.alloc ?_ _ | with_reducible refine Bel.drew ?_ | with_reducible assumption | with_reducible refine Bel.trans ?_ (by assumption)))) fun Y hc hf hz hy => ?_
    have d0 : Y.cell? ⟨Y2.heap.size, 0, none⟩ = some (.int .i64 v0) := by simp [hc, go_sem]
    have d1 : Y.cell? ⟨Y2.heap.size, 1, none⟩ = some (.int .i64 v1) := by simp [hc, go_sem]
    have d2 : Y.cell? ⟨Y2.heap.size, 2, none⟩ = some (.int .i64 v2) := by simp [hc, go_sem]
    have d3 : Y.cell? ⟨Y2.heap.size, 3, none⟩ = some (.string v3) := by simp [hc, go_sem]
    have d4 : Y.cell? ⟨Y2.heap.size, 4, none⟩ = some (.int .i64 v4) := by simp [hc, go_sem]
    clear hc hf hz
    replace r0 := (hy.cells _ _ (by omega)).trans r0; replace r1 := (hy.cells _ _ (by omega)).trans r1; replace r2 := (hy.cells _ _ (by omega)).trans r2; replace r3 := (hy.cells _ _ (by omega)).trans r3; replace r4 := (hy.cells _ _ (by omega)).trans r4; replace rf0 := (hy.frozens _ _ (by omega)).trans rf0; replace rf1 := (hy.frozens _ _ (by omega)).trans rf1; replace rf2 := (hy.frozens _ _ (by omega)).trans rf2; replace rf3 := (hy.frozens _ _ (by omega)).trans rf3; replace rf4 := (hy.frozens _ _ (by omega)).trans rf4
    have hbE := ((hZ.trans hy1).trans hy2).trans hy
    clear m0 m1 m2 m3 m4 t0 t1 t2 t3 t4 t5 hy1 hy2 hy hZ EM PK lt3 zy1 zX4
    go_wp2_with fail
    refine bodyPost_ret (by simp [results, Tryz.results23, go_sem, r0, rf0, r1, rf1, r2, rf2, r3, rf3, r4, rf4]; try rfl) rfl ⟨rfl, ?_⟩
    (repeat (first | with_reducible exact Bel.refl _ | with_reducible refine Bel.setCell ?_ (by first | exact Nat.le_refl _ | (dsimp only; omega)) _ | with_reducible refine Bel.alloc ?_ _ | with_reducible refine Bel.drew ?_ | with_reducible assumption | with_reducible refine Bel.trans ?_ (by assumption)))
end
section
open Go.RowKit Go.Lib Go.Deep
theorem Pick1S_any (sc : Int) (any not : Bool) (l : List Tst) (A : Option Addr) (c : Nat) (p : List Sp) (nu : Bool) (A1 : Option Addr) (c1 : Nat) (A2 : Option Addr) (c2 : Nat) (w : World) (hA2 : A2 = none → c2 = 0) (hs : Tsts w A l) (hl : l.length ≤ 499) (ht : ∀ t ∈ l, TOk t) (hsn : ∀ t ∈ l, tsnd t = true) (hy : tysnd 1 sc any not l = true)
    (hS : SlS w (.slice A1 p.length c1) p) (hpl : p.length ≤ 500) (hr : ∀ s ∈ p, Rng s) (x a b er : Int) (hx : ∀ q, Ord q → (∀ n, SMem q n ↔ MemH 1 sc any not l n ∧ SMem p n) → nearOf 0 q = some x ∧ ¬ ∀ n, ¬ SMem q n) (hmk : makeV x sc = .tuple #[decA a b, .int .i64 er]) :
    Calls Tryz.prog 23 #[tyv 1 sc any not (.slice A l.length c), (⟨1, p, false, [], 0, nu⟩ : St).val A1 c1 A2 c2] w fun e w' => e = .returned (.tuple #[(⟨1, a, b, ⟨#[]⟩, 0⟩ : Val).val, .int .i64 0]) ∧ Bel w w' := by
  have hB : SetIn w A1 c1 A2 c2 (⟨1, p, false, [], 0, nu⟩ : St) := ⟨hS, Strs.nil, hA2⟩
  refine PickG_any (fun o => ∃ o', o = (⟨1, o', false, [], 0, true⟩ : St) ∧ (∀ s ∈ o', Rng s) ∧ (∀ n, SMem o' n ↔ MemH 1 sc any not l n) ∧ o'.length ≤ 500) (fun u => ∃ t, u = (⟨1, t, false, [], 0, nu⟩ : St) ∧ Ord t ∧ (∀ s ∈ t, Rng s) ∧ (∀ n, SMem t n ↔ MemH 1 sc any not l n ∧ SMem p n) ∧ t.length ≤ 1000) 1 sc any not l A c p false [] 0 nu A1 c1 A2 c2 ⟨1, a, b, ⟨#[]⟩, 0⟩ w hs (by omega) ht hy hB ?_ ?_ ?_ ?_
  · intro X hX
    refine (fullN_any 1 sc any not l A c X (.inl rfl) (hs.keep hX) (by omega) hsn).mono ?_
    rintro e w' ⟨o, h1, _, h3, h4, h5⟩
    exact ⟨_, h1, o, rfl, h3, h4, by omega⟩
  · rintro X o bA bc bA2 bc2 ⟨o', rfl, g1, g2, g3⟩ i1 i2
    refine (meetS1_any o' false [] 0 true p false [] 0 nu bA bc bA2 bc2 A1 c1 A2 c2 X i1.1 i2.1 (by omega) (by omega) g1 hr).mono ?_
    rintro e w' ⟨t, h1, h2, h3, h4, h5⟩
    exact ⟨_, h1, t, by rw [Bool.true_and], h2, h3, fun n => by rw [h4, g2], by omega⟩
  · rintro X u bA bc bA2 bc2 ⟨t, rfl, g1, g2, g3, g4⟩ i1
    refine (emptyN_any 1 t nu bA bc bA2 bc2 X (.inl rfl) i1.1 (by omega) g2).mono ?_
    rintro e w' ⟨b', h1, h2, h3⟩
    cases b' with
    | false => exact ⟨h1, h3⟩
    | true => exact absurd (h2.1 rfl).2 (hx t g1 g3).2
  · rintro X u bA bc bA2 bc2 hbX ⟨t, rfl, g1, g2, g3, g4⟩ i1
    exact (pick1S_any sc any not A l.length c t nu bA bc bA2 bc2 X i1.1 (by omega) g2 x a b er (hx t g1 g3).1 hmk).mono fun e w' ⟨h1, h2⟩ => ⟨⟨er, h1⟩, h2⟩
end
section
open Go.RowKit Go.Lib Go.Deep
attribute [local go_sem ↓] eql_val neq_val
set_option maxRecDepth 100000 in
set_option maxHeartbeats 8000000 in
theorem sawake_any (w : World) : Calls Tryz.prog 9 #[] w fun e w' => e = .returned (.bool true) ∧ Bel w w' := by
  have CO := Lib.hid (show ∀ W n, n = W.heap.size → Calls Tryz.prog 14 #[tyv 1 1 true false (.slice none 0 0), tsv false false (.slice (some ⟨n, 0, none⟩) 1 1)] (W.alloc (.cells #[.int .i64 2, .int .i64 1, .int .i64 125, .int .i64 2, .string ⟨#[]⟩, .int .i64 0, .int .i64 0, .int .i64 0, .int .i64 0, .string ⟨#[]⟩, .int .i64 0, .bool false, .bool false] 59)) fun e w' => ∃ A1 c1 A2 c2, e = .returned (.tuple #[(⟨1, [(-999999999999, 12)], false, [], 0, false⟩ : St).val A1 c1 A2 c2, .int .i64 0]) ∧ SlS w' (.slice A1 1 c1) [(-999999999999, 12)] ∧ Bel W w' ∧ (A2 = none → c2 = 0) from fun W n hn => by
    have k := ofN_any 1 1 true false [] none 0 false false [tA] (some ⟨n, 0, none⟩) 1 (W.alloc (.cells #[.int .i64 2, .int .i64 1, .int .i64 125, .int .i64 2, .string ⟨#[]⟩, .int .i64 0, .int .i64 0, .int .i64 0, .int .i64 0, .string ⟨#[]⟩, .int .i64 0, .bool false, .bool false] 59)) (.inl rfl) (fun h => absurd h (by simp)) (by simp) (tst_one W tA hn) (by simp) (by simp) (by simp [tA_ok]) (by simp) (by simp [tA_snd]) tyA tA_us
    refine Calls.mono k ?_
    rintro e w' ⟨q, A1, c1, A2, c2, he, h1, h2, h3, h4, h5, h6, h7⟩
    obtain rfl := ofA q h4 h6
    rw [nulA] at he
    exact ⟨A1, c1, A2, c2, he, h1.sl, ((Bel.refl W).alloc _).trans h3, h2.2.1⟩)
  have CP := Lib.hid (show ∀ W A1 c1 A2 c2, (A2 = none → c2 = 0) → SlS W (.slice A1 1 c1) [(-999999999999, 12)] → Calls Tryz.prog 23 #[tyv 1 1 true false (.slice none 0 0), (⟨1, [(-999999999999, 12)], false, [], 0, false⟩ : St).val A1 c1 A2 c2] W fun e w' => e = .returned (.tuple #[(⟨1, 0, 0, ⟨#[]⟩, 0⟩ : Val).val, .int .i64 0]) ∧ Bel W w' from fun W A1 c1 A2 c2 h2 h =>
    Pick1S_any 1 true false [] none 0 [(-999999999999, 12)] false A1 c1 A2 c2 W h2 (fun h => absurd h (by simp)) (by simp) (by simp) (by simp) tyA h (by simp) (by simp [Rng]) 0 0 0 0 pickA mkA)
  have CI := Lib.hid (show ∀ W, Calls Tryz.prog 12 #[tyv 1 1 true false (.slice none 0 0), (⟨0, 0, 0, ⟨#[]⟩, 0⟩ : Val).val] W fun e w' => e = .returned (.bool true) ∧ Bel W w' from fun W => by
    have k := tin_any 1 1 true false [] none 0 ⟨0, 0, 0, ⟨#[]⟩, 0⟩ W (fun h => absurd h (by simp)) (by simp) (by simp) (by decide +kernel)
    rw [inA] at k
    exact k)
  go_enter Tryz.func9, Tryz.ntmps9
  go_upto_region 2 with fail
  refine under_name (w0 := w) (by (repeat (first | with_reducible exact Bel.refl _ | with_reducible refine Bel.setCell ?_ (by first | exact Nat.le_refl _ | (dsimp only; omega)) _ | with_reducible refine Bel.alloc ?_ _ | with_reducible refine Bel.drew ?_ | with_reducible assumption | with_reducible refine Bel.trans ?_ (by assumption)))) fun W hc hf hz hb => ?_
  have m0 : W.cell? ⟨w.heap.size, 0, none⟩ = some (.int .i64 1) := by simp [hc, go_sem]
  have m1 : W.cell? ⟨w.heap.size, 1, none⟩ = some (.int .i64 1) := by simp [hc, go_sem]
  have m2 : W.cell? ⟨w.heap.size, 2, none⟩ = some (.bool true) := by simp [hc, go_sem]
  have m3 : W.cell? ⟨w.heap.size, 3, none⟩ = some (.bool false) := by simp [hc, go_sem]
  have m4 : W.cell? ⟨w.heap.size, 4, none⟩ = some (.slice none 0 0) := by simp [hc, go_sem]
  have z0 : w.heap.size + 1 ≤ W.heap.size := by simp [hz]
  clear hc hf hz
  go_upto_region 3 with (go_at_call 14; (with_reducible refine Calls.mono (CO.out _ _ rfl) ?_); rintro e X1 ⟨A1, c1, A2, c2, rfl, S1, hx1, hA2⟩; have HA2 := Lib.hid hA2; clear hA2; have zx1 : w.heap.size + 1 ≤ X1.heap.size := (Nat.le_trans z0 hx1.size); have hbX := hb.trans hx1; replace m0 := (hx1.cells _ _ (by omega)).trans m0; replace m1 := (hx1.cells _ _ (by omega)).trans m1; replace m2 := (hx1.cells _ _ (by omega)).trans m2; replace m3 := (hx1.cells _ _ (by omega)).trans m3; replace m4 := (hx1.cells _ _ (by omega)).trans m4)
  refine under_name (w0 := X1) (by (repeat (first | with_reducible exact Bel.refl _ | with_reducible refine Bel.setCell ?_ (by first | exact Nat.le_refl _ | (dsimp only; omega)) _ | with_reducible refine Bel.alloc ?_ _ | with_reducible refine Bel.drew ?_ | with_reducible assumption | with_reducible refine Bel.trans ?_ (by assumption)))) fun Y hc hf hz hy => ?_
  have x0 : Y.cell? ⟨X1.heap.size, 0, none⟩ = some (.int .i64 1) := by simp [hc, go_sem]
  have x1 : Y.cell? ⟨X1.heap.size, 1, none⟩ = some (.slice A1 1 c1) := by simp [hc, go_sem]
  have x2 : Y.cell? ⟨X1.heap.size, 2, none⟩ = some (.bool false) := by simp [hc, go_sem]
  have x3 : Y.cell? ⟨X1.heap.size, 3, none⟩ = some (.slice A2 0 c2) := by simp [hc, go_sem]
  have x4 : Y.cell? ⟨X1.heap.size, 4, none⟩ = some (.int .i64 0) := by simp [hc, go_sem]
  have x5 : Y.cell? ⟨X1.heap.size, 5, none⟩ = some (.bool false) := by simp [hc, go_sem]
  have zy : X1.heap.size < Y.heap.size := by simp [hz]
  clear hc hf hz
  replace m0 := (hy.cells _ _ (by omega)).trans m0; replace m1 := (hy.cells _ _ (by omega)).trans m1; replace m2 := (hy.cells _ _ (by omega)).trans m2; replace m3 := (hy.cells _ _ (by omega)).trans m3; replace m4 := (hy.cells _ _ (by omega)).trans m4
  have SS := S1.keep hy
  obtain ⟨A', c', e, hsp, hcc, hA⟩ := S1.keep hy
  cases e
  obtain ⟨b, off, rfl, hbl, hat⟩ := hsp (by simp)
  have y0 := (hat 0 _ rfl).1
  have y1 := (hat 0 _ rfl).2
  simp only [Nat.zero_mul, Nat.add_zero] at y0 y1
  have HS := Lib.hid SS
  have hbY := hbX.trans hy
  have mlt : w.heap.size < X1.heap.size := by omega
  clear hat hsp hA SS S1 hx1 hbX hy hb z0 CO hcc
  go_upto_region 4 with (go_at_call 23; (with_reducible refine Calls.mono (CP.out _ _ _ _ _ HA2.out HS.out) ?_); rintro e X2 ⟨rfl, hx2⟩; have zx2 := hx2.size; replace m0 := (hx2.cells _ _ (by omega)).trans m0; replace m1 := (hx2.cells _ _ (by omega)).trans m1; replace m2 := (hx2.cells _ _ (by omega)).trans m2; replace m3 := (hx2.cells _ _ (by omega)).trans m3; replace m4 := (hx2.cells _ _ (by omega)).trans m4; replace x0 := (hx2.cells _ _ (by omega)).trans x0; replace x1 := (hx2.cells _ _ (by omega)).trans x1; replace x2 := (hx2.cells _ _ (by omega)).trans x2; replace x3 := (hx2.cells _ _ (by omega)).trans x3; replace x4 := (hx2.cells _ _ (by omega)).trans x4; replace x5 := (hx2.cells _ _ (by omega)).trans x5; replace y0 := (hx2.cells _ _ hbl).trans y0; replace y1 := (hx2.cells _ _ hbl).trans y1)
  refine under_name (w0 := X2) (by (repeat (first | with_reducible exact Bel.refl _ | with_reducible refine Bel.setCell ?_ (by first | exact Nat.le_refl _ | (dsimp only; omega)) _ | with_reducible refine Bel.alloc ?_ _ | with_reducible refine Bel.drew ?_ | with_reducible assumption | with_reducible refine Bel.trans ?_ (by assumption)))) fun Z hc hf hz hz2 => ?_
  have v0 : Z.cell? ⟨X2.heap.size, 0, none⟩ = some (.int .i64 1) := by simp [hc, go_sem]
  have v1 : Z.cell? ⟨X2.heap.size, 1, none⟩ = some (.int .i64 0) := by simp [hc, go_sem]
  have v2 : Z.cell? ⟨X2.heap.size, 2, none⟩ = some (.int .i64 0) := by simp [hc, go_sem]
  have v3 : Z.cell? ⟨X2.heap.size, 3, none⟩ = some (.string ⟨#[]⟩) := by simp [hc, go_sem]
  have v4 : Z.cell? ⟨X2.heap.size, 4, none⟩ = some (.int .i64 0) := by simp [hc, go_sem]
  clear hc hf hz
  replace m0 := (hz2.cells _ _ (by omega)).trans m0; replace m1 := (hz2.cells _ _ (by omega)).trans m1; replace m2 := (hz2.cells _ _ (by omega)).trans m2; replace m3 := (hz2.cells _ _ (by omega)).trans m3; replace m4 := (hz2.cells _ _ (by omega)).trans m4; replace x0 := (hz2.cells _ _ (by omega)).trans x0; replace x1 := (hz2.cells _ _ (by omega)).trans x1; replace x2 := (hz2.cells _ _ (by omega)).trans x2; replace x3 := (hz2.cells _ _ (by omega)).trans x3; replace x4 := (hz2.cells _ _ (by omega)).trans x4; replace x5 := (hz2.cells _ _ (by omega)).trans x5
  replace y0 := (hz2.cells _ _ (Nat.lt_of_lt_of_le hbl hx2.size)).trans y0
  replace y1 := (hz2.cells _ _ (Nat.lt_of_lt_of_le hbl hx2.size)).trans y1
  have hbZ := (hbY.trans hx2).trans hz2
  clear hx2 hz2 hbY HS CP
  go_wp2_with (go_at_call 12; (with_reducible refine Calls.mono (CI.out _) ?_); rintro e X3 ⟨rfl, hx3⟩; have hbE := hbZ.trans hx3)
  go_ret
  exact ⟨rfl, hbE⟩
end
section
open Go.RowKit
def dgt (n k : Nat) : UInt8 := UInt8.ofNat (48 + n / k % 10)
theorem dec1 (n : Nat) (h : n < 10) : Lib.decDigits n = [dgt n 1] := by rw [Lib.decDigits, dif_pos h]; simp [dgt, Nat.mod_eq_of_lt h]
theorem decS (n : Nat) (h : 10 ≤ n) : Lib.decDigits n = Lib.decDigits (n / 10) ++ [dgt n 1] := by rw [Lib.decDigits, dif_neg (by omega)]; simp [dgt]
theorem dec_len_le (k : Nat) : ∀ n, n < 10 ^ (k + 1) → (Lib.decDigits n).length ≤ k + 1 := by
  induction k with
  | zero => intro n h; rw [dec1 n (by simpa using h)]; simp
  | succ k ih =>
    intro n h
    by_cases h1 : n < 10
    · rw [dec1 n h1]; simp
    · rw [decS n (by omega), List.length_append]
      have := ih (n / 10) (by rw [Nat.div_lt_iff_lt_mul (by omega)]; rw [Nat.pow_succ] at h; exact h)
      simp; omega
theorem dec_pos (n : Nat) : 1 ≤ (Lib.decDigits n).length := by
  by_cases h1 : n < 10
  · rw [dec1 n h1]; simp
  · rw [decS n (by omega)]; simp
/-- The table of the powers of ten, as the library lays it. -/
def Tab (w : World) : Prop := Lib.TabIs Tryz.prog w "internal/strconv.uint64pow10" .u64 Lib.pow10Tab
theorem Tab.keep {w w' : World} (h : Tab w) (hb : Bel w w') : Tab w' := by
  obtain ⟨g, hg⟩ : ∃ g, Tryz.prog.globalNamed "internal/strconv.uint64pow10" = some g := ⟨(Tryz.prog.globalNamed "internal/strconv.uint64pow10").getD 0, by kernel_rfl⟩
  unfold Tab Lib.TabIs World.var? at h ⊢
  rw [hg] at h ⊢
  simp only [Option.bind_some] at h ⊢
  have hlt : g < w.heap.size := by
    rcases Nat.lt_or_ge g w.heap.size with h' | h'
    · exact h'
    · rw [Array.getElem?_eq_none h'] at h; cases h
  rw [Below.block hb g hlt]
  exact h
theorem itoa_n (n : Nat) (hn : n ≤ 9223372036854775807) (w : World) (ht : Tab w) : Calls Tryz.prog 109 #[.int .i64 n] w fun e w' => e = .returned (.string ⟨(Lib.decDigits n).toArray⟩) ∧ Bel w w' :=
  (Tryz.strconv_Itoa n (by omega) (by omega) w ht).mono fun e w' ⟨he, k, os, hw⟩ => by
    subst hw
    refine ⟨by rw [he]; simp [Lib.itoa], ?_⟩
    exact ⟨rfl, rfl, rfl, by simp [Go.«Sort».grow, World.drewN], fun i hi => by simp [Go.«Sort».grow, World.drewN, Array.getElem?_append_left hi]⟩
def asn (n : Nat) : ByteArray := ⟨(List.replicate n 97).toArray⟩
def itn (n : Nat) : ByteArray := ⟨(Lib.decDigits n).toArray⟩
theorem rep_a (c : Nat) (hc : c ≤ 1000) (w : World) : Calls Tryz.prog 108 #[.string ⟨#[97]⟩, .int .i64 c] w fun e w' => e = .returned (.string (asn c)) ∧ Bel w w' :=
  (Tryz.strings_Repeat ⟨#[97]⟩ c w (by omega) (by simp [ByteArray.size]; omega)).mono fun e w' ⟨he, hw⟩ => ⟨by
    rw [he]
    have := Lib.repeatL_replicate 97 1 c
    simp only [Nat.mul_one, List.replicate_one] at this
    show _ = Ending.returned (.string (asn c))
    unfold asn
    rw [← this], hw⟩
theorem asn_size (n : Nat) : (asn n).size = n := by simp [asn, ByteArray.size]
theorem plain_good (s : ByteArray) (h : ∀ b ∈ s.data.toList, 32 ≤ b.toNat ∧ b.toNat < 128) : goodB s = true := by
  have key : ∀ f pos, badFrom s f pos = -1 := by
    intro f
    induction f with
    | zero => intro pos; rfl
    | succ f ih =>
      intro pos
      unfold badFrom
      by_cases hp : pos < s.size
      · rw [if_pos hp]
        have hb := h (s[pos]'hp) (by rw [Array.mem_toList_iff]; exact Array.getElem_mem _)
        have h0 : gOf s pos 0 = (s[pos]'hp).toNat := by
          unfold gOf
          rw [Nat.add_zero]
          show (s.data[pos]!).toNat = _
          rw [getElem!_pos s.data pos hp]
          rfl
        have hd : dec (gOf s pos) (s.size - pos) = (gOf s pos 0, 1) := by unfold dec; rw [if_pos (by omega)]
        have ho : okAt s pos = true := by
          unfold okAt
          rw [may_iff, hd]
          refine ⟨(sgn_iff _).2 (by simp only []; omega), fun e => ?_⟩
          simp only [] at e
          omega
        rw [if_pos ho]
        exact ih _
      · rw [if_neg hp]
  unfold goodB badV_C
  rw [key]
  rfl
theorem asn_ok (n : Nat) (h : n ≤ 256) : okw (asn n) = true := by
  unfold okw
  rw [plain_good, decide_eq_true (by rw [asn_size]; exact h)]
  · rfl
  · intro b hb
    simp only [asn, List.toArray_replicate, Array.toList_replicate, List.mem_replicate] at hb
    rw [hb.2]
    decide
theorem asn_fits (n : Nat) (h : n ≤ 1000) : Fits (asn n) := by unfold Fits; rw [asn_size]; omega
theorem itn_size (n : Nat) : (itn n).size = (Lib.decDigits n).length := by simp [itn, ByteArray.size]
theorem dig_byte (n : Nat) : ∀ b ∈ Lib.decDigits n, 48 ≤ b.toNat ∧ b.toNat ≤ 57 := by
  induction n using Nat.strongRecOn with
  | ind n ih =>
    intro b hb
    have hx : ∀ m, 48 ≤ (dgt m 1).toNat ∧ (dgt m 1).toNat ≤ 57 := by
      intro m
      unfold dgt
      rw [UInt8.toNat_ofNat']
      have : m / 1 % 10 < 10 := Nat.mod_lt _ (by omega)
      omega
    by_cases h : n < 10
    · rw [dec1 n h, List.mem_singleton] at hb
      rw [hb]; exact hx n
    · rw [decS n (by omega), List.mem_append, List.mem_singleton] at hb
      rcases hb with hb | hb
      · exact ih (n / 10) (by omega) b hb
      · rw [hb]; exact hx n
theorem itn_ok (n : Nat) (h : n ≤ 9223372036854775807) : okw (itn n) = true := by
  unfold okw
  have hl := dec_len_le 18 n (by omega)
  rw [plain_good, decide_eq_true (by rw [itn_size]; omega)]
  · rfl
  · intro b hb
    have := dig_byte n b (by simpa [itn] using hb)
    omega
theorem itn_fits (n : Nat) (h : n ≤ 9223372036854775807) : Fits (itn n) := by
  unfold Fits
  rw [itn_size]
  have hl := dec_len_le 18 n (by omega)
  omega
theorem dig_inj : ∀ n m : Nat, Lib.decDigits n = Lib.decDigits m → n = m := by
  intro n
  induction n using Nat.strongRecOn with
  | ind n ih =>
    intro m h
    have hx : ∀ a b : Nat, dgt a 1 = dgt b 1 → a % 10 = b % 10 := by
      intro a b e
      have := congrArg UInt8.toNat e
      unfold dgt at this
      rw [UInt8.toNat_ofNat', UInt8.toNat_ofNat'] at this
      omega
    by_cases h1 : n < 10
    · by_cases h2 : m < 10
      · rw [dec1 n h1, dec1 m h2] at h
        have := hx n m (by simpa using h)
        omega
      · rw [dec1 n h1, decS m (by omega)] at h
        have hl := congrArg List.length h
        have := dec_pos (m / 10)
        rw [List.length_append] at hl
        simp only [List.length_cons, List.length_nil] at hl
        omega
    · by_cases h2 : m < 10
      · rw [dec1 m h2, decS n (by omega)] at h
        have hl := congrArg List.length h
        have := dec_pos (n / 10)
        rw [List.length_append] at hl
        simp only [List.length_cons, List.length_nil] at hl
        omega
      · rw [decS n (by omega), decS m (by omega)] at h
        have hh := List.append_inj' h rfl
        have e1 := ih (n / 10) (by omega) (m / 10) hh.1
        have e2 := hx n m (by simpa using hh.2)
        omega
theorem itn_inj {n m : Nat} (h : itn n = itn m) : n = m := by
  refine dig_inj n m ?_
  have := congrArg (fun x : ByteArray => x.data.toList) h
  simpa [itn] using this
/-- One numeral is not in a list. -/
theorem itn_hole (l : List ByteArray) : ∃ n, n ≤ l.length ∧ itn n ∉ l := by
  refine Classical.byContradiction fun hn => ?_
  have hall : ∀ i, i < l.length + 1 → itn i ∈ l := fun i hi => Classical.byContradiction fun h => hn ⟨i, by omega, h⟩
  have := hole itn (l.length + 1) l (fun i j _ _ e => itn_inj e) hall
  omega
end
section
open Go.RowKit Go.Lib
def PickAll (l : List ByteArray) (s : ByteArray) : Prop :=
  (∃ n, n ≤ 256 ∧ s = asn n ∧ inl l (asn n) = false ∧ ∀ k, k < n → inl l (asn k) = true) ∨ ((∀ k, k < 257 → inl l (asn k) = true) ∧ ∃ n, n ≤ 9223372036854775807 ∧ s = itn n ∧ inl l (itn n) = false)
def PickOk (all : Bool) (l : List ByteArray) (s : ByteArray) (x : Int) : Prop :=
  (all = false ∧ keptl okw l = [] ∧ s = ⟨#[]⟩ ∧ x = 16) ∨ (all = false ∧ x = 0 ∧ ∃ t, keptl okw l = s :: t) ∨ (all = true ∧ x = 0 ∧ PickAll l s)
theorem pickAll_kept (l : List ByteArray) (s : ByteArray) (h : PickAll (keptl okw l) s) : PickAll l s := by
  rcases h with ⟨n, h1, h2, h3, h4⟩ | ⟨h1, n, h2, h3, h4⟩
  · exact .inl ⟨n, h1, h2, by rw [← inl_kept l _ (asn_ok n h1)]; exact h3, fun k hk => by rw [← inl_kept l _ (asn_ok k (by omega))]; exact h4 k hk⟩
  · exact .inr ⟨fun k hk => by rw [← inl_kept l _ (asn_ok k (by omega))]; exact h1 k hk, n, h2, h3, by rw [← inl_kept l _ (itn_ok n h2)]; exact h4⟩
set_option maxRecDepth 100000 in
set_option maxHeartbeats 4000000 in
theorem pick_any (all : Bool) (l : List ByteArray) (A : Option Addr) (c : Nat) (w : World) (ht : Tab w) (hl : Strs w A l) (hn : l.length * 16 ≤ 140737488355328) (hs : ∀ s ∈ l, Fits s) :
    Calls Tryz.prog 73 #[wset all A l.length c] w fun e w' => ∃ s x, e = .returned (.tuple #[.string s, .int .i64 x]) ∧ PickOk all l s x ∧ Bel w w' := by
  have MK := Lib.hid fun W (hW : Bel w W) => wmake_any all l A c W (hl.keep hW) hn hs
  have KL := Lib.hid (keptl_len okw l)
  have KS := Lib.hid (keptl_srt okw l)
  have HT := Lib.hid ht
  clear hl hs ht
  unfold wset
  go_enter Tryz.func73, Tryz.ntmps73
  go_upto_region 1 with fail
  refine under_name ((Bel.refl w).alloc _) fun W hc hf hz hb => ?_
  have m0 : W.cell? ⟨w.heap.size, 0, none⟩ = some (.bool all) := by simp [hc, go_sem]
  have m1 : W.cell? ⟨w.heap.size, 1, none⟩ = some (.slice A l.length c) := by simp [hc, go_sem]
  have g0 : W.frozen? ⟨w.heap.size, 0, none⟩ = false := by simp [hf, go_sem]
  have g1 : W.frozen? ⟨w.heap.size, 1, none⟩ = false := by simp [hf, go_sem]
  have z0 : w.heap.size < W.heap.size := by simp [hz]
  clear hc hf hz
  go_upto_region 2 with (go_at_call 70; refine (MK.out _ hb).mono ?_; rintro e W1 ⟨A1, c1, rfl, h1, h2, h3, hb1⟩; have hz1 := hb1.size; have u0 := (hb1.cells w.heap.size 0 z0).trans m0; have u1 := (hb1.cells w.heap.size 1 z0).trans m1; have f0 := (hb1.frozens w.heap.size 0 z0).trans g0; have f1 := (hb1.frozens w.heap.size 1 z0).trans g1; have HH := Lib.hid (And.intro h1 (And.intro h2 (And.intro h3 hb1))); clear h1 h2 h3 hb1)
  have hbX := hb.trans HH.out.2.2.2
  have hz1 := HH.out.2.2.2.size
  have hS2 := Lib.hid (fun (W2 : World) (hz : W2.heap.size = W1.heap.size) (hk : ∀ k o, w.heap.size < k → W2.cell? ⟨k, o, none⟩ = W1.cell? ⟨k, o, none⟩) => HH.out.1.other hz hk (by
    rcases HH.out.2.2.1 with h3 | ⟨g, h3, h4⟩
    · exact .inl h3
    · exact .inr ⟨g, h3, by omega⟩))
  have PK := Lib.hid (pickAll_kept l)
  have hPO : ∀ s x, ((all = false ∧ keptl okw l = [] ∧ s = ⟨#[]⟩ ∧ x = 16) ∨ (all = false ∧ x = 0 ∧ ∃ t, keptl okw l = s :: t) ∨ (all = true ∧ x = 0 ∧ PickAll l s)) → PickOk all l s x := fun s x h => h
  have PO := Lib.hid hPO
  clear hPO
  refine under_name (w0 := w) (by (repeat (first | with_reducible exact Bel.refl _ | with_reducible refine Bel.setCell ?_ (by first | exact Nat.le_refl _ | (dsimp only; omega)) _ | with_reducible refine Bel.alloc ?_ _ | with_reducible refine Bel.drew ?_ | with_reducible assumption | with_reducible refine Bel.trans ?_ (by assumption)))) fun W2 hc hf hz hb2 => ?_
  have k0 : W2.cell? ⟨w.heap.size, 0, none⟩ = some (.bool all) := by simp [hc, go_sem, u0, u1]
  have k1 : W2.cell? ⟨w.heap.size, 1, none⟩ = some (.slice A1 (keptl okw l).length c1) := by simp [hc, go_sem, u0, u1]
  have z2 : w.heap.size < W2.heap.size := by simp [hz]; omega
  have hS := hS2.out W2 (by simp [hz]) (fun k o hk => by
    have ne : ¬ k = w.heap.size := by omega
    have ne' : ¬ w.heap.size = k := by omega
    simp [hc, go_sem, ne, ne'])
  clear hc hf hz u0 u1 f0 f1 m0 m1 g0 g1 hS2 HH MK hbX hz1
  generalize keptl okw l = r at hS k1 KL KS PK PO
  generalize w.heap.size = B at k0 k1 z2 ⊢
  cases all with
  | false =>
    cases r with
    | nil =>
      simp only [List.length_nil] at k1
      have P1 := Lib.hid (PO.out ⟨#[]⟩ 16 (.inl ⟨rfl, rfl, rfl, rfl⟩))
      clear PO PK
      go_wp2
      go_ret2
      exact ⟨_, _, rfl, P1.out, hb2⟩
    | cons x t =>
      have P1 := Lib.hid (PO.out x 0 (.inr (.inl ⟨rfl, rfl, t, rfl⟩)))
      obtain ⟨b, off, rfl, hltb, hat⟩ := hS.blk (by simp)
      have hx : W2.cell? ⟨b, off, none⟩ = some (.string x) := hat 0 x rfl
      clear PO PK hS hat KL KS
      generalize hL : (x :: t).length = n at k1
      have i1 : (0 : Int) < n := by rw [← hL]; simp
      have i2 : ¬ n = 0 := by rw [← hL]; simp
      have i3 : 0 < n := by rw [← hL]; simp
      clear hL
      go_wp2
      go_ret2
      exact ⟨_, _, rfl, P1.out, hb2⟩
  | true =>
    have PR := Lib.hid (pred28 r A1 c1 B W2 z2 k1 hS KS.out (by have := KL.out; omega))
    obtain ⟨N, hN1, hN2⟩ := itn_hole r
    have HN := Lib.hid (And.intro ((inl_false r (itn N)).2 hN2) (show N ≤ 9223372036854775807 by have := KL.out; omega))
    have hNi : (N : Int) ≤ 9223372036854775807 := by have := HN.out.2; omega
    have P1 := Lib.hid (fun s h => PO.out s 0 (.inr (.inr ⟨rfl, rfl, PK.out s h⟩)))
    clear PO PK hS KS hN1 hN2
    go_wp2
    go_loopg [25] 257 (fun g i wr => ∃ k : Nat, i = .int .i64 k ∧ k ≤ 257 ∧ Hid (∀ j, j < k → inl r (asn j) = true) ∧ Hid (g = 257 - k) ∧ Bel W2 wr)
    case atStart => exact ⟨0, rfl, Nat.zero_le _, fun j hj => absurd hj (Nat.not_lt_zero _), rfl, Bel.refl _⟩
    case round =>
      obtain ⟨k, rfl, hk, ha, hh, hb⟩ := hrel
      by_cases hlt : k < 257
      · have R := Lib.hid (fun w => rep_a k (by omega) w)
        have C := Lib.hid (fun W' (hW : Bel W2 W') => PR.out W' (asn k) hW (asn_fits k (by omega)))
        have i1 : (k : Int) < 257 := by omega
        have i2 : k < 257 := hlt
        cases hq : inl r (asn k) with
        | false =>
          simp only [hq] at C
          have P2 := Lib.hid (P1.out (asn k) (.inl ⟨k, by omega, rfl, hq, ha.out⟩))
          clear hq
          go_wp2_with (first
            | (go_at_call 108; refine (R.out _).mono ?_; rintro e w1 ⟨rfl, hb1⟩; have hb := hb.trans hb1)
            | (go_at_call 107; refine (C.out _ hb).mono ?_; rintro e w2 ⟨rfl, hb2'⟩; have hb := hb.trans hb2'))
          go_ret2
          exact ⟨_, _, rfl, P2.out, hb2.trans hb⟩
        | true =>
          simp only [hq] at C
          have HA := Lib.hid (show ∀ j, j < k + 1 → inl r (asn j) = true from fun j hj => by
            by_cases e : j = k
            · subst e; exact hq
            · exact ha.out j (by omega))
          clear hq
          go_wp2_with (first
            | (go_at_call 108; refine (R.out _).mono ?_; rintro e w1 ⟨rfl, hb1⟩; have hb := hb.trans hb1)
            | (go_at_call 107; refine (C.out _ hb).mono ?_; rintro e w2 ⟨rfl, hb2'⟩; have hb := hb.trans hb2'))
          go_roundg (257 - (k + 1))
          case measure => have := hh.out; omega
          case rel => exact ⟨k + 1, by go_num, by omega, HA.out, rfl, hb⟩
      · obtain rfl : k = 257 := by omega
        have HB := Lib.hid hb
        go_wp2
        go_loopg [7] N (fun g i wr => ∃ n : Nat, i = .int .i64 n ∧ n ≤ N ∧ Hid (g = N - n) ∧ Bel W2 wr)
        case atStart => exact ⟨0, rfl, Nat.zero_le _, rfl, HB.out⟩
        case round =>
          clear hb
          obtain ⟨n, rfl, hk2, hh2, hb⟩ := hrel
          have hN64 := HN.out.2
          have R := Lib.hid (fun w h => itoa_n n (by omega) w h)
          have C := Lib.hid (fun W' (hW : Bel W2 W') => PR.out W' (itn n) hW (itn_fits n (by omega)))
          have HT2 := Lib.hid (HT.out.keep hb2)
          cases hq : inl r (itn n) with
          | false =>
            simp only [hq] at C
            have P2 := Lib.hid (P1.out (itn n) (.inr ⟨ha.out, n, by omega, rfl, hq⟩))
            clear hq
            go_wp2_with (first
              | (go_at_call 109; refine (R.out _ (HT2.out.keep hb)).mono ?_; rintro e w1 ⟨rfl, hb1⟩; have hb := hb.trans hb1)
              | (go_at_call 107; refine (C.out _ hb).mono ?_; rintro e w2 ⟨rfl, hb2'⟩; have hb := hb.trans hb2'))
            go_ret2
            exact ⟨_, _, rfl, P2.out, hb2.trans hb⟩
          | true =>
            simp only [hq] at C
            have hlt2 : n < N := by
              rcases Nat.lt_or_ge n N with h | h
              · exact h
              · obtain rfl : n = N := by omega
                rw [HN.out.1] at hq
                cases hq
            clear hq
            go_wp2_with (first
              | (go_at_call 109; refine (R.out _ (HT2.out.keep hb)).mono ?_; rintro e w1 ⟨rfl, hb1⟩; have hb := hb.trans hb1)
              | (go_at_call 107; refine (C.out _ hb).mono ?_; rintro e w2 ⟨rfl, hb2'⟩; have hb := hb.trans hb2'))
            go_roundg (N - (n + 1))
            case measure => have := hh2.out; omega
            case rel => exact ⟨n + 1, by go_num, by omega, rfl, hb⟩
end
section
open Go.RowKit Go.Lib Go.Deep
attribute [local go_sem ↓] eql_val neq_val
set_option maxRecDepth 100000 in
set_option maxHeartbeats 4000000 in
theorem pickT_any (sc : Int) (any not : Bool) (A0 : Option Addr) (n0 c0 : Nat) (al : Bool) (ws : List ByteArray) (nu : Bool) (A1 : Option Addr) (c1 : Nat) (A2 : Option Addr) (c2 : Nat) (T : ByteArray) (w : World) (ht : Tab w) (hS : Strs w A2 ws) (hl : ws.length ≤ 1000) (hr : ∀ s ∈ ws, Fits s) (hx : ∀ s x, PickOk al ws s x → s = T ∧ x = 0) :
    Calls Tryz.prog 46 #[tyv 2 sc any not (.slice A0 n0 c0), (⟨2, [], al, ws, 0, nu⟩ : St).val A1 c1 A2 c2] w fun e w' => e = .returned (.tuple #[(⟨2, 0, 0, T, 0⟩ : Val).val, .int .i64 0]) ∧ Bel w w' := by
  have C1 := Lib.hid fun W (hW : Bel w W) => (pick_any al ws A2 c2 W (ht.keep hW) (hS.keep hW) (by omega) hr).mono (R' := fun e w' => e = .returned (.tuple #[.string T, .int .i64 0]) ∧ Bel W w') fun e w' ⟨s, x, h1, h2, h3⟩ => by
    obtain ⟨rfl, rfl⟩ := hx s x h2
    exact ⟨h1, h3⟩
  clear ht hS hl hr hx
  go_enter Tryz.func46, Tryz.ntmps46
  go_upto_region 1 with fail
  refine under_name (w0 := w) (by (repeat (first | with_reducible exact Bel.refl _ | with_reducible refine Bel.setCell ?_ (by first | exact Nat.le_refl _ | (dsimp only; omega)) _ | with_reducible refine Bel.alloc ?_ _ | with_reducible refine Bel.drew ?_ | with_reducible assumption | with_reducible refine Bel.trans ?_ (by assumption)))) fun W hc hf hz hb => ?_
  have m0 : W.cell? ⟨w.heap.size, 0, none⟩ = some (.int .i64 2) := by simp [hc, go_sem]
  have m1 : W.cell? ⟨w.heap.size, 1, none⟩ = some (.int .i64 sc) := by simp [hc, go_sem]
  have m2 : W.cell? ⟨w.heap.size, 2, none⟩ = some (.bool any) := by simp [hc, go_sem]
  have m3 : W.cell? ⟨w.heap.size, 3, none⟩ = some (.bool not) := by simp [hc, go_sem]
  have m4 : W.cell? ⟨w.heap.size, 4, none⟩ = some (.slice A0 n0 c0) := by simp [hc, go_sem]
  have x0 : W.cell? ⟨w.heap.size + 1, 0, none⟩ = some (.int .i64 2) := by simp [hc, go_sem]
  have x1 : W.cell? ⟨w.heap.size + 1, 1, none⟩ = some (.slice A1 0 c1) := by simp [hc, go_sem]
  have x2 : W.cell? ⟨w.heap.size + 1, 2, none⟩ = some (.bool al) := by simp [hc, go_sem]
  have x3 : W.cell? ⟨w.heap.size + 1, 3, none⟩ = some (.slice A2 ws.length c2) := by simp [hc, go_sem]
  have x4 : W.cell? ⟨w.heap.size + 1, 4, none⟩ = some (.int .i64 0) := by simp [hc, go_sem]
  have x5 : W.cell? ⟨w.heap.size + 1, 5, none⟩ = some (.bool nu) := by simp [hc, go_sem]
  have r0 : W.cell? ⟨w.heap.size + 2, 0, none⟩ = some (.int .i64 0) := by simp [hc, go_sem]
  have r1 : W.cell? ⟨w.heap.size + 2, 1, none⟩ = some (.int .i64 0) := by simp [hc, go_sem]
  have r2 : W.cell? ⟨w.heap.size + 2, 2, none⟩ = some (.int .i64 0) := by simp [hc, go_sem]
  have r3 : W.cell? ⟨w.heap.size + 2, 3, none⟩ = some (.string ⟨#[]⟩) := by simp [hc, go_sem]
  have r4 : W.cell? ⟨w.heap.size + 2, 4, none⟩ = some (.int .i64 0) := by simp [hc, go_sem]
  have rf0 : W.frozen? ⟨w.heap.size + 2, 0, none⟩ = false := by simp [hf, go_sem]
  have rf1 : W.frozen? ⟨w.heap.size + 2, 1, none⟩ = false := by simp [hf, go_sem]
  have rf2 : W.frozen? ⟨w.heap.size + 2, 2, none⟩ = false := by simp [hf, go_sem]
  have rf3 : W.frozen? ⟨w.heap.size + 2, 3, none⟩ = false := by simp [hf, go_sem]
  have rf4 : W.frozen? ⟨w.heap.size + 2, 4, none⟩ = false := by simp [hf, go_sem]
  have z0 : w.heap.size + 3 ≤ W.heap.size := by simp [hz]
  clear hc hf hz
  go_wp2_with (go_at_call 73; (refine Calls.mono (C1.out _ hb) ?_); rintro e X1 ⟨rfl, hx1⟩; have zx1 : w.heap.size + 3 ≤ X1.heap.size := (Nat.le_trans z0 hx1.size); have lt0 : w.heap.size < X1.heap.size := (by omega); have lt1 : w.heap.size + 1 < X1.heap.size := (by omega); have lt2 : w.heap.size + 2 < X1.heap.size := (by omega); have hbX := hb.trans hx1; replace r0 := (hx1.cells _ _ (by omega)).trans r0; replace r1 := (hx1.cells _ _ (by omega)).trans r1; replace r2 := (hx1.cells _ _ (by omega)).trans r2; replace r3 := (hx1.cells _ _ (by omega)).trans r3; replace r4 := (hx1.cells _ _ (by omega)).trans r4; replace rf0 := (hx1.frozens _ _ (by omega)).trans rf0; replace rf1 := (hx1.frozens _ _ (by omega)).trans rf1; replace rf2 := (hx1.frozens _ _ (by omega)).trans rf2; replace rf3 := (hx1.frozens _ _ (by omega)).trans rf3; replace rf4 := (hx1.frozens _ _ (by omega)).trans rf4)
  refine bodyPost_ret (by simp [results, Tryz.results46, go_sem, r0, rf0, r1, rf1, r2, rf2, r3, rf3, r4, rf4]; try rfl) rfl ⟨rfl, ?_⟩
  (repeat (first | with_reducible exact Bel.refl _ | with_reducible refine Bel.setCell ?_ (by first | exact Nat.le_refl _ | (dsimp only; omega)) _ | with_reducible refine Bel.alloc ?_ _ | with_reducible refine Bel.drew ?_ | with_reducible assumption | with_reducible refine Bel.trans ?_ (by assumption)))
end
section
open Go.RowKit Go.Lib Go.Deep
set_option maxRecDepth 100000 in
set_option maxHeartbeats 8000000 in
theorem oneZ_any (K sc : Int) (any not : Bool) (l : List Tst) (A : Option Addr) (c : Nat) (v : Val) (w : World) (hs : Tsts w A l) (hl : l.length ≤ 9223372036854775807) (ht : ∀ t ∈ l, TOk t) (hy : tysnd K sc any not l = false) :
    Calls Tryz.prog 22 #[tyv K sc any not (.slice A l.length c), v.val] w fun e w' => e = .returned (zeroV 2) ∧ Bel w w' := by
  have C0 := Lib.hid fun W (hW : Bel w W) => tsound_any K sc any not l A c W (hs.keep hW) hl ht
  rw [hy] at C0
  clear hs hl ht hy
  obtain ⟨v0, v1, v2, v3, v4⟩ := v
  go_enter Tryz.func22, Tryz.ntmps22
  go_upto_region 1 with fail
  refine under_name (w0 := w) (by (repeat (first | with_reducible exact Bel.refl _ | with_reducible refine Bel.setCell ?_ (by first | exact Nat.le_refl _ | (dsimp only; omega)) _ | with_reducible refine Bel.alloc ?_ _ | with_reducible refine Bel.drew ?_ | with_reducible assumption | with_reducible refine Bel.trans ?_ (by assumption)))) fun V hc hf hz hbv => ?_
  have m0 : V.cell? ⟨w.heap.size, 0, none⟩ = some (.int .i64 K) := by simp [hc, go_sem]
  have m1 : V.cell? ⟨w.heap.size, 1, none⟩ = some (.int .i64 sc) := by simp [hc, go_sem]
  have m2 : V.cell? ⟨w.heap.size, 2, none⟩ = some (.bool any) := by simp [hc, go_sem]
  have m3 : V.cell? ⟨w.heap.size, 3, none⟩ = some (.bool not) := by simp [hc, go_sem]
  have m4 : V.cell? ⟨w.heap.size, 4, none⟩ = some (.slice A l.length c) := by simp [hc, go_sem]
  have y0 : V.cell? ⟨w.heap.size + 1, 0, none⟩ = some (.int .i64 v0) := by simp [hc, go_sem]
  have y1 : V.cell? ⟨w.heap.size + 1, 1, none⟩ = some (.int .i64 v1) := by simp [hc, go_sem]
  have y2 : V.cell? ⟨w.heap.size + 1, 2, none⟩ = some (.int .i64 v2) := by simp [hc, go_sem]
  have y3 : V.cell? ⟨w.heap.size + 1, 3, none⟩ = some (.string v3) := by simp [hc, go_sem]
  have y4 : V.cell? ⟨w.heap.size + 1, 4, none⟩ = some (.int .i64 v4) := by simp [hc, go_sem]
  have r0 : V.cell? ⟨w.heap.size + 2, 0, none⟩ = some (.int .i64 0) := by simp [hc, go_sem]
  have r1 : V.cell? ⟨w.heap.size + 2, 1, none⟩ = some (.slice none 0 0) := by simp [hc, go_sem]
  have r2 : V.cell? ⟨w.heap.size + 2, 2, none⟩ = some (.bool false) := by simp [hc, go_sem]
  have r3 : V.cell? ⟨w.heap.size + 2, 3, none⟩ = some (.slice none 0 0) := by simp [hc, go_sem]
  have r4 : V.cell? ⟨w.heap.size + 2, 4, none⟩ = some (.int .i64 0) := by simp [hc, go_sem]
  have r5 : V.cell? ⟨w.heap.size + 2, 5, none⟩ = some (.bool false) := by simp [hc, go_sem]
  have rf0 : V.frozen? ⟨w.heap.size + 2, 0, none⟩ = false := by simp [hf, go_sem]
  have rf1 : V.frozen? ⟨w.heap.size + 2, 1, none⟩ = false := by simp [hf, go_sem]
  have rf2 : V.frozen? ⟨w.heap.size + 2, 2, none⟩ = false := by simp [hf, go_sem]
  have rf3 : V.frozen? ⟨w.heap.size + 2, 3, none⟩ = false := by simp [hf, go_sem]
  have rf4 : V.frozen? ⟨w.heap.size + 2, 4, none⟩ = false := by simp [hf, go_sem]
  have rf5 : V.frozen? ⟨w.heap.size + 2, 5, none⟩ = false := by simp [hf, go_sem]
  have z0 : w.heap.size + 3 ≤ V.heap.size := by simp [hz]
  clear hc hf hz
  go_wp2_with (go_at_call 10; (with_reducible refine Calls.mono (C0.out _ hbv) ?_); rintro e W ⟨rfl, hv1⟩; have hb := hbv.trans hv1; have zW : w.heap.size + 3 ≤ W.heap.size := (Nat.le_trans z0 hv1.size); replace m0 := (hv1.cells _ _ (by omega)).trans m0; replace m1 := (hv1.cells _ _ (by omega)).trans m1; replace m2 := (hv1.cells _ _ (by omega)).trans m2; replace m3 := (hv1.cells _ _ (by omega)).trans m3; replace m4 := (hv1.cells _ _ (by omega)).trans m4; replace y0 := (hv1.cells _ _ (by omega)).trans y0; replace y1 := (hv1.cells _ _ (by omega)).trans y1; replace y2 := (hv1.cells _ _ (by omega)).trans y2; replace y3 := (hv1.cells _ _ (by omega)).trans y3; replace y4 := (hv1.cells _ _ (by omega)).trans y4; replace r0 := (hv1.cells _ _ (by omega)).trans r0; replace r1 := (hv1.cells _ _ (by omega)).trans r1; replace r2 := (hv1.cells _ _ (by omega)).trans r2; replace r3 := (hv1.cells _ _ (by omega)).trans r3; replace r4 := (hv1.cells _ _ (by omega)).trans r4; replace r5 := (hv1.cells _ _ (by omega)).trans r5; replace rf0 := (hv1.frozens _ _ (by omega)).trans rf0; replace rf1 := (hv1.frozens _ _ (by omega)).trans rf1; replace rf2 := (hv1.frozens _ _ (by omega)).trans rf2; replace rf3 := (hv1.frozens _ _ (by omega)).trans rf3; replace rf4 := (hv1.frozens _ _ (by omega)).trans rf4; replace rf5 := (hv1.frozens _ _ (by omega)).trans rf5)
  refine bodyPost_ret (by simp [results, Tryz.results22, go_sem, r0, rf0, r1, rf1, r2, rf2, r3, rf3, r4, rf4, r5, rf5, zeroV, zeroS, St.val]; try rfl) rfl ⟨rfl, ?_⟩
  (repeat (first | with_reducible exact Bel.refl _ | with_reducible refine Bel.setCell ?_ (by first | exact Nat.le_refl _ | (dsimp only; omega)) _ | with_reducible refine Bel.alloc ?_ _ | with_reducible refine Bel.drew ?_ | with_reducible assumption | with_reducible refine Bel.trans ?_ (by assumption)))
set_option maxRecDepth 100000 in
set_option maxHeartbeats 8000000 in
theorem oneR_any (K sc : Int) (any not : Bool) (l : List Tst) (A : Option Addr) (c : Nat) (v : Val) (w : World) (hs : Tsts w A l) (hl : l.length ≤ 9223372036854775807) (ht : ∀ t ∈ l, TOk t) (hv : v.text.size ≤ 9223372036854775807) (hy : tysnd K sc any not l = true) (hi : inT K sc any not l v = false) :
    Calls Tryz.prog 22 #[tyv K sc any not (.slice A l.length c), v.val] w fun e w' => e = .returned (zeroV 3) ∧ Bel w w' := by
  have C0 := Lib.hid fun W (hW : Bel w W) => tsound_any K sc any not l A c W (hs.keep hW) hl ht
  rw [hy] at C0
  have C1 := Lib.hid fun W (hW : Bel w W) => tin_any K sc any not l A c v W (hs.keep hW) hl ht hv
  rw [hi] at C1
  clear hs hl ht hy hv hi
  obtain ⟨v0, v1, v2, v3, v4⟩ := v
  go_enter Tryz.func22, Tryz.ntmps22
  go_upto_region 1 with fail
  refine under_name (w0 := w) (by (repeat (first | with_reducible exact Bel.refl _ | with_reducible refine Bel.setCell ?_ (by first | exact Nat.le_refl _ | (dsimp only; omega)) _ | with_reducible refine Bel.alloc ?_ _ | with_reducible refine Bel.drew ?_ | with_reducible assumption | with_reducible refine Bel.trans ?_ (by assumption)))) fun V hc hf hz hbv => ?_
  have m0 : V.cell? ⟨w.heap.size, 0, none⟩ = some (.int .i64 K) := by simp [hc, go_sem]
  have m1 : V.cell? ⟨w.heap.size, 1, none⟩ = some (.int .i64 sc) := by simp [hc, go_sem]
  have m2 : V.cell? ⟨w.heap.size, 2, none⟩ = some (.bool any) := by simp [hc, go_sem]
  have m3 : V.cell? ⟨w.heap.size, 3, none⟩ = some (.bool not) := by simp [hc, go_sem]
  have m4 : V.cell? ⟨w.heap.size, 4, none⟩ = some (.slice A l.length c) := by simp [hc, go_sem]
  have y0 : V.cell? ⟨w.heap.size + 1, 0, none⟩ = some (.int .i64 v0) := by simp [hc, go_sem]
  have y1 : V.cell? ⟨w.heap.size + 1, 1, none⟩ = some (.int .i64 v1) := by simp [hc, go_sem]
  have y2 : V.cell? ⟨w.heap.size + 1, 2, none⟩ = some (.int .i64 v2) := by simp [hc, go_sem]
  have y3 : V.cell? ⟨w.heap.size + 1, 3, none⟩ = some (.string v3) := by simp [hc, go_sem]
  have y4 : V.cell? ⟨w.heap.size + 1, 4, none⟩ = some (.int .i64 v4) := by simp [hc, go_sem]
  have r0 : V.cell? ⟨w.heap.size + 2, 0, none⟩ = some (.int .i64 0) := by simp [hc, go_sem]
  have r1 : V.cell? ⟨w.heap.size + 2, 1, none⟩ = some (.slice none 0 0) := by simp [hc, go_sem]
  have r2 : V.cell? ⟨w.heap.size + 2, 2, none⟩ = some (.bool false) := by simp [hc, go_sem]
  have r3 : V.cell? ⟨w.heap.size + 2, 3, none⟩ = some (.slice none 0 0) := by simp [hc, go_sem]
  have r4 : V.cell? ⟨w.heap.size + 2, 4, none⟩ = some (.int .i64 0) := by simp [hc, go_sem]
  have r5 : V.cell? ⟨w.heap.size + 2, 5, none⟩ = some (.bool false) := by simp [hc, go_sem]
  have rf0 : V.frozen? ⟨w.heap.size + 2, 0, none⟩ = false := by simp [hf, go_sem]
  have rf1 : V.frozen? ⟨w.heap.size + 2, 1, none⟩ = false := by simp [hf, go_sem]
  have rf2 : V.frozen? ⟨w.heap.size + 2, 2, none⟩ = false := by simp [hf, go_sem]
  have rf3 : V.frozen? ⟨w.heap.size + 2, 3, none⟩ = false := by simp [hf, go_sem]
  have rf4 : V.frozen? ⟨w.heap.size + 2, 4, none⟩ = false := by simp [hf, go_sem]
  have rf5 : V.frozen? ⟨w.heap.size + 2, 5, none⟩ = false := by simp [hf, go_sem]
  have z0 : w.heap.size + 3 ≤ V.heap.size := by simp [hz]
  clear hc hf hz
  go_wp2_with (first | (go_at_call 10; (with_reducible refine Calls.mono (C0.out _ hbv) ?_); rintro e W ⟨rfl, hv1⟩; have hb := hbv.trans hv1; have zW : w.heap.size + 3 ≤ W.heap.size := (Nat.le_trans z0 hv1.size); replace m0 := (hv1.cells _ _ (by omega)).trans m0; replace m1 := (hv1.cells _ _ (by omega)).trans m1; replace m2 := (hv1.cells _ _ (by omega)).trans m2; replace m3 := (hv1.cells _ _ (by omega)).trans m3; replace m4 := (hv1.cells _ _ (by omega)).trans m4; replace y0 := (hv1.cells _ _ (by omega)).trans y0; replace y1 := (hv1.cells _ _ (by omega)).trans y1; replace y2 := (hv1.cells _ _ (by omega)).trans y2; replace y3 := (hv1.cells _ _ (by omega)).trans y3; replace y4 := (hv1.cells _ _ (by omega)).trans y4; replace r0 := (hv1.cells _ _ (by omega)).trans r0; replace r1 := (hv1.cells _ _ (by omega)).trans r1; replace r2 := (hv1.cells _ _ (by omega)).trans r2; replace r3 := (hv1.cells _ _ (by omega)).trans r3; replace r4 := (hv1.cells _ _ (by omega)).trans r4; replace r5 := (hv1.cells _ _ (by omega)).trans r5; replace rf0 := (hv1.frozens _ _ (by omega)).trans rf0; replace rf1 := (hv1.frozens _ _ (by omega)).trans rf1; replace rf2 := (hv1.frozens _ _ (by omega)).trans rf2; replace rf3 := (hv1.frozens _ _ (by omega)).trans rf3; replace rf4 := (hv1.frozens _ _ (by omega)).trans rf4; replace rf5 := (hv1.frozens _ _ (by omega)).trans rf5) | (go_at_call 12; (with_reducible refine Calls.mono (C1.out _ hb) ?_); rintro e W2 ⟨rfl, hv2⟩; have hb2 := hb.trans hv2; have zW2 : w.heap.size + 3 ≤ W2.heap.size := (Nat.le_trans zW hv2.size); replace m0 := (hv2.cells _ _ (by omega)).trans m0; replace m1 := (hv2.cells _ _ (by omega)).trans m1; replace m2 := (hv2.cells _ _ (by omega)).trans m2; replace m3 := (hv2.cells _ _ (by omega)).trans m3; replace m4 := (hv2.cells _ _ (by omega)).trans m4; replace y0 := (hv2.cells _ _ (by omega)).trans y0; replace y1 := (hv2.cells _ _ (by omega)).trans y1; replace y2 := (hv2.cells _ _ (by omega)).trans y2; replace y3 := (hv2.cells _ _ (by omega)).trans y3; replace y4 := (hv2.cells _ _ (by omega)).trans y4; replace r0 := (hv2.cells _ _ (by omega)).trans r0; replace r1 := (hv2.cells _ _ (by omega)).trans r1; replace r2 := (hv2.cells _ _ (by omega)).trans r2; replace r3 := (hv2.cells _ _ (by omega)).trans r3; replace r4 := (hv2.cells _ _ (by omega)).trans r4; replace r5 := (hv2.cells _ _ (by omega)).trans r5; replace rf0 := (hv2.frozens _ _ (by omega)).trans rf0; replace rf1 := (hv2.frozens _ _ (by omega)).trans rf1; replace rf2 := (hv2.frozens _ _ (by omega)).trans rf2; replace rf3 := (hv2.frozens _ _ (by omega)).trans rf3; replace rf4 := (hv2.frozens _ _ (by omega)).trans rf4; replace rf5 := (hv2.frozens _ _ (by omega)).trans rf5))
  refine bodyPost_ret (by simp [results, Tryz.results22, go_sem, r0, rf0, r1, rf1, r2, rf2, r3, rf3, r4, rf4, r5, rf5, zeroV, zeroS, St.val]; try rfl) rfl ⟨rfl, ?_⟩
  (repeat (first | with_reducible exact Bel.refl _ | with_reducible refine Bel.setCell ?_ (by first | exact Nat.le_refl _ | (dsimp only; omega)) _ | with_reducible refine Bel.alloc ?_ _ | with_reducible refine Bel.drew ?_ | with_reducible assumption | with_reducible refine Bel.trans ?_ (by assumption)))
set_option maxRecDepth 100000 in
set_option maxHeartbeats 8000000 in
theorem oneG_any (P : St → Prop) (K sc : Int) (any not : Bool) (l : List Tst) (A : Option Addr) (c : Nat) (v : Val) (w : World) (hs : Tsts w A l) (hl : l.length ≤ 9223372036854775807) (ht : ∀ t ∈ l, TOk t) (hv : v.text.size ≤ 9223372036854775807) (hy : tysnd K sc any not l = true) (hi : inT K sc any not l v = true)
    (H : ∀ W n, Bel w W → n = W.heap.size → Calls Tryz.prog 45 #[tyv K sc any not (.slice A l.length c), .slice (some ⟨n, 0, none⟩) 1 1] (W.alloc (.cells #[.int .i64 1, .int .i64 v.kind, .int .i64 v.n, .int .i64 v.scale, .string v.text, .int .i64 v.num, .int .i64 0, .int .i64 0, .int .i64 0, .string ⟨#[]⟩, .int .i64 0, .bool false, .bool false] 59)) fun e w' => ∃ q, SetOut W q e w' ∧ P q) :
    Calls Tryz.prog 22 #[tyv K sc any not (.slice A l.length c), v.val] w fun e w' => ∃ q A1 c1 A2 c2, e = .returned (.tuple #[St.val q A1 c1 A2 c2, .int .i64 0]) ∧ SpP w.heap.size w' A1 c1 q.sp ∧ StP w.heap.size w' A2 c2 q.ws ∧ Bel w w' ∧ P q := by
  have C0 := Lib.hid fun W (hW : Bel w W) => tsound_any K sc any not l A c W (hs.keep hW) hl ht
  rw [hy] at C0
  have C1 := Lib.hid fun W (hW : Bel w W) => tin_any K sc any not l A c v W (hs.keep hW) hl ht hv
  rw [hi] at C1
  have C2 := Lib.hid H
  clear hs hl ht hy hv hi H
  obtain ⟨v0, v1, v2, v3, v4⟩ := v
  simp only at C2
  go_enter Tryz.func22, Tryz.ntmps22
  go_upto_region 1 with fail
  refine under_name (w0 := w) (by (repeat (first | with_reducible exact Bel.refl _ | with_reducible refine Bel.setCell ?_ (by first | exact Nat.le_refl _ | (dsimp only; omega)) _ | with_reducible refine Bel.alloc ?_ _ | with_reducible refine Bel.drew ?_ | with_reducible assumption | with_reducible refine Bel.trans ?_ (by assumption)))) fun V hc hf hz hbv => ?_
  have m0 : V.cell? ⟨w.heap.size, 0, none⟩ = some (.int .i64 K) := by simp [hc, go_sem]
  have m1 : V.cell? ⟨w.heap.size, 1, none⟩ = some (.int .i64 sc) := by simp [hc, go_sem]
  have m2 : V.cell? ⟨w.heap.size, 2, none⟩ = some (.bool any) := by simp [hc, go_sem]
  have m3 : V.cell? ⟨w.heap.size, 3, none⟩ = some (.bool not) := by simp [hc, go_sem]
  have m4 : V.cell? ⟨w.heap.size, 4, none⟩ = some (.slice A l.length c) := by simp [hc, go_sem]
  have y0 : V.cell? ⟨w.heap.size + 1, 0, none⟩ = some (.int .i64 v0) := by simp [hc, go_sem]
  have y1 : V.cell? ⟨w.heap.size + 1, 1, none⟩ = some (.int .i64 v1) := by simp [hc, go_sem]
  have y2 : V.cell? ⟨w.heap.size + 1, 2, none⟩ = some (.int .i64 v2) := by simp [hc, go_sem]
  have y3 : V.cell? ⟨w.heap.size + 1, 3, none⟩ = some (.string v3) := by simp [hc, go_sem]
  have y4 : V.cell? ⟨w.heap.size + 1, 4, none⟩ = some (.int .i64 v4) := by simp [hc, go_sem]
  have r0 : V.cell? ⟨w.heap.size + 2, 0, none⟩ = some (.int .i64 0) := by simp [hc, go_sem]
  have r1 : V.cell? ⟨w.heap.size + 2, 1, none⟩ = some (.slice none 0 0) := by simp [hc, go_sem]
  have r2 : V.cell? ⟨w.heap.size + 2, 2, none⟩ = some (.bool false) := by simp [hc, go_sem]
  have r3 : V.cell? ⟨w.heap.size + 2, 3, none⟩ = some (.slice none 0 0) := by simp [hc, go_sem]
  have r4 : V.cell? ⟨w.heap.size + 2, 4, none⟩ = some (.int .i64 0) := by simp [hc, go_sem]
  have r5 : V.cell? ⟨w.heap.size + 2, 5, none⟩ = some (.bool false) := by simp [hc, go_sem]
  have rf0 : V.frozen? ⟨w.heap.size + 2, 0, none⟩ = false := by simp [hf, go_sem]
  have rf1 : V.frozen? ⟨w.heap.size + 2, 1, none⟩ = false := by simp [hf, go_sem]
  have rf2 : V.frozen? ⟨w.heap.size + 2, 2, none⟩ = false := by simp [hf, go_sem]
  have rf3 : V.frozen? ⟨w.heap.size + 2, 3, none⟩ = false := by simp [hf, go_sem]
  have rf4 : V.frozen? ⟨w.heap.size + 2, 4, none⟩ = false := by simp [hf, go_sem]
  have rf5 : V.frozen? ⟨w.heap.size + 2, 5, none⟩ = false := by simp [hf, go_sem]
  have z0 : w.heap.size + 3 ≤ V.heap.size := by simp [hz]
  clear hc hf hz
  go_wp2_with (first | (go_at_call 10; (with_reducible refine Calls.mono (C0.out _ hbv) ?_); rintro e W ⟨rfl, hv1⟩; have hb := hbv.trans hv1; have zW : w.heap.size + 3 ≤ W.heap.size := (Nat.le_trans z0 hv1.size); replace m0 := (hv1.cells _ _ (by omega)).trans m0; replace m1 := (hv1.cells _ _ (by omega)).trans m1; replace m2 := (hv1.cells _ _ (by omega)).trans m2; replace m3 := (hv1.cells _ _ (by omega)).trans m3; replace m4 := (hv1.cells _ _ (by omega)).trans m4; replace y0 := (hv1.cells _ _ (by omega)).trans y0; replace y1 := (hv1.cells _ _ (by omega)).trans y1; replace y2 := (hv1.cells _ _ (by omega)).trans y2; replace y3 := (hv1.cells _ _ (by omega)).trans y3; replace y4 := (hv1.cells _ _ (by omega)).trans y4; replace r0 := (hv1.cells _ _ (by omega)).trans r0; replace r1 := (hv1.cells _ _ (by omega)).trans r1; replace r2 := (hv1.cells _ _ (by omega)).trans r2; replace r3 := (hv1.cells _ _ (by omega)).trans r3; replace r4 := (hv1.cells _ _ (by omega)).trans r4; replace r5 := (hv1.cells _ _ (by omega)).trans r5; replace rf0 := (hv1.frozens _ _ (by omega)).trans rf0; replace rf1 := (hv1.frozens _ _ (by omega)).trans rf1; replace rf2 := (hv1.frozens _ _ (by omega)).trans rf2; replace rf3 := (hv1.frozens _ _ (by omega)).trans rf3; replace rf4 := (hv1.frozens _ _ (by omega)).trans rf4; replace rf5 := (hv1.frozens _ _ (by omega)).trans rf5) | (go_at_call 12; (with_reducible refine Calls.mono (C1.out _ hb) ?_); rintro e W2 ⟨rfl, hv2⟩; have hb2 := hb.trans hv2; have zW2 : w.heap.size + 3 ≤ W2.heap.size := (Nat.le_trans zW hv2.size); replace m0 := (hv2.cells _ _ (by omega)).trans m0; replace m1 := (hv2.cells _ _ (by omega)).trans m1; replace m2 := (hv2.cells _ _ (by omega)).trans m2; replace m3 := (hv2.cells _ _ (by omega)).trans m3; replace m4 := (hv2.cells _ _ (by omega)).trans m4; replace y0 := (hv2.cells _ _ (by omega)).trans y0; replace y1 := (hv2.cells _ _ (by omega)).trans y1; replace y2 := (hv2.cells _ _ (by omega)).trans y2; replace y3 := (hv2.cells _ _ (by omega)).trans y3; replace y4 := (hv2.cells _ _ (by omega)).trans y4; replace r0 := (hv2.cells _ _ (by omega)).trans r0; replace r1 := (hv2.cells _ _ (by omega)).trans r1; replace r2 := (hv2.cells _ _ (by omega)).trans r2; replace r3 := (hv2.cells _ _ (by omega)).trans r3; replace r4 := (hv2.cells _ _ (by omega)).trans r4; replace r5 := (hv2.cells _ _ (by omega)).trans r5; replace rf0 := (hv2.frozens _ _ (by omega)).trans rf0; replace rf1 := (hv2.frozens _ _ (by omega)).trans rf1; replace rf2 := (hv2.frozens _ _ (by omega)).trans rf2; replace rf3 := (hv2.frozens _ _ (by omega)).trans rf3; replace rf4 := (hv2.frozens _ _ (by omega)).trans rf4; replace rf5 := (hv2.frozens _ _ (by omega)).trans rf5) | (go_at_call 45; (with_reducible refine Calls.mono (C2.out _ _ hb2 rfl) ?_); rintro e X ⟨⟨qk, qs, qa, qw, qb, qn⟩, ⟨A1, c1, A2, c2, rfl, S1, T1, hx1⟩, h1⟩; have HQ := Lib.hid h1; clear h1; simp only at S1 T1; have hbX := hb2.trans hx1; have HS := Lib.hid (And.intro S1 T1); clear S1 T1; replace r0 := (hx1.cells _ _ (by omega)).trans r0; replace r1 := (hx1.cells _ _ (by omega)).trans r1; replace r2 := (hx1.cells _ _ (by omega)).trans r2; replace r3 := (hx1.cells _ _ (by omega)).trans r3; replace r4 := (hx1.cells _ _ (by omega)).trans r4; replace r5 := (hx1.cells _ _ (by omega)).trans r5; replace rf0 := (hx1.frozens _ _ (by omega)).trans rf0; replace rf1 := (hx1.frozens _ _ (by omega)).trans rf1; replace rf2 := (hx1.frozens _ _ (by omega)).trans rf2; replace rf3 := (hx1.frozens _ _ (by omega)).trans rf3; replace rf4 := (hx1.frozens _ _ (by omega)).trans rf4; replace rf5 := (hx1.frozens _ _ (by omega)).trans rf5))
  refine bodyPost_ret (by simp [results, Tryz.results22, go_sem, r0, rf0, r1, rf1, r2, rf2, r3, rf3, r4, rf4, r5, rf5]; try rfl) rfl ⟨⟨qk, qs, qa, qw, qb, qn⟩, A1, c1, A2, c2, rfl, SpP.low (SpP.other (SpP.low HS.out.1 zW2) (by simp) fun k o hk => ?_) (Nat.le_add_right _ _), StP.low (StP.other (StP.low HS.out.2 zW2) (by simp) fun k o hk => ?_) (Nat.le_add_right _ _), ?_, HQ.out⟩
  · have n1 : ¬ w.heap.size + 2 = k := by omega
    simp [go_sem, n1]
  · have n1 : ¬ w.heap.size + 2 = k := by omega
    simp [go_sem, n1]
  · (repeat (first | with_reducible exact Bel.refl _ | with_reducible refine Bel.setCell ?_ (by first | exact Nat.le_refl _ | (dsimp only; omega)) _ | with_reducible refine Bel.alloc ?_ _ | with_reducible refine Bel.drew ?_ | with_reducible assumption | with_reducible refine Bel.trans ?_ (by assumption)))
end
section
open Go.RowKit Go.Lib Go.Deep
attribute [local go_sem ↓] eql_val neq_val
set_option maxRecDepth 100000 in
set_option maxHeartbeats 8000000 in
theorem setsOneZ_any (K sc : Int) (any not : Bool) (l : List Tst) (A : Option Addr) (c : Nat) (v u : Val) (w : World)
    (H1 : ∀ W, Bel w W → Calls Tryz.prog 22 #[tyv K sc any not (.slice A l.length c), v.val] W fun e w' => e = .returned (zeroV 2) ∧ Bel W w')
    (H2 : ∀ W, Bel w W → Calls Tryz.prog 11 #[tyv K sc any not (.slice A l.length c)] W fun e w' => e = .returned (.bool false) ∧ Bel W w') :
    Calls Tryz.prog 5 #[tyv K sc any not (.slice A l.length c), v.val, u.val] w fun e w' => e = .returned (.bool true) ∧ Bel w w' := by
  have C1 := Lib.hid H1
  have C2 := Lib.hid H2
  clear H1 H2
  unfold zeroV zeroS at C1
  obtain ⟨v0, v1, v2, v3, v4⟩ := v
  obtain ⟨u0, u1, u2, u3, u4⟩ := u
  go_enter Tryz.func5, Tryz.ntmps5
  go_upto_region 1 with fail
  refine under_name (w0 := w) (by (repeat (first | with_reducible exact Bel.refl _ | with_reducible refine Bel.setCell ?_ (by first | exact Nat.le_refl _ | (dsimp only; omega)) _ | with_reducible refine Bel.alloc ?_ _ | with_reducible refine Bel.drew ?_ | with_reducible assumption | with_reducible refine Bel.trans ?_ (by assumption)))) fun V hc hf hz hb => ?_
  have m0 : V.cell? ⟨w.heap.size, 0, none⟩ = some (.int .i64 K) := by simp [hc, go_sem]
  have m1 : V.cell? ⟨w.heap.size, 1, none⟩ = some (.int .i64 sc) := by simp [hc, go_sem]
  have m2 : V.cell? ⟨w.heap.size, 2, none⟩ = some (.bool any) := by simp [hc, go_sem]
  have m3 : V.cell? ⟨w.heap.size, 3, none⟩ = some (.bool not) := by simp [hc, go_sem]
  have m4 : V.cell? ⟨w.heap.size, 4, none⟩ = some (.slice A l.length c) := by simp [hc, go_sem]
  have y0 : V.cell? ⟨w.heap.size + 1, 0, none⟩ = some (.int .i64 v0) := by simp [hc, go_sem]
  have y1 : V.cell? ⟨w.heap.size + 1, 1, none⟩ = some (.int .i64 v1) := by simp [hc, go_sem]
  have y2 : V.cell? ⟨w.heap.size + 1, 2, none⟩ = some (.int .i64 v2) := by simp [hc, go_sem]
  have y3 : V.cell? ⟨w.heap.size + 1, 3, none⟩ = some (.string v3) := by simp [hc, go_sem]
  have y4 : V.cell? ⟨w.heap.size + 1, 4, none⟩ = some (.int .i64 v4) := by simp [hc, go_sem]
  have x0 : V.cell? ⟨w.heap.size + 2, 0, none⟩ = some (.int .i64 u0) := by simp [hc, go_sem]
  have x1 : V.cell? ⟨w.heap.size + 2, 1, none⟩ = some (.int .i64 u1) := by simp [hc, go_sem]
  have x2 : V.cell? ⟨w.heap.size + 2, 2, none⟩ = some (.int .i64 u2) := by simp [hc, go_sem]
  have x3 : V.cell? ⟨w.heap.size + 2, 3, none⟩ = some (.string u3) := by simp [hc, go_sem]
  have x4 : V.cell? ⟨w.heap.size + 2, 4, none⟩ = some (.int .i64 u4) := by simp [hc, go_sem]
  have z0 : w.heap.size + 3 ≤ V.heap.size := by simp [hz]
  clear hc hf hz
  go_upto_region 2 with (go_at_call 22; (with_reducible refine Calls.mono (C1.out _ hb) ?_); rintro e X1 ⟨rfl, hx1⟩; have zx1 : w.heap.size + 3 ≤ X1.heap.size := (Nat.le_trans z0 hx1.size); have hbX := hb.trans hx1; replace m0 := (hx1.cells _ _ (by omega)).trans m0; replace m1 := (hx1.cells _ _ (by omega)).trans m1; replace m2 := (hx1.cells _ _ (by omega)).trans m2; replace m3 := (hx1.cells _ _ (by omega)).trans m3; replace m4 := (hx1.cells _ _ (by omega)).trans m4; replace y0 := (hx1.cells _ _ (by omega)).trans y0; replace y1 := (hx1.cells _ _ (by omega)).trans y1; replace y2 := (hx1.cells _ _ (by omega)).trans y2; replace y3 := (hx1.cells _ _ (by omega)).trans y3; replace y4 := (hx1.cells _ _ (by omega)).trans y4; replace x0 := (hx1.cells _ _ (by omega)).trans x0; replace x1 := (hx1.cells _ _ (by omega)).trans x1; replace x2 := (hx1.cells _ _ (by omega)).trans x2; replace x3 := (hx1.cells _ _ (by omega)).trans x3; replace x4 := (hx1.cells _ _ (by omega)).trans x4)
  refine under_name (w0 := X1) (by (repeat (first | with_reducible exact Bel.refl _ | with_reducible refine Bel.setCell ?_ (by first | exact Nat.le_refl _ | (dsimp only; omega)) _ | with_reducible refine Bel.alloc ?_ _ | with_reducible refine Bel.drew ?_ | with_reducible assumption | with_reducible refine Bel.trans ?_ (by assumption)))) fun Y hc hf hz hy => ?_
  have g0 : Y.cell? ⟨X1.heap.size, 0, none⟩ = some (.int .i64 0) := by simp [hc, go_sem, zeroS, St.val]
  have g1 : Y.cell? ⟨X1.heap.size, 1, none⟩ = some (.slice none 0 0) := by simp [hc, go_sem, zeroS, St.val]
  have g2 : Y.cell? ⟨X1.heap.size, 2, none⟩ = some (.bool false) := by simp [hc, go_sem, zeroS, St.val]
  have g3 : Y.cell? ⟨X1.heap.size, 3, none⟩ = some (.slice none 0 0) := by simp [hc, go_sem, zeroS, St.val]
  have g4 : Y.cell? ⟨X1.heap.size, 4, none⟩ = some (.int .i64 0) := by simp [hc, go_sem, zeroS, St.val]
  have g5 : Y.cell? ⟨X1.heap.size, 5, none⟩ = some (.bool false) := by simp [hc, go_sem, zeroS, St.val]
  have zy : X1.heap.size < Y.heap.size := by simp [hz]
  clear hc hf hz
  replace m0 := (hy.cells _ _ (by omega)).trans m0; replace m1 := (hy.cells _ _ (by omega)).trans m1; replace m2 := (hy.cells _ _ (by omega)).trans m2; replace m3 := (hy.cells _ _ (by omega)).trans m3; replace m4 := (hy.cells _ _ (by omega)).trans m4; replace y0 := (hy.cells _ _ (by omega)).trans y0; replace y1 := (hy.cells _ _ (by omega)).trans y1; replace y2 := (hy.cells _ _ (by omega)).trans y2; replace y3 := (hy.cells _ _ (by omega)).trans y3; replace y4 := (hy.cells _ _ (by omega)).trans y4; replace x0 := (hy.cells _ _ (by omega)).trans x0; replace x1 := (hy.cells _ _ (by omega)).trans x1; replace x2 := (hy.cells _ _ (by omega)).trans x2; replace x3 := (hy.cells _ _ (by omega)).trans x3; replace x4 := (hy.cells _ _ (by omega)).trans x4
  have hbY := hbX.trans hy
  clear hx1 hy hb hbX z0 C1
  go_upto_region 3 with (go_at_call 11; (with_reducible refine Calls.mono (C2.out _ hbY) ?_); rintro e X2 ⟨rfl, hx2⟩; have zx2 : X1.heap.size < X2.heap.size := (Nat.lt_of_lt_of_le zy hx2.size); have hb2 := hbY.trans hx2; replace m0 := (hx2.cells _ _ (by omega)).trans m0; replace m1 := (hx2.cells _ _ (by omega)).trans m1; replace m2 := (hx2.cells _ _ (by omega)).trans m2; replace m3 := (hx2.cells _ _ (by omega)).trans m3; replace m4 := (hx2.cells _ _ (by omega)).trans m4; replace y0 := (hx2.cells _ _ (by omega)).trans y0; replace y1 := (hx2.cells _ _ (by omega)).trans y1; replace y2 := (hx2.cells _ _ (by omega)).trans y2; replace y3 := (hx2.cells _ _ (by omega)).trans y3; replace y4 := (hx2.cells _ _ (by omega)).trans y4; replace x0 := (hx2.cells _ _ (by omega)).trans x0; replace x1 := (hx2.cells _ _ (by omega)).trans x1; replace x2 := (hx2.cells _ _ (by omega)).trans x2; replace x3 := (hx2.cells _ _ (by omega)).trans x3; replace x4 := (hx2.cells _ _ (by omega)).trans x4; replace g0 := (hx2.cells _ _ (by omega)).trans g0; replace g1 := (hx2.cells _ _ (by omega)).trans g1; replace g2 := (hx2.cells _ _ (by omega)).trans g2; replace g3 := (hx2.cells _ _ (by omega)).trans g3; replace g4 := (hx2.cells _ _ (by omega)).trans g4; replace g5 := (hx2.cells _ _ (by omega)).trans g5)
  go_wp2_with (first
    | (go_at_call 9; (with_reducible refine Calls.mono (sawake_any _) ?_); rintro e X4 ⟨rfl, hx4⟩; have zx4 : X1.heap.size < X4.heap.size := (Nat.lt_of_lt_of_le zx2 hx4.size); have hb4 := hb2.trans hx4; replace g0 := (hx4.cells _ _ (by omega)).trans g0; replace g1 := (hx4.cells _ _ (by omega)).trans g1; replace g2 := (hx4.cells _ _ (by omega)).trans g2; replace g3 := (hx4.cells _ _ (by omega)).trans g3; replace g4 := (hx4.cells _ _ (by omega)).trans g4; replace g5 := (hx4.cells _ _ (by omega)).trans g5)
    | (go_at_call 16; (refine Calls.mono (rzero_any _) ?_); rintro e X5 ⟨rfl, hx5⟩; have hb5 := hb4.trans hx5))
  go_ret
  exact ⟨rfl, hb5⟩
set_option maxRecDepth 100000 in
set_option maxHeartbeats 8000000 in
theorem setsOneR_any (K sc : Int) (any not : Bool) (l : List Tst) (A : Option Addr) (c : Nat) (v u : Val) (w : World)
    (H1 : ∀ W, Bel w W → Calls Tryz.prog 22 #[tyv K sc any not (.slice A l.length c), v.val] W fun e w' => e = .returned (zeroV 3) ∧ Bel W w')
    (H2 : ∀ W, Bel w W → Calls Tryz.prog 11 #[tyv K sc any not (.slice A l.length c)] W fun e w' => e = .returned (.bool true) ∧ Bel W w')
    (H3 : ∀ W, Bel w W → Calls Tryz.prog 13 #[tyv K sc any not (.slice A l.length c), v.val] W fun e w' => e = .returned (.bool false) ∧ Bel W w') :
    Calls Tryz.prog 5 #[tyv K sc any not (.slice A l.length c), v.val, u.val] w fun e w' => e = .returned (.bool true) ∧ Bel w w' := by
  have C1 := Lib.hid H1
  have C2 := Lib.hid H2
  have C3 := Lib.hid H3
  clear H3
  clear H1 H2
  unfold zeroV zeroS at C1
  obtain ⟨v0, v1, v2, v3, v4⟩ := v
  obtain ⟨u0, u1, u2, u3, u4⟩ := u
  go_enter Tryz.func5, Tryz.ntmps5
  go_upto_region 1 with fail
  refine under_name (w0 := w) (by (repeat (first | with_reducible exact Bel.refl _ | with_reducible refine Bel.setCell ?_ (by first | exact Nat.le_refl _ | (dsimp only; omega)) _ | with_reducible refine Bel.alloc ?_ _ | with_reducible refine Bel.drew ?_ | with_reducible assumption | with_reducible refine Bel.trans ?_ (by assumption)))) fun V hc hf hz hb => ?_
  have m0 : V.cell? ⟨w.heap.size, 0, none⟩ = some (.int .i64 K) := by simp [hc, go_sem]
  have m1 : V.cell? ⟨w.heap.size, 1, none⟩ = some (.int .i64 sc) := by simp [hc, go_sem]
  have m2 : V.cell? ⟨w.heap.size, 2, none⟩ = some (.bool any) := by simp [hc, go_sem]
  have m3 : V.cell? ⟨w.heap.size, 3, none⟩ = some (.bool not) := by simp [hc, go_sem]
  have m4 : V.cell? ⟨w.heap.size, 4, none⟩ = some (.slice A l.length c) := by simp [hc, go_sem]
  have y0 : V.cell? ⟨w.heap.size + 1, 0, none⟩ = some (.int .i64 v0) := by simp [hc, go_sem]
  have y1 : V.cell? ⟨w.heap.size + 1, 1, none⟩ = some (.int .i64 v1) := by simp [hc, go_sem]
  have y2 : V.cell? ⟨w.heap.size + 1, 2, none⟩ = some (.int .i64 v2) := by simp [hc, go_sem]
  have y3 : V.cell? ⟨w.heap.size + 1, 3, none⟩ = some (.string v3) := by simp [hc, go_sem]
  have y4 : V.cell? ⟨w.heap.size + 1, 4, none⟩ = some (.int .i64 v4) := by simp [hc, go_sem]
  have x0 : V.cell? ⟨w.heap.size + 2, 0, none⟩ = some (.int .i64 u0) := by simp [hc, go_sem]
  have x1 : V.cell? ⟨w.heap.size + 2, 1, none⟩ = some (.int .i64 u1) := by simp [hc, go_sem]
  have x2 : V.cell? ⟨w.heap.size + 2, 2, none⟩ = some (.int .i64 u2) := by simp [hc, go_sem]
  have x3 : V.cell? ⟨w.heap.size + 2, 3, none⟩ = some (.string u3) := by simp [hc, go_sem]
  have x4 : V.cell? ⟨w.heap.size + 2, 4, none⟩ = some (.int .i64 u4) := by simp [hc, go_sem]
  have z0 : w.heap.size + 3 ≤ V.heap.size := by simp [hz]
  clear hc hf hz
  go_upto_region 2 with (go_at_call 22; (with_reducible refine Calls.mono (C1.out _ hb) ?_); rintro e X1 ⟨rfl, hx1⟩; have zx1 : w.heap.size + 3 ≤ X1.heap.size := (Nat.le_trans z0 hx1.size); have hbX := hb.trans hx1; replace m0 := (hx1.cells _ _ (by omega)).trans m0; replace m1 := (hx1.cells _ _ (by omega)).trans m1; replace m2 := (hx1.cells _ _ (by omega)).trans m2; replace m3 := (hx1.cells _ _ (by omega)).trans m3; replace m4 := (hx1.cells _ _ (by omega)).trans m4; replace y0 := (hx1.cells _ _ (by omega)).trans y0; replace y1 := (hx1.cells _ _ (by omega)).trans y1; replace y2 := (hx1.cells _ _ (by omega)).trans y2; replace y3 := (hx1.cells _ _ (by omega)).trans y3; replace y4 := (hx1.cells _ _ (by omega)).trans y4; replace x0 := (hx1.cells _ _ (by omega)).trans x0; replace x1 := (hx1.cells _ _ (by omega)).trans x1; replace x2 := (hx1.cells _ _ (by omega)).trans x2; replace x3 := (hx1.cells _ _ (by omega)).trans x3; replace x4 := (hx1.cells _ _ (by omega)).trans x4)
  refine under_name (w0 := X1) (by (repeat (first | with_reducible exact Bel.refl _ | with_reducible refine Bel.setCell ?_ (by first | exact Nat.le_refl _ | (dsimp only; omega)) _ | with_reducible refine Bel.alloc ?_ _ | with_reducible refine Bel.drew ?_ | with_reducible assumption | with_reducible refine Bel.trans ?_ (by assumption)))) fun Y hc hf hz hy => ?_
  have g0 : Y.cell? ⟨X1.heap.size, 0, none⟩ = some (.int .i64 0) := by simp [hc, go_sem, zeroS, St.val]
  have g1 : Y.cell? ⟨X1.heap.size, 1, none⟩ = some (.slice none 0 0) := by simp [hc, go_sem, zeroS, St.val]
  have g2 : Y.cell? ⟨X1.heap.size, 2, none⟩ = some (.bool false) := by simp [hc, go_sem, zeroS, St.val]
  have g3 : Y.cell? ⟨X1.heap.size, 3, none⟩ = some (.slice none 0 0) := by simp [hc, go_sem, zeroS, St.val]
  have g4 : Y.cell? ⟨X1.heap.size, 4, none⟩ = some (.int .i64 0) := by simp [hc, go_sem, zeroS, St.val]
  have g5 : Y.cell? ⟨X1.heap.size, 5, none⟩ = some (.bool false) := by simp [hc, go_sem, zeroS, St.val]
  have zy : X1.heap.size < Y.heap.size := by simp [hz]
  clear hc hf hz
  replace m0 := (hy.cells _ _ (by omega)).trans m0; replace m1 := (hy.cells _ _ (by omega)).trans m1; replace m2 := (hy.cells _ _ (by omega)).trans m2; replace m3 := (hy.cells _ _ (by omega)).trans m3; replace m4 := (hy.cells _ _ (by omega)).trans m4; replace y0 := (hy.cells _ _ (by omega)).trans y0; replace y1 := (hy.cells _ _ (by omega)).trans y1; replace y2 := (hy.cells _ _ (by omega)).trans y2; replace y3 := (hy.cells _ _ (by omega)).trans y3; replace y4 := (hy.cells _ _ (by omega)).trans y4; replace x0 := (hy.cells _ _ (by omega)).trans x0; replace x1 := (hy.cells _ _ (by omega)).trans x1; replace x2 := (hy.cells _ _ (by omega)).trans x2; replace x3 := (hy.cells _ _ (by omega)).trans x3; replace x4 := (hy.cells _ _ (by omega)).trans x4
  have hbY := hbX.trans hy
  clear hx1 hy hb hbX z0 C1
  go_upto_region 5 with (first
    | (go_at_call 11; (with_reducible refine Calls.mono (C2.out _ hbY) ?_); rintro e X2 ⟨rfl, hx2⟩; have zx2 : X1.heap.size < X2.heap.size := (Nat.lt_of_lt_of_le zy hx2.size); have hb2 := hbY.trans hx2; replace m0 := (hx2.cells _ _ (by omega)).trans m0; replace m1 := (hx2.cells _ _ (by omega)).trans m1; replace m2 := (hx2.cells _ _ (by omega)).trans m2; replace m3 := (hx2.cells _ _ (by omega)).trans m3; replace m4 := (hx2.cells _ _ (by omega)).trans m4; replace y0 := (hx2.cells _ _ (by omega)).trans y0; replace y1 := (hx2.cells _ _ (by omega)).trans y1; replace y2 := (hx2.cells _ _ (by omega)).trans y2; replace y3 := (hx2.cells _ _ (by omega)).trans y3; replace y4 := (hx2.cells _ _ (by omega)).trans y4; replace x0 := (hx2.cells _ _ (by omega)).trans x0; replace x1 := (hx2.cells _ _ (by omega)).trans x1; replace x2 := (hx2.cells _ _ (by omega)).trans x2; replace x3 := (hx2.cells _ _ (by omega)).trans x3; replace x4 := (hx2.cells _ _ (by omega)).trans x4; replace g0 := (hx2.cells _ _ (by omega)).trans g0; replace g1 := (hx2.cells _ _ (by omega)).trans g1; replace g2 := (hx2.cells _ _ (by omega)).trans g2; replace g3 := (hx2.cells _ _ (by omega)).trans g3; replace g4 := (hx2.cells _ _ (by omega)).trans g4; replace g5 := (hx2.cells _ _ (by omega)).trans g5)
    | (go_at_call 13; (with_reducible refine Calls.mono (C3.out _ hb2) ?_); rintro e X3 ⟨rfl, hx3⟩; have zx3 : X1.heap.size < X3.heap.size := (Nat.lt_of_lt_of_le zx2 hx3.size); have hb3 := hb2.trans hx3; replace m0 := (hx3.cells _ _ (by omega)).trans m0; replace m1 := (hx3.cells _ _ (by omega)).trans m1; replace m2 := (hx3.cells _ _ (by omega)).trans m2; replace m3 := (hx3.cells _ _ (by omega)).trans m3; replace m4 := (hx3.cells _ _ (by omega)).trans m4; replace y0 := (hx3.cells _ _ (by omega)).trans y0; replace y1 := (hx3.cells _ _ (by omega)).trans y1; replace y2 := (hx3.cells _ _ (by omega)).trans y2; replace y3 := (hx3.cells _ _ (by omega)).trans y3; replace y4 := (hx3.cells _ _ (by omega)).trans y4; replace x0 := (hx3.cells _ _ (by omega)).trans x0; replace x1 := (hx3.cells _ _ (by omega)).trans x1; replace x2 := (hx3.cells _ _ (by omega)).trans x2; replace x3 := (hx3.cells _ _ (by omega)).trans x3; replace x4 := (hx3.cells _ _ (by omega)).trans x4; replace g0 := (hx3.cells _ _ (by omega)).trans g0; replace g1 := (hx3.cells _ _ (by omega)).trans g1; replace g2 := (hx3.cells _ _ (by omega)).trans g2; replace g3 := (hx3.cells _ _ (by omega)).trans g3; replace g4 := (hx3.cells _ _ (by omega)).trans g4; replace g5 := (hx3.cells _ _ (by omega)).trans g5))
  go_wp2_with (first
    | (go_at_call 9; (with_reducible refine Calls.mono (sawake_any _) ?_); rintro e X4 ⟨rfl, hx4⟩; have zx4 : X1.heap.size < X4.heap.size := (Nat.lt_of_lt_of_le zx3 hx4.size); have hb4 := hb3.trans hx4; replace g0 := (hx4.cells _ _ (by omega)).trans g0; replace g1 := (hx4.cells _ _ (by omega)).trans g1; replace g2 := (hx4.cells _ _ (by omega)).trans g2; replace g3 := (hx4.cells _ _ (by omega)).trans g3; replace g4 := (hx4.cells _ _ (by omega)).trans g4; replace g5 := (hx4.cells _ _ (by omega)).trans g5)
    | (go_at_call 16; (refine Calls.mono (rzero_any _) ?_); rintro e X5 ⟨rfl, hx5⟩; have hb5 := hb4.trans hx5))
  go_ret
  exact ⟨rfl, hb5⟩
set_option maxRecDepth 100000 in
set_option maxHeartbeats 8000000 in
theorem setsOneG_any (P : St → Prop) (K sc : Int) (any not : Bool) (l : List Tst) (A : Option Addr) (c : Nat) (v u : Val) (w : World)
    (H1 : ∀ W, Bel w W → Calls Tryz.prog 22 #[tyv K sc any not (.slice A l.length c), v.val] W fun e w' => ∃ q A1 c1 A2 c2, e = .returned (.tuple #[St.val q A1 c1 A2 c2, .int .i64 0]) ∧ SetIn w' A1 c1 A2 c2 q ∧ Bel W w' ∧ P q)
    (H2 : ∀ W, Bel w W → Calls Tryz.prog 11 #[tyv K sc any not (.slice A l.length c)] W fun e w' => e = .returned (.bool true) ∧ Bel W w')
    (H3 : ∀ W, Bel w W → Calls Tryz.prog 13 #[tyv K sc any not (.slice A l.length c), v.val] W fun e w' => e = .returned (.bool true) ∧ Bel W w')
    (H4 : ∀ W q A1 c1 A2 c2, Bel w W → P q → SetIn W A1 c1 A2 c2 q → Calls Tryz.prog 23 #[tyv K sc any not (.slice A l.length c), St.val q A1 c1 A2 c2] W fun e w' => e = .returned (.tuple #[v.val, .int .i64 0]) ∧ Bel W w')
    (H5 : ∀ W q A1 c1 A2 c2, P q → SetIn W A1 c1 A2 c2 q → Calls Tryz.prog 18 #[St.val q A1 c1 A2 c2] W fun e w' => e = .returned (.bool true) ∧ Bel W w')
    (H6 : ∀ W q A1 c1 A2 c2 x, Bel w W → P q → SetIn W A1 c1 A2 c2 q → x = v ∨ x = u → Calls Tryz.prog 20 #[tyv K sc any not (.slice A l.length c), St.val q A1 c1 A2 c2, x.val] W fun e w' => e = .returned (.bool (veq x v)) ∧ Bel W w')
    (H7 : ∀ W q A1 c1 A2 c2, P q → SetIn W A1 c1 A2 c2 q → Calls Tryz.prog 24 #[St.val q A1 c1 A2 c2] W fun e w' => e = .returned (.bool false) ∧ Bel W w') :
    Calls Tryz.prog 5 #[tyv K sc any not (.slice A l.length c), v.val, u.val] w fun e w' => e = .returned (.bool true) ∧ Bel w w' := by
  have C1 := Lib.hid H1
  have C2 := Lib.hid H2
  have C3 := Lib.hid H3
  have C4 := Lib.hid H4
  have C5 := Lib.hid H5
  have C6 := Lib.hid fun W q A1 c1 A2 c2 (hW : Bel w W) h1 h2 => (show Calls Tryz.prog 20 #[tyv K sc any not (.slice A l.length c), St.val q A1 c1 A2 c2, v.val] W fun e w' => e = .returned (.bool true) ∧ Bel W w' from by
    have := H6 W q A1 c1 A2 c2 v hW h1 h2 (.inl rfl)
    rw [(veq_iff v v).2 rfl] at this
    exact this)
  have C7 := Lib.hid fun W q A1 c1 A2 c2 (hW : Bel w W) h1 h2 => H6 W q A1 c1 A2 c2 u hW h1 h2 (.inr rfl)
  have C8 := Lib.hid H7
  have e1 : veq v v = true := (veq_iff v v).2 rfl
  clear H1 H2 H3 H4 H5 H6 H7
  generalize e2 : veq u v = qq at C7
  obtain ⟨v0, v1, v2, v3, v4⟩ := v
  obtain ⟨u0, u1, u2, u3, u4⟩ := u
  go_enter Tryz.func5, Tryz.ntmps5
  go_upto_region 1 with fail
  refine under_name (w0 := w) (by (repeat (first | with_reducible exact Bel.refl _ | with_reducible refine Bel.setCell ?_ (by first | exact Nat.le_refl _ | (dsimp only; omega)) _ | with_reducible refine Bel.alloc ?_ _ | with_reducible refine Bel.drew ?_ | with_reducible assumption | with_reducible refine Bel.trans ?_ (by assumption)))) fun V hc hf hz hb => ?_
  have m0 : V.cell? ⟨w.heap.size, 0, none⟩ = some (.int .i64 K) := by simp [hc, go_sem]
  have m1 : V.cell? ⟨w.heap.size, 1, none⟩ = some (.int .i64 sc) := by simp [hc, go_sem]
  have m2 : V.cell? ⟨w.heap.size, 2, none⟩ = some (.bool any) := by simp [hc, go_sem]
  have m3 : V.cell? ⟨w.heap.size, 3, none⟩ = some (.bool not) := by simp [hc, go_sem]
  have m4 : V.cell? ⟨w.heap.size, 4, none⟩ = some (.slice A l.length c) := by simp [hc, go_sem]
  have y0 : V.cell? ⟨w.heap.size + 1, 0, none⟩ = some (.int .i64 v0) := by simp [hc, go_sem]
  have y1 : V.cell? ⟨w.heap.size + 1, 1, none⟩ = some (.int .i64 v1) := by simp [hc, go_sem]
  have y2 : V.cell? ⟨w.heap.size + 1, 2, none⟩ = some (.int .i64 v2) := by simp [hc, go_sem]
  have y3 : V.cell? ⟨w.heap.size + 1, 3, none⟩ = some (.string v3) := by simp [hc, go_sem]
  have y4 : V.cell? ⟨w.heap.size + 1, 4, none⟩ = some (.int .i64 v4) := by simp [hc, go_sem]
  have x0 : V.cell? ⟨w.heap.size + 2, 0, none⟩ = some (.int .i64 u0) := by simp [hc, go_sem]
  have x1 : V.cell? ⟨w.heap.size + 2, 1, none⟩ = some (.int .i64 u1) := by simp [hc, go_sem]
  have x2 : V.cell? ⟨w.heap.size + 2, 2, none⟩ = some (.int .i64 u2) := by simp [hc, go_sem]
  have x3 : V.cell? ⟨w.heap.size + 2, 3, none⟩ = some (.string u3) := by simp [hc, go_sem]
  have x4 : V.cell? ⟨w.heap.size + 2, 4, none⟩ = some (.int .i64 u4) := by simp [hc, go_sem]
  have z0 : w.heap.size + 3 ≤ V.heap.size := by simp [hz]
  clear hc hf hz
  go_upto_region 2 with (go_at_call 22; (with_reducible refine Calls.mono (C1.out _ hb) ?_); rintro e X1 ⟨⟨gk, gs, ga, gw, gb, gn⟩, A1, c1, A2, c2, rfl, S1, hx1, h1⟩; have HA := Lib.hid h1; clear h1; have zx1 : w.heap.size + 3 ≤ X1.heap.size := (Nat.le_trans z0 hx1.size); have hbX := hb.trans hx1; have S1 := Lib.hid S1; replace m0 := (hx1.cells _ _ (by omega)).trans m0; replace m1 := (hx1.cells _ _ (by omega)).trans m1; replace m2 := (hx1.cells _ _ (by omega)).trans m2; replace m3 := (hx1.cells _ _ (by omega)).trans m3; replace m4 := (hx1.cells _ _ (by omega)).trans m4; replace y0 := (hx1.cells _ _ (by omega)).trans y0; replace y1 := (hx1.cells _ _ (by omega)).trans y1; replace y2 := (hx1.cells _ _ (by omega)).trans y2; replace y3 := (hx1.cells _ _ (by omega)).trans y3; replace y4 := (hx1.cells _ _ (by omega)).trans y4; replace x0 := (hx1.cells _ _ (by omega)).trans x0; replace x1 := (hx1.cells _ _ (by omega)).trans x1; replace x2 := (hx1.cells _ _ (by omega)).trans x2; replace x3 := (hx1.cells _ _ (by omega)).trans x3; replace x4 := (hx1.cells _ _ (by omega)).trans x4)
  refine under_name (w0 := X1) (by (repeat (first | with_reducible exact Bel.refl _ | with_reducible refine Bel.setCell ?_ (by first | exact Nat.le_refl _ | (dsimp only; omega)) _ | with_reducible refine Bel.alloc ?_ _ | with_reducible refine Bel.drew ?_ | with_reducible assumption | with_reducible refine Bel.trans ?_ (by assumption)))) fun Y hc hf hz hy => ?_
  have g0 : Y.cell? ⟨X1.heap.size, 0, none⟩ = some (.int .i64 gk) := by simp [hc, go_sem]
  have g1 : Y.cell? ⟨X1.heap.size, 1, none⟩ = some (.slice A1 gs.length c1) := by simp [hc, go_sem]
  have g2 : Y.cell? ⟨X1.heap.size, 2, none⟩ = some (.bool ga) := by simp [hc, go_sem]
  have g3 : Y.cell? ⟨X1.heap.size, 3, none⟩ = some (.slice A2 gw.length c2) := by simp [hc, go_sem]
  have g4 : Y.cell? ⟨X1.heap.size, 4, none⟩ = some (.int .i64 gb) := by simp [hc, go_sem]
  have g5 : Y.cell? ⟨X1.heap.size, 5, none⟩ = some (.bool gn) := by simp [hc, go_sem]
  have zy : X1.heap.size < Y.heap.size := by simp [hz]
  clear hc hf hz
  replace m0 := (hy.cells _ _ (by omega)).trans m0; replace m1 := (hy.cells _ _ (by omega)).trans m1; replace m2 := (hy.cells _ _ (by omega)).trans m2; replace m3 := (hy.cells _ _ (by omega)).trans m3; replace m4 := (hy.cells _ _ (by omega)).trans m4; replace y0 := (hy.cells _ _ (by omega)).trans y0; replace y1 := (hy.cells _ _ (by omega)).trans y1; replace y2 := (hy.cells _ _ (by omega)).trans y2; replace y3 := (hy.cells _ _ (by omega)).trans y3; replace y4 := (hy.cells _ _ (by omega)).trans y4; replace x0 := (hy.cells _ _ (by omega)).trans x0; replace x1 := (hy.cells _ _ (by omega)).trans x1; replace x2 := (hy.cells _ _ (by omega)).trans x2; replace x3 := (hy.cells _ _ (by omega)).trans x3; replace x4 := (hy.cells _ _ (by omega)).trans x4
  have hbY := hbX.trans hy
  replace S1 := Lib.hid (S1.out.keep hy)
  clear hx1 hy hb hbX z0 C1
  go_upto_region 6 with (first
    | (go_at_call 11; (with_reducible refine Calls.mono (C2.out _ hbY) ?_); rintro e X2 ⟨rfl, hx2⟩; have zx2 : X1.heap.size < X2.heap.size := (Nat.lt_of_lt_of_le zy hx2.size); have hb2 := hbY.trans hx2; have S2 := Lib.hid (S1.out.keep hx2); replace m0 := (hx2.cells _ _ (by omega)).trans m0; replace m1 := (hx2.cells _ _ (by omega)).trans m1; replace m2 := (hx2.cells _ _ (by omega)).trans m2; replace m3 := (hx2.cells _ _ (by omega)).trans m3; replace m4 := (hx2.cells _ _ (by omega)).trans m4; replace y0 := (hx2.cells _ _ (by omega)).trans y0; replace y1 := (hx2.cells _ _ (by omega)).trans y1; replace y2 := (hx2.cells _ _ (by omega)).trans y2; replace y3 := (hx2.cells _ _ (by omega)).trans y3; replace y4 := (hx2.cells _ _ (by omega)).trans y4; replace x0 := (hx2.cells _ _ (by omega)).trans x0; replace x1 := (hx2.cells _ _ (by omega)).trans x1; replace x2 := (hx2.cells _ _ (by omega)).trans x2; replace x3 := (hx2.cells _ _ (by omega)).trans x3; replace x4 := (hx2.cells _ _ (by omega)).trans x4; replace g0 := (hx2.cells _ _ (by omega)).trans g0; replace g1 := (hx2.cells _ _ (by omega)).trans g1; replace g2 := (hx2.cells _ _ (by omega)).trans g2; replace g3 := (hx2.cells _ _ (by omega)).trans g3; replace g4 := (hx2.cells _ _ (by omega)).trans g4; replace g5 := (hx2.cells _ _ (by omega)).trans g5)
    | (go_at_call 13; (with_reducible refine Calls.mono (C3.out _ hb2) ?_); rintro e X3 ⟨rfl, hx3⟩; have zx3 : X1.heap.size < X3.heap.size := (Nat.lt_of_lt_of_le zx2 hx3.size); have hb3 := hb2.trans hx3; have S3 := Lib.hid (S2.out.keep hx3); replace m0 := (hx3.cells _ _ (by omega)).trans m0; replace m1 := (hx3.cells _ _ (by omega)).trans m1; replace m2 := (hx3.cells _ _ (by omega)).trans m2; replace m3 := (hx3.cells _ _ (by omega)).trans m3; replace m4 := (hx3.cells _ _ (by omega)).trans m4; replace y0 := (hx3.cells _ _ (by omega)).trans y0; replace y1 := (hx3.cells _ _ (by omega)).trans y1; replace y2 := (hx3.cells _ _ (by omega)).trans y2; replace y3 := (hx3.cells _ _ (by omega)).trans y3; replace y4 := (hx3.cells _ _ (by omega)).trans y4; replace x0 := (hx3.cells _ _ (by omega)).trans x0; replace x1 := (hx3.cells _ _ (by omega)).trans x1; replace x2 := (hx3.cells _ _ (by omega)).trans x2; replace x3 := (hx3.cells _ _ (by omega)).trans x3; replace x4 := (hx3.cells _ _ (by omega)).trans x4; replace g0 := (hx3.cells _ _ (by omega)).trans g0; replace g1 := (hx3.cells _ _ (by omega)).trans g1; replace g2 := (hx3.cells _ _ (by omega)).trans g2; replace g3 := (hx3.cells _ _ (by omega)).trans g3; replace g4 := (hx3.cells _ _ (by omega)).trans g4; replace g5 := (hx3.cells _ _ (by omega)).trans g5))
  go_upto_region 7 with (go_at_call 23; (with_reducible refine Calls.mono (C4.out _ _ _ _ _ _ hb3 HA.out S3.out) ?_); rintro e X4 ⟨rfl, hx4⟩; have zx4 : X1.heap.size < X4.heap.size := (Nat.lt_of_lt_of_le zx3 hx4.size); have hb4 := hb3.trans hx4; have S4 := Lib.hid (S3.out.keep hx4); replace m0 := (hx4.cells _ _ (by omega)).trans m0; replace m1 := (hx4.cells _ _ (by omega)).trans m1; replace m2 := (hx4.cells _ _ (by omega)).trans m2; replace m3 := (hx4.cells _ _ (by omega)).trans m3; replace m4 := (hx4.cells _ _ (by omega)).trans m4; replace y0 := (hx4.cells _ _ (by omega)).trans y0; replace y1 := (hx4.cells _ _ (by omega)).trans y1; replace y2 := (hx4.cells _ _ (by omega)).trans y2; replace y3 := (hx4.cells _ _ (by omega)).trans y3; replace y4 := (hx4.cells _ _ (by omega)).trans y4; replace x0 := (hx4.cells _ _ (by omega)).trans x0; replace x1 := (hx4.cells _ _ (by omega)).trans x1; replace x2 := (hx4.cells _ _ (by omega)).trans x2; replace x3 := (hx4.cells _ _ (by omega)).trans x3; replace x4 := (hx4.cells _ _ (by omega)).trans x4; replace g0 := (hx4.cells _ _ (by omega)).trans g0; replace g1 := (hx4.cells _ _ (by omega)).trans g1; replace g2 := (hx4.cells _ _ (by omega)).trans g2; replace g3 := (hx4.cells _ _ (by omega)).trans g3; replace g4 := (hx4.cells _ _ (by omega)).trans g4; replace g5 := (hx4.cells _ _ (by omega)).trans g5)
  refine under_name (w0 := X4) (by (repeat (first | with_reducible exact Bel.refl _ | with_reducible refine Bel.setCell ?_ (by first | exact Nat.le_refl _ | (dsimp only; omega)) _ | with_reducible refine Bel.alloc ?_ _ | with_reducible refine Bel.drew ?_ | with_reducible assumption | with_reducible refine Bel.trans ?_ (by assumption)))) fun U hc hf hz hy => ?_
  have p0 : U.cell? ⟨X4.heap.size, 0, none⟩ = some (.int .i64 v0) := by simp [hc, go_sem]
  have p1 : U.cell? ⟨X4.heap.size, 1, none⟩ = some (.int .i64 v1) := by simp [hc, go_sem]
  have p2 : U.cell? ⟨X4.heap.size, 2, none⟩ = some (.int .i64 v2) := by simp [hc, go_sem]
  have p3 : U.cell? ⟨X4.heap.size, 3, none⟩ = some (.string v3) := by simp [hc, go_sem]
  have p4 : U.cell? ⟨X4.heap.size, 4, none⟩ = some (.int .i64 v4) := by simp [hc, go_sem]
  have zu : X4.heap.size < U.heap.size := by simp [hz]
  clear hc hf hz
  replace m0 := (hy.cells _ _ (by omega)).trans m0; replace m1 := (hy.cells _ _ (by omega)).trans m1; replace m2 := (hy.cells _ _ (by omega)).trans m2; replace m3 := (hy.cells _ _ (by omega)).trans m3; replace m4 := (hy.cells _ _ (by omega)).trans m4; replace y0 := (hy.cells _ _ (by omega)).trans y0; replace y1 := (hy.cells _ _ (by omega)).trans y1; replace y2 := (hy.cells _ _ (by omega)).trans y2; replace y3 := (hy.cells _ _ (by omega)).trans y3; replace y4 := (hy.cells _ _ (by omega)).trans y4; replace x0 := (hy.cells _ _ (by omega)).trans x0; replace x1 := (hy.cells _ _ (by omega)).trans x1; replace x2 := (hy.cells _ _ (by omega)).trans x2; replace x3 := (hy.cells _ _ (by omega)).trans x3; replace x4 := (hy.cells _ _ (by omega)).trans x4; replace g0 := (hy.cells _ _ (by omega)).trans g0; replace g1 := (hy.cells _ _ (by omega)).trans g1; replace g2 := (hy.cells _ _ (by omega)).trans g2; replace g3 := (hy.cells _ _ (by omega)).trans g3; replace g4 := (hy.cells _ _ (by omega)).trans g4; replace g5 := (hy.cells _ _ (by omega)).trans g5
  have hbU := hb4.trans hy
  replace S1 := Lib.hid (S4.out.keep hy)
  have t0 : w.heap.size < U.heap.size := by omega
  have t1 : w.heap.size + 1 < U.heap.size := by omega
  have t2 : w.heap.size + 2 < U.heap.size := by omega
  have t2' : w.heap.size + 1 + 1 < U.heap.size := by omega
  have t3 : X1.heap.size < U.heap.size := by omega
  clear hx2 hx3 hx4 hy hb4 hb3 hb2 hbY S2 S3 S4 C2 C3 C4 zx1 zy zx2 zx3 zx4
  cases qq
  all_goals
    refine wp_region_uni (S := (fun w' => Bel U w' ∧ (∀ b o, b < U.heap.size → w'.cell? ⟨b, o, none⟩ = U.cell? ⟨b, o, none⟩))) (by kernel_rfl) (by kernel_rfl) keep0 ?_
    repeat (first | (refine wpUni_skip (by rfl) ?_; (try simp only [Act.put, List.setIfInBounds_toArray, List.set_cons_zero, List.set_cons_succ]))
                                                            | (refine wpUni_value (by rfl) (fun w hS => by (try dsimp only at hS); go_simp; first | done | with_reducible rfl) ?_; (try simp only [Act.put, List.setIfInBounds_toArray, List.set_cons_zero, List.set_cons_succ]))
                                                            | (refine wpUni_call (f := 9) (by rfl) (fun w => by go_simp; first | done | with_reducible rfl) (fun w hS => (sawake_any w).mono fun e w' ⟨he, hb⟩ => ⟨he, keep1 hS hb⟩) ?_; (try simp only [Act.put, List.setIfInBounds_toArray, List.set_cons_zero, List.set_cons_succ]))
                                                            | (refine wpUni_call (f := 24) (by rfl) (fun w => by go_simp; first | done | with_reducible rfl) (fun w hS => (C8.out w _ _ _ _ _ HA.out (S1.out.keep hS.1)).mono fun e w' ⟨he, hb⟩ => ⟨he, keep1 hS hb⟩) ?_; (try simp only [Act.put, List.setIfInBounds_toArray, List.set_cons_zero, List.set_cons_succ]))
                                                            | (refine wpUni_call (f := 18) (by rfl) (fun w => by go_simp; first | done | with_reducible rfl) (fun w hS => (C5.out w _ _ _ _ _ HA.out (S1.out.keep hS.1)).mono fun e w' ⟨he, hb⟩ => ⟨he, keep1 hS hb⟩) ?_; (try simp only [Act.put, List.setIfInBounds_toArray, List.set_cons_zero, List.set_cons_succ]))
                                                            | (refine wpUni_call (f := 20) (by rfl) (fun w => by go_simp; first | done | with_reducible rfl) (fun w hS => (C6.out w _ _ _ _ _ (hbU.trans hS.1) HA.out (S1.out.keep hS.1)).mono fun e w' ⟨he, hb⟩ => ⟨he, keep1 hS hb⟩) ?_; (try simp only [Act.put, List.setIfInBounds_toArray, List.set_cons_zero, List.set_cons_succ]))
                                                            | (refine wpUni_call (f := 20) (by rfl) (fun w => by go_simp; first | done | with_reducible rfl) (fun w hS => (C7.out w _ _ _ _ _ (hbU.trans hS.1) HA.out (S1.out.keep hS.1)).mono fun e w' ⟨he, hb⟩ => ⟨he, keep1 hS hb⟩) ?_; (try simp only [Act.put, List.setIfInBounds_toArray, List.set_cons_zero, List.set_cons_succ])))
    refine wpUni_nil fun U1 hS => ?_
    have hb9 := hbU.trans hS.1
    clear hS
    go_wp2_with fail
    go_ret
    exact ⟨rfl, hb9⟩
end
section
open Go.RowKit Go.Lib Go.Deep
theorem trim_mul (m s : Nat) (h : s = 0 ∨ m % 10 ≠ 0) : ∀ d, trim (m * 10 ^ d) (s + d) = (m, s) := by
  intro d
  induction d with
  | zero =>
    rw [Nat.pow_zero, Nat.mul_one, Nat.add_zero]
    rcases h with h | h
    · subst h; rfl
    · exact trim_stop m s h
  | succ d ih =>
    have e : m * 10 ^ (d + 1) = m * 10 ^ d * 10 := by rw [Nat.pow_succ, Nat.mul_assoc]
    rw [e, ← Nat.add_assoc]
    unfold trim
    rw [if_pos (Nat.mul_mod_left _ _), Nat.mul_div_cancel _ (by omega)]
    exact ih
theorem make_back {v : Val} {sc : Int} (hv : vsnd v = true) (hk : v.kind = 1) (h0 : 0 ≤ sc ∧ sc ≤ 6) (hex : (unP sc v).2 = true) (hr : -999999999999 ≤ (unP sc v).1 ∧ (unP sc v).1 ≤ 999999999999) :
    makeV (unP sc v).1 sc = .tuple #[decA v.n v.scale, .int .i64 0] := by
  have hd := vsnd_dec hv hk
  obtain ⟨k, n, s, t, m⟩ := v
  simp only at hk hd
  subst hk
  have eu : unP sc ⟨1, n, s, t, m⟩ = atP n s sc := rfl
  rw [eu] at hex hr ⊢
  unfold atP at hex hr ⊢
  rw [if_pos h0, if_pos hd] at hex hr ⊢
  by_cases hst : s ≤ sc
  · rw [if_pos hst] at hex hr ⊢
    simp only at hr ⊢
    obtain ⟨a0, a6, _, a10⟩ := hd
    unfold makeV
    rw [if_pos ⟨h0.1, h0.2, hr⟩, decV_ok _ _ _ (by omega)]
    have e1 : (n * (P10 (sc - s).toNat : Int)).natAbs = n.natAbs * 10 ^ (sc - s).toNat := by rw [Int.natAbs_mul]; rfl
    have e2 : sc.toNat = s.toNat + (sc - s).toNat := by omega
    have tm := trim_mul n.natAbs s.toNat (by omega) (sc - s).toNat
    have e3 : trim (n * (P10 (sc - s).toNat : Int)).natAbs sc.toNat = (n.natAbs, s.toNat) := by rw [e1, e2]; exact tm
    rw [e3]
    have hp : (0 : Int) < (P10 (sc - s).toNat : Int) := by have := P10_pos (sc - s).toNat; omega
    have hneg : decide (n * (P10 (sc - s).toNat : Int) < 0) = decide (n < 0) := by
      rw [Bool.eq_iff_iff, decide_eq_true_eq, decide_eq_true_eq]
      constructor
      · intro h
        by_cases hn : n < 0
        · exact hn
        · have := Int.mul_nonneg (show 0 ≤ n by omega) (Int.le_of_lt hp); omega
      · intro h
        exact Int.mul_neg_of_neg_of_pos h hp
    simp only [hneg, decide_eq_true_eq]
    have e4 : (if n < 0 then -(n.natAbs : Int) else (n.natAbs : Int)) = n := by split <;> omega
    have e5 : ((s.toNat : Nat) : Int) = s := by omega
    rw [e4, e5]
  · exfalso
    rw [if_neg hst] at hex
    simp only at hex
    rw [not_whole hd h0.1 (by omega)] at hex
    cases hex
def tvOf (v : Val) : Tst := ⟨1, v, zv, false, false⟩
theorem tvOf_snd {v : Val} (hv : vsnd v = true) : tsnd (tvOf v) = true := by
  unfold tsnd tvOf
  rw [if_pos rfl, Bool.and_eq_true, teq_iff]
  exact ⟨rfl, hv⟩
def PoN (K sc : Int) (v : Val) (b : Nat) (q : St) : Prop := ∃ r, q = ⟨K, r, false, [], 0, decide (v.kind = 0)⟩ ∧ Ord r ∧ (∀ s ∈ r, Rng s) ∧ (∀ n, SMem r n ↔ v.kind ≠ 0 ∧ n = (unP sc v).1) ∧ r.length ≤ b
theorem near_one (n N : Int) : nearOf n [(N, N)] = some N := by
  unfold nearOf
  simp only [List.foldl_cons, List.foldl_nil]
  unfold nstep
  rw [if_neg (by simp)]
  unfold nsel clampS
  simp only
  congr 1
  omega
theorem PoN.form {K sc : Int} {v : Val} {r : List Sp} (ho : Ord r) (hm : ∀ n, SMem r n ↔ v.kind ≠ 0 ∧ n = (unP sc v).1) : (v.kind = 0 → r = []) ∧ (v.kind ≠ 0 → r = [((unP sc v).1, (unP sc v).1)]) := by
  constructor
  · intro h
    exact List.eq_nil_of_length_eq_zero ((ord_none ho).2 fun n hn => ((hm n).1 hn).1 h)
  · intro h
    exact ord_one ho (Int.le_refl _) fun n => by rw [hm n]; constructor <;> intro g <;> first | omega | exact ⟨h, by omega⟩
set_option maxHeartbeats 4000000 in
theorem setsOneN_any (K sc : Int) (any not : Bool) (l : List Tst) (A : Option Addr) (c : Nat) (v u : Val) (w : World) (hK : K = 1 ∨ K = 4) (hs : Tsts w A l) (ht : ∀ t ∈ l, TOk t) (hv : v.text.size ≤ 9223372036854775807) (hu0 : u.text.size ≤ 9223372036854775807) (hi : inT K sc any not l v = true) :
    Calls Tryz.prog 5 #[tyv K sc any not (.slice A l.length c), v.val, u.val] w fun e w' => e = .returned (.bool true) ∧ Bel w w' := by
  have hy : tysnd K sc any not l = true := by
    have h := hi
    unfold inT at h
    simp only [Bool.and_eq_true] at h
    exact h.1.1
  obtain ⟨hkn, _, hu, h0⟩ := tysnd_parts hy
  obtain ⟨hl, hsn⟩ := usnd_all hu
  have hvs := (inT_parts hi).1
  have hsn1 : ∀ t ∈ [tvOf v], tsnd t = true := by simpa using tvOf_snd hvs
  have hvk : v.kind ≠ 0 → v.kind = K ∧ (unP sc v).2 = true := fun h => ⟨(inT_mall hi h).1, (inT_unit hK hi (inT_mall hi h).1).1⟩
  have hr1 : ∀ n, SMem (rngk K sc [tvOf v]) n ↔ v.kind ≠ 0 ∧ n = (unP sc v).1 := fun n => by
    by_cases hk : v.kind = 0
    · have : rngk K sc [tvOf v] = [] := by
        unfold rngk tvOf
        rw [List.filter_cons_of_neg (by simp; omega)]; rfl
      rw [this]
      exact ⟨fun h => absurd h (smem_nil n), fun h => absurd hk h.1⟩
    · obtain ⟨h1, h2⟩ := hvk hk
      have : rngk K sc [tvOf v] = [((unP sc v).1, (unP sc v).1)] := by
        unfold rngk tvOf
        rw [List.filter_cons_of_pos (by simpa using h1)]
        show [spU sc ⟨1, v, zv, false, false⟩] = _
        unfold spU fstU
        simp [h2]
      rw [this, smem_pair]
      exact ⟨fun h => ⟨hk, by omega⟩, fun h => by omega⟩
  have hfull : v.kind ≠ 0 → MemH K sc any not l (unP sc v).1 := fun h => (memH_iff hK h0 hu hi (inT_mall hi h).1).2 (inT_mall hi h).2
  have hhas : ∀ q x, PoN K sc v 1 q → hasT K sc any not l q x = veq x v := fun q x ⟨r, hq, _, _, hm, _⟩ => by
    subst hq
    rw [Bool.eq_iff_iff, veq_iff]
    unfold hasT
    simp only [decide_true, Bool.true_and]
    constructor
    · intro h
      rw [Bool.and_eq_true] at h
      obtain ⟨hx, hh⟩ := h
      unfold hasV at hh
      have hxs := (inT_parts hx).1
      by_cases hk : x.kind = 0
      · rw [if_neg (by omega), if_neg (by omega), if_neg (by omega)] at hh
        have hk2 : v.kind = 0 := by simpa using hh
        have e : ∀ y : Val, vsnd y = true → y.kind = 0 → y = ⟨0, 0, 0, ⟨#[]⟩, 0⟩ := fun y h1 h2 => by
          obtain ⟨k, a, b, t, m⟩ := y
          simp only at h2; subst h2
          rw [vsnd0, veq_iff] at h1; exact h1
        rw [e x hxs hk, e v hvs hk2]
      · obtain ⟨hkK, _⟩ := inT_mall hx hk
        rw [if_pos (by omega), smemB_iff, hm] at hh
        have hl1 := link_num hK h0 hsn1 hxs hkK (inT_unit hK hx hkK).1
        rw [hr1] at hl1
        have := hl1.1 hh
        simp only [List.any_cons, List.any_nil, Bool.or_false] at this
        unfold mone tvOf at this
        simp only at this
        rw [if_neg (by have := (hvk hh.1).1; omega), if_neg (by omega), if_neg (by omega), if_neg (by omega), if_neg (by omega), if_neg (by omega), decide_eq_true_eq, vcmp_zero hxs hvs] at this
        exact this
    · intro h
      subst h
      rw [hi, Bool.true_and]
      unfold hasV
      by_cases hk : x.kind = 0
      · rw [if_neg (by omega), if_neg (by omega), if_neg (by omega)]
        simpa using hk
      · have := (hvk hk).1
        rw [if_pos (by omega), smemB_iff, hm]
        exact ⟨hk, rfl⟩
  refine setsOneG_any (PoN K sc v 1) K sc any not l A c v u w ?_ ?_ ?_ ?_ ?_ ?_ ?_
  · intro W hW
    refine (oneG_any (PoN K sc v 1) K sc any not l A c v W (hs.keep hW) (by omega) ht hv hy hi ?_).mono ?_
    · intro X n hX hn
      refine (someN_any K sc any not A l.length c [tvOf v] (some ⟨n, 0, none⟩) 1 _ hK (tst_one X (tvOf v) hn) (by simp) hsn1).mono ?_
      rintro e w' ⟨r, ⟨A1, c1, A2, c2, h1, h2, h3, h4⟩, h5, h6, h7, h8⟩
      refine ⟨⟨K, r, false, [], 0, decide (v.kind = 0)⟩, ⟨A1, c1, A2, c2, ?_, SpP.low h2 (by simp), StP.low h3 (by simp), ((Bel.refl X).alloc _).trans h4⟩, r, rfl, h5, h6, fun n => by rw [h7, hr1], h8⟩
      rw [h1]
      have : nulk [tvOf v] = decide (v.kind = 0) := by unfold nulk tvOf; simp
      rw [this]
    · rintro e w' ⟨q, A1, c1, A2, c2, h1, h2, h3, h4, h5⟩
      exact ⟨q, A1, c1, A2, c2, h1, setIn_of h2 h3, h4, h5⟩
  · intro W hW
    have := rtsound_any K sc any not l A c W (hs.keep hW) (by omega) ht
    rw [hy] at this
    exact this
  · intro W hW
    have := rtin_any K sc any not l A c v W (hs.keep hW) (by omega) ht hv
    rw [hi] at this
    exact this
  · rintro W q A1 c1 A2 c2 hW ⟨r, rfl, ho, hr, hm, hrl⟩ hin
    refine PickG_any (fun o => ∃ o', o = ⟨K, o', false, [], 0, true⟩ ∧ (∀ s ∈ o', Rng s) ∧ (∀ n, SMem o' n ↔ MemH K sc any not l n) ∧ o'.length ≤ 100) (PoN K sc v 200) K sc any not l A c r false [] 0 (decide (v.kind = 0)) A1 c1 A2 c2 v W (hs.keep hW) (by omega) ht hy hin ?_ ?_ ?_ ?_
    · intro X hX
      refine (fullN_any K sc any not l A c X hK (hs.keep (hW.trans hX)) (by omega) hsn).mono ?_
      rintro e w' ⟨o, h1, _, h3, h4, h5⟩
      exact ⟨_, h1, o, rfl, h3, h4, by omega⟩
    · rintro X o bA bc bA2 bc2 ⟨o', rfl, g1, g2, g3⟩ i1 i2
      have hmem : ∀ t : List Sp, (∀ n, SMem t n ↔ SMem o' n ∧ SMem r n) → ∀ n, SMem t n ↔ v.kind ≠ 0 ∧ n = (unP sc v).1 := fun t h n => by
        rw [h, g2, hm]
        constructor
        · exact fun h => h.2
        · rintro ⟨h1, rfl⟩; exact ⟨hfull h1, h1, rfl⟩
      rcases hK with rfl | rfl
      · refine (meetS1_any o' false [] 0 true r false [] 0 (decide (v.kind = 0)) bA bc bA2 bc2 A1 c1 A2 c2 X i1.1 i2.1 (by omega) (by omega) g1 hr).mono ?_
        rintro e w' ⟨t, h1, h2, h3, h4, h5⟩
        exact ⟨_, h1, t, by rw [Bool.true_and], h2, h3, hmem t h4, by omega⟩
      · refine (meetS4_any o' false [] 0 true r false [] 0 (decide (v.kind = 0)) bA bc bA2 bc2 A1 c1 A2 c2 X i1.1 i2.1 (by omega) (by omega) g1 hr).mono ?_
        rintro e w' ⟨t, h1, h2, h3, h4, h5⟩
        exact ⟨_, h1, t, by rw [Bool.true_and], h2, h3, hmem t h4, by omega⟩
    · rintro X q bA bc bA2 bc2 ⟨t, rfl, g1, g2, g3, g4⟩ i1
      refine (emptyN_any K t (decide (v.kind = 0)) bA bc bA2 bc2 X hK i1.1 (by omega) g2).mono ?_
      rintro e w' ⟨b, h1, h2, h3⟩
      cases b with
      | false => exact ⟨h1, h3⟩
      | true =>
        obtain ⟨j1, j2⟩ := h2.1 rfl
        have hk : v.kind ≠ 0 := by simpa using j1
        exact absurd ((g3 _).2 ⟨hk, rfl⟩) (j2 _)
    · rintro X q bA bc bA2 bc2 hbX ⟨t, rfl, g1, g2, g3, g4⟩ i1
      have hf := PoN.form (K := K) g1 g3
      by_cases hk : v.kind = 0
      · have e := hf.1 hk
        subst e
        have ev : v = ⟨0, 0, 0, ⟨#[]⟩, 0⟩ := by
          obtain ⟨k, a, b, t, m⟩ := v
          simp only at hk; subst hk
          rw [vsnd0, veq_iff] at hvs; exact hvs
        rcases hK with rfl | rfl
        · refine (pick1N_any sc any not A l.length c [] (decide (v.kind = 0)) bA bc bA2 bc2 X i1.1 (by simp) (by simp) rfl).mono fun e w' ⟨h1, h2⟩ => ⟨⟨16, by rw [ev]; exact h1⟩, h2⟩
        · refine (pick4N_any sc any not A l.length c [] (decide (v.kind = 0)) bA bc bA2 bc2 X i1.1 (by simp) (by simp) rfl).mono fun e w' ⟨h1, h2⟩ => ⟨⟨16, by rw [ev]; exact h1⟩, h2⟩
      · obtain ⟨hkK, hex⟩ := hvk hk
        have e := hf.2 hk
        rcases hK with rfl | rfl
        · obtain ⟨_, hz | ⟨_, _, hrg⟩⟩ := inT_parts hi
          · exact absurd hz hk
          have hb := make_back hvs hkK h0 hex (hrg rfl).2
          have ev : v = ⟨1, v.n, v.scale, ⟨#[]⟩, 0⟩ := by
            have h := hvs
            unfold vsnd at h
            rw [if_neg (by omega), if_pos hkK, Bool.and_eq_true, veq_iff] at h
            exact h.1
          refine (pick1S_any sc any not A l.length c t (decide (v.kind = 0)) bA bc bA2 bc2 X i1.1 (by omega) g2 (unP sc v).1 v.n v.scale 0 (by rw [e]; exact near_one _ _) hb).mono fun e w' ⟨h1, h2⟩ => ⟨⟨0, ?_⟩, h2⟩
          rw [h1, ← ev]
        · have hn : (unP sc v).1 = v.num := by unfold unP; rw [if_neg (by omega)]
          have ev : v = ⟨4, 0, 0, ⟨#[]⟩, v.num⟩ := by
            have h := hvs
            unfold vsnd at h
            rw [if_neg (by omega), if_neg (by omega), if_neg (by omega), if_neg (by omega), if_pos hkK, Bool.and_eq_true, veq_iff] at h
            exact h.1
          refine (pick4S_any sc any not A l.length c t (decide (v.kind = 0)) bA bc bA2 bc2 X i1.1 (by omega) g2 v.num (by rw [e, hn]; exact near_one _ _)).mono fun e w' ⟨h1, h2⟩ => ⟨⟨0, ?_⟩, h2⟩
          rw [h1, ← ev]
  · rintro W q A1 c1 A2 c2 ⟨r, rfl, ho, hr, hm, hrl⟩ hin
    exact rtidyN_any K r _ A1 c1 A2 c2 W hin hK (by omega) ho hr
  · rintro W q A1 c1 A2 c2 x hW hP hin hx
    rw [← hhas q x hP]
    obtain ⟨r, rfl, ho, hr, hm, hrl⟩ := hP
    exact rhas_any K sc any not l A c _ A1 c1 A2 c2 x W (hs.keep hW) (by omega) ht (by rcases hx with rfl | rfl; exact hv; exact hu0) hin (by simp only; omega) (by simp) rfl (fun h3 => by omega)
  · rintro W q A1 c1 A2 c2 ⟨r, rfl, ho, hr, hm, hrl⟩ hin
    refine (emptyN_any K r (decide (v.kind = 0)) A1 c1 A2 c2 W hK hin.1 (by omega) hr).mono ?_
    rintro e w' ⟨b, h1, h2, h3⟩
    cases b with
    | false => exact ⟨h1, h3⟩
    | true =>
      obtain ⟨j1, j2⟩ := h2.1 rfl
      have hk : v.kind ≠ 0 := by simpa using j1
      exact absurd ((hm _).2 ⟨hk, rfl⟩) (j2 _)
end
section
open Go.RowKit Go.Lib Go.Deep
attribute [local go_sem ↓] eql_val neq_val
set_option maxRecDepth 100000 in
set_option maxHeartbeats 8000000 in
theorem pickB0_any (sc : Int) (any not : Bool) (A0 : Option Addr) (n0 c0 : Nat) (bb : Int) (nu : Bool) (A1 : Option Addr) (c1 : Nat) (A2 : Option Addr) (c2 : Nat) (w : World) (e0 : (bits BinOp.and IntKind.i64 bb 1 == 0) = false) (yy : Bool) (e1 : (bits BinOp.and IntKind.i64 bb 2 == 0) = yy) :
    Calls Tryz.prog 46 #[tyv 3 sc any not (.slice A0 n0 c0), (⟨3, [], false, [], bb, nu⟩ : St).val A1 c1 A2 c2] w fun e w' => e = .returned (.tuple #[(⟨3, 0, 0, ⟨#[]⟩, 0⟩ : Val).val, .int .i64 0]) ∧ Bel w w' := by
  have C0 := Lib.hid fun W => (bit_any ⟨3, 0, 0, ⟨#[]⟩, 0⟩ (.inl rfl) W)
  have C1 := Lib.hid fun W => (bit_any ⟨3, 0, 0, ⟨#[]⟩, 1⟩ (.inr rfl) W)
  rw [show bitV ⟨3, 0, 0, ⟨#[]⟩, 0⟩ = 1 from rfl] at C0
  rw [show bitV ⟨3, 0, 0, ⟨#[]⟩, 1⟩ = 2 from rfl] at C1
  go_enter Tryz.func46, Tryz.ntmps46
  go_upto_region 1 with fail
  refine under_name (w0 := w) (by (repeat (first | with_reducible exact Bel.refl _ | with_reducible refine Bel.setCell ?_ (by first | exact Nat.le_refl _ | (dsimp only; omega)) _ | with_reducible refine Bel.alloc ?_ _ | with_reducible refine Bel.drew ?_ | with_reducible assumption | with_reducible refine Bel.trans ?_ (by assumption)))) fun W hc hf hz hb => ?_
  have m0 : W.cell? ⟨w.heap.size, 0, none⟩ = some (.int .i64 3) := by simp [hc, go_sem]
  have m1 : W.cell? ⟨w.heap.size, 1, none⟩ = some (.int .i64 sc) := by simp [hc, go_sem]
  have m2 : W.cell? ⟨w.heap.size, 2, none⟩ = some (.bool any) := by simp [hc, go_sem]
  have m3 : W.cell? ⟨w.heap.size, 3, none⟩ = some (.bool not) := by simp [hc, go_sem]
  have m4 : W.cell? ⟨w.heap.size, 4, none⟩ = some (.slice A0 n0 c0) := by simp [hc, go_sem]
  have x0 : W.cell? ⟨w.heap.size + 1, 0, none⟩ = some (.int .i64 3) := by simp [hc, go_sem]
  have x1 : W.cell? ⟨w.heap.size + 1, 1, none⟩ = some (.slice A1 0 c1) := by simp [hc, go_sem]
  have x2 : W.cell? ⟨w.heap.size + 1, 2, none⟩ = some (.bool false) := by simp [hc, go_sem]
  have x3 : W.cell? ⟨w.heap.size + 1, 3, none⟩ = some (.slice A2 0 c2) := by simp [hc, go_sem]
  have x4 : W.cell? ⟨w.heap.size + 1, 4, none⟩ = some (.int .i64 bb) := by simp [hc, go_sem]
  have x5 : W.cell? ⟨w.heap.size + 1, 5, none⟩ = some (.bool nu) := by simp [hc, go_sem]
  have r0 : W.cell? ⟨w.heap.size + 2, 0, none⟩ = some (.int .i64 0) := by simp [hc, go_sem]
  have r1 : W.cell? ⟨w.heap.size + 2, 1, none⟩ = some (.int .i64 0) := by simp [hc, go_sem]
  have r2 : W.cell? ⟨w.heap.size + 2, 2, none⟩ = some (.int .i64 0) := by simp [hc, go_sem]
  have r3 : W.cell? ⟨w.heap.size + 2, 3, none⟩ = some (.string ⟨#[]⟩) := by simp [hc, go_sem]
  have r4 : W.cell? ⟨w.heap.size + 2, 4, none⟩ = some (.int .i64 0) := by simp [hc, go_sem]
  have rf0 : W.frozen? ⟨w.heap.size + 2, 0, none⟩ = false := by simp [hf, go_sem]
  have rf1 : W.frozen? ⟨w.heap.size + 2, 1, none⟩ = false := by simp [hf, go_sem]
  have rf2 : W.frozen? ⟨w.heap.size + 2, 2, none⟩ = false := by simp [hf, go_sem]
  have rf3 : W.frozen? ⟨w.heap.size + 2, 3, none⟩ = false := by simp [hf, go_sem]
  have rf4 : W.frozen? ⟨w.heap.size + 2, 4, none⟩ = false := by simp [hf, go_sem]
  have z0 : w.heap.size + 3 ≤ W.heap.size := by simp [hz]
  clear hc hf hz
  go_wp2_with fail
  go_loopg [67] 2 (fun g i wr => ∃ k : Nat, i = .int .i64 k ∧ k ≤ 0 ∧ Hid (g = 2 - k) ∧ Bel W wr)
  case atStart => exact ⟨0, rfl, Nat.zero_le _, rfl, Bel.refl _⟩
  case round =>
    obtain ⟨k, rfl, hk, hh, hbr⟩ := hrel
    have zr : w.heap.size + 3 ≤ wr.heap.size := Nat.le_trans z0 hbr.size
    replace m0 := (hbr.cells _ _ (by omega)).trans m0; replace m1 := (hbr.cells _ _ (by omega)).trans m1; replace m2 := (hbr.cells _ _ (by omega)).trans m2; replace m3 := (hbr.cells _ _ (by omega)).trans m3; replace m4 := (hbr.cells _ _ (by omega)).trans m4; replace x0 := (hbr.cells _ _ (by omega)).trans x0; replace x1 := (hbr.cells _ _ (by omega)).trans x1; replace x2 := (hbr.cells _ _ (by omega)).trans x2; replace x3 := (hbr.cells _ _ (by omega)).trans x3; replace x4 := (hbr.cells _ _ (by omega)).trans x4; replace x5 := (hbr.cells _ _ (by omega)).trans x5; replace r0 := (hbr.cells _ _ (by omega)).trans r0; replace r1 := (hbr.cells _ _ (by omega)).trans r1; replace r2 := (hbr.cells _ _ (by omega)).trans r2; replace r3 := (hbr.cells _ _ (by omega)).trans r3; replace r4 := (hbr.cells _ _ (by omega)).trans r4; replace rf0 := (hbr.frozens _ _ (by omega)).trans rf0; replace rf1 := (hbr.frozens _ _ (by omega)).trans rf1; replace rf2 := (hbr.frozens _ _ (by omega)).trans rf2; replace rf3 := (hbr.frozens _ _ (by omega)).trans rf3; replace rf4 := (hbr.frozens _ _ (by omega)).trans rf4
    have hbw := hb.trans hbr
    obtain rfl : k = 0 := by omega
    go_upto_region 22 with fail
    refine under_name (w0 := wr) (by (repeat (first | with_reducible exact Bel.refl _ | with_reducible refine Bel.setCell ?_ (by first | exact Nat.le_refl _ | (dsimp only; omega)) _ | with_reducible refine Bel.alloc ?_ _ | with_reducible refine Bel.drew ?_ | with_reducible assumption | with_reducible refine Bel.trans ?_ (by assumption)))) fun U hc hf hz hu => ?_
    have p0 : U.cell? ⟨wr.heap.size, 0, none⟩ = some (.int .i64 3) := by simp [hc, go_sem]
    have p1 : U.cell? ⟨wr.heap.size, 1, none⟩ = some (.int .i64 0) := by simp [hc, go_sem]
    have p2 : U.cell? ⟨wr.heap.size, 2, none⟩ = some (.int .i64 0) := by simp [hc, go_sem]
    have p3 : U.cell? ⟨wr.heap.size, 3, none⟩ = some (.string ⟨#[]⟩) := by simp [hc, go_sem]
    have p4 : U.cell? ⟨wr.heap.size, 4, none⟩ = some (.int .i64 0) := by simp [hc, go_sem]
    have zu : wr.heap.size < U.heap.size := by simp [hz]
    clear hc hf hz
    replace m0 := (hu.cells _ _ (by omega)).trans m0; replace m1 := (hu.cells _ _ (by omega)).trans m1; replace m2 := (hu.cells _ _ (by omega)).trans m2; replace m3 := (hu.cells _ _ (by omega)).trans m3; replace m4 := (hu.cells _ _ (by omega)).trans m4; replace x0 := (hu.cells _ _ (by omega)).trans x0; replace x1 := (hu.cells _ _ (by omega)).trans x1; replace x2 := (hu.cells _ _ (by omega)).trans x2; replace x3 := (hu.cells _ _ (by omega)).trans x3; replace x4 := (hu.cells _ _ (by omega)).trans x4; replace x5 := (hu.cells _ _ (by omega)).trans x5; replace r0 := (hu.cells _ _ (by omega)).trans r0; replace r1 := (hu.cells _ _ (by omega)).trans r1; replace r2 := (hu.cells _ _ (by omega)).trans r2; replace r3 := (hu.cells _ _ (by omega)).trans r3; replace r4 := (hu.cells _ _ (by omega)).trans r4; replace rf0 := (hu.frozens _ _ (by omega)).trans rf0; replace rf1 := (hu.frozens _ _ (by omega)).trans rf1; replace rf2 := (hu.frozens _ _ (by omega)).trans rf2; replace rf3 := (hu.frozens _ _ (by omega)).trans rf3; replace rf4 := (hu.frozens _ _ (by omega)).trans rf4
    have t1 : w.heap.size + 1 < U.heap.size := by omega
    have hbu := hbw.trans hu
    refine wp_region_uni (S := (fun w' => Bel U w' ∧ (∀ b o, b < U.heap.size → w'.cell? ⟨b, o, none⟩ = U.cell? ⟨b, o, none⟩))) (by kernel_rfl) (by kernel_rfl) keep0 ?_
    repeat (first | (refine wpUni_skip (by rfl) ?_; (try simp only [Act.put, List.setIfInBounds_toArray, List.set_cons_zero, List.set_cons_succ]))
                                                            | (refine wpUni_value (by rfl) (fun w hS => by (try dsimp only at hS); go_simp; first | done | with_reducible rfl) ?_; (try simp only [Act.put, List.setIfInBounds_toArray, List.set_cons_zero, List.set_cons_succ]))
                                                            | (refine wpUni_call (f := 53) (by rfl) (fun w => by go_simp; first | done | with_reducible rfl) (fun w hS => (C0.out w).mono fun e w' ⟨he, hb⟩ => ⟨he, keep1 hS hb⟩) ?_; (try simp only [Act.put, List.setIfInBounds_toArray, List.set_cons_zero, List.set_cons_succ])))
    refine wpUni_nil fun U1 hS => ?_
    have hb1 := hbu.trans hS.1
    have zu1 : w.heap.size + 3 ≤ U1.heap.size := Nat.le_trans (Nat.le_trans zr hu.size) hS.1.size
    have hW1 := (hbr.trans hu).trans hS.1
    replace r0 := (hS.1.cells _ _ (by omega)).trans r0; replace r1 := (hS.1.cells _ _ (by omega)).trans r1; replace r2 := (hS.1.cells _ _ (by omega)).trans r2; replace r3 := (hS.1.cells _ _ (by omega)).trans r3; replace r4 := (hS.1.cells _ _ (by omega)).trans r4; replace rf0 := (hS.1.frozens _ _ (by omega)).trans rf0; replace rf1 := (hS.1.frozens _ _ (by omega)).trans rf1; replace rf2 := (hS.1.frozens _ _ (by omega)).trans rf2; replace rf3 := (hS.1.frozens _ _ (by omega)).trans rf3; replace rf4 := (hS.1.frozens _ _ (by omega)).trans rf4
    replace p0 := (hS.1.cells _ _ (by omega)).trans p0; replace p1 := (hS.1.cells _ _ (by omega)).trans p1; replace p2 := (hS.1.cells _ _ (by omega)).trans p2; replace p3 := (hS.1.cells _ _ (by omega)).trans p3; replace p4 := (hS.1.cells _ _ (by omega)).trans p4
    have t2 : w.heap.size + 2 < U1.heap.size := by omega
    clear hS
    go_wp2_with fail
    refine bodyPost_ret (by simp [results, Tryz.results46, go_sem, r0, rf0, r1, rf1, r2, rf2, r3, rf3, r4, rf4]; try rfl) rfl ⟨rfl, ?_⟩
    (repeat (first | with_reducible exact Bel.refl _ | with_reducible refine Bel.setCell ?_ (by first | exact Nat.le_refl _ | (dsimp only; omega)) _ | with_reducible refine Bel.alloc ?_ _ | with_reducible refine Bel.drew ?_ | with_reducible assumption | with_reducible refine Bel.trans ?_ (by assumption)))
set_option maxRecDepth 100000 in
set_option maxHeartbeats 8000000 in
theorem pickB1_any (sc : Int) (any not : Bool) (A0 : Option Addr) (n0 c0 : Nat) (bb : Int) (nu : Bool) (A1 : Option Addr) (c1 : Nat) (A2 : Option Addr) (c2 : Nat) (w : World) (e0 : (bits BinOp.and IntKind.i64 bb 1 == 0) = true) (e1 : (bits BinOp.and IntKind.i64 bb 2 == 0) = false) :
    Calls Tryz.prog 46 #[tyv 3 sc any not (.slice A0 n0 c0), (⟨3, [], false, [], bb, nu⟩ : St).val A1 c1 A2 c2] w fun e w' => e = .returned (.tuple #[(⟨3, 0, 0, ⟨#[]⟩, 1⟩ : Val).val, .int .i64 0]) ∧ Bel w w' := by
  have C0 := Lib.hid fun W => (bit_any ⟨3, 0, 0, ⟨#[]⟩, 0⟩ (.inl rfl) W)
  have C1 := Lib.hid fun W => (bit_any ⟨3, 0, 0, ⟨#[]⟩, 1⟩ (.inr rfl) W)
  rw [show bitV ⟨3, 0, 0, ⟨#[]⟩, 0⟩ = 1 from rfl] at C0
  rw [show bitV ⟨3, 0, 0, ⟨#[]⟩, 1⟩ = 2 from rfl] at C1
  go_enter Tryz.func46, Tryz.ntmps46
  go_upto_region 1 with fail
  refine under_name (w0 := w) (by (repeat (first | with_reducible exact Bel.refl _ | with_reducible refine Bel.setCell ?_ (by first | exact Nat.le_refl _ | (dsimp only; omega)) _ | with_reducible refine Bel.alloc ?_ _ | with_reducible refine Bel.drew ?_ | with_reducible assumption | with_reducible refine Bel.trans ?_ (by assumption)))) fun W hc hf hz hb => ?_
  have m0 : W.cell? ⟨w.heap.size, 0, none⟩ = some (.int .i64 3) := by simp [hc, go_sem]
  have m1 : W.cell? ⟨w.heap.size, 1, none⟩ = some (.int .i64 sc) := by simp [hc, go_sem]
  have m2 : W.cell? ⟨w.heap.size, 2, none⟩ = some (.bool any) := by simp [hc, go_sem]
  have m3 : W.cell? ⟨w.heap.size, 3, none⟩ = some (.bool not) := by simp [hc, go_sem]
  have m4 : W.cell? ⟨w.heap.size, 4, none⟩ = some (.slice A0 n0 c0) := by simp [hc, go_sem]
  have x0 : W.cell? ⟨w.heap.size + 1, 0, none⟩ = some (.int .i64 3) := by simp [hc, go_sem]
  have x1 : W.cell? ⟨w.heap.size + 1, 1, none⟩ = some (.slice A1 0 c1) := by simp [hc, go_sem]
  have x2 : W.cell? ⟨w.heap.size + 1, 2, none⟩ = some (.bool false) := by simp [hc, go_sem]
  have x3 : W.cell? ⟨w.heap.size + 1, 3, none⟩ = some (.slice A2 0 c2) := by simp [hc, go_sem]
  have x4 : W.cell? ⟨w.heap.size + 1, 4, none⟩ = some (.int .i64 bb) := by simp [hc, go_sem]
  have x5 : W.cell? ⟨w.heap.size + 1, 5, none⟩ = some (.bool nu) := by simp [hc, go_sem]
  have r0 : W.cell? ⟨w.heap.size + 2, 0, none⟩ = some (.int .i64 0) := by simp [hc, go_sem]
  have r1 : W.cell? ⟨w.heap.size + 2, 1, none⟩ = some (.int .i64 0) := by simp [hc, go_sem]
  have r2 : W.cell? ⟨w.heap.size + 2, 2, none⟩ = some (.int .i64 0) := by simp [hc, go_sem]
  have r3 : W.cell? ⟨w.heap.size + 2, 3, none⟩ = some (.string ⟨#[]⟩) := by simp [hc, go_sem]
  have r4 : W.cell? ⟨w.heap.size + 2, 4, none⟩ = some (.int .i64 0) := by simp [hc, go_sem]
  have rf0 : W.frozen? ⟨w.heap.size + 2, 0, none⟩ = false := by simp [hf, go_sem]
  have rf1 : W.frozen? ⟨w.heap.size + 2, 1, none⟩ = false := by simp [hf, go_sem]
  have rf2 : W.frozen? ⟨w.heap.size + 2, 2, none⟩ = false := by simp [hf, go_sem]
  have rf3 : W.frozen? ⟨w.heap.size + 2, 3, none⟩ = false := by simp [hf, go_sem]
  have rf4 : W.frozen? ⟨w.heap.size + 2, 4, none⟩ = false := by simp [hf, go_sem]
  have z0 : w.heap.size + 3 ≤ W.heap.size := by simp [hz]
  clear hc hf hz
  go_wp2_with fail
  go_loopg [67] 2 (fun g i wr => ∃ k : Nat, i = .int .i64 k ∧ k ≤ 1 ∧ Hid (g = 2 - k) ∧ Bel W wr)
  case atStart => exact ⟨0, rfl, Nat.zero_le _, rfl, Bel.refl _⟩
  case round =>
    obtain ⟨k, rfl, hk, hh, hbr⟩ := hrel
    have zr : w.heap.size + 3 ≤ wr.heap.size := Nat.le_trans z0 hbr.size
    replace m0 := (hbr.cells _ _ (by omega)).trans m0; replace m1 := (hbr.cells _ _ (by omega)).trans m1; replace m2 := (hbr.cells _ _ (by omega)).trans m2; replace m3 := (hbr.cells _ _ (by omega)).trans m3; replace m4 := (hbr.cells _ _ (by omega)).trans m4; replace x0 := (hbr.cells _ _ (by omega)).trans x0; replace x1 := (hbr.cells _ _ (by omega)).trans x1; replace x2 := (hbr.cells _ _ (by omega)).trans x2; replace x3 := (hbr.cells _ _ (by omega)).trans x3; replace x4 := (hbr.cells _ _ (by omega)).trans x4; replace x5 := (hbr.cells _ _ (by omega)).trans x5; replace r0 := (hbr.cells _ _ (by omega)).trans r0; replace r1 := (hbr.cells _ _ (by omega)).trans r1; replace r2 := (hbr.cells _ _ (by omega)).trans r2; replace r3 := (hbr.cells _ _ (by omega)).trans r3; replace r4 := (hbr.cells _ _ (by omega)).trans r4; replace rf0 := (hbr.frozens _ _ (by omega)).trans rf0; replace rf1 := (hbr.frozens _ _ (by omega)).trans rf1; replace rf2 := (hbr.frozens _ _ (by omega)).trans rf2; replace rf3 := (hbr.frozens _ _ (by omega)).trans rf3; replace rf4 := (hbr.frozens _ _ (by omega)).trans rf4
    have hbw := hb.trans hbr
    rcases (show k = 0 ∨ k = 1 by omega) with rfl | rfl
    · skip
      go_upto_region 22 with fail
      refine under_name (w0 := wr) (by (repeat (first | with_reducible exact Bel.refl _ | with_reducible refine Bel.setCell ?_ (by first | exact Nat.le_refl _ | (dsimp only; omega)) _ | with_reducible refine Bel.alloc ?_ _ | with_reducible refine Bel.drew ?_ | with_reducible assumption | with_reducible refine Bel.trans ?_ (by assumption)))) fun U hc hf hz hu => ?_
      have p0 : U.cell? ⟨wr.heap.size, 0, none⟩ = some (.int .i64 3) := by simp [hc, go_sem]
      have p1 : U.cell? ⟨wr.heap.size, 1, none⟩ = some (.int .i64 0) := by simp [hc, go_sem]
      have p2 : U.cell? ⟨wr.heap.size, 2, none⟩ = some (.int .i64 0) := by simp [hc, go_sem]
      have p3 : U.cell? ⟨wr.heap.size, 3, none⟩ = some (.string ⟨#[]⟩) := by simp [hc, go_sem]
      have p4 : U.cell? ⟨wr.heap.size, 4, none⟩ = some (.int .i64 0) := by simp [hc, go_sem]
      have zu : wr.heap.size < U.heap.size := by simp [hz]
      clear hc hf hz
      replace m0 := (hu.cells _ _ (by omega)).trans m0; replace m1 := (hu.cells _ _ (by omega)).trans m1; replace m2 := (hu.cells _ _ (by omega)).trans m2; replace m3 := (hu.cells _ _ (by omega)).trans m3; replace m4 := (hu.cells _ _ (by omega)).trans m4; replace x0 := (hu.cells _ _ (by omega)).trans x0; replace x1 := (hu.cells _ _ (by omega)).trans x1; replace x2 := (hu.cells _ _ (by omega)).trans x2; replace x3 := (hu.cells _ _ (by omega)).trans x3; replace x4 := (hu.cells _ _ (by omega)).trans x4; replace x5 := (hu.cells _ _ (by omega)).trans x5; replace r0 := (hu.cells _ _ (by omega)).trans r0; replace r1 := (hu.cells _ _ (by omega)).trans r1; replace r2 := (hu.cells _ _ (by omega)).trans r2; replace r3 := (hu.cells _ _ (by omega)).trans r3; replace r4 := (hu.cells _ _ (by omega)).trans r4; replace rf0 := (hu.frozens _ _ (by omega)).trans rf0; replace rf1 := (hu.frozens _ _ (by omega)).trans rf1; replace rf2 := (hu.frozens _ _ (by omega)).trans rf2; replace rf3 := (hu.frozens _ _ (by omega)).trans rf3; replace rf4 := (hu.frozens _ _ (by omega)).trans rf4
      have t1 : w.heap.size + 1 < U.heap.size := by omega
      have hbu := hbw.trans hu
      refine wp_region_uni (S := (fun w' => Bel U w' ∧ (∀ b o, b < U.heap.size → w'.cell? ⟨b, o, none⟩ = U.cell? ⟨b, o, none⟩))) (by kernel_rfl) (by kernel_rfl) keep0 ?_
      repeat (first | (refine wpUni_skip (by rfl) ?_; (try simp only [Act.put, List.setIfInBounds_toArray, List.set_cons_zero, List.set_cons_succ]))
                                                            | (refine wpUni_value (by rfl) (fun w hS => by (try dsimp only at hS); go_simp; first | done | with_reducible rfl) ?_; (try simp only [Act.put, List.setIfInBounds_toArray, List.set_cons_zero, List.set_cons_succ]))
                                                            | (refine wpUni_call (f := 53) (by rfl) (fun w => by go_simp; first | done | with_reducible rfl) (fun w hS => (C0.out w).mono fun e w' ⟨he, hb⟩ => ⟨he, keep1 hS hb⟩) ?_; (try simp only [Act.put, List.setIfInBounds_toArray, List.set_cons_zero, List.set_cons_succ])))
      refine wpUni_nil fun U1 hS => ?_
      have hb1 := hbu.trans hS.1
      have zu1 : w.heap.size + 3 ≤ U1.heap.size := Nat.le_trans (Nat.le_trans zr hu.size) hS.1.size
      have hW1 := (hbr.trans hu).trans hS.1
      clear hS
      go_wp2_with fail
      go_roundg (2 - (0 + 1))
      case measure => have := hh.out; omega
      case rel => exact ⟨0 + 1, by go_num, by omega, rfl, hW1⟩
    · skip
      go_upto_region 22 with fail
      refine under_name (w0 := wr) (by (repeat (first | with_reducible exact Bel.refl _ | with_reducible refine Bel.setCell ?_ (by first | exact Nat.le_refl _ | (dsimp only; omega)) _ | with_reducible refine Bel.alloc ?_ _ | with_reducible refine Bel.drew ?_ | with_reducible assumption | with_reducible refine Bel.trans ?_ (by assumption)))) fun U hc hf hz hu => ?_
      have p0 : U.cell? ⟨wr.heap.size, 0, none⟩ = some (.int .i64 3) := by simp [hc, go_sem]
      have p1 : U.cell? ⟨wr.heap.size, 1, none⟩ = some (.int .i64 0) := by simp [hc, go_sem]
      have p2 : U.cell? ⟨wr.heap.size, 2, none⟩ = some (.int .i64 0) := by simp [hc, go_sem]
      have p3 : U.cell? ⟨wr.heap.size, 3, none⟩ = some (.string ⟨#[]⟩) := by simp [hc, go_sem]
      have p4 : U.cell? ⟨wr.heap.size, 4, none⟩ = some (.int .i64 1) := by simp [hc, go_sem]
      have zu : wr.heap.size < U.heap.size := by simp [hz]
      clear hc hf hz
      replace m0 := (hu.cells _ _ (by omega)).trans m0; replace m1 := (hu.cells _ _ (by omega)).trans m1; replace m2 := (hu.cells _ _ (by omega)).trans m2; replace m3 := (hu.cells _ _ (by omega)).trans m3; replace m4 := (hu.cells _ _ (by omega)).trans m4; replace x0 := (hu.cells _ _ (by omega)).trans x0; replace x1 := (hu.cells _ _ (by omega)).trans x1; replace x2 := (hu.cells _ _ (by omega)).trans x2; replace x3 := (hu.cells _ _ (by omega)).trans x3; replace x4 := (hu.cells _ _ (by omega)).trans x4; replace x5 := (hu.cells _ _ (by omega)).trans x5; replace r0 := (hu.cells _ _ (by omega)).trans r0; replace r1 := (hu.cells _ _ (by omega)).trans r1; replace r2 := (hu.cells _ _ (by omega)).trans r2; replace r3 := (hu.cells _ _ (by omega)).trans r3; replace r4 := (hu.cells _ _ (by omega)).trans r4; replace rf0 := (hu.frozens _ _ (by omega)).trans rf0; replace rf1 := (hu.frozens _ _ (by omega)).trans rf1; replace rf2 := (hu.frozens _ _ (by omega)).trans rf2; replace rf3 := (hu.frozens _ _ (by omega)).trans rf3; replace rf4 := (hu.frozens _ _ (by omega)).trans rf4
      have t1 : w.heap.size + 1 < U.heap.size := by omega
      have hbu := hbw.trans hu
      refine wp_region_uni (S := (fun w' => Bel U w' ∧ (∀ b o, b < U.heap.size → w'.cell? ⟨b, o, none⟩ = U.cell? ⟨b, o, none⟩))) (by kernel_rfl) (by kernel_rfl) keep0 ?_
      repeat (first | (refine wpUni_skip (by rfl) ?_; (try simp only [Act.put, List.setIfInBounds_toArray, List.set_cons_zero, List.set_cons_succ]))
                                                            | (refine wpUni_value (by rfl) (fun w hS => by (try dsimp only at hS); go_simp; first | done | with_reducible rfl) ?_; (try simp only [Act.put, List.setIfInBounds_toArray, List.set_cons_zero, List.set_cons_succ]))
                                                            | (refine wpUni_call (f := 53) (by rfl) (fun w => by go_simp; first | done | with_reducible rfl) (fun w hS => (C1.out w).mono fun e w' ⟨he, hb⟩ => ⟨he, keep1 hS hb⟩) ?_; (try simp only [Act.put, List.setIfInBounds_toArray, List.set_cons_zero, List.set_cons_succ])))
      refine wpUni_nil fun U1 hS => ?_
      have hb1 := hbu.trans hS.1
      have zu1 : w.heap.size + 3 ≤ U1.heap.size := Nat.le_trans (Nat.le_trans zr hu.size) hS.1.size
      have hW1 := (hbr.trans hu).trans hS.1
      replace r0 := (hS.1.cells _ _ (by omega)).trans r0; replace r1 := (hS.1.cells _ _ (by omega)).trans r1; replace r2 := (hS.1.cells _ _ (by omega)).trans r2; replace r3 := (hS.1.cells _ _ (by omega)).trans r3; replace r4 := (hS.1.cells _ _ (by omega)).trans r4; replace rf0 := (hS.1.frozens _ _ (by omega)).trans rf0; replace rf1 := (hS.1.frozens _ _ (by omega)).trans rf1; replace rf2 := (hS.1.frozens _ _ (by omega)).trans rf2; replace rf3 := (hS.1.frozens _ _ (by omega)).trans rf3; replace rf4 := (hS.1.frozens _ _ (by omega)).trans rf4
      replace p0 := (hS.1.cells _ _ (by omega)).trans p0; replace p1 := (hS.1.cells _ _ (by omega)).trans p1; replace p2 := (hS.1.cells _ _ (by omega)).trans p2; replace p3 := (hS.1.cells _ _ (by omega)).trans p3; replace p4 := (hS.1.cells _ _ (by omega)).trans p4
      have t2 : w.heap.size + 2 < U1.heap.size := by omega
      clear hS
      go_wp2_with fail
      refine bodyPost_ret (by simp [results, Tryz.results46, go_sem, r0, rf0, r1, rf1, r2, rf2, r3, rf3, r4, rf4]; try rfl) rfl ⟨rfl, ?_⟩
      (repeat (first | with_reducible exact Bel.refl _ | with_reducible refine Bel.setCell ?_ (by first | exact Nat.le_refl _ | (dsimp only; omega)) _ | with_reducible refine Bel.alloc ?_ _ | with_reducible refine Bel.drew ?_ | with_reducible assumption | with_reducible refine Bel.trans ?_ (by assumption)))
set_option maxRecDepth 100000 in
set_option maxHeartbeats 8000000 in
theorem pickB2_any (sc : Int) (any not : Bool) (A0 : Option Addr) (n0 c0 : Nat) (bb : Int) (nu : Bool) (A1 : Option Addr) (c1 : Nat) (A2 : Option Addr) (c2 : Nat) (w : World) (e0 : (bits BinOp.and IntKind.i64 bb 1 == 0) = true) (e1 : (bits BinOp.and IntKind.i64 bb 2 == 0) = true) :
    Calls Tryz.prog 46 #[tyv 3 sc any not (.slice A0 n0 c0), (⟨3, [], false, [], bb, nu⟩ : St).val A1 c1 A2 c2] w fun e w' => e = .returned (.tuple #[(⟨0, 0, 0, ⟨#[]⟩, 0⟩ : Val).val, .int .i64 16]) ∧ Bel w w' := by
  have C0 := Lib.hid fun W => (bit_any ⟨3, 0, 0, ⟨#[]⟩, 0⟩ (.inl rfl) W)
  have C1 := Lib.hid fun W => (bit_any ⟨3, 0, 0, ⟨#[]⟩, 1⟩ (.inr rfl) W)
  rw [show bitV ⟨3, 0, 0, ⟨#[]⟩, 0⟩ = 1 from rfl] at C0
  rw [show bitV ⟨3, 0, 0, ⟨#[]⟩, 1⟩ = 2 from rfl] at C1
  go_enter Tryz.func46, Tryz.ntmps46
  go_upto_region 1 with fail
  refine under_name (w0 := w) (by (repeat (first | with_reducible exact Bel.refl _ | with_reducible refine Bel.setCell ?_ (by first | exact Nat.le_refl _ | (dsimp only; omega)) _ | with_reducible refine Bel.alloc ?_ _ | with_reducible refine Bel.drew ?_ | with_reducible assumption | with_reducible refine Bel.trans ?_ (by assumption)))) fun W hc hf hz hb => ?_
  have m0 : W.cell? ⟨w.heap.size, 0, none⟩ = some (.int .i64 3) := by simp [hc, go_sem]
  have m1 : W.cell? ⟨w.heap.size, 1, none⟩ = some (.int .i64 sc) := by simp [hc, go_sem]
  have m2 : W.cell? ⟨w.heap.size, 2, none⟩ = some (.bool any) := by simp [hc, go_sem]
  have m3 : W.cell? ⟨w.heap.size, 3, none⟩ = some (.bool not) := by simp [hc, go_sem]
  have m4 : W.cell? ⟨w.heap.size, 4, none⟩ = some (.slice A0 n0 c0) := by simp [hc, go_sem]
  have x0 : W.cell? ⟨w.heap.size + 1, 0, none⟩ = some (.int .i64 3) := by simp [hc, go_sem]
  have x1 : W.cell? ⟨w.heap.size + 1, 1, none⟩ = some (.slice A1 0 c1) := by simp [hc, go_sem]
  have x2 : W.cell? ⟨w.heap.size + 1, 2, none⟩ = some (.bool false) := by simp [hc, go_sem]
  have x3 : W.cell? ⟨w.heap.size + 1, 3, none⟩ = some (.slice A2 0 c2) := by simp [hc, go_sem]
  have x4 : W.cell? ⟨w.heap.size + 1, 4, none⟩ = some (.int .i64 bb) := by simp [hc, go_sem]
  have x5 : W.cell? ⟨w.heap.size + 1, 5, none⟩ = some (.bool nu) := by simp [hc, go_sem]
  have r0 : W.cell? ⟨w.heap.size + 2, 0, none⟩ = some (.int .i64 0) := by simp [hc, go_sem]
  have r1 : W.cell? ⟨w.heap.size + 2, 1, none⟩ = some (.int .i64 0) := by simp [hc, go_sem]
  have r2 : W.cell? ⟨w.heap.size + 2, 2, none⟩ = some (.int .i64 0) := by simp [hc, go_sem]
  have r3 : W.cell? ⟨w.heap.size + 2, 3, none⟩ = some (.string ⟨#[]⟩) := by simp [hc, go_sem]
  have r4 : W.cell? ⟨w.heap.size + 2, 4, none⟩ = some (.int .i64 0) := by simp [hc, go_sem]
  have rf0 : W.frozen? ⟨w.heap.size + 2, 0, none⟩ = false := by simp [hf, go_sem]
  have rf1 : W.frozen? ⟨w.heap.size + 2, 1, none⟩ = false := by simp [hf, go_sem]
  have rf2 : W.frozen? ⟨w.heap.size + 2, 2, none⟩ = false := by simp [hf, go_sem]
  have rf3 : W.frozen? ⟨w.heap.size + 2, 3, none⟩ = false := by simp [hf, go_sem]
  have rf4 : W.frozen? ⟨w.heap.size + 2, 4, none⟩ = false := by simp [hf, go_sem]
  have z0 : w.heap.size + 3 ≤ W.heap.size := by simp [hz]
  clear hc hf hz
  go_wp2_with fail
  go_loopg [67] 2 (fun g i wr => ∃ k : Nat, i = .int .i64 k ∧ k ≤ 2 ∧ Hid (g = 2 - k) ∧ Bel W wr)
  case atStart => exact ⟨0, rfl, Nat.zero_le _, rfl, Bel.refl _⟩
  case round =>
    obtain ⟨k, rfl, hk, hh, hbr⟩ := hrel
    have zr : w.heap.size + 3 ≤ wr.heap.size := Nat.le_trans z0 hbr.size
    replace m0 := (hbr.cells _ _ (by omega)).trans m0; replace m1 := (hbr.cells _ _ (by omega)).trans m1; replace m2 := (hbr.cells _ _ (by omega)).trans m2; replace m3 := (hbr.cells _ _ (by omega)).trans m3; replace m4 := (hbr.cells _ _ (by omega)).trans m4; replace x0 := (hbr.cells _ _ (by omega)).trans x0; replace x1 := (hbr.cells _ _ (by omega)).trans x1; replace x2 := (hbr.cells _ _ (by omega)).trans x2; replace x3 := (hbr.cells _ _ (by omega)).trans x3; replace x4 := (hbr.cells _ _ (by omega)).trans x4; replace x5 := (hbr.cells _ _ (by omega)).trans x5; replace r0 := (hbr.cells _ _ (by omega)).trans r0; replace r1 := (hbr.cells _ _ (by omega)).trans r1; replace r2 := (hbr.cells _ _ (by omega)).trans r2; replace r3 := (hbr.cells _ _ (by omega)).trans r3; replace r4 := (hbr.cells _ _ (by omega)).trans r4; replace rf0 := (hbr.frozens _ _ (by omega)).trans rf0; replace rf1 := (hbr.frozens _ _ (by omega)).trans rf1; replace rf2 := (hbr.frozens _ _ (by omega)).trans rf2; replace rf3 := (hbr.frozens _ _ (by omega)).trans rf3; replace rf4 := (hbr.frozens _ _ (by omega)).trans rf4
    have hbw := hb.trans hbr
    rcases (show k = 0 ∨ k = 1 ∨ k = 2 by omega) with rfl | rfl | rfl
    · skip
      go_upto_region 22 with fail
      refine under_name (w0 := wr) (by (repeat (first | with_reducible exact Bel.refl _ | with_reducible refine Bel.setCell ?_ (by first | exact Nat.le_refl _ | (dsimp only; omega)) _ | with_reducible refine Bel.alloc ?_ _ | with_reducible refine Bel.drew ?_ | with_reducible assumption | with_reducible refine Bel.trans ?_ (by assumption)))) fun U hc hf hz hu => ?_
      have p0 : U.cell? ⟨wr.heap.size, 0, none⟩ = some (.int .i64 3) := by simp [hc, go_sem]
      have p1 : U.cell? ⟨wr.heap.size, 1, none⟩ = some (.int .i64 0) := by simp [hc, go_sem]
      have p2 : U.cell? ⟨wr.heap.size, 2, none⟩ = some (.int .i64 0) := by simp [hc, go_sem]
      have p3 : U.cell? ⟨wr.heap.size, 3, none⟩ = some (.string ⟨#[]⟩) := by simp [hc, go_sem]
      have p4 : U.cell? ⟨wr.heap.size, 4, none⟩ = some (.int .i64 0) := by simp [hc, go_sem]
      have zu : wr.heap.size < U.heap.size := by simp [hz]
      clear hc hf hz
      replace m0 := (hu.cells _ _ (by omega)).trans m0; replace m1 := (hu.cells _ _ (by omega)).trans m1; replace m2 := (hu.cells _ _ (by omega)).trans m2; replace m3 := (hu.cells _ _ (by omega)).trans m3; replace m4 := (hu.cells _ _ (by omega)).trans m4; replace x0 := (hu.cells _ _ (by omega)).trans x0; replace x1 := (hu.cells _ _ (by omega)).trans x1; replace x2 := (hu.cells _ _ (by omega)).trans x2; replace x3 := (hu.cells _ _ (by omega)).trans x3; replace x4 := (hu.cells _ _ (by omega)).trans x4; replace x5 := (hu.cells _ _ (by omega)).trans x5; replace r0 := (hu.cells _ _ (by omega)).trans r0; replace r1 := (hu.cells _ _ (by omega)).trans r1; replace r2 := (hu.cells _ _ (by omega)).trans r2; replace r3 := (hu.cells _ _ (by omega)).trans r3; replace r4 := (hu.cells _ _ (by omega)).trans r4; replace rf0 := (hu.frozens _ _ (by omega)).trans rf0; replace rf1 := (hu.frozens _ _ (by omega)).trans rf1; replace rf2 := (hu.frozens _ _ (by omega)).trans rf2; replace rf3 := (hu.frozens _ _ (by omega)).trans rf3; replace rf4 := (hu.frozens _ _ (by omega)).trans rf4
      have t1 : w.heap.size + 1 < U.heap.size := by omega
      have hbu := hbw.trans hu
      refine wp_region_uni (S := (fun w' => Bel U w' ∧ (∀ b o, b < U.heap.size → w'.cell? ⟨b, o, none⟩ = U.cell? ⟨b, o, none⟩))) (by kernel_rfl) (by kernel_rfl) keep0 ?_
      repeat (first | (refine wpUni_skip (by rfl) ?_; (try simp only [Act.put, List.setIfInBounds_toArray, List.set_cons_zero, List.set_cons_succ]))
                                                            | (refine wpUni_value (by rfl) (fun w hS => by (try dsimp only at hS); go_simp; first | done | with_reducible rfl) ?_; (try simp only [Act.put, List.setIfInBounds_toArray, List.set_cons_zero, List.set_cons_succ]))
                                                            | (refine wpUni_call (f := 53) (by rfl) (fun w => by go_simp; first | done | with_reducible rfl) (fun w hS => (C0.out w).mono fun e w' ⟨he, hb⟩ => ⟨he, keep1 hS hb⟩) ?_; (try simp only [Act.put, List.setIfInBounds_toArray, List.set_cons_zero, List.set_cons_succ])))
      refine wpUni_nil fun U1 hS => ?_
      have hb1 := hbu.trans hS.1
      have zu1 : w.heap.size + 3 ≤ U1.heap.size := Nat.le_trans (Nat.le_trans zr hu.size) hS.1.size
      have hW1 := (hbr.trans hu).trans hS.1
      clear hS
      go_wp2_with fail
      go_roundg (2 - (0 + 1))
      case measure => have := hh.out; omega
      case rel => exact ⟨0 + 1, by go_num, by omega, rfl, hW1⟩
    · skip
      go_upto_region 22 with fail
      refine under_name (w0 := wr) (by (repeat (first | with_reducible exact Bel.refl _ | with_reducible refine Bel.setCell ?_ (by first | exact Nat.le_refl _ | (dsimp only; omega)) _ | with_reducible refine Bel.alloc ?_ _ | with_reducible refine Bel.drew ?_ | with_reducible assumption | with_reducible refine Bel.trans ?_ (by assumption)))) fun U hc hf hz hu => ?_
      have p0 : U.cell? ⟨wr.heap.size, 0, none⟩ = some (.int .i64 3) := by simp [hc, go_sem]
      have p1 : U.cell? ⟨wr.heap.size, 1, none⟩ = some (.int .i64 0) := by simp [hc, go_sem]
      have p2 : U.cell? ⟨wr.heap.size, 2, none⟩ = some (.int .i64 0) := by simp [hc, go_sem]
      have p3 : U.cell? ⟨wr.heap.size, 3, none⟩ = some (.string ⟨#[]⟩) := by simp [hc, go_sem]
      have p4 : U.cell? ⟨wr.heap.size, 4, none⟩ = some (.int .i64 1) := by simp [hc, go_sem]
      have zu : wr.heap.size < U.heap.size := by simp [hz]
      clear hc hf hz
      replace m0 := (hu.cells _ _ (by omega)).trans m0; replace m1 := (hu.cells _ _ (by omega)).trans m1; replace m2 := (hu.cells _ _ (by omega)).trans m2; replace m3 := (hu.cells _ _ (by omega)).trans m3; replace m4 := (hu.cells _ _ (by omega)).trans m4; replace x0 := (hu.cells _ _ (by omega)).trans x0; replace x1 := (hu.cells _ _ (by omega)).trans x1; replace x2 := (hu.cells _ _ (by omega)).trans x2; replace x3 := (hu.cells _ _ (by omega)).trans x3; replace x4 := (hu.cells _ _ (by omega)).trans x4; replace x5 := (hu.cells _ _ (by omega)).trans x5; replace r0 := (hu.cells _ _ (by omega)).trans r0; replace r1 := (hu.cells _ _ (by omega)).trans r1; replace r2 := (hu.cells _ _ (by omega)).trans r2; replace r3 := (hu.cells _ _ (by omega)).trans r3; replace r4 := (hu.cells _ _ (by omega)).trans r4; replace rf0 := (hu.frozens _ _ (by omega)).trans rf0; replace rf1 := (hu.frozens _ _ (by omega)).trans rf1; replace rf2 := (hu.frozens _ _ (by omega)).trans rf2; replace rf3 := (hu.frozens _ _ (by omega)).trans rf3; replace rf4 := (hu.frozens _ _ (by omega)).trans rf4
      have t1 : w.heap.size + 1 < U.heap.size := by omega
      have hbu := hbw.trans hu
      refine wp_region_uni (S := (fun w' => Bel U w' ∧ (∀ b o, b < U.heap.size → w'.cell? ⟨b, o, none⟩ = U.cell? ⟨b, o, none⟩))) (by kernel_rfl) (by kernel_rfl) keep0 ?_
      repeat (first | (refine wpUni_skip (by rfl) ?_; (try simp only [Act.put, List.setIfInBounds_toArray, List.set_cons_zero, List.set_cons_succ]))
                                                            | (refine wpUni_value (by rfl) (fun w hS => by (try dsimp only at hS); go_simp; first | done | with_reducible rfl) ?_; (try simp only [Act.put, List.setIfInBounds_toArray, List.set_cons_zero, List.set_cons_succ]))
                                                            | (refine wpUni_call (f := 53) (by rfl) (fun w => by go_simp; first | done | with_reducible rfl) (fun w hS => (C1.out w).mono fun e w' ⟨he, hb⟩ => ⟨he, keep1 hS hb⟩) ?_; (try simp only [Act.put, List.setIfInBounds_toArray, List.set_cons_zero, List.set_cons_succ])))
      refine wpUni_nil fun U1 hS => ?_
      have hb1 := hbu.trans hS.1
      have zu1 : w.heap.size + 3 ≤ U1.heap.size := Nat.le_trans (Nat.le_trans zr hu.size) hS.1.size
      have hW1 := (hbr.trans hu).trans hS.1
      clear hS
      go_wp2_with fail
      go_roundg (2 - (1 + 1))
      case measure => have := hh.out; omega
      case rel => exact ⟨1 + 1, by go_num, by omega, rfl, hW1⟩
    · skip
      go_wp2_with fail
      refine bodyPost_ret (by simp [results, Tryz.results46, go_sem, r0, rf0, r1, rf1, r2, rf2, r3, rf3, r4, rf4]; try rfl) rfl ⟨rfl, ?_⟩
      (repeat (first | with_reducible exact Bel.refl _ | with_reducible refine Bel.setCell ?_ (by first | exact Nat.le_refl _ | (dsimp only; omega)) _ | with_reducible refine Bel.alloc ?_ _ | with_reducible refine Bel.drew ?_ | with_reducible assumption | with_reducible refine Bel.trans ?_ (by assumption)))
set_option maxRecDepth 100000 in
set_option maxHeartbeats 4000000 in
theorem pickTN_any (sc : Int) (any not : Bool) (A0 : Option Addr) (n0 c0 : Nat) (al : Bool) (ws : List ByteArray) (nu : Bool) (A1 : Option Addr) (c1 : Nat) (A2 : Option Addr) (c2 : Nat) (w : World) (ht : Tab w) (hS : Strs w A2 ws) (hl : ws.length ≤ 1000) (hr : ∀ s ∈ ws, Fits s) (hx : ∀ s x, PickOk al ws s x → s = ⟨#[]⟩ ∧ x = 16) :
    Calls Tryz.prog 46 #[tyv 2 sc any not (.slice A0 n0 c0), (⟨2, [], al, ws, 0, nu⟩ : St).val A1 c1 A2 c2] w fun e w' => e = .returned (.tuple #[(⟨0, 0, 0, ⟨#[]⟩, 0⟩ : Val).val, .int .i64 16]) ∧ Bel w w' := by
  have C1 := Lib.hid fun W (hW : Bel w W) => (pick_any al ws A2 c2 W (ht.keep hW) (hS.keep hW) (by omega) hr).mono (R' := fun e w' => e = .returned (.tuple #[.string ⟨#[]⟩, .int .i64 16]) ∧ Bel W w') fun e w' ⟨s, x, h1, h2, h3⟩ => by
    obtain ⟨rfl, rfl⟩ := hx s x h2
    exact ⟨h1, h3⟩
  clear ht hS hl hr hx
  go_enter Tryz.func46, Tryz.ntmps46
  go_upto_region 1 with fail
  refine under_name (w0 := w) (by (repeat (first | with_reducible exact Bel.refl _ | with_reducible refine Bel.setCell ?_ (by first | exact Nat.le_refl _ | (dsimp only; omega)) _ | with_reducible refine Bel.alloc ?_ _ | with_reducible refine Bel.drew ?_ | with_reducible assumption | with_reducible refine Bel.trans ?_ (by assumption)))) fun W hc hf hz hb => ?_
  have m0 : W.cell? ⟨w.heap.size, 0, none⟩ = some (.int .i64 2) := by simp [hc, go_sem]
  have m1 : W.cell? ⟨w.heap.size, 1, none⟩ = some (.int .i64 sc) := by simp [hc, go_sem]
  have m2 : W.cell? ⟨w.heap.size, 2, none⟩ = some (.bool any) := by simp [hc, go_sem]
  have m3 : W.cell? ⟨w.heap.size, 3, none⟩ = some (.bool not) := by simp [hc, go_sem]
  have m4 : W.cell? ⟨w.heap.size, 4, none⟩ = some (.slice A0 n0 c0) := by simp [hc, go_sem]
  have x0 : W.cell? ⟨w.heap.size + 1, 0, none⟩ = some (.int .i64 2) := by simp [hc, go_sem]
  have x1 : W.cell? ⟨w.heap.size + 1, 1, none⟩ = some (.slice A1 0 c1) := by simp [hc, go_sem]
  have x2 : W.cell? ⟨w.heap.size + 1, 2, none⟩ = some (.bool al) := by simp [hc, go_sem]
  have x3 : W.cell? ⟨w.heap.size + 1, 3, none⟩ = some (.slice A2 ws.length c2) := by simp [hc, go_sem]
  have x4 : W.cell? ⟨w.heap.size + 1, 4, none⟩ = some (.int .i64 0) := by simp [hc, go_sem]
  have x5 : W.cell? ⟨w.heap.size + 1, 5, none⟩ = some (.bool nu) := by simp [hc, go_sem]
  have r0 : W.cell? ⟨w.heap.size + 2, 0, none⟩ = some (.int .i64 0) := by simp [hc, go_sem]
  have r1 : W.cell? ⟨w.heap.size + 2, 1, none⟩ = some (.int .i64 0) := by simp [hc, go_sem]
  have r2 : W.cell? ⟨w.heap.size + 2, 2, none⟩ = some (.int .i64 0) := by simp [hc, go_sem]
  have r3 : W.cell? ⟨w.heap.size + 2, 3, none⟩ = some (.string ⟨#[]⟩) := by simp [hc, go_sem]
  have r4 : W.cell? ⟨w.heap.size + 2, 4, none⟩ = some (.int .i64 0) := by simp [hc, go_sem]
  have rf0 : W.frozen? ⟨w.heap.size + 2, 0, none⟩ = false := by simp [hf, go_sem]
  have rf1 : W.frozen? ⟨w.heap.size + 2, 1, none⟩ = false := by simp [hf, go_sem]
  have rf2 : W.frozen? ⟨w.heap.size + 2, 2, none⟩ = false := by simp [hf, go_sem]
  have rf3 : W.frozen? ⟨w.heap.size + 2, 3, none⟩ = false := by simp [hf, go_sem]
  have rf4 : W.frozen? ⟨w.heap.size + 2, 4, none⟩ = false := by simp [hf, go_sem]
  have z0 : w.heap.size + 3 ≤ W.heap.size := by simp [hz]
  clear hc hf hz
  go_wp2_with (go_at_call 73; (refine Calls.mono (C1.out _ hb) ?_); rintro e X1 ⟨rfl, hx1⟩; have zx1 : w.heap.size + 3 ≤ X1.heap.size := (Nat.le_trans z0 hx1.size); have lt0 : w.heap.size < X1.heap.size := (by omega); have lt1 : w.heap.size + 1 < X1.heap.size := (by omega); have lt2 : w.heap.size + 2 < X1.heap.size := (by omega); have hbX := hb.trans hx1; replace r0 := (hx1.cells _ _ (by omega)).trans r0; replace r1 := (hx1.cells _ _ (by omega)).trans r1; replace r2 := (hx1.cells _ _ (by omega)).trans r2; replace r3 := (hx1.cells _ _ (by omega)).trans r3; replace r4 := (hx1.cells _ _ (by omega)).trans r4; replace rf0 := (hx1.frozens _ _ (by omega)).trans rf0; replace rf1 := (hx1.frozens _ _ (by omega)).trans rf1; replace rf2 := (hx1.frozens _ _ (by omega)).trans rf2; replace rf3 := (hx1.frozens _ _ (by omega)).trans rf3; replace rf4 := (hx1.frozens _ _ (by omega)).trans rf4)
  refine bodyPost_ret (by simp [results, Tryz.results46, go_sem, r0, rf0, r1, rf1, r2, rf2, r3, rf3, r4, rf4]; try rfl) rfl ⟨rfl, ?_⟩
  (repeat (first | with_reducible exact Bel.refl _ | with_reducible refine Bel.setCell ?_ (by first | exact Nat.le_refl _ | (dsimp only; omega)) _ | with_reducible refine Bel.alloc ?_ _ | with_reducible refine Bel.drew ?_ | with_reducible assumption | with_reducible refine Bel.trans ?_ (by assumption)))
theorem txk_tv (v : Val) : txk [tvOf v] = if v.kind = 2 then [v.text] else [] := by
  unfold txk tvOf
  by_cases h : v.kind = 2
  · rw [if_pos h, List.filter_cons_of_pos (by simpa using h)]; rfl
  · rw [if_neg h, List.filter_cons_of_neg (by simpa using h)]; rfl
theorem nulk_tv (v : Val) : nulk [tvOf v] = decide (v.kind = 0) := by unfold nulk tvOf; simp
theorem val0 {y : Val} (h1 : vsnd y = true) (h2 : y.kind = 0) : y = ⟨0, 0, 0, ⟨#[]⟩, 0⟩ := by
  obtain ⟨k, a, b, t, m⟩ := y
  simp only at h2; subst h2
  rw [vsnd0, veq_iff] at h1; exact h1
theorem val2 {y : Val} (h1 : vsnd y = true) (h2 : y.kind = 2) : y = ⟨2, 0, 0, y.text, 0⟩ ∧ okw y.text = true := by
  obtain ⟨k, a, b, t, m⟩ := y
  simp only at h2; subst h2
  rw [vsnd2, Bool.and_eq_true, veq_iff] at h1; exact h1
def PoT (v : Val) (q : St) : Prop := q = ⟨2, [], false, keptl okw (txk [tvOf v]), 0, nulk [tvOf v]⟩
theorem PoT.pt {v : Val} {q : St} (h : PoT v q) : PT false (inl (txk [tvOf v])) (nulk [tvOf v]) 1 q := by
  unfold PoT at h
  subst h
  exact (someT [tvOf v]).eq rfl rfl (fun _ _ => rfl) (by simp)
set_option maxHeartbeats 4000000 in
theorem setsOneT_any (sc : Int) (any not : Bool) (l : List Tst) (A : Option Addr) (c : Nat) (v u : Val) (w : World) (hT : Tab w) (hs : Tsts w A l) (ht : ∀ t ∈ l, TOk t) (hv : v.text.size ≤ 9223372036854775807) (hu0 : u.text.size ≤ 9223372036854775807) (hi : inT 2 sc any not l v = true) :
    Calls Tryz.prog 5 #[tyv 2 sc any not (.slice A l.length c), v.val, u.val] w fun e w' => e = .returned (.bool true) ∧ Bel w w' := by
  have hy : tysnd 2 sc any not l = true := by
    have h := hi
    unfold inT at h
    simp only [Bool.and_eq_true] at h
    exact h.1.1
  obtain ⟨hkn, _, hu, h0⟩ := tysnd_parts hy
  obtain ⟨hl, hsn⟩ := usnd_all hu
  have hvs := (inT_parts hi).1
  have hin1 : ∀ x, inl (txk [tvOf v]) x = true ↔ v.kind = 2 ∧ x = v.text := fun x => by
    rw [inl_iff, txk_tv]
    by_cases h : v.kind = 2
    · rw [if_pos h, List.mem_singleton]; exact ⟨fun e => ⟨h, e⟩, fun e => e.2⟩
    · rw [if_neg h]; exact ⟨fun e => absurd e List.not_mem_nil, fun e => absurd e.1 h⟩
  have hvk : v.kind ≠ 0 → v.kind = 2 := fun h => (inT_mall hi h).1
  have hfull : v.kind ≠ 0 → HT any not l v.text = true := fun h => by rw [(link_text hu hvs (hvk h)).2]; exact (inT_mall hi h).2
  have hhas : ∀ q x, PoT v q → hasT 2 sc any not l q x = veq x v := fun q x hq => by
    rw [has_text (K := 2) hq.pt, Bool.eq_iff_iff, veq_iff, Bool.and_eq_true]
    constructor
    · rintro ⟨hx, hh⟩
      have hxs := (inT_parts hx).1
      by_cases hk : x.kind = 0
      · rw [if_pos hk, nulk_tv] at hh
        rw [val0 hxs hk, val0 hvs (by simpa using hh)]
      · rw [if_neg hk, hin1] at hh
        rw [(val2 hxs (inT_mall hx hk).1).1, (val2 hvs hh.1).1, hh.2]
    · intro h
      subst h
      refine ⟨hi, ?_⟩
      by_cases hk : x.kind = 0
      · rw [if_pos hk, nulk_tv]; simpa using hk
      · rw [if_neg hk, hin1]; exact ⟨hvk hk, rfl⟩
  refine setsOneG_any (PoT v) 2 sc any not l A c v u w ?_ ?_ ?_ ?_ ?_ ?_ ?_
  · intro W hW
    refine (oneG_any (PoT v) 2 sc any not l A c v W (hs.keep hW) (by omega) ht hv hy hi ?_).mono ?_
    · intro X n hX hn
      refine (someT_any sc any not A l.length c [tvOf v] (some ⟨n, 0, none⟩) 1 _ (tst_one X (tvOf v) hn) (by simp) (by
        intro t h
        rw [List.mem_singleton] at h
        subst h
        exact ⟨hv, by show (⟨#[]⟩ : ByteArray).size ≤ 9223372036854775807; decide⟩)).mono ?_
      rintro e w' ⟨A1, c1, A2, c2, h1, h2, h3, h4⟩
      exact ⟨_, ⟨A1, c1, A2, c2, h1, SpP.low h2 (by simp), StP.low h3 (by simp), ((Bel.refl X).alloc _).trans h4⟩, rfl⟩
    · rintro e w' ⟨q, A1, c1, A2, c2, h1, h2, h3, h4, h5⟩
      exact ⟨q, A1, c1, A2, c2, h1, setIn_of h2 h3, h4, h5⟩
  · intro W hW
    have := rtsound_any 2 sc any not l A c W (hs.keep hW) (by omega) ht
    rw [hy] at this
    exact this
  · intro W hW
    have := rtin_any 2 sc any not l A c v W (hs.keep hW) (by omega) ht hv
    rw [hi] at this
    exact this
  · rintro W q A1 c1 A2 c2 hW hq hin
    have hp := hq.pt
    unfold PoT at hq
    subst hq
    refine (PickG_any (fun o => PT (any || not) (HT any not l) true 100 o) (fun q => PT ((any || not) && false) (fun x => HT any not l x && inl (txk [tvOf v]) x) (true && nulk [tvOf v]) 101 q) 2 sc any not l A c [] false _ 0 _ A1 c1 A2 c2 v W (hs.keep hW) (by omega) ht hy hin ?_ ?_ ?_ ?_)
    · intro X hX
      exact fullT_any sc any not l A c X (hs.keep (hW.trans hX)) (by omega) ht
    · rintro X o bA bc bA2 bc2 p1 i1 i2
      exact (meetT_any (by omega) (by omega) p1 hp X bA bc bA2 bc2 A1 c1 A2 c2 i1 i2).mono fun e w' ⟨q, h1, h2⟩ => ⟨q, h1, h2⟩
    · rintro X q bA bc bA2 bc2 ⟨ws, rfl, g1, g2, g3⟩ i1
      refine (emptyT_any [] _ ws 0 _ bA bc bA2 bc2 X i1.2.1 (by omega) (fun x hx => okw_fits (g2 x hx))).mono fun e w' ⟨h1, h2⟩ => ⟨?_, h2⟩
      rw [h1]
      congr 2
      rw [nulk_tv, Bool.true_and, Bool.and_false]
      by_cases hk : v.kind = 0
      · simp [hk]
      · have hok := (val2 hvs (hvk hk)).2
        have h4 := g3 v.text hok
        rw [Bool.and_false] at h4
        simp only at h4
        rw [hfull hk, (hin1 v.text).2 ⟨hvk hk, rfl⟩] at h4
        unfold hasw at h4
        rw [hok] at h4
        have h5 : v.text ∈ ws := by rw [← inl_iff]; simpa using h4
        have h6 : ws.any okw = true := List.any_eq_true.2 ⟨_, h5, hok⟩
        unfold emptyw
        rw [h6]; simp
    · rintro X q bA bc bA2 bc2 hbX ⟨ws, rfl, g1, g2, g3⟩ i1
      have hTX : Tab X := hT.keep (hW.trans hbX)
      have hF : ∀ x ∈ ws, v.kind = 2 ∧ x = v.text := fun x hx => by
        have h4 := g3 x (g2 x hx)
        rw [Bool.and_false] at h4
        unfold hasw at h4
        rw [g2 x hx, (inl_iff ws x).2 hx] at h4
        simp only [Bool.true_and, bne_iff_ne, ne_eq] at h4
        have h5 : (HT any not l x && inl (txk [tvOf v]) x) = true := by rw [← h4]; rfl
        rw [Bool.and_eq_true] at h5
        exact (hin1 x).1 h5.2
      by_cases hk : v.kind = 0
      · have e : ws = [] := List.eq_nil_iff_forall_not_mem.2 fun x hx => by have := (hF x hx).1; omega
        subst e
        refine (pickTN_any sc any not A l.length c _ [] _ bA bc bA2 bc2 X hTX i1.2.1 (by simp) (by simp) ?_).mono fun e w' ⟨h1, h2⟩ => ⟨⟨16, by rw [h1, ← val0 hvs hk]⟩, h2⟩
        intro s x hp
        rcases hp with ⟨_, _, h2, h3⟩ | ⟨_, _, t, h2⟩ | ⟨h2, _⟩
        · exact ⟨h2, h3⟩
        · have : s ∈ keptl okw [] := by rw [h2]; exact List.mem_cons_self ..
          exact absurd ((keptl_mem _ _ _).1 this).1 List.not_mem_nil
        · rw [Bool.and_false] at h2; cases h2
      · have hok := (val2 hvs (hvk hk)).2
        have hmem : v.text ∈ ws := by
          have h4 := g3 v.text hok
          rw [Bool.and_false] at h4
          simp only at h4
          rw [hfull hk, (hin1 v.text).2 ⟨hvk hk, rfl⟩] at h4
          unfold hasw at h4
          rw [hok] at h4
          rw [← inl_iff]; simpa using h4
        refine (pickT_any sc any not A l.length c _ ws _ bA bc bA2 bc2 v.text X hTX i1.2.1 (by omega) (fun x hx => okw_fits (g2 x hx)) ?_).mono fun e w' ⟨h1, h2⟩ => ⟨⟨0, by rw [h1, ← (val2 hvs (hvk hk)).1]⟩, h2⟩
        intro s x hp
        rcases hp with ⟨_, h1, _, _⟩ | ⟨_, h1, t, h2⟩ | ⟨h2, _⟩
        · have : v.text ∈ keptl okw ws := (keptl_mem _ _ _).2 ⟨hmem, hok⟩
          rw [h1] at this
          exact absurd this List.not_mem_nil
        · have : s ∈ keptl okw ws := by rw [h2]; exact List.mem_cons_self ..
          exact ⟨(hF s ((keptl_mem _ _ _).1 this).1).2, h1⟩
        · rw [Bool.and_false] at h2; cases h2
  · rintro W q A1 c1 A2 c2 hq hin
    unfold PoT at hq
    subst hq
    exact rtidyT_any false _ _ A1 c1 A2 c2 W hin (by have := keptl_len okw (txk [tvOf v]); have := txk_len [tvOf v]; simp only [List.length_cons, List.length_nil] at *; omega) ⟨keptl_srt _ _, fun x hx => ((keptl_mem _ _ _).1 hx).2⟩
  · rintro W q A1 c1 A2 c2 x hW hP hin hx
    rw [← hhas q x hP]
    have hlen := keptl_len okw (txk [tvOf v])
    have hlen2 := txk_len [tvOf v]
    unfold PoT at hP
    subst hP
    exact rhas_any 2 sc any not l A c _ A1 c1 A2 c2 x W (hs.keep hW) (by omega) ht (by rcases hx with rfl | rfl; exact hv; exact hu0) hin (by simp) (by simp only [List.length_cons, List.length_nil] at *; omega) rfl (fun h3 => by omega)
  · rintro W q A1 c1 A2 c2 hq hin
    obtain ⟨ws, e, g1, g2, g3⟩ := hq.pt
    subst e
    refine (emptyT_any [] false ws 0 _ A1 c1 A2 c2 W hin.2.1 (by omega) (fun x hx => okw_fits (g2 x hx))).mono fun e w' ⟨h1, h2⟩ => ⟨?_, h2⟩
    rw [h1]
    congr 2
    rw [nulk_tv]
    by_cases hk : v.kind = 0
    · simp [hk]
    · have hok := (val2 hvs (hvk hk)).2
      have h4 := g3 v.text hok
      rw [(hin1 v.text).2 ⟨hvk hk, rfl⟩] at h4
      unfold hasw at h4
      rw [hok] at h4
      have h5 : v.text ∈ ws := by rw [← inl_iff]; simpa using h4
      have h6 : ws.any okw = true := List.any_eq_true.2 ⟨_, h5, hok⟩
      unfold emptyw
      rw [h6]; simp
end
section
open Go.RowKit Go.Lib Go.Deep
theorem b0k_tv (v : Val) : b0k [tvOf v] = (decide (v.kind = 3) && decide (v.num = 0)) := by unfold b0k tvOf; simp
theorem b1k_tv (v : Val) : b1k [tvOf v] = (decide (v.kind = 3) && !decide (v.num = 0)) := by unfold b1k tvOf; simp
theorem bitsOf_bd (x y : Bool) : 0 ≤ bitsOf x y ∧ bitsOf x y ≤ 3 := by cases x <;> cases y <;> decide +kernel
theorem bits_low (x y : Bool) : (bits BinOp.and IntKind.i64 (bitsOf x y) 1 == 0) = !x ∧ (bits BinOp.and IntKind.i64 (bitsOf x y) 2 == 0) = !y ∧ (bits BinOp.and IntKind.i64 (bitsOf x y) 3 == 0) = (!x && !y) := by
  cases x <;> cases y <;> decide +kernel
set_option maxHeartbeats 4000000 in
theorem setsOneB_any (sc : Int) (any not : Bool) (l : List Tst) (A : Option Addr) (c : Nat) (v u : Val) (w : World) (hs : Tsts w A l) (ht : ∀ t ∈ l, TOk t) (hv : v.text.size ≤ 9223372036854775807) (hu0 : u.text.size ≤ 9223372036854775807) (hi : inT 3 sc any not l v = true) :
    Calls Tryz.prog 5 #[tyv 3 sc any not (.slice A l.length c), v.val, u.val] w fun e w' => e = .returned (.bool true) ∧ Bel w w' := by
  have hy : tysnd 3 sc any not l = true := by
    have h := hi
    unfold inT at h
    simp only [Bool.and_eq_true] at h
    exact h.1.1
  obtain ⟨hkn, _, hu, h0⟩ := tysnd_parts hy
  obtain ⟨hl, hsn⟩ := usnd_all hu
  have hvs := (inT_parts hi).1
  have hvk : v.kind ≠ 0 → v.kind = 3 := fun h => (inT_mall hi h).1
  have hfull : v.kind ≠ 0 → (if v.num = 0 then HB0 any not l else HB1 any not l) = true := fun h => by rw [link_bool hu hvs (hvk h)]; exact (inT_mall hi h).2
  have hhas : ∀ q x, PB (b0k [tvOf v]) (b1k [tvOf v]) (nulk [tvOf v]) q → hasT 3 sc any not l q x = veq x v := fun q x hq => by
    rw [has_bool hq, Bool.eq_iff_iff, veq_iff, Bool.and_eq_true]
    constructor
    · rintro ⟨hx, hh⟩
      have hxs := (inT_parts hx).1
      by_cases hk : x.kind = 0
      · rw [if_pos hk, nulk_tv] at hh
        rw [val0 hxs hk, val0 hvs (by simpa using hh)]
      · have hx3 := vsnd_bool hxs (inT_mall hx hk).1
        rw [if_neg hk, b0k_tv, b1k_tv] at hh
        by_cases hn : x.num = 0
        · rw [if_pos hn, Bool.and_eq_true, decide_eq_true_eq, decide_eq_true_eq] at hh
          rw [hx3.1, (vsnd_bool hvs hh.1).1, hn, hh.2]
        · rw [if_neg hn, Bool.and_eq_true, decide_eq_true_eq, Bool.not_eq_true', decide_eq_false_iff_not] at hh
          have hv3 := vsnd_bool hvs hh.1
          have e1 : x.num = 1 := hx3.2.resolve_left hn
          have e2 : v.num = 1 := hv3.2.resolve_left hh.2
          rw [hx3.1, hv3.1, e1, e2]
    · intro h
      subst h
      refine ⟨hi, ?_⟩
      by_cases hk : x.kind = 0
      · rw [if_pos hk, nulk_tv]; simpa using hk
      · have h3 := hvk hk
        rw [if_neg hk, b0k_tv, b1k_tv]
        by_cases hn : x.num = 0
        · rw [if_pos hn]; simp [h3, hn]
        · rw [if_neg hn]; simp [h3, hn]
  refine setsOneG_any (PB (b0k [tvOf v]) (b1k [tvOf v]) (nulk [tvOf v])) 3 sc any not l A c v u w ?_ ?_ ?_ ?_ ?_ ?_ ?_
  · intro W hW
    refine (oneG_any (PB (b0k [tvOf v]) (b1k [tvOf v]) (nulk [tvOf v])) 3 sc any not l A c v W (hs.keep hW) (by omega) ht hv hy hi ?_).mono ?_
    · intro X n hX hn
      refine (someB_any sc any not A l.length c [tvOf v] (some ⟨n, 0, none⟩) 1 _ (tst_one X (tvOf v) hn) (by simp) (by simpa using tvOf_snd hvs)).mono ?_
      rintro e w' ⟨A1, c1, A2, c2, h1, h2, h3, h4⟩
      exact ⟨_, ⟨A1, c1, A2, c2, h1, SpP.low h2 (by simp), StP.low h3 (by simp), ((Bel.refl X).alloc _).trans h4⟩, rfl⟩
    · rintro e w' ⟨q, A1, c1, A2, c2, h1, h2, h3, h4, h5⟩
      exact ⟨q, A1, c1, A2, c2, h1, setIn_of h2 h3, h4, h5⟩
  · intro W hW
    have := rtsound_any 3 sc any not l A c W (hs.keep hW) (by omega) ht
    rw [hy] at this
    exact this
  · intro W hW
    have := rtin_any 3 sc any not l A c v W (hs.keep hW) (by omega) ht hv
    rw [hi] at this
    exact this
  · rintro W q A1 c1 A2 c2 hW hq hin
    have hp := hq
    unfold PB at hq
    subst hq
    have hsame : v.kind ≠ 0 → (HB0 any not l && b0k [tvOf v]) = decide (v.num = 0) ∧ (HB1 any not l && b1k [tvOf v]) = !decide (v.num = 0) := fun hk => by
      have h3 := hvk hk
      have hf := hfull hk
      rw [b0k_tv, b1k_tv]
      by_cases hn : v.num = 0
      · rw [if_pos hn] at hf; simp [h3, hn, hf]
      · rw [if_neg hn] at hf; simp [h3, hn, hf]
    have hnone : v.kind = 0 → (HB0 any not l && b0k [tvOf v]) = false ∧ (HB1 any not l && b1k [tvOf v]) = false := fun hk => by
      rw [b0k_tv, b1k_tv]; simp [hk]
    refine (PickG_any (fun o => PB (HB0 any not l) (HB1 any not l) true o) (fun q => PB (HB0 any not l && b0k [tvOf v]) (HB1 any not l && b1k [tvOf v]) (true && nulk [tvOf v]) q) 3 sc any not l A c [] false [] _ _ A1 c1 A2 c2 v W (hs.keep hW) (by omega) ht hy hin ?_ ?_ ?_ ?_)
    · intro X hX
      exact fullB_any sc any not l A c X (hs.keep (hW.trans hX)) (by omega) hsn
    · rintro X o bA bc bA2 bc2 p1 i1 i2
      exact meetB_any p1 hp X bA bc bA2 bc2 A1 c1 A2 c2
    · rintro X q bA bc bA2 bc2 p1 i1
      unfold PB at p1
      subst p1
      refine (emptyB_any [] false [] _ _ bA bc bA2 bc2 X).mono fun e w' ⟨h1, h2⟩ => ⟨?_, h2⟩
      rw [h1]
      congr 2
      rw [(bits_low _ _).2.2, nulk_tv, Bool.true_and]
      by_cases hk : v.kind = 0
      · simp [hk]
      · rw [(hsame hk).1, (hsame hk).2]; cases decide (v.num = 0) <;> simp
    · rintro X q bA bc bA2 bc2 hbX p1 i1
      unfold PB at p1
      subst p1
      have hbl := bits_low (HB0 any not l && b0k [tvOf v]) (HB1 any not l && b1k [tvOf v])
      by_cases hk : v.kind = 0
      · rw [(hnone hk).1, (hnone hk).2] at hbl ⊢
        exact (pickB2_any sc any not A l.length c _ _ bA bc bA2 bc2 X hbl.1 hbl.2.1).mono fun e w' ⟨h1, h2⟩ => ⟨⟨16, by rw [h1, ← val0 hvs hk]⟩, h2⟩
      · have hv3 := vsnd_bool hvs (hvk hk)
        rw [(hsame hk).1, (hsame hk).2] at hbl ⊢
        by_cases hn : v.num = 0
        · have ev : v = ⟨3, 0, 0, ⟨#[]⟩, 0⟩ := by have h := hv3.1; rw [hn] at h; exact h
          rw [decide_eq_true hn] at hbl ⊢
          exact (pickB0_any sc any not A l.length c _ _ bA bc bA2 bc2 X hbl.1 _ rfl).mono fun e w' ⟨h1, h2⟩ => ⟨⟨0, by rw [h1, ← ev]⟩, h2⟩
        · have e1 : v.num = 1 := hv3.2.resolve_left hn
          have ev : v = ⟨3, 0, 0, ⟨#[]⟩, 1⟩ := by have h := hv3.1; rw [e1] at h; exact h
          rw [decide_eq_false hn] at hbl ⊢
          exact (pickB1_any sc any not A l.length c _ _ bA bc bA2 bc2 X hbl.1 hbl.2.1).mono fun e w' ⟨h1, h2⟩ => ⟨⟨0, by rw [h1, ← ev]⟩, h2⟩
  · rintro W q A1 c1 A2 c2 hq hin
    unfold PB at hq
    subst hq
    exact rtidyB_any _ _ A1 c1 A2 c2 W hin (bitsOf_bd _ _)
  · rintro W q A1 c1 A2 c2 x hW hP hin hx
    rw [← hhas q x hP]
    unfold PB at hP
    subst hP
    exact rhas_any 3 sc any not l A c _ A1 c1 A2 c2 x W (hs.keep hW) (by omega) ht (by rcases hx with rfl | rfl; exact hv; exact hu0) hin (by simp) (by simp) rfl (fun _ => ⟨_, _, rfl⟩)
  · rintro W q A1 c1 A2 c2 hq hin
    unfold PB at hq
    subst hq
    refine (emptyB_any [] false [] _ _ A1 c1 A2 c2 W).mono fun e w' ⟨h1, h2⟩ => ⟨?_, h2⟩
    rw [h1]
    congr 2
    rw [(bits_low _ _).2.2, nulk_tv, b0k_tv, b1k_tv]
    by_cases hk : v.kind = 0
    · simp [hk]
    · have h3 := hvk hk
      by_cases hn : v.num = 0 <;> simp [h3, hn]
theorem law_One (K sc : Int) (any not : Bool) (l : List Tst) (A : Option Addr) (c : Nat) (v u : Val) (w : World) (hT : Tab w) (hs : Tsts w A l) (hl : l.length ≤ 9223372036854775807) (ht : ∀ t ∈ l, TOk t) (hv : v.text.size ≤ 9223372036854775807) (hu0 : u.text.size ≤ 9223372036854775807) :
    Calls Tryz.prog 5 #[tyv K sc any not (.slice A l.length c), v.val, u.val] w fun e w' => e = .returned (.bool true) ∧ Bel w w' := by
  cases hy : tysnd K sc any not l with
  | false =>
    refine setsOneZ_any K sc any not l A c v u w (fun W hW => oneZ_any K sc any not l A c v W (hs.keep hW) hl ht hy) (fun W hW => ?_)
    have := rtsound_any K sc any not l A c W (hs.keep hW) hl ht
    rw [hy] at this
    exact this
  | true =>
    cases hi : inT K sc any not l v with
    | false =>
      refine setsOneR_any K sc any not l A c v u w (fun W hW => oneR_any K sc any not l A c v W (hs.keep hW) hl ht hv hy hi) (fun W hW => ?_) (fun W hW => ?_)
      · have := rtsound_any K sc any not l A c W (hs.keep hW) hl ht
        rw [hy] at this
        exact this
      · have := rtin_any K sc any not l A c v W (hs.keep hW) hl ht hv
        rw [hi] at this
        exact this
    | true =>
      have hk := (tysnd_parts hy).2.1
      by_cases h2 : K = 2
      · subst h2
        exact setsOneT_any sc any not l A c v u w hT hs ht hv hu0 hi
      by_cases h3 : K = 3
      · subst h3
        exact setsOneB_any sc any not l A c v u w hs ht hv hu0 hi
      exact setsOneN_any K sc any not l A c v u w (by omega) hs ht hv hu0 hi
end
end Go.Proofs.YtpmmbcobjibpeaaGreatDoor
