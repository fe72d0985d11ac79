import Derived.Test.YtpmmbcobjibpeaaGreatDoorSm2
import Derived.Test.YtpmmbcobjibpeaaGreatDoorMtf
import Derived.Test.YtpmmbcobjibpeaaGreatDoorMtj
import Derived.Deep.Heap
import Derived.Test.YtpmmbcobjibpeaaGreatDoorOpn
import Derived.Test.YtpmmbcobjibpeaaGreatDoorUni
import Derived.Test.YtpmmbcobjibpeaaGreatDoorOwn
import Derived.Test.YtpmmbcobjibpeaaGreatDoorShg
import Derived.Test.YtpmmbcobjibpeaaGreatDoorWdd
import Derived.Test.YtpmmbcobjibpeaaGreatDoorWdm
namespace Go.Proofs.YtpmmbcobjibpeaaGreatDoor
set_option linter.unusedSimpArgs false
set_option linter.unusedVariables false
section
open Go.RowKit Go.Lib Go.Deep
/-- Does a number belong to what tests hold for? -/
def MemH (K sc : Int) (any not : Bool) (l : List Tst) (n : Int) : Prop := SMem (allS K).sp n ∧ (any = true ∨ any = false ∧ not = false ∧ SMem (rngk K sc l) n ∨ any = false ∧ not = true ∧ ¬ SMem (rngk K sc l) n)
def nulH (any not : Bool) (l : List Tst) : Bool := any || (not != nulk l)
/-- A set of numbers or days made by a call. -/
def NumOut (w : World) (K : Int) (nu : Bool) (P : Int → Prop) (b : Nat) (e : Ending) (w' : World) : Prop := ∃ r, SetOut w ⟨K, r, false, [], 0, nu⟩ e w' ∧ Ord r ∧ (∀ s ∈ r, Rng s) ∧ (∀ n, SMem r n ↔ P n) ∧ r.length ≤ b
theorem all_rng {K : Int} (hK : K = 1 ∨ K = 4) : (∀ s ∈ (allS K).sp, Rng s) ∧ (allS K).sp.length = 1 ∧ Ord (allS K).sp := by
  rcases hK with rfl | rfl <;> refine ⟨by simp [allS, Rng], rfl, by simp [allS, Ord]⟩
theorem ord_none {r : List Sp} (h : Ord r) : r.length = 0 ↔ ∀ n, ¬ SMem r n := by
  constructor
  · intro h0 n ⟨s, hs, _⟩
    rw [List.eq_nil_of_length_eq_zero h0] at hs
    cases hs
  · intro h0
    cases r with
    | nil => rfl
    | cons s t => exact absurd ⟨s, List.mem_cons_self .., Int.le_refl _, h.2 s (List.mem_cons_self ..)⟩ (h0 s.1)
set_option maxRecDepth 100000 in
set_option maxHeartbeats 4000000 in
theorem emptyN_any (K : Int) (p : List Sp) (nu : Bool) (A1 : Option Addr) (c1 : Nat) (A2 : Option Addr) (c2 : Nat) (w : World) (hK : K = 1 ∨ K = 4) (hS : SlS w (.slice A1 p.length c1) p) (hl : p.length ≤ 1000) (hr : ∀ s ∈ p, Rng s) :
    Calls Tryz.prog 24 #[(⟨K, p, false, [], 0, nu⟩ : St).val A1 c1 A2 c2] w fun e w' => ∃ b, e = .returned (.bool b) ∧ (b = true ↔ nu = false ∧ ∀ n, ¬ SMem p n) ∧ Bel w w' := by
  have C1 := Lib.hid fun W => known_any K W
  have hk : knd K = true := by rcases hK with rfl | rfl <;> rfl
  rw [hk] at C1
  have C2 := Lib.hid fun W (hW : Bel w W) => join_any (.slice A1 p.length c1) p W (hS.keep hW) hl hr
  have k14 : ((K == 1) || (K == 4)) = true := by rcases hK with rfl | rfl <;> rfl
  clear hS hl hr
  cases nu with
  | true =>
    go_enter Tryz.func24, Tryz.ntmps24
    go_wp2_with (go_at_call 29; (with_reducible refine Calls.mono (C1.out _) ?_); rintro e W1 ⟨rfl, hb1⟩; have hbX := ((Bel.refl w).alloc _).trans hb1)
    go_ret
    exact ⟨false, rfl, by simp, hbX⟩
  | false =>
    rcases hK with rfl | rfl
    all_goals
      go_enter Tryz.func24, Tryz.ntmps24
      go_wp2_with (go_at_call 47; refine (C2.out _ ((Bel.refl w).alloc _)).mono ?_; rintro e W1 ⟨v, r, rfl, h1, h2, h3, ⟨h4, h5⟩, hb1⟩; obtain ⟨A', c', rfl⟩ := h1.sl.form; have HX := Lib.hid (And.intro h2 h4); have hbX := ((Bel.refl w).alloc _).trans hb1; clear h1 h2 h3 h4 h5 hb1)
      go_ret
      refine ⟨_, rfl, ?_, hbX⟩
      have h := ord_none HX.out.1
      simp only [beq_iff_eq]
      rw [show ((r.length : Int) = 0) = (r.length = 0) from propext (by omega), h]
      exact ⟨fun h' => ⟨by first | rfl | trivial, fun n hn => h' n ((HX.out.2 n).2 hn)⟩, fun h' n hn => h'.2 n ((HX.out.2 n).1 hn)⟩
end
section
open Go.RowKit Go.Lib Go.Deep
attribute [local go_sem ↓] eql_val neq_val
set_option maxRecDepth 100000 in
set_option maxHeartbeats 4000000 in
theorem pick1S_any (sc : Int) (any not : Bool) (A0 : Option Addr) (n0 c0 : Nat) (p : List Sp) (nu : Bool) (A1 : Option Addr) (c1 : Nat) (A2 : Option Addr) (c2 : Nat) (w : World) (hS : SlS w (.slice A1 p.length c1) p) (hl : p.length ≤ 1000) (hr : ∀ s ∈ p, Rng s) (x a b er : Int) (hx : nearOf 0 p = some x) (hmk : makeV x sc = .tuple #[decA a b, .int .i64 er]) :
    Calls Tryz.prog 46 #[tyv 1 sc any not (.slice A0 n0 c0), (⟨1, p, false, [], 0, nu⟩ : St).val A1 c1 A2 c2] w fun e w' => e = .returned (.tuple #[(⟨1, a, b, ⟨#[]⟩, 0⟩ : Val).val, .int .i64 er]) ∧ Bel w w' := by
  have C1 := fun W (hW : Bel w W) => near_any (.slice A1 p.length c1) p 0 W (hS.keep hW) hl hr (by unfold I64; omega)
  rw [hx] at C1
  simp only [Option.getD_some, Option.getD_none, Option.isSome_some, Option.isSome_none, if_true, Bool.false_eq_true, if_false] at C1
  replace C1 := Lib.hid C1
  have C2 := fun W => make_any x sc W
  rw [hmk] at C2
  replace C2 := Lib.hid C2
  clear hmk
  clear hS hl hr hx
  go_enter Tryz.func46, Tryz.ntmps46
  go_upto_region 1 with fail
  refine under_name (w0 := w) (by (repeat (first | with_reducible exact Bel.refl _ | with_reducible refine Bel.setCell ?_ (by first | exact Nat.le_refl _ | (dsimp only; omega)) _ | with_reducible refine Bel.alloc ?_ _ | with_reducible refine Bel.drew ?_ | with_reducible assumption | with_reducible refine Bel.trans ?_ (by assumption)))) fun W hc hf hz hb => ?_
  have m0 : W.cell? ⟨w.heap.size, 0, none⟩ = some (.int .i64 1) := by simp [hc, go_sem]
  have m1 : W.cell? ⟨w.heap.size, 1, none⟩ = some (.int .i64 sc) := by simp [hc, go_sem]
  have m2 : W.cell? ⟨w.heap.size, 2, none⟩ = some (.bool any) := by simp [hc, go_sem]
  have m3 : W.cell? ⟨w.heap.size, 3, none⟩ = some (.bool not) := by simp [hc, go_sem]
  have m4 : W.cell? ⟨w.heap.size, 4, none⟩ = some (.slice A0 n0 c0) := by simp [hc, go_sem]
  have x0 : W.cell? ⟨w.heap.size + 1, 0, none⟩ = some (.int .i64 1) := by simp [hc, go_sem]
  have x1 : W.cell? ⟨w.heap.size + 1, 1, none⟩ = some (.slice A1 p.length c1) := by simp [hc, go_sem]
  have r0 : W.cell? ⟨w.heap.size + 2, 0, none⟩ = some (.int .i64 0) := by simp [hc, go_sem]
  have r1 : W.cell? ⟨w.heap.size + 2, 1, none⟩ = some (.int .i64 0) := by simp [hc, go_sem]
  have r2 : W.cell? ⟨w.heap.size + 2, 2, none⟩ = some (.int .i64 0) := by simp [hc, go_sem]
  have r3 : W.cell? ⟨w.heap.size + 2, 3, none⟩ = some (.string ⟨#[]⟩) := by simp [hc, go_sem]
  have r4 : W.cell? ⟨w.heap.size + 2, 4, none⟩ = some (.int .i64 0) := by simp [hc, go_sem]
  have rf0 : W.frozen? ⟨w.heap.size + 2, 0, none⟩ = false := by simp [hf, go_sem]
  have rf1 : W.frozen? ⟨w.heap.size + 2, 1, none⟩ = false := by simp [hf, go_sem]
  have rf2 : W.frozen? ⟨w.heap.size + 2, 2, none⟩ = false := by simp [hf, go_sem]
  have rf3 : W.frozen? ⟨w.heap.size + 2, 3, none⟩ = false := by simp [hf, go_sem]
  have rf4 : W.frozen? ⟨w.heap.size + 2, 4, none⟩ = false := by simp [hf, go_sem]
  have z0 : w.heap.size + 3 ≤ W.heap.size := by simp [hz]
  clear hc hf hz
  go_upto_region 7 with (first
    | (go_at_call 71; (with_reducible refine Calls.mono (C1.out _ hb) ?_); rintro e X1 ⟨rfl, hx1⟩; have zx1 : w.heap.size + 3 ≤ X1.heap.size := (Nat.le_trans z0 hx1.size); have lt0 : w.heap.size < X1.heap.size := (by omega); have lt1 : w.heap.size + 1 < X1.heap.size := (by omega); have lt2 : w.heap.size + 2 < X1.heap.size := (by omega); have hbX := hb.trans hx1; replace r0 := (hx1.cells _ _ (by omega)).trans r0; replace r1 := (hx1.cells _ _ (by omega)).trans r1; replace r2 := (hx1.cells _ _ (by omega)).trans r2; replace r3 := (hx1.cells _ _ (by omega)).trans r3; replace r4 := (hx1.cells _ _ (by omega)).trans r4; replace rf0 := (hx1.frozens _ _ (by omega)).trans rf0; replace rf1 := (hx1.frozens _ _ (by omega)).trans rf1; replace rf2 := (hx1.frozens _ _ (by omega)).trans rf2; replace rf3 := (hx1.frozens _ _ (by omega)).trans rf3; replace rf4 := (hx1.frozens _ _ (by omega)).trans rf4; replace m1 := (hx1.cells _ _ (by omega)).trans m1)
    | (go_at_call 72; (with_reducible refine Calls.mono (C2.out _) ?_); rintro e X2 ⟨rfl, hx2⟩; have hbY := hbX.trans hx2; have zx2 : w.heap.size + 3 ≤ X2.heap.size := (Nat.le_trans zx1 hx2.size); have lt3 : w.heap.size + 2 < X2.heap.size := (by omega); replace r0 := (hx2.cells _ _ (by omega)).trans r0; replace r1 := (hx2.cells _ _ (by omega)).trans r1; replace r2 := (hx2.cells _ _ (by omega)).trans r2; replace r3 := (hx2.cells _ _ (by omega)).trans r3; replace r4 := (hx2.cells _ _ (by omega)).trans r4; replace rf0 := (hx2.frozens _ _ (by omega)).trans rf0; replace rf1 := (hx2.frozens _ _ (by omega)).trans rf1; replace rf2 := (hx2.frozens _ _ (by omega)).trans rf2; replace rf3 := (hx2.frozens _ _ (by omega)).trans rf3; replace rf4 := (hx2.frozens _ _ (by omega)).trans rf4))
  refine under_name (w0 := X2) (by (repeat (first | with_reducible exact Bel.refl _ | with_reducible refine Bel.setCell ?_ (by first | exact Nat.le_refl _ | (dsimp only; omega)) _ | with_reducible refine Bel.alloc ?_ _ | with_reducible refine Bel.drew ?_ | with_reducible assumption | with_reducible refine Bel.trans ?_ (by assumption)))) fun Y hc hf hz hy => ?_
  have d0 : Y.cell? ⟨X2.heap.size, 0, none⟩ = some (.int .i64 a) := by simp [hc, go_sem]
  have d1 : Y.cell? ⟨X2.heap.size, 1, none⟩ = some (.int .i64 b) := by simp [hc, go_sem]
  clear hc hf hz
  replace r0 := (hy.cells _ _ (by omega)).trans r0; replace r1 := (hy.cells _ _ (by omega)).trans r1; replace r2 := (hy.cells _ _ (by omega)).trans r2; replace r3 := (hy.cells _ _ (by omega)).trans r3; replace r4 := (hy.cells _ _ (by omega)).trans r4; replace rf0 := (hy.frozens _ _ (by omega)).trans rf0; replace rf1 := (hy.frozens _ _ (by omega)).trans rf1; replace rf2 := (hy.frozens _ _ (by omega)).trans rf2; replace rf3 := (hy.frozens _ _ (by omega)).trans rf3; replace rf4 := (hy.frozens _ _ (by omega)).trans rf4
  have hbZ := hbY.trans hy
  clear m0 m1 m2 m3 m4 x0 x1 hx1 hx2 hbX hbY hb C1 C2 lt0 lt1 lt2 zx1
  go_wp2_with fail
  refine bodyPost_ret (by simp [results, Tryz.results46, go_sem, r0, rf0, r1, rf1, r2, rf2, r3, rf3, r4, rf4]; try rfl) rfl ⟨rfl, ?_⟩
  (repeat (first | with_reducible exact Bel.refl _ | with_reducible refine Bel.setCell ?_ (by first | exact Nat.le_refl _ | (dsimp only; omega)) _ | with_reducible refine Bel.alloc ?_ _ | with_reducible refine Bel.drew ?_ | with_reducible assumption | with_reducible refine Bel.trans ?_ (by assumption)))
set_option maxRecDepth 100000 in
set_option maxHeartbeats 4000000 in
theorem pick4S_any (sc : Int) (any not : Bool) (A0 : Option Addr) (n0 c0 : Nat) (p : List Sp) (nu : Bool) (A1 : Option Addr) (c1 : Nat) (A2 : Option Addr) (c2 : Nat) (w : World) (hS : SlS w (.slice A1 p.length c1) p) (hl : p.length ≤ 1000) (hr : ∀ s ∈ p, Rng s) (x : Int) (hx : nearOf 730119 p = some x) :
    Calls Tryz.prog 46 #[tyv 4 sc any not (.slice A0 n0 c0), (⟨4, p, false, [], 0, nu⟩ : St).val A1 c1 A2 c2] w fun e w' => e = .returned (.tuple #[(⟨4, 0, 0, ⟨#[]⟩, x⟩ : Val).val, .int .i64 0]) ∧ Bel w w' := by
  have C1 := fun W (hW : Bel w W) => near_any (.slice A1 p.length c1) p 730119 W (hS.keep hW) hl hr (by unfold I64; omega)
  rw [hx] at C1
  simp only [Option.getD_some, Option.getD_none, Option.isSome_some, Option.isSome_none, if_true, Bool.false_eq_true, if_false] at C1
  replace C1 := Lib.hid C1
  clear hS hl hr hx
  go_enter Tryz.func46, Tryz.ntmps46
  go_upto_region 1 with fail
  refine under_name (w0 := w) (by (repeat (first | with_reducible exact Bel.refl _ | with_reducible refine Bel.setCell ?_ (by first | exact Nat.le_refl _ | (dsimp only; omega)) _ | with_reducible refine Bel.alloc ?_ _ | with_reducible refine Bel.drew ?_ | with_reducible assumption | with_reducible refine Bel.trans ?_ (by assumption)))) fun W hc hf hz hb => ?_
  have m0 : W.cell? ⟨w.heap.size, 0, none⟩ = some (.int .i64 4) := by simp [hc, go_sem]
  have m1 : W.cell? ⟨w.heap.size, 1, none⟩ = some (.int .i64 sc) := by simp [hc, go_sem]
  have m2 : W.cell? ⟨w.heap.size, 2, none⟩ = some (.bool any) := by simp [hc, go_sem]
  have m3 : W.cell? ⟨w.heap.size, 3, none⟩ = some (.bool not) := by simp [hc, go_sem]
  have m4 : W.cell? ⟨w.heap.size, 4, none⟩ = some (.slice A0 n0 c0) := by simp [hc, go_sem]
  have x0 : W.cell? ⟨w.heap.size + 1, 0, none⟩ = some (.int .i64 4) := by simp [hc, go_sem]
  have x1 : W.cell? ⟨w.heap.size + 1, 1, none⟩ = some (.slice A1 p.length c1) := by simp [hc, go_sem]
  have r0 : W.cell? ⟨w.heap.size + 2, 0, none⟩ = some (.int .i64 0) := by simp [hc, go_sem]
  have r1 : W.cell? ⟨w.heap.size + 2, 1, none⟩ = some (.int .i64 0) := by simp [hc, go_sem]
  have r2 : W.cell? ⟨w.heap.size + 2, 2, none⟩ = some (.int .i64 0) := by simp [hc, go_sem]
  have r3 : W.cell? ⟨w.heap.size + 2, 3, none⟩ = some (.string ⟨#[]⟩) := by simp [hc, go_sem]
  have r4 : W.cell? ⟨w.heap.size + 2, 4, none⟩ = some (.int .i64 0) := by simp [hc, go_sem]
  have rf0 : W.frozen? ⟨w.heap.size + 2, 0, none⟩ = false := by simp [hf, go_sem]
  have rf1 : W.frozen? ⟨w.heap.size + 2, 1, none⟩ = false := by simp [hf, go_sem]
  have rf2 : W.frozen? ⟨w.heap.size + 2, 2, none⟩ = false := by simp [hf, go_sem]
  have rf3 : W.frozen? ⟨w.heap.size + 2, 3, none⟩ = false := by simp [hf, go_sem]
  have rf4 : W.frozen? ⟨w.heap.size + 2, 4, none⟩ = false := by simp [hf, go_sem]
  have z0 : w.heap.size + 3 ≤ W.heap.size := by simp [hz]
  clear hc hf hz
  go_wp2_with (go_at_call 71; (with_reducible refine Calls.mono (C1.out _ hb) ?_); rintro e X1 ⟨rfl, hx1⟩; have zx1 : w.heap.size + 3 ≤ X1.heap.size := (Nat.le_trans z0 hx1.size); have lt0 : w.heap.size < X1.heap.size := (by omega); have lt1 : w.heap.size + 1 < X1.heap.size := (by omega); have lt2 : w.heap.size + 2 < X1.heap.size := (by omega); have hbX := hb.trans hx1; replace r0 := (hx1.cells _ _ (by omega)).trans r0; replace r1 := (hx1.cells _ _ (by omega)).trans r1; replace r2 := (hx1.cells _ _ (by omega)).trans r2; replace r3 := (hx1.cells _ _ (by omega)).trans r3; replace r4 := (hx1.cells _ _ (by omega)).trans r4; replace rf0 := (hx1.frozens _ _ (by omega)).trans rf0; replace rf1 := (hx1.frozens _ _ (by omega)).trans rf1; replace rf2 := (hx1.frozens _ _ (by omega)).trans rf2; replace rf3 := (hx1.frozens _ _ (by omega)).trans rf3; replace rf4 := (hx1.frozens _ _ (by omega)).trans rf4; replace m1 := (hx1.cells _ _ (by omega)).trans m1)
  refine bodyPost_ret (by simp [results, Tryz.results46, go_sem, r0, rf0, r1, rf1, r2, rf2, r3, rf3, r4, rf4]; try rfl) rfl ⟨rfl, ?_⟩
  (repeat (first | with_reducible exact Bel.refl _ | with_reducible refine Bel.setCell ?_ (by first | exact Nat.le_refl _ | (dsimp only; omega)) _ | with_reducible refine Bel.alloc ?_ _ | with_reducible refine Bel.drew ?_ | with_reducible assumption | with_reducible refine Bel.trans ?_ (by assumption)))
set_option maxRecDepth 100000 in
set_option maxHeartbeats 4000000 in
theorem pick1N_any (sc : Int) (any not : Bool) (A0 : Option Addr) (n0 c0 : Nat) (p : List Sp) (nu : Bool) (A1 : Option Addr) (c1 : Nat) (A2 : Option Addr) (c2 : Nat) (w : World) (hS : SlS w (.slice A1 p.length c1) p) (hl : p.length ≤ 1000) (hr : ∀ s ∈ p, Rng s) (hx : nearOf 0 p = none) :
    Calls Tryz.prog 46 #[tyv 1 sc any not (.slice A0 n0 c0), (⟨1, p, false, [], 0, nu⟩ : St).val A1 c1 A2 c2] w fun e w' => e = .returned (.tuple #[(⟨0, 0, 0, ⟨#[]⟩, 0⟩ : Val).val, .int .i64 16]) ∧ Bel w w' := by
  have C1 := fun W (hW : Bel w W) => near_any (.slice A1 p.length c1) p 0 W (hS.keep hW) hl hr (by unfold I64; omega)
  rw [hx] at C1
  simp only [Option.getD_some, Option.getD_none, Option.isSome_some, Option.isSome_none, if_true, Bool.false_eq_true, if_false] at C1
  replace C1 := Lib.hid C1
  clear hS hl hr hx
  go_enter Tryz.func46, Tryz.ntmps46
  go_upto_region 1 with fail
  refine under_name (w0 := w) (by (repeat (first | with_reducible exact Bel.refl _ | with_reducible refine Bel.setCell ?_ (by first | exact Nat.le_refl _ | (dsimp only; omega)) _ | with_reducible refine Bel.alloc ?_ _ | with_reducible refine Bel.drew ?_ | with_reducible assumption | with_reducible refine Bel.trans ?_ (by assumption)))) fun W hc hf hz hb => ?_
  have m0 : W.cell? ⟨w.heap.size, 0, none⟩ = some (.int .i64 1) := by simp [hc, go_sem]
  have m1 : W.cell? ⟨w.heap.size, 1, none⟩ = some (.int .i64 sc) := by simp [hc, go_sem]
  have m2 : W.cell? ⟨w.heap.size, 2, none⟩ = some (.bool any) := by simp [hc, go_sem]
  have m3 : W.cell? ⟨w.heap.size, 3, none⟩ = some (.bool not) := by simp [hc, go_sem]
  have m4 : W.cell? ⟨w.heap.size, 4, none⟩ = some (.slice A0 n0 c0) := by simp [hc, go_sem]
  have x0 : W.cell? ⟨w.heap.size + 1, 0, none⟩ = some (.int .i64 1) := by simp [hc, go_sem]
  have x1 : W.cell? ⟨w.heap.size + 1, 1, none⟩ = some (.slice A1 p.length c1) := by simp [hc, go_sem]
  have r0 : W.cell? ⟨w.heap.size + 2, 0, none⟩ = some (.int .i64 0) := by simp [hc, go_sem]
  have r1 : W.cell? ⟨w.heap.size + 2, 1, none⟩ = some (.int .i64 0) := by simp [hc, go_sem]
  have r2 : W.cell? ⟨w.heap.size + 2, 2, none⟩ = some (.int .i64 0) := by simp [hc, go_sem]
  have r3 : W.cell? ⟨w.heap.size + 2, 3, none⟩ = some (.string ⟨#[]⟩) := by simp [hc, go_sem]
  have r4 : W.cell? ⟨w.heap.size + 2, 4, none⟩ = some (.int .i64 0) := by simp [hc, go_sem]
  have rf0 : W.frozen? ⟨w.heap.size + 2, 0, none⟩ = false := by simp [hf, go_sem]
  have rf1 : W.frozen? ⟨w.heap.size + 2, 1, none⟩ = false := by simp [hf, go_sem]
  have rf2 : W.frozen? ⟨w.heap.size + 2, 2, none⟩ = false := by simp [hf, go_sem]
  have rf3 : W.frozen? ⟨w.heap.size + 2, 3, none⟩ = false := by simp [hf, go_sem]
  have rf4 : W.frozen? ⟨w.heap.size + 2, 4, none⟩ = false := by simp [hf, go_sem]
  have z0 : w.heap.size + 3 ≤ W.heap.size := by simp [hz]
  clear hc hf hz
  go_wp2_with (go_at_call 71; (with_reducible refine Calls.mono (C1.out _ hb) ?_); rintro e X1 ⟨rfl, hx1⟩; have zx1 : w.heap.size + 3 ≤ X1.heap.size := (Nat.le_trans z0 hx1.size); have lt0 : w.heap.size < X1.heap.size := (by omega); have lt1 : w.heap.size + 1 < X1.heap.size := (by omega); have lt2 : w.heap.size + 2 < X1.heap.size := (by omega); have hbX := hb.trans hx1; replace r0 := (hx1.cells _ _ (by omega)).trans r0; replace r1 := (hx1.cells _ _ (by omega)).trans r1; replace r2 := (hx1.cells _ _ (by omega)).trans r2; replace r3 := (hx1.cells _ _ (by omega)).trans r3; replace r4 := (hx1.cells _ _ (by omega)).trans r4; replace rf0 := (hx1.frozens _ _ (by omega)).trans rf0; replace rf1 := (hx1.frozens _ _ (by omega)).trans rf1; replace rf2 := (hx1.frozens _ _ (by omega)).trans rf2; replace rf3 := (hx1.frozens _ _ (by omega)).trans rf3; replace rf4 := (hx1.frozens _ _ (by omega)).trans rf4; replace m1 := (hx1.cells _ _ (by omega)).trans m1)
  refine bodyPost_ret (by simp [results, Tryz.results46, go_sem, r0, rf0, r1, rf1, r2, rf2, r3, rf3, r4, rf4]; try rfl) rfl ⟨rfl, ?_⟩
  (repeat (first | with_reducible exact Bel.refl _ | with_reducible refine Bel.setCell ?_ (by first | exact Nat.le_refl _ | (dsimp only; omega)) _ | with_reducible refine Bel.alloc ?_ _ | with_reducible refine Bel.drew ?_ | with_reducible assumption | with_reducible refine Bel.trans ?_ (by assumption)))
set_option maxRecDepth 100000 in
set_option maxHeartbeats 4000000 in
theorem pick4N_any (sc : Int) (any not : Bool) (A0 : Option Addr) (n0 c0 : Nat) (p : List Sp) (nu : Bool) (A1 : Option Addr) (c1 : Nat) (A2 : Option Addr) (c2 : Nat) (w : World) (hS : SlS w (.slice A1 p.length c1) p) (hl : p.length ≤ 1000) (hr : ∀ s ∈ p, Rng s) (hx : nearOf 730119 p = none) :
    Calls Tryz.prog 46 #[tyv 4 sc any not (.slice A0 n0 c0), (⟨4, p, false, [], 0, nu⟩ : St).val A1 c1 A2 c2] w fun e w' => e = .returned (.tuple #[(⟨0, 0, 0, ⟨#[]⟩, 0⟩ : Val).val, .int .i64 16]) ∧ Bel w w' := by
  have C1 := fun W (hW : Bel w W) => near_any (.slice A1 p.length c1) p 730119 W (hS.keep hW) hl hr (by unfold I64; omega)
  rw [hx] at C1
  simp only [Option.getD_some, Option.getD_none, Option.isSome_some, Option.isSome_none, if_true, Bool.false_eq_true, if_false] at C1
  replace C1 := Lib.hid C1
  clear hS hl hr hx
  go_enter Tryz.func46, Tryz.ntmps46
  go_upto_region 1 with fail
  refine under_name (w0 := w) (by (repeat (first | with_reducible exact Bel.refl _ | with_reducible refine Bel.setCell ?_ (by first | exact Nat.le_refl _ | (dsimp only; omega)) _ | with_reducible refine Bel.alloc ?_ _ | with_reducible refine Bel.drew ?_ | with_reducible assumption | with_reducible refine Bel.trans ?_ (by assumption)))) fun W hc hf hz hb => ?_
  have m0 : W.cell? ⟨w.heap.size, 0, none⟩ = some (.int .i64 4) := by simp [hc, go_sem]
  have m1 : W.cell? ⟨w.heap.size, 1, none⟩ = some (.int .i64 sc) := by simp [hc, go_sem]
  have m2 : W.cell? ⟨w.heap.size, 2, none⟩ = some (.bool any) := by simp [hc, go_sem]
  have m3 : W.cell? ⟨w.heap.size, 3, none⟩ = some (.bool not) := by simp [hc, go_sem]
  have m4 : W.cell? ⟨w.heap.size, 4, none⟩ = some (.slice A0 n0 c0) := by simp [hc, go_sem]
  have x0 : W.cell? ⟨w.heap.size + 1, 0, none⟩ = some (.int .i64 4) := by simp [hc, go_sem]
  have x1 : W.cell? ⟨w.heap.size + 1, 1, none⟩ = some (.slice A1 p.length c1) := by simp [hc, go_sem]
  have r0 : W.cell? ⟨w.heap.size + 2, 0, none⟩ = some (.int .i64 0) := by simp [hc, go_sem]
  have r1 : W.cell? ⟨w.heap.size + 2, 1, none⟩ = some (.int .i64 0) := by simp [hc, go_sem]
  have r2 : W.cell? ⟨w.heap.size + 2, 2, none⟩ = some (.int .i64 0) := by simp [hc, go_sem]
  have r3 : W.cell? ⟨w.heap.size + 2, 3, none⟩ = some (.string ⟨#[]⟩) := by simp [hc, go_sem]
  have r4 : W.cell? ⟨w.heap.size + 2, 4, none⟩ = some (.int .i64 0) := by simp [hc, go_sem]
  have rf0 : W.frozen? ⟨w.heap.size + 2, 0, none⟩ = false := by simp [hf, go_sem]
  have rf1 : W.frozen? ⟨w.heap.size + 2, 1, none⟩ = false := by simp [hf, go_sem]
  have rf2 : W.frozen? ⟨w.heap.size + 2, 2, none⟩ = false := by simp [hf, go_sem]
  have rf3 : W.frozen? ⟨w.heap.size + 2, 3, none⟩ = false := by simp [hf, go_sem]
  have rf4 : W.frozen? ⟨w.heap.size + 2, 4, none⟩ = false := by simp [hf, go_sem]
  have z0 : w.heap.size + 3 ≤ W.heap.size := by simp [hz]
  clear hc hf hz
  go_wp2_with (go_at_call 71; (with_reducible refine Calls.mono (C1.out _ hb) ?_); rintro e X1 ⟨rfl, hx1⟩; have zx1 : w.heap.size + 3 ≤ X1.heap.size := (Nat.le_trans z0 hx1.size); have lt0 : w.heap.size < X1.heap.size := (by omega); have lt1 : w.heap.size + 1 < X1.heap.size := (by omega); have lt2 : w.heap.size + 2 < X1.heap.size := (by omega); have hbX := hb.trans hx1; replace r0 := (hx1.cells _ _ (by omega)).trans r0; replace r1 := (hx1.cells _ _ (by omega)).trans r1; replace r2 := (hx1.cells _ _ (by omega)).trans r2; replace r3 := (hx1.cells _ _ (by omega)).trans r3; replace r4 := (hx1.cells _ _ (by omega)).trans r4; replace rf0 := (hx1.frozens _ _ (by omega)).trans rf0; replace rf1 := (hx1.frozens _ _ (by omega)).trans rf1; replace rf2 := (hx1.frozens _ _ (by omega)).trans rf2; replace rf3 := (hx1.frozens _ _ (by omega)).trans rf3; replace rf4 := (hx1.frozens _ _ (by omega)).trans rf4; replace m1 := (hx1.cells _ _ (by omega)).trans m1)
  refine bodyPost_ret (by simp [results, Tryz.results46, go_sem, r0, rf0, r1, rf1, r2, rf2, r3, rf3, r4, rf4]; try rfl) rfl ⟨rfl, ?_⟩
  (repeat (first | with_reducible exact Bel.refl _ | with_reducible refine Bel.setCell ?_ (by first | exact Nat.le_refl _ | (dsimp only; omega)) _ | with_reducible refine Bel.alloc ?_ _ | with_reducible refine Bel.drew ?_ | with_reducible assumption | with_reducible refine Bel.trans ?_ (by assumption)))
theorem ord_one {q : List Sp} {lo hi : Int} (ho : Ord q) (h : lo ≤ hi) (hm : ∀ n, SMem q n ↔ lo ≤ n ∧ n ≤ hi) : q = [(lo, hi)] := by
  cases q with
  | nil =>
    obtain ⟨s, hs, _⟩ := (hm lo).2 ⟨Int.le_refl _, h⟩
    cases hs
  | cons s t =>
    have h0 := ho.2 s (List.mem_cons_self ..)
    have a1 := (hm s.1).1 ⟨s, List.mem_cons_self .., Int.le_refl _, h0⟩
    have a2 := (hm s.2).1 ⟨s, List.mem_cons_self .., h0, Int.le_refl _⟩
    cases t with
    | nil =>
      obtain ⟨u, hu, u1, u2⟩ := (hm lo).2 ⟨Int.le_refl _, h⟩
      obtain ⟨v, hv, v1, v2⟩ := (hm hi).2 ⟨h, Int.le_refl _⟩
      simp only [List.mem_cons, List.not_mem_nil, or_false] at hu hv
      subst hu
      subst hv
      have e1 : v.1 = lo := by omega
      have e2 : v.2 = hi := by omega
      rw [← e1, ← e2]
    | cons u t' =>
      have hp := List.pairwise_cons.1 ho.1
      have p1 := hp.1 u (List.mem_cons_self ..)
      have u0 := ho.2 u (List.mem_cons_of_mem _ (List.mem_cons_self ..))
      have b2 := (hm u.2).1 ⟨u, List.mem_cons_of_mem _ (List.mem_cons_self ..), u0, Int.le_refl _⟩
      obtain ⟨v, hv, v1, v2⟩ := (hm (s.2 + 1)).2 ⟨by omega, by omega⟩
      rcases List.mem_cons.1 hv with rfl | hv
      · omega
      · have := hp.1 v hv
        omega
def tA : Tst := ⟨2, ⟨1, 125, 2, ⟨#[]⟩, 0⟩, ⟨0, 0, 0, ⟨#[]⟩, 0⟩, false, false⟩
theorem tA_sp : spU 1 tA = (-9223372036854775808, 12) := by decide +kernel
theorem tA_snd : tsnd tA = true := by decide +kernel
theorem tA_us : usnd false false [tA] = true := by decide +kernel
theorem tyA : tysnd 1 1 true false [] = true := by decide +kernel
theorem smem_pair (a b n : Int) : SMem [(a, b)] n ↔ a ≤ n ∧ n ≤ b := by simp [SMem]
theorem memA1 (n : Int) : MemH 1 1 true false [] n ↔ -999999999999 ≤ n ∧ n ≤ 999999999999 := by
  unfold MemH
  rw [show (allS 1).sp = [(-999999999999, 999999999999)] from rfl, smem_pair]
  simp
theorem rngA : rngk 1 1 [tA] = [(-9223372036854775808, 12)] := by
  have : rngk 1 1 [tA] = [spU 1 tA] := rfl
  rw [this, tA_sp]
theorem memA2 (n : Int) : MemH 1 1 false false [tA] n ↔ -999999999999 ≤ n ∧ n ≤ 12 := by
  unfold MemH
  rw [show (allS 1).sp = [(-999999999999, 999999999999)] from rfl, rngA, smem_pair, smem_pair]
  simp
  omega
theorem ofA (q : List Sp) (ho : Ord q) (hm : ∀ n, SMem q n ↔ MemH 1 1 true false [] n ∧ MemH 1 1 false false [tA] n) : q = [(-999999999999, 12)] :=
  ord_one ho (by decide) fun n => by rw [hm n, memA1, memA2]; omega
theorem pickA (q : List Sp) (ho : Ord q) (hm : ∀ n, SMem q n ↔ MemH 1 1 true false [] n ∧ SMem [(-999999999999, 12)] n) : nearOf 0 q = some 0 ∧ ¬ ∀ n, ¬ SMem q n := by
  have : q = [(-999999999999, 12)] := ord_one ho (by decide) fun n => by rw [hm n, memA1, smem_pair]; omega
  subst this
  exact ⟨by decide +kernel, fun h => h 0 ((smem_pair _ _ _).2 (by decide))⟩
theorem nulA : nulH false false [tA] = false := by decide +kernel
theorem inA : inT 1 1 true false [] ⟨0, 0, 0, ⟨#[]⟩, 0⟩ = true := by decide +kernel
theorem mkA : makeV 0 1 = .tuple #[decA 0 0, .int .i64 0] := by rfl
theorem tA_ok : TOk tA := by unfold TOk; decide +kernel
end
section
open Go.RowKit Go.Lib
attribute [local go_sem ↓] eql_val neq_val eql_tst neq_tst
set_option maxRecDepth 100000 in
set_option maxHeartbeats 4000000 in
theorem rtsound_any (k sc : Int) (any not : Bool) (l : List Tst) (A : Option Addr) (c : Nat) (w : World) (hs : Tsts w A l) (hl : l.length ≤ 9223372036854775807) (ht : ∀ t ∈ l, TOk t) :
    Calls Tryz.prog 11 #[tyv k sc any not (.slice A l.length c)] w fun e w' => e = .returned (.bool (tysnd k sc any not l)) ∧ Bel w w' := by
  have C2 := Lib.hid fun W (hW : Bel w W) => rusound_any any not l A c W (hs.keep hW) hl ht
  have hT := Lib.hid (show tysnd k sc any not l = (knd k && usnd any not l && (decide (sc = 0) || (decide (k = 1) && decide (0 < sc) && decide (sc ≤ 6)))) from rfl)
  generalize tysnd k sc any not l = R at hT ⊢
  generalize usnd any not l = q2 at hT C2
  clear hs hl ht
  by_cases h1 : k < 1
  · obtain rfl : R = false := by have := hT.out; simpa [knd, show ¬ 1 ≤ k from by omega] using this
    clear hT C2
    go_enter Tryz.func11, Tryz.ntmps11
    go_wp2_with fail
    go_ret
    refine ⟨rfl, ?_⟩
    (repeat (first | with_reducible exact Bel.refl _ | with_reducible refine Bel.setCell ?_ (by first | exact Nat.le_refl _ | (dsimp only; omega)) _ | with_reducible refine Bel.alloc ?_ _ | with_reducible refine Bel.drew ?_ | with_reducible assumption | with_reducible refine Bel.trans ?_ (by assumption)))
  · skip
    by_cases h4 : 4 < k
    · obtain rfl : R = false := by have := hT.out; simpa [knd, show ¬ k ≤ 4 from by omega] using this
      clear hT C2
      go_enter Tryz.func11, Tryz.ntmps11
      go_wp2_with fail
      go_ret
      refine ⟨rfl, ?_⟩
      (repeat (first | with_reducible exact Bel.refl _ | with_reducible refine Bel.setCell ?_ (by first | exact Nat.le_refl _ | (dsimp only; omega)) _ | with_reducible refine Bel.alloc ?_ _ | with_reducible refine Bel.drew ?_ | with_reducible assumption | with_reducible refine Bel.trans ?_ (by assumption)))
    · skip
      by_cases h0 : sc < 0
      · obtain rfl : R = false := by have := hT.out; simpa [knd, show ¬ sc = 0 from by omega, show ¬ 0 < sc from by omega] using this
        clear hT C2
        go_enter Tryz.func11, Tryz.ntmps11
        go_wp2_with fail
        go_ret
        refine ⟨rfl, ?_⟩
        (repeat (first | with_reducible exact Bel.refl _ | with_reducible refine Bel.setCell ?_ (by first | exact Nat.le_refl _ | (dsimp only; omega)) _ | with_reducible refine Bel.alloc ?_ _ | with_reducible refine Bel.drew ?_ | with_reducible assumption | with_reducible refine Bel.trans ?_ (by assumption)))
      · skip
        by_cases h6 : 6 < sc
        · obtain rfl : R = false := by have := hT.out; simpa [knd, show ¬ sc = 0 from by omega, show ¬ sc ≤ 6 from by omega] using this
          clear hT C2
          go_enter Tryz.func11, Tryz.ntmps11
          go_wp2_with fail
          go_ret
          refine ⟨rfl, ?_⟩
          (repeat (first | with_reducible exact Bel.refl _ | with_reducible refine Bel.setCell ?_ (by first | exact Nat.le_refl _ | (dsimp only; omega)) _ | with_reducible refine Bel.alloc ?_ _ | with_reducible refine Bel.drew ?_ | with_reducible assumption | with_reducible refine Bel.trans ?_ (by assumption)))
        · skip
          by_cases k1 : k = 1
          · subst k1
            obtain rfl : R = q2 := by
              have := hT.out
              by_cases hz : sc = 0
              · simpa [knd, hz] using this
              · simpa [knd, hz, show 0 < sc from by omega, show sc ≤ 6 from by omega] using this
            clear hT
            go_enter Tryz.func11, Tryz.ntmps11
            go_wp2_with (go_at_call 17; (with_reducible refine Calls.mono (C2.out _ ((Bel.refl w).alloc _)) ?_); rintro e W1 ⟨rfl, hb1⟩; have hbX := ((Bel.refl w).alloc _).trans hb1)
            go_ret
            exact ⟨rfl, hbX⟩
          · have e1 : (k == 1) = false := by simp [k1]
            by_cases hz : sc = 0
            · subst hz
              obtain rfl : R = q2 := by have := hT.out; simpa [knd, show 1 ≤ k from by omega, show k ≤ 4 from by omega] using this
              clear hT
              go_enter Tryz.func11, Tryz.ntmps11
              go_wp2_with (go_at_call 17; (with_reducible refine Calls.mono (C2.out _ ((Bel.refl w).alloc _)) ?_); rintro e W1 ⟨rfl, hb1⟩; have hbX := ((Bel.refl w).alloc _).trans hb1)
              go_ret
              exact ⟨rfl, hbX⟩
            · have ez : (sc == 0) = false := by simp [hz]
              obtain rfl : R = false := by have := hT.out; simpa [knd, hz, k1] using this
              clear hT
              go_enter Tryz.func11, Tryz.ntmps11
              go_wp2_with (go_at_call 17; exfalso; simp_all)
              all_goals go_ret
              all_goals refine ⟨rfl, ?_⟩
              all_goals (repeat (first | with_reducible exact Bel.refl _ | with_reducible refine Bel.setCell ?_ (by first | exact Nat.le_refl _ | (dsimp only; omega)) _ | with_reducible refine Bel.alloc ?_ _ | with_reducible refine Bel.drew ?_ | with_reducible assumption | with_reducible refine Bel.trans ?_ (by assumption)))
set_option maxRecDepth 100000 in
set_option maxHeartbeats 8000000 in
theorem rtin_any (k sc : Int) (any not : Bool) (l : List Tst) (A : Option Addr) (c : Nat) (v : Val) (w : World) (hs : Tsts w A l) (hl : l.length ≤ 9223372036854775807) (ht : ∀ t ∈ l, TOk t) (hv : v.text.size ≤ 9223372036854775807) :
    Calls Tryz.prog 13 #[tyv k sc any not (.slice A l.length c), v.val] w fun e w' => e = .returned (.bool (inT k sc any not l v)) ∧ Bel w w' := by
  have C1 := Lib.hid fun W (hW : Bel w W) => rtsound_any k sc any not l A c W (hs.keep hW) hl ht
  have C2 := Lib.hid fun W => rvsound_any v hv W
  have C0 := Lib.hid (show tysnd k sc any not l = true → vsnd v = true → ∀ W, Bel w W → Calls Tryz.prog 21 #[tsv any not (.slice A l.length c), v.val] W fun e w' => e = .returned (.bool (mall any not l v)) ∧ Bel W w' from fun h1 h2 W hW => rall_any any not l A c v W (hs.keep hW) ht (tysnd_sc h1).2.2.2.2.2 hv h2)
  have C4 := fun W => rat_any v.n v.scale sc W
  simp only [atV_P] at C4
  replace C4 := Lib.hid C4
  have hT := Lib.hid (show inT k sc any not l v = (tysnd k sc any not l && vsnd v && (decide (v.kind = 0) || (decide (v.kind = k) && mall any not l v && (!decide (k = 1) || ((unP sc v).2 && decide (-999999999999 ≤ (unP sc v).1) && decide ((unP sc v).1 ≤ 999999999999)))))) from rfl)
  have hU := Lib.hid (show v.kind = 1 → unP sc v = atP v.n v.scale sc from fun h => if_pos h)
  generalize inT k sc any not l v = R at hT ⊢
  generalize mall any not l v = q3 at hT C0
  generalize tysnd k sc any not l = q1 at hT C1 C0
  generalize vsnd v = q2 at hT C2 C0
  generalize unP sc v = u at hT hU
  generalize atP v.n v.scale sc = p at C4 hU
  generalize atE v.n v.scale sc = er at C4
  generalize hn : l.length = n at C1 C0 ⊢
  obtain ⟨v0, v1, v2, v3, v4⟩ := v
  obtain ⟨p1, p2⟩ := p
  simp only at hT hU C2 C0 C4
  clear hs hl ht hv hn
  cases q1 with
  | false =>
    obtain rfl : R = false := by have := hT.out; simpa using this
    clear hT C0 C4 hU
    go_enter Tryz.func13, Tryz.ntmps13
    go_wp2_with (go_at_call 11; (with_reducible refine Calls.mono (C1.out _ (((Bel.refl w).alloc _).alloc _)) ?_); rintro e W1 ⟨rfl, hb1⟩; have hc1 := hb1.cells; have hz1 := hb1.lt2; have hbX := (((Bel.refl w).alloc _).alloc _).trans hb1)
    go_ret
    exact ⟨rfl, hbX⟩
  | true =>
    cases q2 with
    | false =>
      obtain rfl : R = false := by have := hT.out; simpa using this
      clear hT C0 C4 hU
      go_enter Tryz.func13, Tryz.ntmps13
      go_wp2_with (first
        | (go_at_call 11; (with_reducible refine Calls.mono (C1.out _ (((Bel.refl w).alloc _).alloc _)) ?_); rintro e W1 ⟨rfl, hb1⟩; have hc1 := hb1.cells; have hz1 := hb1.lt2; have hbX := (((Bel.refl w).alloc _).alloc _).trans hb1)
        | (go_at_call 33; (with_reducible refine Calls.mono (C2.out _) ?_); rintro e W2 ⟨rfl, hb2⟩; have hc2 := hb2.cells; have g0 : w.heap.size < W2.heap.size := (by have := hb1.lt2.1; have := hb2.size; omega); have g1 : w.heap.size + 1 < W2.heap.size := (by have := hb1.lt2.2; have := hb2.size; omega); have hz2 := hb2.size; have hbY := hbX.trans hb2))
      go_ret
      exact ⟨rfl, hbY⟩
    | true =>
      have C3 := Lib.hid (C0.out rfl rfl)
      have hR := Lib.hid (show R = (decide (v0 = 0) || (decide (v0 = k) && q3 && (!decide (k = 1) || (u.2 && decide (-999999999999 ≤ u.1) && decide (u.1 ≤ 999999999999))))) from by have := hT.out; simpa using this)
      clear hT C0
      by_cases h0 : v0 = 0
      · subst h0
        obtain rfl : R = true := by have := hR.out; simpa using this
        clear hR C3 C4 hU
        go_enter Tryz.func13, Tryz.ntmps13
        go_wp2_with (first
          | (go_at_call 11; (with_reducible refine Calls.mono (C1.out _ (((Bel.refl w).alloc _).alloc _)) ?_); rintro e W1 ⟨rfl, hb1⟩; have hc1 := hb1.cells; have hz1 := hb1.lt2; have hbX := (((Bel.refl w).alloc _).alloc _).trans hb1)
          | (go_at_call 33; (with_reducible refine Calls.mono (C2.out _) ?_); rintro e W2 ⟨rfl, hb2⟩; have hc2 := hb2.cells; have g0 : w.heap.size < W2.heap.size := (by have := hb1.lt2.1; have := hb2.size; omega); have g1 : w.heap.size + 1 < W2.heap.size := (by have := hb1.lt2.2; have := hb2.size; omega); have hz2 := hb2.size; have hbY := hbX.trans hb2))
        go_ret
        exact ⟨rfl, hbY⟩
      · have e0 : (v0 == 0) = false := by simp [h0]
        by_cases hk : v0 = k
        · subst hk
          cases q3 with
          | false =>
            obtain rfl : R = false := by have := hR.out; simpa [h0] using this
            clear hR C4 hU
            go_enter Tryz.func13, Tryz.ntmps13
            go_wp2_with (first
              | (go_at_call 11; (with_reducible refine Calls.mono (C1.out _ (((Bel.refl w).alloc _).alloc _)) ?_); rintro e W1 ⟨rfl, hb1⟩; have hc1 := hb1.cells; have hz1 := hb1.lt2; have hbX := (((Bel.refl w).alloc _).alloc _).trans hb1)
              | (go_at_call 33; (with_reducible refine Calls.mono (C2.out _) ?_); rintro e W2 ⟨rfl, hb2⟩; have hc2 := hb2.cells; have g0 : w.heap.size < W2.heap.size := (by have := hb1.lt2.1; have := hb2.size; omega); have g1 : w.heap.size + 1 < W2.heap.size := (by have := hb1.lt2.2; have := hb2.size; omega); have hz2 := hb2.size; have hbY := hbX.trans hb2)
              | (go_at_call 21; (with_reducible refine Calls.mono (C3.out _ hbY) ?_); rintro e W3 ⟨rfl, hb3⟩; have hc3 := hb3.cells; have hz3 := hb3.size; have hbZ := hbY.trans hb3))
            go_ret
            exact ⟨rfl, hbZ⟩
          | true =>
            by_cases h1 : v0 = 1
            · subst h1
              obtain rfl : u = (p1, p2) := hU.out rfl
              have hR := Lib.hid (show R = (p2 && decide (-999999999999 ≤ p1) && decide (p1 ≤ 999999999999)) from by have := hR.out; simpa using this)
              cases p2 with
              | false =>
                obtain rfl : R = false := by have := hR.out; simpa using this
                clear hR hU
                go_enter Tryz.func13, Tryz.ntmps13
                go_wp2_with (first
                  | (go_at_call 11; (with_reducible refine Calls.mono (C1.out _ (((Bel.refl w).alloc _).alloc _)) ?_); rintro e W1 ⟨rfl, hb1⟩; have hc1 := hb1.cells; have hz1 := hb1.lt2; have hbX := (((Bel.refl w).alloc _).alloc _).trans hb1)
                  | (go_at_call 33; (with_reducible refine Calls.mono (C2.out _) ?_); rintro e W2 ⟨rfl, hb2⟩; have hc2 := hb2.cells; have g0 : w.heap.size < W2.heap.size := (by have := hb1.lt2.1; have := hb2.size; omega); have g1 : w.heap.size + 1 < W2.heap.size := (by have := hb1.lt2.2; have := hb2.size; omega); have hz2 := hb2.size; have hbY := hbX.trans hb2)
                  | (go_at_call 21; (with_reducible refine Calls.mono (C3.out _ hbY) ?_); rintro e W3 ⟨rfl, hb3⟩; have hc3 := hb3.cells; have hz3 := hb3.size; have hbZ := hbY.trans hb3)
                  | (go_at_call 34; (with_reducible refine Calls.mono (C4.out _) ?_); rintro e W4 ⟨rfl, hb4⟩; have hbE := hbZ.trans hb4))
                go_ret
                exact ⟨rfl, hbE⟩
              | true =>
                by_cases h2 : -999999999999 ≤ p1
                · obtain rfl : R = decide (p1 ≤ 999999999999) := by have := hR.out; simpa [h2] using this
                  clear hR hU
                  go_enter Tryz.func13, Tryz.ntmps13
                  go_wp2_with (first
                    | (go_at_call 11; (with_reducible refine Calls.mono (C1.out _ (((Bel.refl w).alloc _).alloc _)) ?_); rintro e W1 ⟨rfl, hb1⟩; have hc1 := hb1.cells; have hz1 := hb1.lt2; have hbX := (((Bel.refl w).alloc _).alloc _).trans hb1)
                    | (go_at_call 33; (with_reducible refine Calls.mono (C2.out _) ?_); rintro e W2 ⟨rfl, hb2⟩; have hc2 := hb2.cells; have g0 : w.heap.size < W2.heap.size := (by have := hb1.lt2.1; have := hb2.size; omega); have g1 : w.heap.size + 1 < W2.heap.size := (by have := hb1.lt2.2; have := hb2.size; omega); have hz2 := hb2.size; have hbY := hbX.trans hb2)
                    | (go_at_call 21; (with_reducible refine Calls.mono (C3.out _ hbY) ?_); rintro e W3 ⟨rfl, hb3⟩; have hc3 := hb3.cells; have hz3 := hb3.size; have hbZ := hbY.trans hb3)
                    | (go_at_call 34; (with_reducible refine Calls.mono (C4.out _) ?_); rintro e W4 ⟨rfl, hb4⟩; have hbE := hbZ.trans hb4))
                  go_ret
                  exact ⟨rfl, hbE⟩
                · obtain rfl : R = false := by have := hR.out; simpa [h2] using this
                  clear hR hU
                  go_enter Tryz.func13, Tryz.ntmps13
                  go_wp2_with (first
                    | (go_at_call 11; (with_reducible refine Calls.mono (C1.out _ (((Bel.refl w).alloc _).alloc _)) ?_); rintro e W1 ⟨rfl, hb1⟩; have hc1 := hb1.cells; have hz1 := hb1.lt2; have hbX := (((Bel.refl w).alloc _).alloc _).trans hb1)
                    | (go_at_call 33; (with_reducible refine Calls.mono (C2.out _) ?_); rintro e W2 ⟨rfl, hb2⟩; have hc2 := hb2.cells; have g0 : w.heap.size < W2.heap.size := (by have := hb1.lt2.1; have := hb2.size; omega); have g1 : w.heap.size + 1 < W2.heap.size := (by have := hb1.lt2.2; have := hb2.size; omega); have hz2 := hb2.size; have hbY := hbX.trans hb2)
                    | (go_at_call 21; (with_reducible refine Calls.mono (C3.out _ hbY) ?_); rintro e W3 ⟨rfl, hb3⟩; have hc3 := hb3.cells; have hz3 := hb3.size; have hbZ := hbY.trans hb3)
                    | (go_at_call 34; (with_reducible refine Calls.mono (C4.out _) ?_); rintro e W4 ⟨rfl, hb4⟩; have hbE := hbZ.trans hb4))
                  go_ret
                  exact ⟨rfl, hbE⟩
            · have e1 : (v0 == 1) = false := by simp [h1]
              obtain rfl : R = true := by have := hR.out; simpa [h0, h1] using this
              clear hR C4 hU
              go_enter Tryz.func13, Tryz.ntmps13
              go_wp2_with (first
                | (go_at_call 11; (with_reducible refine Calls.mono (C1.out _ (((Bel.refl w).alloc _).alloc _)) ?_); rintro e W1 ⟨rfl, hb1⟩; have hc1 := hb1.cells; have hz1 := hb1.lt2; have hbX := (((Bel.refl w).alloc _).alloc _).trans hb1)
                | (go_at_call 33; (with_reducible refine Calls.mono (C2.out _) ?_); rintro e W2 ⟨rfl, hb2⟩; have hc2 := hb2.cells; have g0 : w.heap.size < W2.heap.size := (by have := hb1.lt2.1; have := hb2.size; omega); have g1 : w.heap.size + 1 < W2.heap.size := (by have := hb1.lt2.2; have := hb2.size; omega); have hz2 := hb2.size; have hbY := hbX.trans hb2)
                | (go_at_call 21; (with_reducible refine Calls.mono (C3.out _ hbY) ?_); rintro e W3 ⟨rfl, hb3⟩; have hc3 := hb3.cells; have hz3 := hb3.size; have hbZ := hbY.trans hb3))
              go_ret
              exact ⟨rfl, hbZ⟩
        · have ek : (v0 == k) = false := by simp [hk]
          obtain rfl : R = false := by have := hR.out; simpa [h0, hk] using this
          clear hR C3 C4 hU
          go_enter Tryz.func13, Tryz.ntmps13
          go_wp2_with (first
            | (go_at_call 11; (with_reducible refine Calls.mono (C1.out _ (((Bel.refl w).alloc _).alloc _)) ?_); rintro e W1 ⟨rfl, hb1⟩; have hc1 := hb1.cells; have hz1 := hb1.lt2; have hbX := (((Bel.refl w).alloc _).alloc _).trans hb1)
            | (go_at_call 33; (with_reducible refine Calls.mono (C2.out _) ?_); rintro e W2 ⟨rfl, hb2⟩; have hc2 := hb2.cells; have g0 : w.heap.size < W2.heap.size := (by have := hb1.lt2.1; have := hb2.size; omega); have g1 : w.heap.size + 1 < W2.heap.size := (by have := hb1.lt2.2; have := hb2.size; omega); have hz2 := hb2.size; have hbY := hbX.trans hb2))
          go_ret
          exact ⟨rfl, hbY⟩
end
section
open Go.ChangeShapes Go.WideShapes Go.ChangeAt Go.RowKit Go.Deep
set_option maxRecDepth 100000
/-- A slice of cells reads as a list. -/
def Lists {D : Type} (enc : D → List Value) (k : Nat) (w : World) (A : Option Addr) (l : List D) : Prop :=
  0 < l.length → ∃ b off, A = some ⟨b, off, none⟩ ∧ b < w.heap.size ∧ ∀ i d, l[i]? = some d → ∀ j v, (enc d)[j]? = some v → w.cell? ⟨b, off + i * k + j, none⟩ = some v
theorem Lists.keep {D : Type} {enc : D → List Value} {k : Nat} {w w' : World} {A : Option Addr} {l : List D} (h : Lists enc k w A l) (hb : Bel w w') : Lists enc k w' A l := fun h0 => by
  obtain ⟨b, off, hA, hlt, hc⟩ := h h0
  exact ⟨b, off, hA, Nat.lt_of_lt_of_le hlt hb.size, fun i d hd j v hv => by rw [hb.cells _ _ hlt]; exact hc i d hd j v hv⟩
end
section
open Go.ChangeShapes Go.WideShapes Go.ChangeAt Go.RowKit Go.Deep
set_option maxRecDepth 100000
variable {H : Type} {enc : TypeId × Value → H} {w : World} {base : Nat} {spare : Nat → Bool} {held : Bool} {fuel : Nat}
theorem open_list {D : Type} (dflt : D) (en : D → List Value) (k : Nat) (good : D → Prop) {t e : TypeId} (ht : Tryz.prog.underlying t = some (.slice e)) (hk : Tryz.prog.cellsOf e = k) (hk0 : 0 < k) (hen : ∀ d, (en d).length = k)
    (op : ∀ {cs : List Value} {x : DataW H × List MemPlace} {fuel : Nat}, DataW.trod enc Tryz.prog w base spare held fuel e cs = some x → ∃ d, cs = en d ∧ good d)
    {cs : List Value} {x : DataW H × List MemPlace} (h : DataW.trod enc Tryz.prog w base spare held fuel t cs = some x) :
    ∃ (A : Option Addr) (c : Nat) (l : List D), cs = [.slice A l.length c] ∧ Lists en k w A l ∧ l.length ≤ maxLen ∧ (A = none → c = 0 ∧ l = []) ∧ ∀ d ∈ l, good d := by
  rcases open_slice ht h with ⟨hcs, _⟩ | ⟨ad, len, cap, m, n', E, Pl, hcs, _, hl, hm, hmm, hx, hi⟩
  · exact ⟨none, 0, [], hcs, fun h => absurd h (by simp), by simp, fun _ => ⟨rfl, rfl⟩, by simp⟩
  · have hlm : len ≤ m := by rw [hmm]; split <;> omega
    obtain ⟨b, off, spot⟩ := ad
    have key : ∀ i : Nat, ∃ d : D, i < len → spot = none ∧ b < w.heap.size ∧ (∀ j v, (en d)[j]? = some v → w.cell? ⟨b, off + i * k + j, none⟩ = some v) ∧ good d := by
      intro i
      by_cases hlt : i < len
      · obtain ⟨cs', hc, hd⟩ := hi i (by omega)
        rw [hk] at hc
        obtain ⟨d, rfl, hok⟩ := op hd
        obtain ⟨_, _, hat⟩ := World.cells?_some hc
        obtain ⟨cs0, hc0, hd0⟩ := hi 0 (by omega)
        rw [hk] at hc0
        obtain ⟨d0, rfl, _⟩ := op hd0
        have h00 := (World.cells?_some hc0).2.2 0 hk0
        simp only [Nat.zero_mul, Addr.add, if_true] at h00
        rw [List.getElem?_eq_getElem (by rw [hen]; exact hk0)] at h00
        have hspot : spot = none := by simpa using World.cell?_spot h00
        subst hspot
        have hblk := World.block_lt_of_cell? _ _ h00
        refine ⟨d, fun _ => ⟨rfl, hblk, fun j v hv => ?_, hok⟩⟩
        have hj : j < k := by
          have := (List.getElem?_eq_some_iff.1 hv).1
          rwa [hen] at this
        have a := hat j hj
        rw [hv] at a
        simp only [Go.WideShapes.add_plain] at a
        exact a
      · exact ⟨dflt, fun h => absurd h hlt⟩
    let V : Nat → D := fun i => Classical.choose (key i)
    have hV : ∀ i, i < len → spot = none ∧ b < w.heap.size ∧ (∀ j v, (en (V i))[j]? = some v → w.cell? ⟨b, off + i * k + j, none⟩ = some v) ∧ good (V i) := fun i => Classical.choose_spec (key i)
    have hlen : ((List.range len).map V).length = len := by simp
    refine ⟨some ⟨b, off, spot⟩, cap, (List.range len).map V, by rw [hlen]; exact hcs, fun h0 => ?_, by rw [hlen]; omega, fun h => by (cases h), fun x hx => ?_⟩
    · rw [hlen] at h0
      obtain ⟨rfl, hb0, _⟩ := hV 0 h0
      refine ⟨b, off, rfl, hb0, fun i d hd => ?_⟩
      rw [List.getElem?_map] at hd
      by_cases hlt : i < len
      · rw [List.getElem?_range hlt] at hd
        simp only [Option.map_some, Option.some.injEq] at hd
        subst hd
        exact (hV i hlt).2.2.1
      · rw [List.getElem?_eq_none (by simpa using hlt)] at hd
        cases hd
    · rw [List.mem_map] at hx
      obtain ⟨i, hi', rfl⟩ := hx
      exact (hV i (List.mem_range.1 hi')).2.2.2
end
section
open Go.ChangeShapes Go.WideShapes Go.ChangeAt Go.RowKit Go.Deep
set_option maxRecDepth 100000
theorem Lists.tsts {w : World} {A : Option Addr} {l : List Tst} (h : Lists encT 13 w A l) : Tsts w A l := fun h0 => by
  obtain ⟨b, off, hA, hlt, hc⟩ := h h0
  exact ⟨b, off, hA, hlt, fun i t ht => ⟨hc i t ht 0 _ rfl, hc i t ht 1 _ rfl, hc i t ht 2 _ rfl, hc i t ht 3 _ rfl, hc i t ht 4 _ rfl, hc i t ht 5 _ rfl, hc i t ht 6 _ rfl, hc i t ht 7 _ rfl, hc i t ht 8 _ rfl, hc i t ht 9 _ rfl, hc i t ht 10 _ rfl, hc i t ht 11 _ rfl, hc i t ht 12 _ rfl⟩⟩
/-- A cell. -/
structure Cel where
  any : Bool
  not : Bool
  A : Option Addr
  c : Nat
  l : List Tst
instance : Inhabited Cel := ⟨⟨false, false, none, 0, []⟩⟩
abbrev Cel.val (x : Cel) : Value := .agg #[.bool x.any, .bool x.not, .slice x.A x.l.length x.c]
def encC (x : Cel) : List Value := [.bool x.any, .bool x.not, .slice x.A x.l.length x.c]
structure CelOk (w : World) (x : Cel) : Prop where
  tsts : Tsts w x.A x.l
  len : x.l.length ≤ maxLen
  nil : x.A = none → x.c = 0 ∧ x.l = []
  ok : ∀ t ∈ x.l, t.Ok
theorem CelOk.keep {w w' : World} {x : Cel} (h : CelOk w x) (hb : Bel w w') : CelOk w' x := ⟨h.tsts.keep hb, h.len, h.nil, h.ok⟩
theorem cellsC : Tryz.prog.cellsOf 24 = 3 := by kernel_rfl
theorem cellsL : Tryz.prog.cellsOf 22 = 1 := by kernel_rfl
end
section
open Go.ChangeShapes Go.WideShapes Go.ChangeAt Go.RowKit Go.Deep
set_option maxRecDepth 100000
variable {H : Type} {enc : TypeId × Value → H} {w : World} {base : Nat} {spare : Nat → Bool} {held : Bool} {fuel : Nat}
theorem trod_tsts {cs : List Value} {x : DataW H × List MemPlace} (h : DataW.trod enc Tryz.prog w base spare held fuel 22 cs = some x) :
    ∃ (A : Option Addr) (c : Nat) (l : List Tst), cs = [.slice A l.length c] ∧ Tsts w A l ∧ l.length ≤ maxLen ∧ (A = none → c = 0 ∧ l = []) ∧ ∀ t ∈ l, t.Ok := by
  obtain ⟨A, c, l, h1, h2, h3, h4, h5⟩ := open_list default encT 13 Tst.Ok Tryz.underlying22 cellsT (by omega) (fun _ => rfl) (fun h => by
    obtain ⟨t, ht, hok⟩ := trod_test h
    exact ⟨t, ht, hok⟩) h
  exact ⟨A, c, l, h1, h2.tsts, h3, h4, h5⟩
theorem trod_cel {cs : List Value} {x : DataW H × List MemPlace} (h : DataW.trod enc Tryz.prog w base spare held fuel 24 cs = some x) :
    ∃ y : Cel, cs = encC y ∧ CelOk w y := by
  obtain ⟨xs, m, _, _, hl, hxs, hf⟩ := DataW.trod_struct (fs := Tryz.prog.fieldsOf 24) (by kernel_rfl) h
  have hz : (Tryz.prog.fieldsOf 24).size = 3 := by kernel_rfl
  rw [cellsC] at hl
  rw [hz] at hxs
  match cs, hl, xs, hxs with
  | [c0, c1, c2], _, [x0, x1, x2], _ =>
    obtain ⟨f0, g0, t0, o0⟩ := field_at (fs := Tryz.prog.fieldsOf 24) (i := 0) (t := 4) (o := 0) (by kernel_rfl)
    obtain ⟨f1, g1, t1, o1⟩ := field_at (fs := Tryz.prog.fieldsOf 24) (i := 1) (t := 4) (o := 1) (by kernel_rfl)
    obtain ⟨f2, g2, t2, o2⟩ := field_at (fs := Tryz.prog.fieldsOf 24) (i := 2) (t := 22) (o := 2) (by kernel_rfl)
    have e0 := hf 0 f0 g0
    have e1 := hf 1 f1 g1
    have e2 := hf 2 f2 g2
    rw [t0, o0, cellsB] at e0
    rw [t1, o1, cellsB] at e1
    rw [t2, o2, cellsL] at e2
    obtain ⟨n0, k0, _⟩ := DataW.trod_bool Tryz.underlying4 e0
    obtain ⟨n1, k1, _⟩ := DataW.trod_bool Tryz.underlying4 e1
    obtain ⟨A, c, l, k2, p1, p2, p3, p4⟩ := trod_tsts e2
    simp at k0 k1 k2
    subst k0 k1 k2
    exact ⟨⟨n0, n1, A, c, l⟩, rfl, p1, p2, p3, p4⟩
/-- A type, as data. -/
structure Typ where
  kind : Int
  sc : Int
  cel : Cel
def encY (y : Typ) : List Value := [.int .i64 y.kind, .int .i64 y.sc] ++ encC y.cel
abbrev Typ.val (y : Typ) : Value := .agg #[.int .i64 y.kind, .int .i64 y.sc, .bool y.cel.any, .bool y.cel.not, .slice y.cel.A y.cel.l.length y.cel.c]
theorem cellsY : Tryz.prog.cellsOf 26 = 5 := by kernel_rfl
theorem trod_typ {cs : List Value} {x : DataW H × List MemPlace} (h : DataW.trod enc Tryz.prog w base spare held fuel 26 cs = some x) :
    ∃ y : Typ, cs = encY y ∧ CelOk w y.cel := by
  obtain ⟨xs, m, _, _, hl, hxs, hf⟩ := DataW.trod_struct (fs := Tryz.prog.fieldsOf 26) (by kernel_rfl) h
  have hz : (Tryz.prog.fieldsOf 26).size = 3 := by kernel_rfl
  rw [cellsY] at hl
  rw [hz] at hxs
  match cs, hl, xs, hxs with
  | [c0, c1, c2, c3, c4], _, [x0, x1, x2], _ =>
    obtain ⟨f0, g0, t0, o0⟩ := field_at (fs := Tryz.prog.fieldsOf 26) (i := 0) (t := 3) (o := 0) (by kernel_rfl)
    obtain ⟨f1, g1, t1, o1⟩ := field_at (fs := Tryz.prog.fieldsOf 26) (i := 1) (t := 3) (o := 1) (by kernel_rfl)
    obtain ⟨f2, g2, t2, o2⟩ := field_at (fs := Tryz.prog.fieldsOf 26) (i := 2) (t := 24) (o := 2) (by kernel_rfl)
    have e0 := hf 0 f0 g0
    have e1 := hf 1 f1 g1
    have e2 := hf 2 f2 g2
    rw [t0, o0, cells3] at e0
    rw [t1, o1, cells3] at e1
    rw [t2, o2, cellsC] at e2
    obtain ⟨n0, k0, _⟩ := DataW.trod_int Tryz.underlying3 e0
    obtain ⟨n1, k1, _⟩ := DataW.trod_int Tryz.underlying3 e1
    obtain ⟨y, k2, p1⟩ := trod_cel e2
    simp [encC] at k0 k1 k2
    obtain ⟨k2, k3, k4⟩ := k2
    subst k0 k1 k2 k3 k4
    exact ⟨⟨n0, n1, y⟩, rfl, p1⟩
theorem open_typ {r : Reach} {v : Value} {d : DataW H} {p : List MemPlace} (hv : Value.okWide Tryz.prog w r base 26 v) (h : DataW.Trod enc Tryz.prog w 0 spare held 26 v d p) : ∃ x : Typ, v = x.val ∧ CelOk w x.cel := by
  obtain ⟨cs, rfl, hsz⟩ := okWide_struct (fs := Tryz.prog.fieldsOf 26) (by kernel_rfl) hv
  obtain ⟨n, hn⟩ := h
  obtain ⟨x, hx, hok⟩ := trod_typ hn
  refine ⟨x, ?_, hok⟩
  simp only [Value.cells] at hx
  obtain ⟨l⟩ := cs
  simp only [encY, encC, List.cons_append, List.nil_append] at hx
  rw [hx]
end
section
open Go.RowKit Go.Lib Go.Deep
theorem own_setT {w : World} {B : Nat} {v : Value} {l : List ByteArray} {p : Addr} (h : OwnT w B v l) (hp : p.block < B) (x : Value) : OwnT (w.setCell p x) B v l := by
  obtain ⟨hl, h2⟩ := h
  refine ⟨hl, ?_⟩
  rcases h2 with h2 | ⟨g, cap, cur, e1, e2, e3, h4⟩
  · exact .inl h2
  · exact .inr ⟨g, cap, cur, e1, e2, by rw [blk_setCell_other _ _ _ _ (by omega)]; exact e3, h4⟩
def txk (l : List Tst) : List ByteArray := (l.filter fun t => decide (t.low.kind = 2)).map fun t => t.low.text
theorem txk_snoc (l : List Tst) (t : Tst) : txk (l ++ [t]) = if t.low.kind = 2 then txk l ++ [t.low.text] else txk l := by
  unfold txk
  rw [List.filter_append, List.map_append]
  by_cases h : t.low.kind = 2
  · rw [if_pos h]; simp [h]
  · rw [if_neg h]; simp [h]
theorem txk_len (l : List Tst) : (txk l).length ≤ l.length := by
  unfold txk
  rw [List.length_map]
  exact List.length_filter_le _ _
theorem txk_fits {l : List Tst} (h : ∀ t ∈ l, TOk t) : ∀ s ∈ txk l, Fits s := by
  intro s hs
  unfold txk at hs
  rw [List.mem_map] at hs
  obtain ⟨t, ht, rfl⟩ := hs
  exact (h t (List.mem_filter.1 ht).1).1
theorem But.grown {W X Y : World} {B : Nat} {row : Option Nat} (h : But W X B) (hg : X.grownBy Y row) (hr : ∀ q, row = some q → W.heap.size ≤ q) : But W Y B := by
  refine ⟨Nat.le_trans h.1 hg.size, fun b o h1 h2 => ?_, fun b o h1 => ?_⟩
  · rw [← h.2.1 b o h1 h2]
    exact World.cell?_of_block (hg.block b (Nat.lt_of_lt_of_le h1 h.1) (fun e => by have := hr b e.symm; omega))
  · rw [← h.2.2 b o h1]
    exact World.frozen?_of_block (hg.block b (Nat.lt_of_lt_of_le h1 h.1) (fun e => by have := hr b e.symm; omega))
theorem app_ownT {w : World} {B : Nat} {v : Value} {xs : List ByteArray} (h : OwnT w B v xs) (x : ByteArray) (hB : B ≤ w.heap.size) (hlen : xs.length ≤ 100000) (ty : TypeId) :
    ∃ v' w', (Builtin.append_ #[35, 35] ty #[v, .slice (some ⟨w.heap.size, 0, none⟩) 1 1]).run Tryz.prog (w.alloc (.cells #[.string x] 9)) = .ok v' w' ∧ (OwnT w' B v' (xs ++ [x]) ∧ (w.alloc (.cells #[.string x] 9)).grownBy w' v.ownBlock) := by
  obtain ⟨i0, hi, hz0, hz1, hz2⟩ := infoT'
  have ho : (w.alloc (.cells #[.string x] 9)).ownsRow B 9 1 v xs.length (strs xs) := own_keep h ((Bel.refl w).alloc _)
  obtain ⟨v', w', hr, h1, h2, h3⟩ := run_app (P := Tryz.prog) _ B 35 ty 9 i0 _ 1 16 Tryz.underlying35 hi hz0 hz1 hz2 rfl (by omega) ho (m := 1) (c := 1) (news := strs [x]) (strs_lit [x] rfl) rfl (by simp) (strs_one [x]) (by simp only [maxLen]; omega) (by omega) (by simp; omega)
  refine ⟨v', w', hr, ?_, h2⟩
  unfold OwnT
  rw [List.length_append]
  simpa [strs] using h1
theorem ord_empty0 {r : List Sp} (h : Ord r) (hm : ∀ n, SMem r n ↔ SMem [] n) : r = [] := by
  have : ∀ n, ¬ SMem r n := fun n hn => by
    obtain ⟨s, hs, _⟩ := (hm n).1 hn
    cases hs
  exact List.eq_nil_of_length_eq_zero ((ord_none h).2 this)
def b0k (l : List Tst) : Bool := l.any fun t => decide (t.low.kind = 3) && decide (t.low.num = 0)
def b1k (l : List Tst) : Bool := l.any fun t => decide (t.low.kind = 3) && !decide (t.low.num = 0)
def bitsOf (x y : Bool) : Int := (if x then 1 else 0) + (if y then 2 else 0)
def bok (l : List Tst) : Int := bitsOf (b0k l) (b1k l)
theorem or_bits (x y : Bool) (v : Val) (hv : v.num = 0 ∨ v.num = 1) : bits BinOp.or IntKind.i64 (bitsOf x y) (bitV v) = bitsOf (x || decide (v.num = 0)) (y || !decide (v.num = 0)) := by
  unfold bitV
  rcases hv with h | h
  · rw [h]; cases x <;> cases y <;> decide +kernel
  · rw [h]; cases x <;> cases y <;> decide +kernel
theorem bok_snoc (l : List Tst) (t : Tst) (ht : t.low.kind = 3 → t.low.num = 0 ∨ t.low.num = 1) : bok (l ++ [t]) = if t.low.kind = 3 then bits BinOp.or IntKind.i64 (bok l) (bitV t.low) else bok l := by
  unfold bok
  have e0 : b0k (l ++ [t]) = (b0k l || (decide (t.low.kind = 3) && decide (t.low.num = 0))) := by simp [b0k]
  have e1 : b1k (l ++ [t]) = (b1k l || (decide (t.low.kind = 3) && !decide (t.low.num = 0))) := by simp [b1k]
  rw [e0, e1]
  by_cases h : t.low.kind = 3
  · rw [if_pos h, or_bits _ _ _ (ht h), decide_eq_true h]; simp
  · rw [if_neg h, decide_eq_false h]; simp
theorem tsnd_num {t : Tst} (h : tsnd t = true) (hk : t.low.kind = 3) : t.low.num = 0 ∨ t.low.num = 1 := by
  have hv := tsnd_low h
  unfold vsnd at hv
  rw [if_neg (by omega), if_neg (by omega), if_neg (by omega), if_pos hk, Bool.and_eq_true, Bool.or_eq_true, decide_eq_true_eq, decide_eq_true_eq] at hv
  exact hv.2
set_option maxRecDepth 100000 in
set_option maxHeartbeats 8000000 in
theorem withoutS2_any (asp : List Sp) (aal : Bool) (aws : List ByteArray) (abo : Int) (anu : Bool) (bsp : List Sp) (bal : Bool) (bws : List ByteArray) (bbo : Int) (bnu : Bool) (aA : Option Addr) (ac : Nat) (aA2 : Option Addr) (ac2 : Nat) (bA : Option Addr) (bc : Nat) (bA2 : Option Addr) (bc2 : Nat) (w : World) (ha : Strs w aA2 aws) (hb0 : Strs w bA2 bws) (hA : aA2 = none → ac2 = 0) (hA2 : bA2 = none → bc2 = 0)
    (hn : aws.length * 16 ≤ 70368744177664) (hn2 : bws.length * 16 ≤ 70368744177664) (hs : ∀ s ∈ aws, Fits s) (hs2 : ∀ s ∈ bws, Fits s) :
    Calls Tryz.prog 49 #[(⟨2, asp, aal, aws, abo, anu⟩ : St).val aA ac aA2 ac2, (⟨2, bsp, bal, bws, bbo, bnu⟩ : St).val bA bc bA2 bc2] w (SetOut w ⟨2, [], aal && !bal, meetl aal aws (!bal) (keptl okw bws), 0, anu && !bnu⟩) := by
  have C1 := Lib.hid fun W (hW : Bel w W) => other_any bal bws bA2 bc2 W (hb0.keep hW) (by omega) hs2
  have hkl := keptl_len okw bws
  have C2 := Lib.hid fun W (hW : Bel w W) A' c' (h1 : Strs W A' (keptl okw bws)) (h2 : A' = none → c' = 0) => wmeet_any aal aws aA2 ac2 (!bal) (keptl okw bws) A' c' W (ha.keep hW) h1 hA h2 (by omega) (by omega) (fun _ _ => by omega) hs (fun s h => hs2 s ((keptl_mem _ _ _).1 h).1)
  unfold wset at C1 C2
  generalize keptl okw bws = ks at C1 C2 hkl ⊢
  generalize meetl aal aws (!bal) ks = r at C2 ⊢
  clear ha hb0 hA hA2 hn hn2 hs hs2 hkl
  rcases Bool.eq_false_or_eq_true anu with hnu | hnu
  all_goals
    go_enter Tryz.func49, Tryz.ntmps49
    go_upto_region 2 with fail
    refine under_name (w0 := w) (by (repeat (first | with_reducible exact Bel.refl _ | with_reducible refine Bel.setCell ?_ (by first | exact Nat.le_refl _ | (dsimp only; omega)) _ | with_reducible refine Bel.alloc ?_ _ | with_reducible refine Bel.drew ?_ | with_reducible assumption | with_reducible refine Bel.trans ?_ (by assumption)))) fun W hc hf hz hb => ?_
    have a0 : W.cell? ⟨w.heap.size, 0, none⟩ = some (.int .i64 2) := by simp [hc, go_sem, hnu]
    have a1 : W.cell? ⟨w.heap.size, 1, none⟩ = some (.slice aA asp.length ac) := by simp [hc, go_sem, hnu]
    have a2 : W.cell? ⟨w.heap.size, 2, none⟩ = some (.bool aal) := by simp [hc, go_sem, hnu]
    have a3 : W.cell? ⟨w.heap.size, 3, none⟩ = some (.slice aA2 aws.length ac2) := by simp [hc, go_sem, hnu]
    have a4 : W.cell? ⟨w.heap.size, 4, none⟩ = some (.int .i64 abo) := by simp [hc, go_sem, hnu]
    have a5 : W.cell? ⟨w.heap.size, 5, none⟩ = some (.bool anu) := by simp [hc, go_sem, hnu]
    have b0 : W.cell? ⟨w.heap.size + 1, 0, none⟩ = some (.int .i64 2) := by simp [hc, go_sem, hnu]
    have b1 : W.cell? ⟨w.heap.size + 1, 1, none⟩ = some (.slice bA bsp.length bc) := by simp [hc, go_sem, hnu]
    have b2 : W.cell? ⟨w.heap.size + 1, 2, none⟩ = some (.bool bal) := by simp [hc, go_sem, hnu]
    have b3 : W.cell? ⟨w.heap.size + 1, 3, none⟩ = some (.slice bA2 bws.length bc2) := by simp [hc, go_sem, hnu]
    have b4 : W.cell? ⟨w.heap.size + 1, 4, none⟩ = some (.int .i64 bbo) := by simp [hc, go_sem, hnu]
    have b5 : W.cell? ⟨w.heap.size + 1, 5, none⟩ = some (.bool bnu) := by simp [hc, go_sem, hnu]
    have r0 : W.cell? ⟨w.heap.size + 2, 0, none⟩ = some (.int .i64 0) := by simp [hc, go_sem]
    have r1 : W.cell? ⟨w.heap.size + 2, 1, none⟩ = some (.slice none 0 0) := by simp [hc, go_sem]
    have r2 : W.cell? ⟨w.heap.size + 2, 2, none⟩ = some (.bool false) := by simp [hc, go_sem]
    have r3 : W.cell? ⟨w.heap.size + 2, 3, none⟩ = some (.slice none 0 0) := by simp [hc, go_sem]
    have r4 : W.cell? ⟨w.heap.size + 2, 4, none⟩ = some (.int .i64 0) := by simp [hc, go_sem]
    have r5 : W.cell? ⟨w.heap.size + 2, 5, none⟩ = some (.bool false) := by simp [hc, go_sem]
    have rf0 : W.frozen? ⟨w.heap.size + 2, 0, none⟩ = false := by simp [hf, go_sem]
    have rf1 : W.frozen? ⟨w.heap.size + 2, 1, none⟩ = false := by simp [hf, go_sem]
    have rf2 : W.frozen? ⟨w.heap.size + 2, 2, none⟩ = false := by simp [hf, go_sem]
    have rf3 : W.frozen? ⟨w.heap.size + 2, 3, none⟩ = false := by simp [hf, go_sem]
    have rf4 : W.frozen? ⟨w.heap.size + 2, 4, none⟩ = false := by simp [hf, go_sem]
    have rf5 : W.frozen? ⟨w.heap.size + 2, 5, none⟩ = false := by simp [hf, go_sem]
    have m0 : W.cell? ⟨w.heap.size + 3, 0, none⟩ = some (.int .i64 2) := by simp [hc, go_sem, hnu]
    have m1 : W.cell? ⟨w.heap.size + 3, 1, none⟩ = some (.slice none 0 0) := by simp [hc, go_sem, hnu]
    have m2 : W.cell? ⟨w.heap.size + 3, 2, none⟩ = some (.bool false) := by simp [hc, go_sem, hnu]
    have m3 : W.cell? ⟨w.heap.size + 3, 3, none⟩ = some (.slice none 0 0) := by simp [hc, go_sem, hnu]
    have m4 : W.cell? ⟨w.heap.size + 3, 4, none⟩ = some (.int .i64 0) := by simp [hc, go_sem, hnu]
    have m5 : W.cell? ⟨w.heap.size + 3, 5, none⟩ = some (.bool (anu && !bnu)) := by simp [hc, go_sem, hnu]
    have mf0 : W.frozen? ⟨w.heap.size + 3, 0, none⟩ = false := by simp [hf, go_sem, hnu]
    have mf1 : W.frozen? ⟨w.heap.size + 3, 1, none⟩ = false := by simp [hf, go_sem, hnu]
    have mf2 : W.frozen? ⟨w.heap.size + 3, 2, none⟩ = false := by simp [hf, go_sem, hnu]
    have mf3 : W.frozen? ⟨w.heap.size + 3, 3, none⟩ = false := by simp [hf, go_sem, hnu]
    have mf4 : W.frozen? ⟨w.heap.size + 3, 4, none⟩ = false := by simp [hf, go_sem, hnu]
    have mf5 : W.frozen? ⟨w.heap.size + 3, 5, none⟩ = false := by simp [hf, go_sem, hnu]
    have z0 : w.heap.size + 4 ≤ W.heap.size := by simp [hz]
    clear hc hf hz
    go_upto_region 7 with fail
    refine wp_region_noPanic ?_
    refine wp_region_held (S := fun Y => Y.cell? ⟨w.heap.size, 2, none⟩ = some (.bool aal) ∧ Y.cell? ⟨w.heap.size, 3, none⟩ = some (.slice aA2 aws.length ac2) ∧ Y.cell? ⟨w.heap.size + 1, 2, none⟩ = some (.bool bal) ∧ Y.cell? ⟨w.heap.size + 1, 3, none⟩ = some (.slice bA2 bws.length bc2)) (by kernel_rfl) ?_
    have hX0 : Bel W { W with drawn := W.drawn + 1 } := (Bel.refl W).drew
    generalize { W with drawn := W.drawn + 1 } = X0 at hX0 ⊢
    have hb0 := hb.trans hX0
    replace a2 := (hX0.cells _ _ (by omega)).trans a2
    replace a3 := (hX0.cells _ _ (by omega)).trans a3
    replace b2 := (hX0.cells _ _ (by omega)).trans b2
    replace b3 := (hX0.cells _ _ (by omega)).trans b3
    replace r0 := (hX0.cells _ _ (by omega)).trans r0; replace r1 := (hX0.cells _ _ (by omega)).trans r1; replace r2 := (hX0.cells _ _ (by omega)).trans r2; replace r3 := (hX0.cells _ _ (by omega)).trans r3; replace r4 := (hX0.cells _ _ (by omega)).trans r4; replace r5 := (hX0.cells _ _ (by omega)).trans r5; replace rf0 := (hX0.frozens _ _ (by omega)).trans rf0; replace rf1 := (hX0.frozens _ _ (by omega)).trans rf1; replace rf2 := (hX0.frozens _ _ (by omega)).trans rf2; replace rf3 := (hX0.frozens _ _ (by omega)).trans rf3; replace rf4 := (hX0.frozens _ _ (by omega)).trans rf4; replace rf5 := (hX0.frozens _ _ (by omega)).trans rf5
    replace m0 := (hX0.cells _ _ (by omega)).trans m0; replace m1 := (hX0.cells _ _ (by omega)).trans m1; replace m2 := (hX0.cells _ _ (by omega)).trans m2; replace m3 := (hX0.cells _ _ (by omega)).trans m3; replace m4 := (hX0.cells _ _ (by omega)).trans m4; replace m5 := (hX0.cells _ _ (by omega)).trans m5; replace mf0 := (hX0.frozens _ _ (by omega)).trans mf0; replace mf1 := (hX0.frozens _ _ (by omega)).trans mf1; replace mf2 := (hX0.frozens _ _ (by omega)).trans mf2; replace mf3 := (hX0.frozens _ _ (by omega)).trans mf3; replace mf4 := (hX0.frozens _ _ (by omega)).trans mf4; replace mf5 := (hX0.frozens _ _ (by omega)).trans mf5
    have zX0 : w.heap.size + 4 ≤ _ := Nat.le_trans z0 hX0.size
    refine wpAnyH_take (i := 0) (oi := { dst := some 29, op := Op.fieldAddr 39 (Operand.tmp 2) 2, type := 0, pos := "kinds.go:78", after := #[], guard := none }) (v := .pointer (some ⟨w.heap.size, 2, none⟩)) rfl (by kernel_rfl) (by kernel_rfl) (by kernel_rfl) (fun _ _ _ h => h) (.inl ⟨by rfl, fun Y hS => by
          obtain ⟨k1, k2, k3, k4⟩ := hS
          go_simp; first | done | with_reducible rfl | rfl⟩) ⟨a2, a3, b2, b3⟩ ?_
    (try simp only [Act.put, List.setIfInBounds_toArray, List.set_cons_zero, List.set_cons_succ])
    refine wpAnyH_take (i := 1) (oi := { dst := some 30, op := Op.load 37 (Operand.tmp 29), type := 37, pos := "kinds.go:78", after := #[{ on := 0, ground := Ground.data }], guard := none }) (v := .agg #[.bool aal, .slice aA2 aws.length ac2]) rfl (by kernel_rfl) (by kernel_rfl) (by kernel_rfl) (fun _ _ _ h => h) (.inl ⟨by rfl, fun Y hS => by
          obtain ⟨k1, k2, k3, k4⟩ := hS
          go_simp; first | done | with_reducible rfl | rfl⟩) ⟨a2, a3, b2, b3⟩ ?_
    (try simp only [Act.put, List.setIfInBounds_toArray, List.set_cons_zero, List.set_cons_succ])
    refine wpAnyH_take (i := 2) (oi := { dst := some 31, op := Op.fieldAddr 39 (Operand.tmp 3) 2, type := 0, pos := "kinds.go:78", after := #[], guard := none }) (v := .pointer (some ⟨w.heap.size + 1, 2, none⟩)) rfl (by kernel_rfl) (by kernel_rfl) (by kernel_rfl) (fun _ _ _ h => h) (.inl ⟨by rfl, fun Y hS => by
          obtain ⟨k1, k2, k3, k4⟩ := hS
          go_simp; first | done | with_reducible rfl | rfl⟩) ⟨a2, a3, b2, b3⟩ ?_
    (try simp only [Act.put, List.setIfInBounds_toArray, List.set_cons_zero, List.set_cons_succ])
    refine wpAnyH_take (i := 3) (oi := { dst := some 32, op := Op.load 37 (Operand.tmp 31), type := 37, pos := "kinds.go:78", after := #[{ on := 2, ground := Ground.data }], guard := none }) (v := .agg #[.bool bal, .slice bA2 bws.length bc2]) rfl (by kernel_rfl) (by kernel_rfl) (by kernel_rfl) (fun _ _ _ h => h) (.inl ⟨by rfl, fun Y hS => by
          obtain ⟨k1, k2, k3, k4⟩ := hS
          go_simp; first | done | with_reducible rfl | rfl⟩) ⟨a2, a3, b2, b3⟩ ?_
    (try simp only [Act.put, List.setIfInBounds_toArray, List.set_cons_zero, List.set_cons_succ])
    refine wpAnyH_all (rs := [4]) (by kernel_rfl) (by simp) ?_
    intro i hi
    simp only [List.mem_cons, List.not_mem_nil, or_false] at hi
    subst hi
    refine wpOp_enter (o := { dst := some 33, op := Op.call { callee := Callee.value (Operand.func 82), args := #[Operand.tmp 32], argTypes := #[37] }, type := 37, pos := "kinds.go:78", after := #[{ on := 3, ground := Ground.data }], guard := none }) (R := fun v w' => ∃ A' c', v = .agg #[.bool !bal, .slice A' ks.length c'] ∧ StP X0.heap.size w' A' c' ks ∧ Bel X0 w') rfl (by rfl) (by go_simp; first | done | with_reducible rfl | rfl) ((C1.out X0 hb0).mono fun e w' ⟨A', c', h1, h2, h3, h4, h5⟩ => ⟨_, h1, A', c', rfl, StP.of_made h2 h3 h4, h5⟩) ?_
    rintro v X1 ⟨A1, c1, rfl, S1, hb'⟩
    replace a2 := (hb'.cells _ _ (by omega)).trans a2
    replace a3 := (hb'.cells _ _ (by omega)).trans a3
    replace b2 := (hb'.cells _ _ (by omega)).trans b2
    replace b3 := (hb'.cells _ _ (by omega)).trans b3
    replace r0 := (hb'.cells _ _ (by omega)).trans r0; replace r1 := (hb'.cells _ _ (by omega)).trans r1; replace r2 := (hb'.cells _ _ (by omega)).trans r2; replace r3 := (hb'.cells _ _ (by omega)).trans r3; replace r4 := (hb'.cells _ _ (by omega)).trans r4; replace r5 := (hb'.cells _ _ (by omega)).trans r5; replace rf0 := (hb'.frozens _ _ (by omega)).trans rf0; replace rf1 := (hb'.frozens _ _ (by omega)).trans rf1; replace rf2 := (hb'.frozens _ _ (by omega)).trans rf2; replace rf3 := (hb'.frozens _ _ (by omega)).trans rf3; replace rf4 := (hb'.frozens _ _ (by omega)).trans rf4; replace rf5 := (hb'.frozens _ _ (by omega)).trans rf5
    replace m0 := (hb'.cells _ _ (by omega)).trans m0; replace m1 := (hb'.cells _ _ (by omega)).trans m1; replace m2 := (hb'.cells _ _ (by omega)).trans m2; replace m3 := (hb'.cells _ _ (by omega)).trans m3; replace m4 := (hb'.cells _ _ (by omega)).trans m4; replace m5 := (hb'.cells _ _ (by omega)).trans m5; replace mf0 := (hb'.frozens _ _ (by omega)).trans mf0; replace mf1 := (hb'.frozens _ _ (by omega)).trans mf1; replace mf2 := (hb'.frozens _ _ (by omega)).trans mf2; replace mf3 := (hb'.frozens _ _ (by omega)).trans mf3; replace mf4 := (hb'.frozens _ _ (by omega)).trans mf4; replace mf5 := (hb'.frozens _ _ (by omega)).trans mf5
    have zX1 : w.heap.size + 4 ≤ _ := Nat.le_trans zX0 hb'.size
    have hb1 := hb0.trans hb'
    clear hb'
    refine ⟨⟨a2, a3, b2, b3⟩, ?_⟩
    (try simp only [Act.put, List.setIfInBounds_toArray, List.set_cons_zero, List.set_cons_succ])
    refine wpAnyH_all (rs := [5]) (by kernel_rfl) (by simp) ?_
    intro i hi
    simp only [List.mem_cons, List.not_mem_nil, or_false] at hi
    subst hi
    refine wpOp_enter (o := { dst := some 34, op := Op.call { callee := Callee.value (Operand.func 64), args := #[Operand.tmp 30, Operand.tmp 33], argTypes := #[37, 37] }, type := 37, pos := "kinds.go:78", after := #[{ on := 1, ground := Ground.data }, { on := 4, ground := Ground.data }, { on := 4, ground := Ground.chain }], guard := none }) (R := fun v w' => ∃ A' c', v = .agg #[.bool (aal && !bal), .slice A' r.length c'] ∧ StP X1.heap.size w' A' c' r ∧ Bel X1 w') rfl (by rfl) (by go_simp; first | done | with_reducible rfl | rfl) ((C2.out X1 hb1 A1 c1 S1.1 S1.2.1).mono fun e w' ⟨A', c', h1, h2, h3, h4, h5⟩ => ⟨_, h1, A', c', rfl, StP.of_made h2 h3 h4, h5⟩) ?_
    rintro v X2 ⟨A2, c2, rfl, S2, hb'⟩
    replace a2 := (hb'.cells _ _ (by omega)).trans a2
    replace a3 := (hb'.cells _ _ (by omega)).trans a3
    replace b2 := (hb'.cells _ _ (by omega)).trans b2
    replace b3 := (hb'.cells _ _ (by omega)).trans b3
    replace r0 := (hb'.cells _ _ (by omega)).trans r0; replace r1 := (hb'.cells _ _ (by omega)).trans r1; replace r2 := (hb'.cells _ _ (by omega)).trans r2; replace r3 := (hb'.cells _ _ (by omega)).trans r3; replace r4 := (hb'.cells _ _ (by omega)).trans r4; replace r5 := (hb'.cells _ _ (by omega)).trans r5; replace rf0 := (hb'.frozens _ _ (by omega)).trans rf0; replace rf1 := (hb'.frozens _ _ (by omega)).trans rf1; replace rf2 := (hb'.frozens _ _ (by omega)).trans rf2; replace rf3 := (hb'.frozens _ _ (by omega)).trans rf3; replace rf4 := (hb'.frozens _ _ (by omega)).trans rf4; replace rf5 := (hb'.frozens _ _ (by omega)).trans rf5
    replace m0 := (hb'.cells _ _ (by omega)).trans m0; replace m1 := (hb'.cells _ _ (by omega)).trans m1; replace m2 := (hb'.cells _ _ (by omega)).trans m2; replace m3 := (hb'.cells _ _ (by omega)).trans m3; replace m4 := (hb'.cells _ _ (by omega)).trans m4; replace m5 := (hb'.cells _ _ (by omega)).trans m5; replace mf0 := (hb'.frozens _ _ (by omega)).trans mf0; replace mf1 := (hb'.frozens _ _ (by omega)).trans mf1; replace mf2 := (hb'.frozens _ _ (by omega)).trans mf2; replace mf3 := (hb'.frozens _ _ (by omega)).trans mf3; replace mf4 := (hb'.frozens _ _ (by omega)).trans mf4; replace mf5 := (hb'.frozens _ _ (by omega)).trans mf5
    have zX2 : w.heap.size + 4 ≤ _ := Nat.le_trans zX1 hb'.size
    have hb2 := hb1.trans hb'
    clear hb'
    refine ⟨⟨a2, a3, b2, b3⟩, ?_⟩
    (try simp only [Act.put, List.setIfInBounds_toArray, List.set_cons_zero, List.set_cons_succ])
    refine wpAnyH_all (rs := [6]) (by kernel_rfl) (by simp) ?_
    intro i hi
    simp only [List.mem_cons, List.not_mem_nil, or_false] at hi
    subst hi
    refine wpOp_value (o := { dst := some 35, op := Op.fieldAddr 39 (Operand.tmp 5) 2, type := 0, pos := "kinds.go:78", after := #[{ on := 0, ground := Ground.phase }, { on := 1, ground := Ground.phase }, { on := 2, ground := Ground.phase }, { on := 3, ground := Ground.phase }, { on := 4, ground := Ground.phase }, { on := 5, ground := Ground.phase }], guard := none }) (v := .pointer (some ⟨w.heap.size + 3, 2, none⟩)) (w' := X2) rfl (by rfl) (by go_simp; first | done | with_reducible rfl | rfl) ?_
    refine ⟨⟨a2, a3, b2, b3⟩, ?_⟩
    (try simp only [Act.put, List.setIfInBounds_toArray, List.set_cons_zero, List.set_cons_succ])
    refine wpAnyH_all (rs := [7]) (by kernel_rfl) (by simp) ?_
    intro i hi
    simp only [List.mem_cons, List.not_mem_nil, or_false] at hi
    subst hi
    refine wpOp_skip (o := { dst := none, op := Op.store 37 (Operand.tmp 35) (Operand.tmp 34), type := 0, pos := "kinds.go:78", after := #[{ on := 6, ground := Ground.data }, { on := 5, ground := Ground.data }, { on := 5, ground := Ground.chain }, { on := 0, ground := Ground.phase }, { on := 1, ground := Ground.phase }, { on := 2, ground := Ground.phase }, { on := 3, ground := Ground.phase }, { on := 4, ground := Ground.phase }, { on := 5, ground := Ground.phase }], guard := none }) (w' := ((X2.setCell ⟨w.heap.size + 3, 2, none⟩ (.bool (aal && !bal))).setCell ⟨w.heap.size + 3, 3, none⟩ (.slice A2 r.length c2))) rfl (by rfl) (by go_simp; first | done | with_reducible rfl | rfl) ?_
    refine ⟨⟨by simp [go_sem, a2], by simp [go_sem, a3], by simp [go_sem, b2], by simp [go_sem, b3]⟩, ?_⟩
    (try simp only [Act.put, List.setIfInBounds_toArray, List.set_cons_zero, List.set_cons_succ])
    refine wpAnyH_done (by kernel_rfl) ?_ _
    refine NoPanic.normal ?_
    have HS := Lib.hid S2
    clear S1 S2
    go_wp2_with fail
    refine bodyPost_ret (by simp [results, Tryz.results49, go_sem, hnu, r0, m0, rf0, mf0, r1, m1, rf1, mf1, r2, m2, rf2, mf2, r3, m3, rf3, mf3, r4, m4, rf4, mf4, r5, m5, rf5, mf5]; try rfl) rfl ⟨none, 0, A2, c2, rfl, SpP.nil _ _, StP.low (StP.other (StP.low HS.out zX1) (by simp) fun k o hk => ?_) (Nat.le_add_right _ _), ?_⟩
    · have n1 : ¬ w.heap.size + 2 = k := by omega
      have n2 : ¬ w.heap.size + 3 = k := by omega
      simp [go_sem, n1, n2]
    · (repeat (first | with_reducible exact Bel.refl _ | with_reducible refine Bel.setCell ?_ (by first | exact Nat.le_refl _ | (dsimp only; omega)) _ | with_reducible refine Bel.alloc ?_ _ | with_reducible refine Bel.drew ?_ | with_reducible assumption | with_reducible refine Bel.trans ?_ (by assumption)))
theorem setIn_of {lo lo2 : Nat} {w : World} {A A2 : Option Addr} {c c2 : Nat} {s : St} (h : SpP lo w A c s.sp) (h2 : StP lo2 w A2 c2 s.ws) : SetIn w A c A2 c2 s := ⟨h.sl, h2.1, h2.2.1⟩
set_option maxRecDepth 100000 in
set_option maxHeartbeats 8000000 in
theorem holdGM_any (P2 : St → Prop) (P3 : St → St → Prop) (K sc : Int) (any0 not0 : Bool) (A0 : Option Addr) (n0 c0 : Nat) (l : List Tst) (A : Option Addr) (c : Nat) (w : World) (hK1 : 1 ≤ K) (hK4 : K ≤ 4)
    (H2 : ∀ W, Bel w W → Calls Tryz.prog 45 #[tyv K sc any0 not0 (.slice A0 n0 c0), .slice A l.length c] W fun e w' => ∃ s, SetOut W s e w' ∧ P2 s)
    (H3 : ∀ X s bA bc bA2 bc2 cA cc cA2 cc2, P2 s → SetIn X bA bc bA2 bc2 (allS K) → SetIn X cA cc cA2 cc2 s → Calls Tryz.prog 35 #[(allS K).val bA bc bA2 bc2, s.val cA cc cA2 cc2] X fun e w' => ∃ q, SetOut X q e w' ∧ P3 s q) :
    Calls Tryz.prog 37 #[tyv K sc any0 not0 (.slice A0 n0 c0), tsv false false (.slice A l.length c)] w fun e w' => ∃ s q, SetOut w q e w' ∧ P2 s ∧ P3 s q := by
  have C1 := Lib.hid fun W => sall_any K hK1 hK4 W
  have C2 := Lib.hid H2
  have C3 := Lib.hid H3
  clear H2 H3 hK1 hK4
  go_enter Tryz.func37, Tryz.ntmps37
  go_upto_region 1 with fail
  refine under_name (w0 := w) (by (repeat (first | with_reducible exact Bel.refl _ | with_reducible refine Bel.setCell ?_ (by first | exact Nat.le_refl _ | (dsimp only; omega)) _ | with_reducible refine Bel.alloc ?_ _ | with_reducible refine Bel.drew ?_ | with_reducible assumption | with_reducible refine Bel.trans ?_ (by assumption)))) fun W hc hf hz hb => ?_
  have m0 : W.cell? ⟨w.heap.size, 0, none⟩ = some (.int .i64 K) := by simp [hc, go_sem]
  have m1 : W.cell? ⟨w.heap.size, 1, none⟩ = some (.int .i64 sc) := by simp [hc, go_sem]
  have m2 : W.cell? ⟨w.heap.size, 2, none⟩ = some (.bool any0) := by simp [hc, go_sem]
  have m3 : W.cell? ⟨w.heap.size, 3, none⟩ = some (.bool not0) := by simp [hc, go_sem]
  have m4 : W.cell? ⟨w.heap.size, 4, none⟩ = some (.slice A0 n0 c0) := by simp [hc, go_sem]
  have x0 : W.cell? ⟨w.heap.size + 1, 0, none⟩ = some (.bool false) := by simp [hc, go_sem]
  have x1 : W.cell? ⟨w.heap.size + 1, 1, none⟩ = some (.bool false) := by simp [hc, go_sem]
  have x2 : W.cell? ⟨w.heap.size + 1, 2, none⟩ = some (.slice A l.length c) := by simp [hc, go_sem]
  have r0 : W.cell? ⟨w.heap.size + 2, 0, none⟩ = some (.int .i64 0) := by simp [hc, go_sem]
  have r1 : W.cell? ⟨w.heap.size + 2, 1, none⟩ = some (.slice none 0 0) := by simp [hc, go_sem]
  have r2 : W.cell? ⟨w.heap.size + 2, 2, none⟩ = some (.bool false) := by simp [hc, go_sem]
  have r3 : W.cell? ⟨w.heap.size + 2, 3, none⟩ = some (.slice none 0 0) := by simp [hc, go_sem]
  have r4 : W.cell? ⟨w.heap.size + 2, 4, none⟩ = some (.int .i64 0) := by simp [hc, go_sem]
  have r5 : W.cell? ⟨w.heap.size + 2, 5, none⟩ = some (.bool false) := by simp [hc, go_sem]
  have rf0 : W.frozen? ⟨w.heap.size + 2, 0, none⟩ = false := by simp [hf, go_sem]
  have rf1 : W.frozen? ⟨w.heap.size + 2, 1, none⟩ = false := by simp [hf, go_sem]
  have rf2 : W.frozen? ⟨w.heap.size + 2, 2, none⟩ = false := by simp [hf, go_sem]
  have rf3 : W.frozen? ⟨w.heap.size + 2, 3, none⟩ = false := by simp [hf, go_sem]
  have rf4 : W.frozen? ⟨w.heap.size + 2, 4, none⟩ = false := by simp [hf, go_sem]
  have rf5 : W.frozen? ⟨w.heap.size + 2, 5, none⟩ = false := by simp [hf, go_sem]
  have z0 : w.heap.size + 3 ≤ W.heap.size := by simp [hz]
  clear hc hf hz
  go_upto_region 5 with fail
  refine wp_region_noPanic ?_
  refine wp_region_held (S := fun X => Bel w X ∧ X.cell? ⟨w.heap.size, 0, none⟩ = some (.int .i64 K) ∧ X.cell? ⟨w.heap.size, 1, none⟩ = some (.int .i64 sc) ∧ X.cell? ⟨w.heap.size, 2, none⟩ = some (.bool any0) ∧ X.cell? ⟨w.heap.size, 3, none⟩ = some (.bool not0) ∧ X.cell? ⟨w.heap.size, 4, none⟩ = some (.slice A0 n0 c0) ∧ X.cell? ⟨w.heap.size + 1, 2, none⟩ = some (.slice A l.length c)) (by kernel_rfl) ?_
  have hX0 : Bel W { W with drawn := W.drawn + 1 } := (Bel.refl W).drew
  generalize { W with drawn := W.drawn + 1 } = X0 at hX0 ⊢
  replace m0 := (hX0.cells _ _ (by omega)).trans m0
  replace m1 := (hX0.cells _ _ (by omega)).trans m1
  replace m2 := (hX0.cells _ _ (by omega)).trans m2
  replace m3 := (hX0.cells _ _ (by omega)).trans m3
  replace m4 := (hX0.cells _ _ (by omega)).trans m4
  replace x2 := (hX0.cells _ _ (by omega)).trans x2
  have zX0 : w.heap.size + 3 ≤ X0.heap.size := Nat.le_trans z0 hX0.size
  have hb0 := hb.trans hX0
  refine wpAnyH_take (i := 0) (oi := { dst := some 22, op := Op.fieldAddr 26 (Operand.tmp 2) 0, type := 0, pos := "kinds.go:54", after := #[], guard := none }) (v := .pointer (some ⟨w.heap.size, 0, none⟩)) rfl (by kernel_rfl) (by kernel_rfl) (by kernel_rfl) (fun _ _ _ h => h) (.inl ⟨by rfl, fun X hS => by
      obtain ⟨_, k0, k1, k2, k3, k4, k5⟩ := hS
      go_simp; first | done | with_reducible rfl | rfl⟩) ⟨hb0, m0, m1, m2, m3, m4, x2⟩ ?_
  (try simp only [Act.put, List.setIfInBounds_toArray, List.set_cons_zero, List.set_cons_succ])
  refine wpAnyH_take (i := 1) (oi := { dst := some 23, op := Op.load 3 (Operand.tmp 22), type := 3, pos := "kinds.go:54", after := #[{ on := 0, ground := Ground.data }], guard := none }) (v := .int .i64 K) rfl (by kernel_rfl) (by kernel_rfl) (by kernel_rfl) (fun _ _ _ h => h) (.inl ⟨by rfl, fun X hS => by
      obtain ⟨_, k0, k1, k2, k3, k4, k5⟩ := hS
      go_simp; first | done | with_reducible rfl | rfl⟩) ⟨hb0, m0, m1, m2, m3, m4, x2⟩ ?_
  (try simp only [Act.put, List.setIfInBounds_toArray, List.set_cons_zero, List.set_cons_succ])
  refine wpAnyH_take (i := 3) (oi := { dst := some 25, op := Op.load 26 (Operand.tmp 2), type := 26, pos := "kinds.go:54", after := #[], guard := none }) (v := (tyv K sc any0 not0 (.slice A0 n0 c0))) rfl (by kernel_rfl) (by kernel_rfl) (by kernel_rfl) (fun _ _ _ h => h) (.inl ⟨by rfl, fun X hS => by
      obtain ⟨_, k0, k1, k2, k3, k4, k5⟩ := hS
      go_simp; first | done | with_reducible rfl | rfl⟩) ⟨hb0, m0, m1, m2, m3, m4, x2⟩ ?_
  (try simp only [Act.put, List.setIfInBounds_toArray, List.set_cons_zero, List.set_cons_succ])
  refine wpAnyH_take (i := 4) (oi := { dst := some 26, op := Op.fieldAddr 24 (Operand.tmp 3) 2, type := 0, pos := "kinds.go:54", after := #[], guard := none }) (v := .pointer (some ⟨w.heap.size + 1, 2, none⟩)) rfl (by kernel_rfl) (by kernel_rfl) (by kernel_rfl) (fun _ _ _ h => h) (.inl ⟨by rfl, fun X hS => by
      obtain ⟨_, k0, k1, k2, k3, k4, k5⟩ := hS
      go_simp; first | done | with_reducible rfl | rfl⟩) ⟨hb0, m0, m1, m2, m3, m4, x2⟩ ?_
  (try simp only [Act.put, List.setIfInBounds_toArray, List.set_cons_zero, List.set_cons_succ])
  refine wpAnyH_take (i := 5) (oi := { dst := some 27, op := Op.load 22 (Operand.tmp 26), type := 22, pos := "kinds.go:54", after := #[{ on := 4, ground := Ground.data }], guard := none }) (v := .slice A l.length c) rfl (by kernel_rfl) (by kernel_rfl) (by kernel_rfl) (fun _ _ _ h => h) (.inl ⟨by rfl, fun X hS => by
      obtain ⟨_, k0, k1, k2, k3, k4, k5⟩ := hS
      go_simp; first | done | with_reducible rfl | rfl⟩) ⟨hb0, m0, m1, m2, m3, m4, x2⟩ ?_
  (try simp only [Act.put, List.setIfInBounds_toArray, List.set_cons_zero, List.set_cons_succ])
  refine wpAnyH_all (rs := [2]) (by kernel_rfl) (by simp) ?_
  intro i hi
  simp only [List.mem_cons, List.not_mem_nil, or_false] at hi
  subst hi
  refine wpOp_enter (o := { dst := some 24, op := Op.call { callee := Callee.value (Operand.func 65), args := #[Operand.tmp 23], argTypes := #[3] }, type := 39, pos := "kinds.go:54", after := #[{ on := 1, ground := Ground.data }], guard := none }) (R := fun v w' => ∃ A1 c1 A2 c2, v = (allS K).val A1 c1 A2 c2 ∧ SpP X0.heap.size w' A1 c1 (allS K).sp ∧ StP X0.heap.size w' A2 c2 (allS K).ws ∧ Bel X0 w') rfl (by rfl) (by go_simp; first | done | with_reducible rfl | rfl) ((C1.out X0).mono fun e w' ⟨A1, c1, A2, c2, h1, h2, h3, h4⟩ => ⟨_, h1, A1, c1, A2, c2, rfl, h2, h3, h4⟩) ?_
  rintro v X1 ⟨A1, c1, A2, c2, rfl, S1, T1, hb'⟩
  replace m0 := (hb'.cells _ _ (by omega)).trans m0
  replace m1 := (hb'.cells _ _ (by omega)).trans m1
  replace m2 := (hb'.cells _ _ (by omega)).trans m2
  replace m3 := (hb'.cells _ _ (by omega)).trans m3
  replace m4 := (hb'.cells _ _ (by omega)).trans m4
  replace x2 := (hb'.cells _ _ (by omega)).trans x2
  have zX1 : w.heap.size + 3 ≤ X1.heap.size := Nat.le_trans zX0 hb'.size
  have hX1 := hX0.trans hb'
  have hb1 := hb0.trans hb'
  clear hb'
  refine ⟨⟨hb1, m0, m1, m2, m3, m4, x2⟩, ?_⟩
  (try simp only [Act.put, List.setIfInBounds_toArray, List.set_cons_zero, List.set_cons_succ])
  refine wpAnyH_all (rs := [6]) (by kernel_rfl) (by simp) ?_
  intro i hi
  simp only [List.mem_cons, List.not_mem_nil, or_false] at hi
  subst hi
  refine wpOp_enter (o := { dst := some 28, op := Op.call { callee := Callee.value (Operand.func 45), args := #[Operand.tmp 25, Operand.tmp 27], argTypes := #[26, 22] }, type := 39, pos := "kinds.go:54", after := #[{ on := 3, ground := Ground.data }, { on := 5, ground := Ground.data }, { on := 2, ground := Ground.chain }], guard := none }) (R := fun v w' => ∃ r A3 c3 A4 c4, v = St.val r A3 c3 A4 c4 ∧ SpP X1.heap.size w' A3 c3 r.sp ∧ StP X1.heap.size w' A4 c4 r.ws ∧ P2 r ∧ Bel X1 w') rfl (by rfl) (by go_simp; first | done | with_reducible rfl | rfl) ((C2.out X1 hb1).mono fun e w' ⟨r, ⟨A3, c3, A4, c4, h1, h2, h3, h4⟩, h5⟩ => ⟨_, h1, r, A3, c3, A4, c4, rfl, h2, h3, h5, h4⟩) ?_
  rintro v X2 ⟨r, A3, c3, A4, c4, rfl, S2, T2, HR, hb'⟩
  replace m0 := (hb'.cells _ _ (by omega)).trans m0
  replace m1 := (hb'.cells _ _ (by omega)).trans m1
  replace m2 := (hb'.cells _ _ (by omega)).trans m2
  replace m3 := (hb'.cells _ _ (by omega)).trans m3
  replace m4 := (hb'.cells _ _ (by omega)).trans m4
  replace x2 := (hb'.cells _ _ (by omega)).trans x2
  have zX2 : w.heap.size + 3 ≤ X2.heap.size := Nat.le_trans zX1 hb'.size
  have hX2 := hX1.trans hb'
  have hb2 := hb1.trans hb'
  replace S1 := S1.keep hb'
  replace T1 := T1.keep hb'
  clear hb'
  refine ⟨⟨hb2, m0, m1, m2, m3, m4, x2⟩, ?_⟩
  (try simp only [Act.put, List.setIfInBounds_toArray, List.set_cons_zero, List.set_cons_succ])
  refine wpAnyH_all (rs := [7]) (by kernel_rfl) (by simp) ?_
  intro i hi
  simp only [List.mem_cons, List.not_mem_nil, or_false] at hi
  subst hi
  refine wpOp_enter (o := { dst := some 29, op := Op.call { callee := Callee.value (Operand.func 35), args := #[Operand.tmp 24, Operand.tmp 28], argTypes := #[39, 39] }, type := 39, pos := "kinds.go:54", after := #[{ on := 2, ground := Ground.data }, { on := 6, ground := Ground.data }, { on := 6, ground := Ground.chain }], guard := none }) (R := fun v w' => ∃ q A5 c5 A6 c6, v = St.val q A5 c5 A6 c6 ∧ SpP X2.heap.size w' A5 c5 q.sp ∧ StP X2.heap.size w' A6 c6 q.ws ∧ P3 r q ∧ Bel X2 w') rfl (by rfl) (by go_simp; first | done | with_reducible rfl | rfl) ((C3.out X2 r A1 c1 A2 c2 A3 c3 A4 c4 HR (setIn_of S1 T1) (setIn_of S2 T2)).mono fun e w' ⟨q, ⟨A5, c5, A6, c6, h1, h2, h3, h4⟩, h5⟩ => ⟨_, h1, q, A5, c5, A6, c6, rfl, h2, h3, h5, h4⟩) ?_
  rintro v X3 ⟨⟨qk, qs, qa, qw, qb, qn⟩, A5, c5, A6, c6, rfl, S3, T3, HQ, hb'⟩
  simp only at S3 T3
  replace m0 := (hb'.cells _ _ (by omega)).trans m0
  replace m1 := (hb'.cells _ _ (by omega)).trans m1
  replace m2 := (hb'.cells _ _ (by omega)).trans m2
  replace m3 := (hb'.cells _ _ (by omega)).trans m3
  replace m4 := (hb'.cells _ _ (by omega)).trans m4
  replace x2 := (hb'.cells _ _ (by omega)).trans x2
  have zX3 : w.heap.size + 3 ≤ X3.heap.size := Nat.le_trans zX2 hb'.size
  have hX3 := hX2.trans hb'
  have hb3 := hb2.trans hb'
  clear hb'
  refine ⟨⟨hb3, m0, m1, m2, m3, m4, x2⟩, ?_⟩
  (try simp only [Act.put, List.setIfInBounds_toArray, List.set_cons_zero, List.set_cons_succ])
  replace r0 := (hX3.cells _ _ (by omega)).trans r0; replace r1 := (hX3.cells _ _ (by omega)).trans r1; replace r2 := (hX3.cells _ _ (by omega)).trans r2; replace r3 := (hX3.cells _ _ (by omega)).trans r3; replace r4 := (hX3.cells _ _ (by omega)).trans r4; replace r5 := (hX3.cells _ _ (by omega)).trans r5; replace rf0 := (hX3.frozens _ _ (by omega)).trans rf0; replace rf1 := (hX3.frozens _ _ (by omega)).trans rf1; replace rf2 := (hX3.frozens _ _ (by omega)).trans rf2; replace rf3 := (hX3.frozens _ _ (by omega)).trans rf3; replace rf4 := (hX3.frozens _ _ (by omega)).trans rf4; replace rf5 := (hX3.frozens _ _ (by omega)).trans rf5
  refine wpAnyH_all (rs := [8]) (by kernel_rfl) (by simp) ?_
  intro i hi
  simp only [List.mem_cons, List.not_mem_nil, or_false] at hi
  subst hi
  refine wpOp_skip (o := { dst := none, op := Op.store 39 (Operand.tmp 4) (Operand.tmp 29), type := 0, pos := "kinds.go:54", after := #[{ on := 7, ground := Ground.data }, { on := 7, ground := Ground.chain }, { on := 0, ground := Ground.phase }, { on := 1, ground := Ground.phase }, { on := 2, ground := Ground.phase }, { on := 3, ground := Ground.phase }, { on := 4, ground := Ground.phase }, { on := 5, ground := Ground.phase }, { on := 6, ground := Ground.phase }, { on := 7, ground := Ground.phase }], guard := none }) (w' := ((((((X3.setCell ⟨w.heap.size + 2, 0, none⟩ (.int .i64 qk)).setCell ⟨w.heap.size + 2, 1, none⟩ (.slice A5 qs.length c5)).setCell ⟨w.heap.size + 2, 2, none⟩ (.bool qa)).setCell ⟨w.heap.size + 2, 3, none⟩ (.slice A6 qw.length c6)).setCell ⟨w.heap.size + 2, 4, none⟩ (.int .i64 qb)).setCell ⟨w.heap.size + 2, 5, none⟩ (.bool qn))) rfl (by rfl) (by go_simp; first | done | with_reducible rfl | rfl) ?_
  have hZ : Bel w ((((((X3.setCell ⟨w.heap.size + 2, 0, none⟩ (.int .i64 qk)).setCell ⟨w.heap.size + 2, 1, none⟩ (.slice A5 qs.length c5)).setCell ⟨w.heap.size + 2, 2, none⟩ (.bool qa)).setCell ⟨w.heap.size + 2, 3, none⟩ (.slice A6 qw.length c6)).setCell ⟨w.heap.size + 2, 4, none⟩ (.int .i64 qb)).setCell ⟨w.heap.size + 2, 5, none⟩ (.bool qn)) := by
      (repeat (first | with_reducible exact Bel.refl _ | with_reducible refine Bel.setCell ?_ (by first | exact Nat.le_refl _ | (dsimp only; omega)) _ | with_reducible refine Bel.alloc ?_ _ | with_reducible refine Bel.drew ?_ | with_reducible assumption | with_reducible refine Bel.trans ?_ (by assumption)))
  refine ⟨⟨hZ, by simp [go_sem, m0], by simp [go_sem, m1], by simp [go_sem, m2], by simp [go_sem, m3], by simp [go_sem, m4], by simp [go_sem, x2]⟩, ?_⟩
  (try simp only [Act.put, List.setIfInBounds_toArray, List.set_cons_zero, List.set_cons_succ])
  have t0 : World.cell? ((((((X3.setCell ⟨w.heap.size + 2, 0, none⟩ (.int .i64 qk)).setCell ⟨w.heap.size + 2, 1, none⟩ (.slice A5 qs.length c5)).setCell ⟨w.heap.size + 2, 2, none⟩ (.bool qa)).setCell ⟨w.heap.size + 2, 3, none⟩ (.slice A6 qw.length c6)).setCell ⟨w.heap.size + 2, 4, none⟩ (.int .i64 qb)).setCell ⟨w.heap.size + 2, 5, none⟩ (.bool qn)) ⟨w.heap.size + 2, 0, none⟩ = some (.int .i64 qk) := by simp [go_sem, r0, r1, r2, r3, r4, r5]
  have t1 : World.cell? ((((((X3.setCell ⟨w.heap.size + 2, 0, none⟩ (.int .i64 qk)).setCell ⟨w.heap.size + 2, 1, none⟩ (.slice A5 qs.length c5)).setCell ⟨w.heap.size + 2, 2, none⟩ (.bool qa)).setCell ⟨w.heap.size + 2, 3, none⟩ (.slice A6 qw.length c6)).setCell ⟨w.heap.size + 2, 4, none⟩ (.int .i64 qb)).setCell ⟨w.heap.size + 2, 5, none⟩ (.bool qn)) ⟨w.heap.size + 2, 1, none⟩ = some (.slice A5 qs.length c5) := by simp [go_sem, r0, r1, r2, r3, r4, r5]
  have t2 : World.cell? ((((((X3.setCell ⟨w.heap.size + 2, 0, none⟩ (.int .i64 qk)).setCell ⟨w.heap.size + 2, 1, none⟩ (.slice A5 qs.length c5)).setCell ⟨w.heap.size + 2, 2, none⟩ (.bool qa)).setCell ⟨w.heap.size + 2, 3, none⟩ (.slice A6 qw.length c6)).setCell ⟨w.heap.size + 2, 4, none⟩ (.int .i64 qb)).setCell ⟨w.heap.size + 2, 5, none⟩ (.bool qn)) ⟨w.heap.size + 2, 2, none⟩ = some (.bool qa) := by simp [go_sem, r0, r1, r2, r3, r4, r5]
  have t3 : World.cell? ((((((X3.setCell ⟨w.heap.size + 2, 0, none⟩ (.int .i64 qk)).setCell ⟨w.heap.size + 2, 1, none⟩ (.slice A5 qs.length c5)).setCell ⟨w.heap.size + 2, 2, none⟩ (.bool qa)).setCell ⟨w.heap.size + 2, 3, none⟩ (.slice A6 qw.length c6)).setCell ⟨w.heap.size + 2, 4, none⟩ (.int .i64 qb)).setCell ⟨w.heap.size + 2, 5, none⟩ (.bool qn)) ⟨w.heap.size + 2, 3, none⟩ = some (.slice A6 qw.length c6) := by simp [go_sem, r0, r1, r2, r3, r4, r5]
  have t4 : World.cell? ((((((X3.setCell ⟨w.heap.size + 2, 0, none⟩ (.int .i64 qk)).setCell ⟨w.heap.size + 2, 1, none⟩ (.slice A5 qs.length c5)).setCell ⟨w.heap.size + 2, 2, none⟩ (.bool qa)).setCell ⟨w.heap.size + 2, 3, none⟩ (.slice A6 qw.length c6)).setCell ⟨w.heap.size + 2, 4, none⟩ (.int .i64 qb)).setCell ⟨w.heap.size + 2, 5, none⟩ (.bool qn)) ⟨w.heap.size + 2, 4, none⟩ = some (.int .i64 qb) := by simp [go_sem, r0, r1, r2, r3, r4, r5]
  have t5 : World.cell? ((((((X3.setCell ⟨w.heap.size + 2, 0, none⟩ (.int .i64 qk)).setCell ⟨w.heap.size + 2, 1, none⟩ (.slice A5 qs.length c5)).setCell ⟨w.heap.size + 2, 2, none⟩ (.bool qa)).setCell ⟨w.heap.size + 2, 3, none⟩ (.slice A6 qw.length c6)).setCell ⟨w.heap.size + 2, 4, none⟩ (.int .i64 qb)).setCell ⟨w.heap.size + 2, 5, none⟩ (.bool qn)) ⟨w.heap.size + 2, 5, none⟩ = some (.bool qn) := by simp [go_sem, r0, r1, r2, r3, r4, r5]
  replace S3 : SpP (w.heap.size + 3) ((((((X3.setCell ⟨w.heap.size + 2, 0, none⟩ (.int .i64 qk)).setCell ⟨w.heap.size + 2, 1, none⟩ (.slice A5 qs.length c5)).setCell ⟨w.heap.size + 2, 2, none⟩ (.bool qa)).setCell ⟨w.heap.size + 2, 3, none⟩ (.slice A6 qw.length c6)).setCell ⟨w.heap.size + 2, 4, none⟩ (.int .i64 qb)).setCell ⟨w.heap.size + 2, 5, none⟩ (.bool qn)) A5 c5 qs := SpP.other (SpP.low S3 zX2) (by simp) fun k o hk => by
      have n1 : ¬ w.heap.size + 2 = k := by omega
      simp [go_sem, n1]
  replace T3 : StP (w.heap.size + 3) ((((((X3.setCell ⟨w.heap.size + 2, 0, none⟩ (.int .i64 qk)).setCell ⟨w.heap.size + 2, 1, none⟩ (.slice A5 qs.length c5)).setCell ⟨w.heap.size + 2, 2, none⟩ (.bool qa)).setCell ⟨w.heap.size + 2, 3, none⟩ (.slice A6 qw.length c6)).setCell ⟨w.heap.size + 2, 4, none⟩ (.int .i64 qb)).setCell ⟨w.heap.size + 2, 5, none⟩ (.bool qn)) A6 c6 qw := StP.other (StP.low T3 zX2) (by simp) fun k o hk => by
      have n1 : ¬ w.heap.size + 2 = k := by omega
      simp [go_sem, n1]
  generalize ((((((X3.setCell ⟨w.heap.size + 2, 0, none⟩ (.int .i64 qk)).setCell ⟨w.heap.size + 2, 1, none⟩ (.slice A5 qs.length c5)).setCell ⟨w.heap.size + 2, 2, none⟩ (.bool qa)).setCell ⟨w.heap.size + 2, 3, none⟩ (.slice A6 qw.length c6)).setCell ⟨w.heap.size + 2, 4, none⟩ (.int .i64 qb)).setCell ⟨w.heap.size + 2, 5, none⟩ (.bool qn)) = X4 at hZ t0 t1 t2 t3 t4 t5 S3 T3 ⊢
  refine wpAnyH_done (by kernel_rfl) ?_ _
  refine NoPanic.normal ?_
  have HX := Lib.hid (And.intro HR HQ)
  have HS := Lib.hid (And.intro S3 T3)
  clear m0 m1 m2 m3 m4 x0 x1 x2 r0 rf0 r1 rf1 r2 rf2 r3 rf3 r4 rf4 r5 rf5 hX0 hX1 hX2 hX3 hb0 hb1 hb2 hb3 hb z0 zX0 zX1 zX2 zX3 S1 S2 S3 T1 T2 T3 HQ HR C1 C2 C3
  go_wp2_with fail
  refine bodyPost_ret (by simp [results, Tryz.results37, go_sem, t0, t1, t2, t3, t4, t5]; try rfl) rfl ⟨r, ⟨qk, qs, qa, qw, qb, qn⟩, ⟨A5, c5, A6, c6, rfl, SpP.low HS.out.1 (Nat.le_add_right _ _), StP.low HS.out.2 (Nat.le_add_right _ _), hZ⟩, HX.out⟩
theorem holdNM_any (K sc : Int) (any0 not0 : Bool) (A0 : Option Addr) (n0 c0 : Nat) (l : List Tst) (A : Option Addr) (c : Nat) (w : World) (hK : K = 1 ∨ K = 4) (hs : Tsts w A l) (hl : l.length ≤ 999) (hsn : ∀ t ∈ l, tsnd t = true) :
    Calls Tryz.prog 37 #[tyv K sc any0 not0 (.slice A0 n0 c0), tsv false false (.slice A l.length c)] w (NumOut w K (nulH false false l) (MemH K sc false false l) (l.length + 1)) := by
  have hAll := all_rng hK
  have C3 := (show ∀ X bA bc bA2 bc2 cA cc cA2 cc2 (r : List Sp), SlS X (.slice bA (allS K).sp.length bc) (allS K).sp → SlS X (.slice cA r.length cc) r → r.length ≤ 1000 → (∀ s ∈ r, Rng s) →
      Calls Tryz.prog 35 #[(allS K).val bA bc bA2 bc2, (⟨K, r, false, [], 0, nulk l⟩ : St).val cA cc cA2 cc2] X fun e w' => ∃ q, SetOut X ⟨K, q, false, [], 0, (true && nulk l)⟩ e w' ∧ Ord q ∧ (∀ s ∈ q, Rng s) ∧ (∀ n, SMem q n ↔ SMem (allS K).sp n ∧ SMem r n) ∧ q.length ≤ (allS K).sp.length + r.length from fun X bA bc bA2 bc2 cA cc cA2 cc2 r h1 h2 h3 h4 => by
    rcases hK with rfl | rfl
    · exact meetS1_any _ _ _ _ true r false [] 0 (nulk l) bA bc bA2 bc2 cA cc cA2 cc2 X h1 h2 (Nat.le_trans (Nat.le_of_eq hAll.2.1) (by decide)) h3 hAll.1 h4
    · exact meetS4_any _ _ _ _ true r false [] 0 (nulk l) bA bc bA2 bc2 cA cc cA2 cc2 X h1 h2 (Nat.le_trans (Nat.le_of_eq hAll.2.1) (by decide)) h3 hAll.1 h4)
  refine (holdGM_any (fun s => ∃ r, s = (⟨K, r, false, [], 0, nulk l⟩ : St) ∧ Ord r ∧ (∀ x ∈ r, Rng x) ∧ (∀ n, SMem r n ↔ SMem (rngk K sc l) n) ∧ r.length ≤ l.length) (fun s q => ∃ t, q = (⟨K, t, false, [], 0, nulk l⟩ : St) ∧ Ord t ∧ (∀ x ∈ t, Rng x) ∧ (∀ n, SMem t n ↔ SMem (allS K).sp n ∧ SMem (rngk K sc l) n) ∧ t.length ≤ l.length + 1) K sc any0 not0 A0 n0 c0 l A c w (by omega) (by omega) ?_ ?_).mono ?_
  · intro W hW
    refine (someN_any K sc any0 not0 A0 n0 c0 l A c W hK (hs.keep hW) (by omega) hsn).mono ?_
    rintro e w' ⟨r, h1, h2⟩
    exact ⟨_, h1, r, rfl, h2⟩
  · rintro X s bA bc bA2 bc2 cA cc cA2 cc2 ⟨r, rfl, g1, g2, g3, g4⟩ i1 i2
    refine (C3 X bA bc bA2 bc2 cA cc cA2 cc2 r i1.1 i2.1 (by omega) g2).mono ?_
    rintro e w' ⟨q, h1, h2, h3, h4, h5⟩
    exact ⟨_, h1, q, by simp, h2, h3, fun n => by rw [h4, g3], by have := hAll.2.1; omega⟩
  · rintro e w' ⟨s, q, h1, _, t, rfl, h2, h3, h4, h5⟩
    exact ⟨t, by simpa [nulH] using h1, h2, h3, fun n => by rw [h4]; simp [MemH], h5⟩
set_option maxRecDepth 100000 in
set_option maxHeartbeats 8000000 in
theorem holdGW_any (P2 : St → Prop) (P3 : St → St → Prop) (K sc : Int) (any0 not0 : Bool) (A0 : Option Addr) (n0 c0 : Nat) (l : List Tst) (A : Option Addr) (c : Nat) (w : World) (hK1 : 1 ≤ K) (hK4 : K ≤ 4)
    (H2 : ∀ W, Bel w W → Calls Tryz.prog 45 #[tyv K sc any0 not0 (.slice A0 n0 c0), .slice A l.length c] W fun e w' => ∃ s, SetOut W s e w' ∧ P2 s)
    (H3 : ∀ X s bA bc bA2 bc2 cA cc cA2 cc2, P2 s → SetIn X bA bc bA2 bc2 (allS K) → SetIn X cA cc cA2 cc2 s → Calls Tryz.prog 49 #[(allS K).val bA bc bA2 bc2, s.val cA cc cA2 cc2] X fun e w' => ∃ q, SetOut X q e w' ∧ P3 s q) :
    Calls Tryz.prog 37 #[tyv K sc any0 not0 (.slice A0 n0 c0), tsv false true (.slice A l.length c)] w fun e w' => ∃ s q, SetOut w q e w' ∧ P2 s ∧ P3 s q := by
  have C1 := Lib.hid fun W => sall_any K hK1 hK4 W
  have C2 := Lib.hid H2
  have C3 := Lib.hid H3
  clear H2 H3 hK1 hK4
  go_enter Tryz.func37, Tryz.ntmps37
  go_upto_region 1 with fail
  refine under_name (w0 := w) (by (repeat (first | with_reducible exact Bel.refl _ | with_reducible refine Bel.setCell ?_ (by first | exact Nat.le_refl _ | (dsimp only; omega)) _ | with_reducible refine Bel.alloc ?_ _ | with_reducible refine Bel.drew ?_ | with_reducible assumption | with_reducible refine Bel.trans ?_ (by assumption)))) fun W hc hf hz hb => ?_
  have m0 : W.cell? ⟨w.heap.size, 0, none⟩ = some (.int .i64 K) := by simp [hc, go_sem]
  have m1 : W.cell? ⟨w.heap.size, 1, none⟩ = some (.int .i64 sc) := by simp [hc, go_sem]
  have m2 : W.cell? ⟨w.heap.size, 2, none⟩ = some (.bool any0) := by simp [hc, go_sem]
  have m3 : W.cell? ⟨w.heap.size, 3, none⟩ = some (.bool not0) := by simp [hc, go_sem]
  have m4 : W.cell? ⟨w.heap.size, 4, none⟩ = some (.slice A0 n0 c0) := by simp [hc, go_sem]
  have x0 : W.cell? ⟨w.heap.size + 1, 0, none⟩ = some (.bool false) := by simp [hc, go_sem]
  have x1 : W.cell? ⟨w.heap.size + 1, 1, none⟩ = some (.bool true) := by simp [hc, go_sem]
  have x2 : W.cell? ⟨w.heap.size + 1, 2, none⟩ = some (.slice A l.length c) := by simp [hc, go_sem]
  have r0 : W.cell? ⟨w.heap.size + 2, 0, none⟩ = some (.int .i64 0) := by simp [hc, go_sem]
  have r1 : W.cell? ⟨w.heap.size + 2, 1, none⟩ = some (.slice none 0 0) := by simp [hc, go_sem]
  have r2 : W.cell? ⟨w.heap.size + 2, 2, none⟩ = some (.bool false) := by simp [hc, go_sem]
  have r3 : W.cell? ⟨w.heap.size + 2, 3, none⟩ = some (.slice none 0 0) := by simp [hc, go_sem]
  have r4 : W.cell? ⟨w.heap.size + 2, 4, none⟩ = some (.int .i64 0) := by simp [hc, go_sem]
  have r5 : W.cell? ⟨w.heap.size + 2, 5, none⟩ = some (.bool false) := by simp [hc, go_sem]
  have rf0 : W.frozen? ⟨w.heap.size + 2, 0, none⟩ = false := by simp [hf, go_sem]
  have rf1 : W.frozen? ⟨w.heap.size + 2, 1, none⟩ = false := by simp [hf, go_sem]
  have rf2 : W.frozen? ⟨w.heap.size + 2, 2, none⟩ = false := by simp [hf, go_sem]
  have rf3 : W.frozen? ⟨w.heap.size + 2, 3, none⟩ = false := by simp [hf, go_sem]
  have rf4 : W.frozen? ⟨w.heap.size + 2, 4, none⟩ = false := by simp [hf, go_sem]
  have rf5 : W.frozen? ⟨w.heap.size + 2, 5, none⟩ = false := by simp [hf, go_sem]
  have z0 : w.heap.size + 3 ≤ W.heap.size := by simp [hz]
  clear hc hf hz
  go_upto_region 4 with fail
  refine wp_region_noPanic ?_
  refine wp_region_held (S := fun X => Bel w X ∧ X.cell? ⟨w.heap.size, 0, none⟩ = some (.int .i64 K) ∧ X.cell? ⟨w.heap.size, 1, none⟩ = some (.int .i64 sc) ∧ X.cell? ⟨w.heap.size, 2, none⟩ = some (.bool any0) ∧ X.cell? ⟨w.heap.size, 3, none⟩ = some (.bool not0) ∧ X.cell? ⟨w.heap.size, 4, none⟩ = some (.slice A0 n0 c0) ∧ X.cell? ⟨w.heap.size + 1, 2, none⟩ = some (.slice A l.length c)) (by kernel_rfl) ?_
  have hX0 : Bel W { W with drawn := W.drawn + 1 } := (Bel.refl W).drew
  generalize { W with drawn := W.drawn + 1 } = X0 at hX0 ⊢
  replace m0 := (hX0.cells _ _ (by omega)).trans m0
  replace m1 := (hX0.cells _ _ (by omega)).trans m1
  replace m2 := (hX0.cells _ _ (by omega)).trans m2
  replace m3 := (hX0.cells _ _ (by omega)).trans m3
  replace m4 := (hX0.cells _ _ (by omega)).trans m4
  replace x2 := (hX0.cells _ _ (by omega)).trans x2
  have zX0 : w.heap.size + 3 ≤ X0.heap.size := Nat.le_trans z0 hX0.size
  have hb0 := hb.trans hX0
  refine wpAnyH_take (i := 0) (oi := { dst := some 14, op := Op.fieldAddr 26 (Operand.tmp 2) 0, type := 0, pos := "kinds.go:52", after := #[], guard := none }) (v := .pointer (some ⟨w.heap.size, 0, none⟩)) rfl (by kernel_rfl) (by kernel_rfl) (by kernel_rfl) (fun _ _ _ h => h) (.inl ⟨by rfl, fun X hS => by
      obtain ⟨_, k0, k1, k2, k3, k4, k5⟩ := hS
      go_simp; first | done | with_reducible rfl | rfl⟩) ⟨hb0, m0, m1, m2, m3, m4, x2⟩ ?_
  (try simp only [Act.put, List.setIfInBounds_toArray, List.set_cons_zero, List.set_cons_succ])
  refine wpAnyH_take (i := 1) (oi := { dst := some 15, op := Op.load 3 (Operand.tmp 14), type := 3, pos := "kinds.go:52", after := #[{ on := 0, ground := Ground.data }], guard := none }) (v := .int .i64 K) rfl (by kernel_rfl) (by kernel_rfl) (by kernel_rfl) (fun _ _ _ h => h) (.inl ⟨by rfl, fun X hS => by
      obtain ⟨_, k0, k1, k2, k3, k4, k5⟩ := hS
      go_simp; first | done | with_reducible rfl | rfl⟩) ⟨hb0, m0, m1, m2, m3, m4, x2⟩ ?_
  (try simp only [Act.put, List.setIfInBounds_toArray, List.set_cons_zero, List.set_cons_succ])
  refine wpAnyH_take (i := 3) (oi := { dst := some 17, op := Op.load 26 (Operand.tmp 2), type := 26, pos := "kinds.go:52", after := #[], guard := none }) (v := (tyv K sc any0 not0 (.slice A0 n0 c0))) rfl (by kernel_rfl) (by kernel_rfl) (by kernel_rfl) (fun _ _ _ h => h) (.inl ⟨by rfl, fun X hS => by
      obtain ⟨_, k0, k1, k2, k3, k4, k5⟩ := hS
      go_simp; first | done | with_reducible rfl | rfl⟩) ⟨hb0, m0, m1, m2, m3, m4, x2⟩ ?_
  (try simp only [Act.put, List.setIfInBounds_toArray, List.set_cons_zero, List.set_cons_succ])
  refine wpAnyH_take (i := 4) (oi := { dst := some 18, op := Op.fieldAddr 24 (Operand.tmp 3) 2, type := 0, pos := "kinds.go:52", after := #[], guard := none }) (v := .pointer (some ⟨w.heap.size + 1, 2, none⟩)) rfl (by kernel_rfl) (by kernel_rfl) (by kernel_rfl) (fun _ _ _ h => h) (.inl ⟨by rfl, fun X hS => by
      obtain ⟨_, k0, k1, k2, k3, k4, k5⟩ := hS
      go_simp; first | done | with_reducible rfl | rfl⟩) ⟨hb0, m0, m1, m2, m3, m4, x2⟩ ?_
  (try simp only [Act.put, List.setIfInBounds_toArray, List.set_cons_zero, List.set_cons_succ])
  refine wpAnyH_take (i := 5) (oi := { dst := some 19, op := Op.load 22 (Operand.tmp 18), type := 22, pos := "kinds.go:52", after := #[{ on := 4, ground := Ground.data }], guard := none }) (v := .slice A l.length c) rfl (by kernel_rfl) (by kernel_rfl) (by kernel_rfl) (fun _ _ _ h => h) (.inl ⟨by rfl, fun X hS => by
      obtain ⟨_, k0, k1, k2, k3, k4, k5⟩ := hS
      go_simp; first | done | with_reducible rfl | rfl⟩) ⟨hb0, m0, m1, m2, m3, m4, x2⟩ ?_
  (try simp only [Act.put, List.setIfInBounds_toArray, List.set_cons_zero, List.set_cons_succ])
  refine wpAnyH_all (rs := [2]) (by kernel_rfl) (by simp) ?_
  intro i hi
  simp only [List.mem_cons, List.not_mem_nil, or_false] at hi
  subst hi
  refine wpOp_enter (o := { dst := some 16, op := Op.call { callee := Callee.value (Operand.func 65), args := #[Operand.tmp 15], argTypes := #[3] }, type := 39, pos := "kinds.go:52", after := #[{ on := 1, ground := Ground.data }], guard := none }) (R := fun v w' => ∃ A1 c1 A2 c2, v = (allS K).val A1 c1 A2 c2 ∧ SpP X0.heap.size w' A1 c1 (allS K).sp ∧ StP X0.heap.size w' A2 c2 (allS K).ws ∧ Bel X0 w') rfl (by rfl) (by go_simp; first | done | with_reducible rfl | rfl) ((C1.out X0).mono fun e w' ⟨A1, c1, A2, c2, h1, h2, h3, h4⟩ => ⟨_, h1, A1, c1, A2, c2, rfl, h2, h3, h4⟩) ?_
  rintro v X1 ⟨A1, c1, A2, c2, rfl, S1, T1, hb'⟩
  replace m0 := (hb'.cells _ _ (by omega)).trans m0
  replace m1 := (hb'.cells _ _ (by omega)).trans m1
  replace m2 := (hb'.cells _ _ (by omega)).trans m2
  replace m3 := (hb'.cells _ _ (by omega)).trans m3
  replace m4 := (hb'.cells _ _ (by omega)).trans m4
  replace x2 := (hb'.cells _ _ (by omega)).trans x2
  have zX1 : w.heap.size + 3 ≤ X1.heap.size := Nat.le_trans zX0 hb'.size
  have hX1 := hX0.trans hb'
  have hb1 := hb0.trans hb'
  clear hb'
  refine ⟨⟨hb1, m0, m1, m2, m3, m4, x2⟩, ?_⟩
  (try simp only [Act.put, List.setIfInBounds_toArray, List.set_cons_zero, List.set_cons_succ])
  refine wpAnyH_all (rs := [6]) (by kernel_rfl) (by simp) ?_
  intro i hi
  simp only [List.mem_cons, List.not_mem_nil, or_false] at hi
  subst hi
  refine wpOp_enter (o := { dst := some 20, op := Op.call { callee := Callee.value (Operand.func 45), args := #[Operand.tmp 17, Operand.tmp 19], argTypes := #[26, 22] }, type := 39, pos := "kinds.go:52", after := #[{ on := 3, ground := Ground.data }, { on := 5, ground := Ground.data }, { on := 2, ground := Ground.chain }], guard := none }) (R := fun v w' => ∃ r A3 c3 A4 c4, v = St.val r A3 c3 A4 c4 ∧ SpP X1.heap.size w' A3 c3 r.sp ∧ StP X1.heap.size w' A4 c4 r.ws ∧ P2 r ∧ Bel X1 w') rfl (by rfl) (by go_simp; first | done | with_reducible rfl | rfl) ((C2.out X1 hb1).mono fun e w' ⟨r, ⟨A3, c3, A4, c4, h1, h2, h3, h4⟩, h5⟩ => ⟨_, h1, r, A3, c3, A4, c4, rfl, h2, h3, h5, h4⟩) ?_
  rintro v X2 ⟨r, A3, c3, A4, c4, rfl, S2, T2, HR, hb'⟩
  replace m0 := (hb'.cells _ _ (by omega)).trans m0
  replace m1 := (hb'.cells _ _ (by omega)).trans m1
  replace m2 := (hb'.cells _ _ (by omega)).trans m2
  replace m3 := (hb'.cells _ _ (by omega)).trans m3
  replace m4 := (hb'.cells _ _ (by omega)).trans m4
  replace x2 := (hb'.cells _ _ (by omega)).trans x2
  have zX2 : w.heap.size + 3 ≤ X2.heap.size := Nat.le_trans zX1 hb'.size
  have hX2 := hX1.trans hb'
  have hb2 := hb1.trans hb'
  replace S1 := S1.keep hb'
  replace T1 := T1.keep hb'
  clear hb'
  refine ⟨⟨hb2, m0, m1, m2, m3, m4, x2⟩, ?_⟩
  (try simp only [Act.put, List.setIfInBounds_toArray, List.set_cons_zero, List.set_cons_succ])
  refine wpAnyH_all (rs := [7]) (by kernel_rfl) (by simp) ?_
  intro i hi
  simp only [List.mem_cons, List.not_mem_nil, or_false] at hi
  subst hi
  refine wpOp_enter (o := { dst := some 21, op := Op.call { callee := Callee.value (Operand.func 49), args := #[Operand.tmp 16, Operand.tmp 20], argTypes := #[39, 39] }, type := 39, pos := "kinds.go:52", after := #[{ on := 2, ground := Ground.data }, { on := 6, ground := Ground.data }, { on := 6, ground := Ground.chain }], guard := none }) (R := fun v w' => ∃ q A5 c5 A6 c6, v = St.val q A5 c5 A6 c6 ∧ SpP X2.heap.size w' A5 c5 q.sp ∧ StP X2.heap.size w' A6 c6 q.ws ∧ P3 r q ∧ Bel X2 w') rfl (by rfl) (by go_simp; first | done | with_reducible rfl | rfl) ((C3.out X2 r A1 c1 A2 c2 A3 c3 A4 c4 HR (setIn_of S1 T1) (setIn_of S2 T2)).mono fun e w' ⟨q, ⟨A5, c5, A6, c6, h1, h2, h3, h4⟩, h5⟩ => ⟨_, h1, q, A5, c5, A6, c6, rfl, h2, h3, h5, h4⟩) ?_
  rintro v X3 ⟨⟨qk, qs, qa, qw, qb, qn⟩, A5, c5, A6, c6, rfl, S3, T3, HQ, hb'⟩
  simp only at S3 T3
  replace m0 := (hb'.cells _ _ (by omega)).trans m0
  replace m1 := (hb'.cells _ _ (by omega)).trans m1
  replace m2 := (hb'.cells _ _ (by omega)).trans m2
  replace m3 := (hb'.cells _ _ (by omega)).trans m3
  replace m4 := (hb'.cells _ _ (by omega)).trans m4
  replace x2 := (hb'.cells _ _ (by omega)).trans x2
  have zX3 : w.heap.size + 3 ≤ X3.heap.size := Nat.le_trans zX2 hb'.size
  have hX3 := hX2.trans hb'
  have hb3 := hb2.trans hb'
  clear hb'
  refine ⟨⟨hb3, m0, m1, m2, m3, m4, x2⟩, ?_⟩
  (try simp only [Act.put, List.setIfInBounds_toArray, List.set_cons_zero, List.set_cons_succ])
  replace r0 := (hX3.cells _ _ (by omega)).trans r0; replace r1 := (hX3.cells _ _ (by omega)).trans r1; replace r2 := (hX3.cells _ _ (by omega)).trans r2; replace r3 := (hX3.cells _ _ (by omega)).trans r3; replace r4 := (hX3.cells _ _ (by omega)).trans r4; replace r5 := (hX3.cells _ _ (by omega)).trans r5; replace rf0 := (hX3.frozens _ _ (by omega)).trans rf0; replace rf1 := (hX3.frozens _ _ (by omega)).trans rf1; replace rf2 := (hX3.frozens _ _ (by omega)).trans rf2; replace rf3 := (hX3.frozens _ _ (by omega)).trans rf3; replace rf4 := (hX3.frozens _ _ (by omega)).trans rf4; replace rf5 := (hX3.frozens _ _ (by omega)).trans rf5
  refine wpAnyH_all (rs := [8]) (by kernel_rfl) (by simp) ?_
  intro i hi
  simp only [List.mem_cons, List.not_mem_nil, or_false] at hi
  subst hi
  refine wpOp_skip (o := { dst := none, op := Op.store 39 (Operand.tmp 4) (Operand.tmp 21), type := 0, pos := "kinds.go:52", after := #[{ on := 7, ground := Ground.data }, { on := 7, ground := Ground.chain }, { on := 0, ground := Ground.phase }, { on := 1, ground := Ground.phase }, { on := 2, ground := Ground.phase }, { on := 3, ground := Ground.phase }, { on := 4, ground := Ground.phase }, { on := 5, ground := Ground.phase }, { on := 6, ground := Ground.phase }, { on := 7, ground := Ground.phase }], guard := none }) (w' := ((((((X3.setCell ⟨w.heap.size + 2, 0, none⟩ (.int .i64 qk)).setCell ⟨w.heap.size + 2, 1, none⟩ (.slice A5 qs.length c5)).setCell ⟨w.heap.size + 2, 2, none⟩ (.bool qa)).setCell ⟨w.heap.size + 2, 3, none⟩ (.slice A6 qw.length c6)).setCell ⟨w.heap.size + 2, 4, none⟩ (.int .i64 qb)).setCell ⟨w.heap.size + 2, 5, none⟩ (.bool qn))) rfl (by rfl) (by go_simp; first | done | with_reducible rfl | rfl) ?_
  have hZ : Bel w ((((((X3.setCell ⟨w.heap.size + 2, 0, none⟩ (.int .i64 qk)).setCell ⟨w.heap.size + 2, 1, none⟩ (.slice A5 qs.length c5)).setCell ⟨w.heap.size + 2, 2, none⟩ (.bool qa)).setCell ⟨w.heap.size + 2, 3, none⟩ (.slice A6 qw.length c6)).setCell ⟨w.heap.size + 2, 4, none⟩ (.int .i64 qb)).setCell ⟨w.heap.size + 2, 5, none⟩ (.bool qn)) := by
      (repeat (first | with_reducible exact Bel.refl _ | with_reducible refine Bel.setCell ?_ (by first | exact Nat.le_refl _ | (dsimp only; omega)) _ | with_reducible refine Bel.alloc ?_ _ | with_reducible refine Bel.drew ?_ | with_reducible assumption | with_reducible refine Bel.trans ?_ (by assumption)))
  refine ⟨⟨hZ, by simp [go_sem, m0], by simp [go_sem, m1], by simp [go_sem, m2], by simp [go_sem, m3], by simp [go_sem, m4], by simp [go_sem, x2]⟩, ?_⟩
  (try simp only [Act.put, List.setIfInBounds_toArray, List.set_cons_zero, List.set_cons_succ])
  have t0 : World.cell? ((((((X3.setCell ⟨w.heap.size + 2, 0, none⟩ (.int .i64 qk)).setCell ⟨w.heap.size + 2, 1, none⟩ (.slice A5 qs.length c5)).setCell ⟨w.heap.size + 2, 2, none⟩ (.bool qa)).setCell ⟨w.heap.size + 2, 3, none⟩ (.slice A6 qw.length c6)).setCell ⟨w.heap.size + 2, 4, none⟩ (.int .i64 qb)).setCell ⟨w.heap.size + 2, 5, none⟩ (.bool qn)) ⟨w.heap.size + 2, 0, none⟩ = some (.int .i64 qk) := by simp [go_sem, r0, r1, r2, r3, r4, r5]
  have t1 : World.cell? ((((((X3.setCell ⟨w.heap.size + 2, 0, none⟩ (.int .i64 qk)).setCell ⟨w.heap.size + 2, 1, none⟩ (.slice A5 qs.length c5)).setCell ⟨w.heap.size + 2, 2, none⟩ (.bool qa)).setCell ⟨w.heap.size + 2, 3, none⟩ (.slice A6 qw.length c6)).setCell ⟨w.heap.size + 2, 4, none⟩ (.int .i64 qb)).setCell ⟨w.heap.size + 2, 5, none⟩ (.bool qn)) ⟨w.heap.size + 2, 1, none⟩ = some (.slice A5 qs.length c5) := by simp [go_sem, r0, r1, r2, r3, r4, r5]
  have t2 : World.cell? ((((((X3.setCell ⟨w.heap.size + 2, 0, none⟩ (.int .i64 qk)).setCell ⟨w.heap.size + 2, 1, none⟩ (.slice A5 qs.length c5)).setCell ⟨w.heap.size + 2, 2, none⟩ (.bool qa)).setCell ⟨w.heap.size + 2, 3, none⟩ (.slice A6 qw.length c6)).setCell ⟨w.heap.size + 2, 4, none⟩ (.int .i64 qb)).setCell ⟨w.heap.size + 2, 5, none⟩ (.bool qn)) ⟨w.heap.size + 2, 2, none⟩ = some (.bool qa) := by simp [go_sem, r0, r1, r2, r3, r4, r5]
  have t3 : World.cell? ((((((X3.setCell ⟨w.heap.size + 2, 0, none⟩ (.int .i64 qk)).setCell ⟨w.heap.size + 2, 1, none⟩ (.slice A5 qs.length c5)).setCell ⟨w.heap.size + 2, 2, none⟩ (.bool qa)).setCell ⟨w.heap.size + 2, 3, none⟩ (.slice A6 qw.length c6)).setCell ⟨w.heap.size + 2, 4, none⟩ (.int .i64 qb)).setCell ⟨w.heap.size + 2, 5, none⟩ (.bool qn)) ⟨w.heap.size + 2, 3, none⟩ = some (.slice A6 qw.length c6) := by simp [go_sem, r0, r1, r2, r3, r4, r5]
  have t4 : World.cell? ((((((X3.setCell ⟨w.heap.size + 2, 0, none⟩ (.int .i64 qk)).setCell ⟨w.heap.size + 2, 1, none⟩ (.slice A5 qs.length c5)).setCell ⟨w.heap.size + 2, 2, none⟩ (.bool qa)).setCell ⟨w.heap.size + 2, 3, none⟩ (.slice A6 qw.length c6)).setCell ⟨w.heap.size + 2, 4, none⟩ (.int .i64 qb)).setCell ⟨w.heap.size + 2, 5, none⟩ (.bool qn)) ⟨w.heap.size + 2, 4, none⟩ = some (.int .i64 qb) := by simp [go_sem, r0, r1, r2, r3, r4, r5]
  have t5 : World.cell? ((((((X3.setCell ⟨w.heap.size + 2, 0, none⟩ (.int .i64 qk)).setCell ⟨w.heap.size + 2, 1, none⟩ (.slice A5 qs.length c5)).setCell ⟨w.heap.size + 2, 2, none⟩ (.bool qa)).setCell ⟨w.heap.size + 2, 3, none⟩ (.slice A6 qw.length c6)).setCell ⟨w.heap.size + 2, 4, none⟩ (.int .i64 qb)).setCell ⟨w.heap.size + 2, 5, none⟩ (.bool qn)) ⟨w.heap.size + 2, 5, none⟩ = some (.bool qn) := by simp [go_sem, r0, r1, r2, r3, r4, r5]
  replace S3 : SpP (w.heap.size + 3) ((((((X3.setCell ⟨w.heap.size + 2, 0, none⟩ (.int .i64 qk)).setCell ⟨w.heap.size + 2, 1, none⟩ (.slice A5 qs.length c5)).setCell ⟨w.heap.size + 2, 2, none⟩ (.bool qa)).setCell ⟨w.heap.size + 2, 3, none⟩ (.slice A6 qw.length c6)).setCell ⟨w.heap.size + 2, 4, none⟩ (.int .i64 qb)).setCell ⟨w.heap.size + 2, 5, none⟩ (.bool qn)) A5 c5 qs := SpP.other (SpP.low S3 zX2) (by simp) fun k o hk => by
      have n1 : ¬ w.heap.size + 2 = k := by omega
      simp [go_sem, n1]
  replace T3 : StP (w.heap.size + 3) ((((((X3.setCell ⟨w.heap.size + 2, 0, none⟩ (.int .i64 qk)).setCell ⟨w.heap.size + 2, 1, none⟩ (.slice A5 qs.length c5)).setCell ⟨w.heap.size + 2, 2, none⟩ (.bool qa)).setCell ⟨w.heap.size + 2, 3, none⟩ (.slice A6 qw.length c6)).setCell ⟨w.heap.size + 2, 4, none⟩ (.int .i64 qb)).setCell ⟨w.heap.size + 2, 5, none⟩ (.bool qn)) A6 c6 qw := StP.other (StP.low T3 zX2) (by simp) fun k o hk => by
      have n1 : ¬ w.heap.size + 2 = k := by omega
      simp [go_sem, n1]
  generalize ((((((X3.setCell ⟨w.heap.size + 2, 0, none⟩ (.int .i64 qk)).setCell ⟨w.heap.size + 2, 1, none⟩ (.slice A5 qs.length c5)).setCell ⟨w.heap.size + 2, 2, none⟩ (.bool qa)).setCell ⟨w.heap.size + 2, 3, none⟩ (.slice A6 qw.length c6)).setCell ⟨w.heap.size + 2, 4, none⟩ (.int .i64 qb)).setCell ⟨w.heap.size + 2, 5, none⟩ (.bool qn)) = X4 at hZ t0 t1 t2 t3 t4 t5 S3 T3 ⊢
  refine wpAnyH_done (by kernel_rfl) ?_ _
  refine NoPanic.normal ?_
  have HX := Lib.hid (And.intro HR HQ)
  have HS := Lib.hid (And.intro S3 T3)
  clear m0 m1 m2 m3 m4 x0 x1 x2 r0 rf0 r1 rf1 r2 rf2 r3 rf3 r4 rf4 r5 rf5 hX0 hX1 hX2 hX3 hb0 hb1 hb2 hb3 hb z0 zX0 zX1 zX2 zX3 S1 S2 S3 T1 T2 T3 HQ HR C1 C2 C3
  go_wp2_with fail
  refine bodyPost_ret (by simp [results, Tryz.results37, go_sem, t0, t1, t2, t3, t4, t5]; try rfl) rfl ⟨r, ⟨qk, qs, qa, qw, qb, qn⟩, ⟨A5, c5, A6, c6, rfl, SpP.low HS.out.1 (Nat.le_add_right _ _), StP.low HS.out.2 (Nat.le_add_right _ _), hZ⟩, HX.out⟩
theorem holdNW_any (K sc : Int) (any0 not0 : Bool) (A0 : Option Addr) (n0 c0 : Nat) (l : List Tst) (A : Option Addr) (c : Nat) (w : World) (hK : K = 1 ∨ K = 4) (hs : Tsts w A l) (hl : l.length ≤ 999) (hsn : ∀ t ∈ l, tsnd t = true) :
    Calls Tryz.prog 37 #[tyv K sc any0 not0 (.slice A0 n0 c0), tsv false true (.slice A l.length c)] w (NumOut w K (nulH false true l) (MemH K sc false true l) (l.length + 1)) := by
  have hAll := all_rng hK
  have C3 := (show ∀ X bA bc bA2 bc2 cA cc cA2 cc2 (r : List Sp), SlS X (.slice bA (allS K).sp.length bc) (allS K).sp → SlS X (.slice cA r.length cc) r → r.length ≤ 1000 → (∀ s ∈ r, Rng s) →
      Calls Tryz.prog 49 #[(allS K).val bA bc bA2 bc2, (⟨K, r, false, [], 0, nulk l⟩ : St).val cA cc cA2 cc2] X fun e w' => ∃ q, SetOut X ⟨K, q, false, [], 0, (true && !nulk l)⟩ e w' ∧ Ord q ∧ (∀ s ∈ q, Rng s) ∧ (∀ n, SMem q n ↔ SMem (allS K).sp n ∧ ¬ SMem r n) ∧ q.length ≤ (allS K).sp.length + r.length from fun X bA bc bA2 bc2 cA cc cA2 cc2 r h1 h2 h3 h4 => by
    rcases hK with rfl | rfl
    · exact withoutS1_any _ _ _ _ true r false [] 0 (nulk l) bA bc bA2 bc2 cA cc cA2 cc2 X h1 h2 (Nat.le_trans (Nat.le_of_eq hAll.2.1) (by decide)) h3 hAll.1 h4
    · exact withoutS4_any _ _ _ _ true r false [] 0 (nulk l) bA bc bA2 bc2 cA cc cA2 cc2 X h1 h2 (Nat.le_trans (Nat.le_of_eq hAll.2.1) (by decide)) h3 hAll.1 h4)
  refine (holdGW_any (fun s => ∃ r, s = (⟨K, r, false, [], 0, nulk l⟩ : St) ∧ Ord r ∧ (∀ x ∈ r, Rng x) ∧ (∀ n, SMem r n ↔ SMem (rngk K sc l) n) ∧ r.length ≤ l.length) (fun s q => ∃ t, q = (⟨K, t, false, [], 0, !nulk l⟩ : St) ∧ Ord t ∧ (∀ x ∈ t, Rng x) ∧ (∀ n, SMem t n ↔ SMem (allS K).sp n ∧ ¬ SMem (rngk K sc l) n) ∧ t.length ≤ l.length + 1) K sc any0 not0 A0 n0 c0 l A c w (by omega) (by omega) ?_ ?_).mono ?_
  · intro W hW
    refine (someN_any K sc any0 not0 A0 n0 c0 l A c W hK (hs.keep hW) (by omega) hsn).mono ?_
    rintro e w' ⟨r, h1, h2⟩
    exact ⟨_, h1, r, rfl, h2⟩
  · rintro X s bA bc bA2 bc2 cA cc cA2 cc2 ⟨r, rfl, g1, g2, g3, g4⟩ i1 i2
    refine (C3 X bA bc bA2 bc2 cA cc cA2 cc2 r i1.1 i2.1 (by omega) g2).mono ?_
    rintro e w' ⟨q, h1, h2, h3, h4, h5⟩
    exact ⟨_, h1, q, by simp, h2, h3, fun n => by rw [h4, g3], by have := hAll.2.1; omega⟩
  · rintro e w' ⟨s, q, h1, _, t, rfl, h2, h3, h4, h5⟩
    exact ⟨t, by simpa [nulH] using h1, h2, h3, fun n => by rw [h4]; simp [MemH], h5⟩
set_option maxRecDepth 100000 in
set_option maxHeartbeats 8000000 in
theorem holdGA_any (K sc : Int) (any0 not0 : Bool) (A0 : Option Addr) (n0 c0 : Nat) (nt : Bool) (n : Nat) (A : Option Addr) (c : Nat) (w : World) (hK1 : 1 ≤ K) (hK4 : K ≤ 4) :
    Calls Tryz.prog 37 #[tyv K sc any0 not0 (.slice A0 n0 c0), tsv true nt (.slice A n c)] w (SetOut w (allS K)) := by
  have C1 := Lib.hid fun W => sall_any K hK1 hK4 W
  have HK := Lib.hid (show (allS K).kind = K from rfl)
  generalize allS K = q at C1 HK ⊢
  obtain ⟨qk, qs, qa, qw, qb, qn⟩ := q
  simp only at HK
  clear hK1 hK4
  go_enter Tryz.func37, Tryz.ntmps37
  go_upto_region 1 with fail
  refine under_name (w0 := w) (by (repeat (first | with_reducible exact Bel.refl _ | with_reducible refine Bel.setCell ?_ (by first | exact Nat.le_refl _ | (dsimp only; omega)) _ | with_reducible refine Bel.alloc ?_ _ | with_reducible refine Bel.drew ?_ | with_reducible assumption | with_reducible refine Bel.trans ?_ (by assumption)))) fun W hc hf hz hb => ?_
  have m0 : W.cell? ⟨w.heap.size, 0, none⟩ = some (.int .i64 K) := by simp [hc, go_sem]
  have m1 : W.cell? ⟨w.heap.size, 1, none⟩ = some (.int .i64 sc) := by simp [hc, go_sem]
  have m2 : W.cell? ⟨w.heap.size, 2, none⟩ = some (.bool any0) := by simp [hc, go_sem]
  have m3 : W.cell? ⟨w.heap.size, 3, none⟩ = some (.bool not0) := by simp [hc, go_sem]
  have m4 : W.cell? ⟨w.heap.size, 4, none⟩ = some (.slice A0 n0 c0) := by simp [hc, go_sem]
  have x0 : W.cell? ⟨w.heap.size + 1, 0, none⟩ = some (.bool true) := by simp [hc, go_sem]
  have x1 : W.cell? ⟨w.heap.size + 1, 1, none⟩ = some (.bool nt) := by simp [hc, go_sem]
  have x2 : W.cell? ⟨w.heap.size + 1, 2, none⟩ = some (.slice A n c) := by simp [hc, go_sem]
  have r0 : W.cell? ⟨w.heap.size + 2, 0, none⟩ = some (.int .i64 0) := by simp [hc, go_sem]
  have r1 : W.cell? ⟨w.heap.size + 2, 1, none⟩ = some (.slice none 0 0) := by simp [hc, go_sem]
  have r2 : W.cell? ⟨w.heap.size + 2, 2, none⟩ = some (.bool false) := by simp [hc, go_sem]
  have r3 : W.cell? ⟨w.heap.size + 2, 3, none⟩ = some (.slice none 0 0) := by simp [hc, go_sem]
  have r4 : W.cell? ⟨w.heap.size + 2, 4, none⟩ = some (.int .i64 0) := by simp [hc, go_sem]
  have r5 : W.cell? ⟨w.heap.size + 2, 5, none⟩ = some (.bool false) := by simp [hc, go_sem]
  have rf0 : W.frozen? ⟨w.heap.size + 2, 0, none⟩ = false := by simp [hf, go_sem]
  have rf1 : W.frozen? ⟨w.heap.size + 2, 1, none⟩ = false := by simp [hf, go_sem]
  have rf2 : W.frozen? ⟨w.heap.size + 2, 2, none⟩ = false := by simp [hf, go_sem]
  have rf3 : W.frozen? ⟨w.heap.size + 2, 3, none⟩ = false := by simp [hf, go_sem]
  have rf4 : W.frozen? ⟨w.heap.size + 2, 4, none⟩ = false := by simp [hf, go_sem]
  have rf5 : W.frozen? ⟨w.heap.size + 2, 5, none⟩ = false := by simp [hf, go_sem]
  have z0 : w.heap.size + 3 ≤ W.heap.size := by simp [hz]
  clear hc hf hz
  go_wp2_with (go_at_call 65; (with_reducible refine Calls.mono (C1.out _) ?_); rintro e X1 ⟨A1, c1, A2, c2, rfl, S1, T1, hx1⟩; have zx1 : w.heap.size + 3 ≤ X1.heap.size := (Nat.le_trans z0 hx1.size); have hbX := hb.trans hx1; replace r0 := (hx1.cells _ _ (by omega)).trans r0; replace r1 := (hx1.cells _ _ (by omega)).trans r1; replace r2 := (hx1.cells _ _ (by omega)).trans r2; replace r3 := (hx1.cells _ _ (by omega)).trans r3; replace r4 := (hx1.cells _ _ (by omega)).trans r4; replace r5 := (hx1.cells _ _ (by omega)).trans r5; replace rf0 := (hx1.frozens _ _ (by omega)).trans rf0; replace rf1 := (hx1.frozens _ _ (by omega)).trans rf1; replace rf2 := (hx1.frozens _ _ (by omega)).trans rf2; replace rf3 := (hx1.frozens _ _ (by omega)).trans rf3; replace rf4 := (hx1.frozens _ _ (by omega)).trans rf4; replace rf5 := (hx1.frozens _ _ (by omega)).trans rf5)
  refine bodyPost_ret (by simp [results, Tryz.results37, go_sem, r0, rf0, r1, rf1, r2, rf2, r3, rf3, r4, rf4, r5, rf5]; try rfl) rfl ⟨A1, c1, A2, c2, rfl, SpP.low (SpP.other (SpP.low S1 z0) (by simp) fun k o hk => ?_) (Nat.le_add_right _ _), StP.low (StP.other (StP.low T1 z0) (by simp) fun k o hk => ?_) (Nat.le_add_right _ _), ?_⟩
  · have n1 : ¬ w.heap.size + 2 = k := by omega
    simp [go_sem, n1]
  · have n1 : ¬ w.heap.size + 2 = k := by omega
    simp [go_sem, n1]
  · (repeat (first | with_reducible exact Bel.refl _ | with_reducible refine Bel.setCell ?_ (by first | exact Nat.le_refl _ | (dsimp only; omega)) _ | with_reducible refine Bel.alloc ?_ _ | with_reducible refine Bel.drew ?_ | with_reducible assumption | with_reducible refine Bel.trans ?_ (by assumption)))
theorem holdNA_any (K sc : Int) (any0 not0 : Bool) (A0 : Option Addr) (n0 c0 : Nat) (nt : Bool) (l : List Tst) (A : Option Addr) (c : Nat) (w : World) (hK : K = 1 ∨ K = 4) (hs : Tsts w A l) (hl : l.length ≤ 999) (hsn : ∀ t ∈ l, tsnd t = true) :
    Calls Tryz.prog 37 #[tyv K sc any0 not0 (.slice A0 n0 c0), tsv true nt (.slice A l.length c)] w (NumOut w K (nulH true nt l) (MemH K sc true nt l) (l.length + 1)) := by
  have hAll := all_rng hK
  refine (holdGA_any K sc any0 not0 A0 n0 c0 nt l.length A c w (by omega) (by omega)).mono ?_
  intro e w' h1
  refine ⟨(allS K).sp, ?_, hAll.2.2, hAll.1, fun n => by simp [MemH], by omega⟩
  rcases hK with rfl | rfl
  · exact h1
  · exact h1
theorem holdN_any (K sc : Int) (any0 not0 : Bool) (A0 : Option Addr) (n0 c0 : Nat) (any not : Bool) (l : List Tst) (A : Option Addr) (c : Nat) (w : World) (hK : K = 1 ∨ K = 4) (hs : Tsts w A l) (hl : l.length ≤ 999) (hsn : ∀ t ∈ l, tsnd t = true) :
    Calls Tryz.prog 37 #[tyv K sc any0 not0 (.slice A0 n0 c0), tsv any not (.slice A l.length c)] w (NumOut w K (nulH any not l) (MemH K sc any not l) (l.length + 1)) := by
  cases any with
  | true => exact holdNA_any K sc any0 not0 A0 n0 c0 not l A c w hK hs hl hsn
  | false =>
    cases not with
    | true => exact holdNW_any K sc any0 not0 A0 n0 c0 l A c w hK hs hl hsn
    | false => exact holdNM_any K sc any0 not0 A0 n0 c0 l A c w hK hs hl hsn
set_option maxRecDepth 100000 in
set_option maxHeartbeats 8000000 in
theorem fullN_any (K sc : Int) (any not : Bool) (l : List Tst) (A : Option Addr) (c : Nat) (w : World) (hK : K = 1 ∨ K = 4) (hs : Tsts w A l) (hl : l.length ≤ 999) (hsn : ∀ t ∈ l, tsnd t = true) :
    Calls Tryz.prog 36 #[tyv K sc any not (.slice A l.length c)] w (NumOut w K true (MemH K sc any not l) (l.length + 1)) := by
  have C := Lib.hid fun W (hW : Bel w W) => holdN_any K sc any not A l.length c any not l A c W hK (hs.keep hW) hl hsn
  clear hs hl hsn hK
  go_enter Tryz.func36, Tryz.ntmps36
  go_upto_region 1 with fail
  refine under_name (w0 := w) (by (repeat (first | with_reducible exact Bel.refl _ | with_reducible refine Bel.setCell ?_ (by first | exact Nat.le_refl _ | (dsimp only; omega)) _ | with_reducible refine Bel.alloc ?_ _ | with_reducible refine Bel.drew ?_ | with_reducible assumption | with_reducible refine Bel.trans ?_ (by assumption)))) fun W hc hf hz hb => ?_
  have m0 : W.cell? ⟨w.heap.size, 0, none⟩ = some (.int .i64 K) := by simp [hc, go_sem]
  have m1 : W.cell? ⟨w.heap.size, 1, none⟩ = some (.int .i64 sc) := by simp [hc, go_sem]
  have m2 : W.cell? ⟨w.heap.size, 2, none⟩ = some (.bool any) := by simp [hc, go_sem]
  have m3 : W.cell? ⟨w.heap.size, 3, none⟩ = some (.bool not) := by simp [hc, go_sem]
  have m4 : W.cell? ⟨w.heap.size, 4, none⟩ = some (.slice A l.length c) := by simp [hc, go_sem]
  have r0 : W.cell? ⟨w.heap.size + 1, 0, none⟩ = some (.int .i64 0) := by simp [hc, go_sem]
  have r1 : W.cell? ⟨w.heap.size + 1, 1, none⟩ = some (.slice none 0 0) := by simp [hc, go_sem]
  have r2 : W.cell? ⟨w.heap.size + 1, 2, none⟩ = some (.bool false) := by simp [hc, go_sem]
  have r3 : W.cell? ⟨w.heap.size + 1, 3, none⟩ = some (.slice none 0 0) := by simp [hc, go_sem]
  have r4 : W.cell? ⟨w.heap.size + 1, 4, none⟩ = some (.int .i64 0) := by simp [hc, go_sem]
  have r5 : W.cell? ⟨w.heap.size + 1, 5, none⟩ = some (.bool false) := by simp [hc, go_sem]
  have rf0 : W.frozen? ⟨w.heap.size + 1, 0, none⟩ = false := by simp [hf, go_sem]
  have rf1 : W.frozen? ⟨w.heap.size + 1, 1, none⟩ = false := by simp [hf, go_sem]
  have rf2 : W.frozen? ⟨w.heap.size + 1, 2, none⟩ = false := by simp [hf, go_sem]
  have rf3 : W.frozen? ⟨w.heap.size + 1, 3, none⟩ = false := by simp [hf, go_sem]
  have rf4 : W.frozen? ⟨w.heap.size + 1, 4, none⟩ = false := by simp [hf, go_sem]
  have rf5 : W.frozen? ⟨w.heap.size + 1, 5, none⟩ = false := by simp [hf, go_sem]
  have z0 : w.heap.size + 2 ≤ W.heap.size := by simp [hz]
  clear hc hf hz
  go_upto_region 3 with (go_at_call 37; (with_reducible refine Calls.mono (C.out _ hb) ?_); rintro e X1 ⟨q, ⟨A1, c1, A2, c2, rfl, S1, T1, hx1⟩, h1, h2, h3, h4⟩; have HQ := Lib.hid (And.intro h1 (And.intro h2 (And.intro h3 h4))); clear h1 h2 h3 h4; have zx1 : w.heap.size + 2 ≤ X1.heap.size := (Nat.le_trans z0 hx1.size); have hbX := hb.trans hx1; have HS := Lib.hid (And.intro S1 T1); clear S1 T1; replace r0 := (hx1.cells _ _ (by omega)).trans r0; replace r1 := (hx1.cells _ _ (by omega)).trans r1; replace r2 := (hx1.cells _ _ (by omega)).trans r2; replace r3 := (hx1.cells _ _ (by omega)).trans r3; replace r4 := (hx1.cells _ _ (by omega)).trans r4; replace r5 := (hx1.cells _ _ (by omega)).trans r5; replace rf0 := (hx1.frozens _ _ (by omega)).trans rf0; replace rf1 := (hx1.frozens _ _ (by omega)).trans rf1; replace rf2 := (hx1.frozens _ _ (by omega)).trans rf2; replace rf3 := (hx1.frozens _ _ (by omega)).trans rf3; replace rf4 := (hx1.frozens _ _ (by omega)).trans rf4; replace rf5 := (hx1.frozens _ _ (by omega)).trans rf5)
  refine under_name (w0 := X1) (by (repeat (first | with_reducible exact Bel.refl _ | with_reducible refine Bel.setCell ?_ (by first | exact Nat.le_refl _ | (dsimp only; omega)) _ | with_reducible refine Bel.alloc ?_ _ | with_reducible refine Bel.drew ?_ | with_reducible assumption | with_reducible refine Bel.trans ?_ (by assumption)))) fun Y hc hf hz hy => ?_
  have s0 : Y.cell? ⟨X1.heap.size, 0, none⟩ = some (.int .i64 K) := by simp [hc, go_sem]
  have s1 : Y.cell? ⟨X1.heap.size, 1, none⟩ = some (.slice A1 q.length c1) := by simp [hc, go_sem]
  have s2 : Y.cell? ⟨X1.heap.size, 2, none⟩ = some (.bool false) := by simp [hc, go_sem]
  have s3 : Y.cell? ⟨X1.heap.size, 3, none⟩ = some (.slice A2 0 c2) := by simp [hc, go_sem]
  have s4 : Y.cell? ⟨X1.heap.size, 4, none⟩ = some (.int .i64 0) := by simp [hc, go_sem]
  have s5 : Y.cell? ⟨X1.heap.size, 5, none⟩ = some (.bool true) := by simp [hc, go_sem]
  have zy : X1.heap.size < Y.heap.size := by simp [hz]
  clear hc hf hz
  replace r0 := (hy.cells _ _ (by omega)).trans r0; replace r1 := (hy.cells _ _ (by omega)).trans r1; replace r2 := (hy.cells _ _ (by omega)).trans r2; replace r3 := (hy.cells _ _ (by omega)).trans r3; replace r4 := (hy.cells _ _ (by omega)).trans r4; replace r5 := (hy.cells _ _ (by omega)).trans r5; replace rf0 := (hy.frozens _ _ (by omega)).trans rf0; replace rf1 := (hy.frozens _ _ (by omega)).trans rf1; replace rf2 := (hy.frozens _ _ (by omega)).trans rf2; replace rf3 := (hy.frozens _ _ (by omega)).trans rf3; replace rf4 := (hy.frozens _ _ (by omega)).trans rf4; replace rf5 := (hy.frozens _ _ (by omega)).trans rf5
  have hbY := hbX.trans hy
  have lt1 : w.heap.size + 1 < Y.heap.size := by omega
  replace HS := Lib.hid (And.intro (SpP.low (HS.out.1.keep hy) z0) (StP.low (HS.out.2.keep hy) z0))
  clear hx1 hbX hy hb m0 m1 m2 m3 m4 C
  go_wp2_with fail
  refine bodyPost_ret (by simp [results, Tryz.results36, go_sem, r0, rf0, r1, rf1, r2, rf2, r3, rf3, r4, rf4, r5, rf5]; try rfl) rfl ⟨q, ⟨A1, c1, A2, c2, rfl, SpP.low (SpP.other HS.out.1 (by simp) fun k o hk => ?_) (Nat.le_add_right _ _), StP.low (StP.other HS.out.2 (by simp) fun k o hk => ?_) (Nat.le_add_right _ _), ?_⟩, HQ.out.1, HQ.out.2.1, HQ.out.2.2.1, HQ.out.2.2.2⟩
  · have n1 : ¬ w.heap.size + 1 = k := by omega
    simp [go_sem, n1]
  · have n1 : ¬ w.heap.size + 1 = k := by omega
    simp [go_sem, n1]
  · (repeat (first | with_reducible exact Bel.refl _ | with_reducible refine Bel.setCell ?_ (by first | exact Nat.le_refl _ | (dsimp only; omega)) _ | with_reducible refine Bel.alloc ?_ _ | with_reducible refine Bel.drew ?_ | with_reducible assumption | with_reducible refine Bel.trans ?_ (by assumption)))
set_option maxRecDepth 100000 in
set_option maxHeartbeats 8000000 in
theorem ofN_any (K sc : Int) (any not : Bool) (l : List Tst) (A : Option Addr) (c : Nat) (any2 not2 : Bool) (m : List Tst) (B : Option Addr) (d : Nat) (w : World) (hK : K = 1 ∨ K = 4) (hs : Tsts w A l) (hl : l.length ≤ 999) (hm : Tsts w B m) (hml : m.length ≤ 999) (ht : ∀ t ∈ l, TOk t) (ht2 : ∀ t ∈ m, TOk t) (hsn : ∀ t ∈ l, tsnd t = true) (hsn2 : ∀ t ∈ m, tsnd t = true) (hy : tysnd K sc any not l = true) (hu : usnd any2 not2 m = true) :
    Calls Tryz.prog 14 #[tyv K sc any not (.slice A l.length c), tsv any2 not2 (.slice B m.length d)] w fun e w' => ∃ q A1 c1 A2 c2, e = .returned (.tuple #[(⟨K, q, false, [], 0, nulH any2 not2 m⟩ : St).val A1 c1 A2 c2, .int .i64 0]) ∧ SpP w.heap.size w' A1 c1 q ∧ StP w.heap.size w' A2 c2 [] ∧ Bel w w' ∧ Ord q ∧ (∀ s ∈ q, Rng s) ∧ (∀ n, SMem q n ↔ MemH K sc any not l n ∧ MemH K sc any2 not2 m n) ∧ q.length ≤ l.length + m.length + 2 := by
  have C0 := Lib.hid fun W (hW : Bel w W) => (show Calls Tryz.prog 10 #[tyv K sc any not (.slice A l.length c)] W fun e w' => e = .returned (.bool true) ∧ Bel W w' from by
    have := tsound_any K sc any not l A c W (hs.keep hW) (by omega) ht
    rw [hy] at this
    exact this)
  have C9 := Lib.hid fun W (hW : Bel w W) => (show Calls Tryz.prog 30 #[tsv any2 not2 (.slice B m.length d)] W fun e w' => e = .returned (.bool true) ∧ Bel W w' from by
    have := usound_any any2 not2 m B d W (hm.keep hW) (by omega) ht2
    rw [hu] at this
    exact this)
  have C1 := Lib.hid fun W (hW : Bel w W) => fullN_any K sc any not l A c W hK (hs.keep hW) hl hsn
  have C2 := Lib.hid fun W (hW : Bel w W) => holdN_any K sc any not A l.length c any2 not2 m B d W hK (hm.keep hW) hml hsn2
  have C3 := Lib.hid (show ∀ X bA bc bA2 bc2 cA cc cA2 cc2 (p r : List Sp) nu nu2, SlS X (.slice bA p.length bc) p → SlS X (.slice cA r.length cc) r → p.length ≤ 1000 → r.length ≤ 1000 → (∀ s ∈ p, Rng s) → (∀ s ∈ r, Rng s) →
      Calls Tryz.prog 35 #[(⟨K, p, false, [], 0, nu⟩ : St).val bA bc bA2 bc2, (⟨K, r, false, [], 0, nu2⟩ : St).val cA cc cA2 cc2] X fun e w' => ∃ q, SetOut X ⟨K, q, false, [], 0, nu && nu2⟩ e w' ∧ Ord q ∧ (∀ s ∈ q, Rng s) ∧ (∀ n, SMem q n ↔ SMem p n ∧ SMem r n) ∧ q.length ≤ p.length + r.length from fun X bA bc bA2 bc2 cA cc cA2 cc2 p r nu nu2 h1 h2 h3 h4 h5 h6 => by
    rcases hK with rfl | rfl
    · exact meetS1_any p false [] 0 nu r false [] 0 nu2 bA bc bA2 bc2 cA cc cA2 cc2 X h1 h2 h3 h4 h5 h6
    · exact meetS4_any p false [] 0 nu r false [] 0 nu2 bA bc bA2 bc2 cA cc cA2 cc2 X h1 h2 h3 h4 h5 h6)
  have HL := Lib.hid (And.intro hl hml)
  clear hs hl hm hml ht ht2 hsn hsn2 hy hu hK
  go_enter Tryz.func14, Tryz.ntmps14
  go_upto_region 1 with fail
  refine under_name (w0 := w) (by (repeat (first | with_reducible exact Bel.refl _ | with_reducible refine Bel.setCell ?_ (by first | exact Nat.le_refl _ | (dsimp only; omega)) _ | with_reducible refine Bel.alloc ?_ _ | with_reducible refine Bel.drew ?_ | with_reducible assumption | with_reducible refine Bel.trans ?_ (by assumption)))) fun V hc hf hz hbv => ?_
  have m0 : V.cell? ⟨w.heap.size, 0, none⟩ = some (.int .i64 K) := by simp [hc, go_sem]
  have m1 : V.cell? ⟨w.heap.size, 1, none⟩ = some (.int .i64 sc) := by simp [hc, go_sem]
  have m2 : V.cell? ⟨w.heap.size, 2, none⟩ = some (.bool any) := by simp [hc, go_sem]
  have m3 : V.cell? ⟨w.heap.size, 3, none⟩ = some (.bool not) := by simp [hc, go_sem]
  have m4 : V.cell? ⟨w.heap.size, 4, none⟩ = some (.slice A l.length c) := by simp [hc, go_sem]
  have x0 : V.cell? ⟨w.heap.size + 1, 0, none⟩ = some (.bool any2) := by simp [hc, go_sem]
  have x1 : V.cell? ⟨w.heap.size + 1, 1, none⟩ = some (.bool not2) := by simp [hc, go_sem]
  have x2 : V.cell? ⟨w.heap.size + 1, 2, none⟩ = some (.slice B m.length d) := by simp [hc, go_sem]
  have r0 : V.cell? ⟨w.heap.size + 2, 0, none⟩ = some (.int .i64 0) := by simp [hc, go_sem]
  have r1 : V.cell? ⟨w.heap.size + 2, 1, none⟩ = some (.slice none 0 0) := by simp [hc, go_sem]
  have r2 : V.cell? ⟨w.heap.size + 2, 2, none⟩ = some (.bool false) := by simp [hc, go_sem]
  have r3 : V.cell? ⟨w.heap.size + 2, 3, none⟩ = some (.slice none 0 0) := by simp [hc, go_sem]
  have r4 : V.cell? ⟨w.heap.size + 2, 4, none⟩ = some (.int .i64 0) := by simp [hc, go_sem]
  have r5 : V.cell? ⟨w.heap.size + 2, 5, none⟩ = some (.bool false) := by simp [hc, go_sem]
  have rf0 : V.frozen? ⟨w.heap.size + 2, 0, none⟩ = false := by simp [hf, go_sem]
  have rf1 : V.frozen? ⟨w.heap.size + 2, 1, none⟩ = false := by simp [hf, go_sem]
  have rf2 : V.frozen? ⟨w.heap.size + 2, 2, none⟩ = false := by simp [hf, go_sem]
  have rf3 : V.frozen? ⟨w.heap.size + 2, 3, none⟩ = false := by simp [hf, go_sem]
  have rf4 : V.frozen? ⟨w.heap.size + 2, 4, none⟩ = false := by simp [hf, go_sem]
  have rf5 : V.frozen? ⟨w.heap.size + 2, 5, none⟩ = false := by simp [hf, go_sem]
  have z0 : w.heap.size + 3 ≤ V.heap.size := by simp [hz]
  clear hc hf hz
  go_upto_region 3 with (first
    | (go_at_call 10; (with_reducible refine Calls.mono (C0.out _ hbv) ?_); rintro e V1 ⟨rfl, hv1⟩; have hbv1 := hbv.trans hv1; have zv1 : w.heap.size + 3 ≤ V1.heap.size := (Nat.le_trans z0 hv1.size); replace m0 := (hv1.cells _ _ (by omega)).trans m0; replace m1 := (hv1.cells _ _ (by omega)).trans m1; replace m2 := (hv1.cells _ _ (by omega)).trans m2; replace m3 := (hv1.cells _ _ (by omega)).trans m3; replace m4 := (hv1.cells _ _ (by omega)).trans m4; replace x0 := (hv1.cells _ _ (by omega)).trans x0; replace x1 := (hv1.cells _ _ (by omega)).trans x1; replace x2 := (hv1.cells _ _ (by omega)).trans x2; replace r0 := (hv1.cells _ _ (by omega)).trans r0; replace r1 := (hv1.cells _ _ (by omega)).trans r1; replace r2 := (hv1.cells _ _ (by omega)).trans r2; replace r3 := (hv1.cells _ _ (by omega)).trans r3; replace r4 := (hv1.cells _ _ (by omega)).trans r4; replace r5 := (hv1.cells _ _ (by omega)).trans r5; replace rf0 := (hv1.frozens _ _ (by omega)).trans rf0; replace rf1 := (hv1.frozens _ _ (by omega)).trans rf1; replace rf2 := (hv1.frozens _ _ (by omega)).trans rf2; replace rf3 := (hv1.frozens _ _ (by omega)).trans rf3; replace rf4 := (hv1.frozens _ _ (by omega)).trans rf4; replace rf5 := (hv1.frozens _ _ (by omega)).trans rf5)
    | (go_at_call 30; (with_reducible refine Calls.mono (C9.out _ hbv1) ?_); rintro e W ⟨rfl, hv2⟩; have hb := hbv1.trans hv2; have zW : w.heap.size + 3 ≤ W.heap.size := (Nat.le_trans zv1 hv2.size); replace m0 := (hv2.cells _ _ (by omega)).trans m0; replace m1 := (hv2.cells _ _ (by omega)).trans m1; replace m2 := (hv2.cells _ _ (by omega)).trans m2; replace m3 := (hv2.cells _ _ (by omega)).trans m3; replace m4 := (hv2.cells _ _ (by omega)).trans m4; replace x0 := (hv2.cells _ _ (by omega)).trans x0; replace x1 := (hv2.cells _ _ (by omega)).trans x1; replace x2 := (hv2.cells _ _ (by omega)).trans x2; replace r0 := (hv2.cells _ _ (by omega)).trans r0; replace r1 := (hv2.cells _ _ (by omega)).trans r1; replace r2 := (hv2.cells _ _ (by omega)).trans r2; replace r3 := (hv2.cells _ _ (by omega)).trans r3; replace r4 := (hv2.cells _ _ (by omega)).trans r4; replace r5 := (hv2.cells _ _ (by omega)).trans r5; replace rf0 := (hv2.frozens _ _ (by omega)).trans rf0; replace rf1 := (hv2.frozens _ _ (by omega)).trans rf1; replace rf2 := (hv2.frozens _ _ (by omega)).trans rf2; replace rf3 := (hv2.frozens _ _ (by omega)).trans rf3; replace rf4 := (hv2.frozens _ _ (by omega)).trans rf4; replace rf5 := (hv2.frozens _ _ (by omega)).trans rf5))
  clear hv1 hv2 hbv hbv1 zv1 z0 C0 C9
  refine wp_region_noPanic ?_
  refine wp_region_held (S := fun X => Bel w X ∧ X.cell? ⟨w.heap.size, 0, none⟩ = some (.int .i64 K) ∧ X.cell? ⟨w.heap.size, 1, none⟩ = some (.int .i64 sc) ∧ X.cell? ⟨w.heap.size, 2, none⟩ = some (.bool any) ∧ X.cell? ⟨w.heap.size, 3, none⟩ = some (.bool not) ∧ X.cell? ⟨w.heap.size, 4, none⟩ = some (.slice A l.length c) ∧ X.cell? ⟨w.heap.size + 1, 0, none⟩ = some (.bool any2) ∧ X.cell? ⟨w.heap.size + 1, 1, none⟩ = some (.bool not2) ∧ X.cell? ⟨w.heap.size + 1, 2, none⟩ = some (.slice B m.length d)) (by kernel_rfl) ?_
  have hX0 : Bel W { W with drawn := W.drawn + 1 } := (Bel.refl W).drew
  generalize { W with drawn := W.drawn + 1 } = X0 at hX0 ⊢
  replace m0 := (hX0.cells _ _ (by omega)).trans m0; replace m1 := (hX0.cells _ _ (by omega)).trans m1; replace m2 := (hX0.cells _ _ (by omega)).trans m2; replace m3 := (hX0.cells _ _ (by omega)).trans m3; replace m4 := (hX0.cells _ _ (by omega)).trans m4; replace x0 := (hX0.cells _ _ (by omega)).trans x0; replace x1 := (hX0.cells _ _ (by omega)).trans x1; replace x2 := (hX0.cells _ _ (by omega)).trans x2
  have zX0 : w.heap.size + 3 ≤ X0.heap.size := Nat.le_trans zW hX0.size
  have hb0 := hb.trans hX0
  refine wpAnyH_take (i := 0) (oi := { dst := some 15, op := Op.load 26 (Operand.tmp 2), type := 26, pos := "sets.go:43", after := #[], guard := none }) (v := (tyv K sc any not (.slice A l.length c))) rfl (by kernel_rfl) (by kernel_rfl) (by kernel_rfl) (fun _ _ _ h => h) (.inl ⟨by rfl, fun X hS => by
      obtain ⟨_, k0, k1, k2, k3, k4, k5, k6, k7⟩ := hS
      go_simp; first | done | with_reducible rfl | rfl⟩) ⟨hb0, m0, m1, m2, m3, m4, x0, x1, x2⟩ ?_
  (try simp only [Act.put, List.setIfInBounds_toArray, List.set_cons_zero, List.set_cons_succ])
  refine wpAnyH_take (i := 2) (oi := { dst := some 17, op := Op.load 26 (Operand.tmp 2), type := 26, pos := "sets.go:43", after := #[], guard := none }) (v := (tyv K sc any not (.slice A l.length c))) rfl (by kernel_rfl) (by kernel_rfl) (by kernel_rfl) (fun _ _ _ h => h) (.inl ⟨by rfl, fun X hS => by
      obtain ⟨_, k0, k1, k2, k3, k4, k5, k6, k7⟩ := hS
      go_simp; first | done | with_reducible rfl | rfl⟩) ⟨hb0, m0, m1, m2, m3, m4, x0, x1, x2⟩ ?_
  (try simp only [Act.put, List.setIfInBounds_toArray, List.set_cons_zero, List.set_cons_succ])
  refine wpAnyH_take (i := 3) (oi := { dst := some 18, op := Op.load 24 (Operand.tmp 3), type := 24, pos := "sets.go:43", after := #[], guard := none }) (v := (tsv any2 not2 (.slice B m.length d))) rfl (by kernel_rfl) (by kernel_rfl) (by kernel_rfl) (fun _ _ _ h => h) (.inl ⟨by rfl, fun X hS => by
      obtain ⟨_, k0, k1, k2, k3, k4, k5, k6, k7⟩ := hS
      go_simp; first | done | with_reducible rfl | rfl⟩) ⟨hb0, m0, m1, m2, m3, m4, x0, x1, x2⟩ ?_
  (try simp only [Act.put, List.setIfInBounds_toArray, List.set_cons_zero, List.set_cons_succ])
  refine wpAnyH_all (rs := [1]) (by kernel_rfl) (by simp) ?_
  intro i hi
  simp only [List.mem_cons, List.not_mem_nil, or_false] at hi
  subst hi
  refine wpOp_enter (o := { dst := some 16, op := Op.call { callee := Callee.value (Operand.func 36), args := #[Operand.tmp 15], argTypes := #[26] }, type := 39, pos := "sets.go:43", after := #[{ on := 0, ground := Ground.data }], guard := none }) (R := fun v w' => ∃ p A1 c1 A2 c2, v = (⟨K, p, false, [], 0, true⟩ : St).val A1 c1 A2 c2 ∧ SpP X0.heap.size w' A1 c1 p ∧ ((∀ s ∈ p, Rng s) ∧ (∀ n, SMem p n ↔ MemH K sc any not l n) ∧ p.length ≤ l.length + 1) ∧ Bel X0 w') rfl (by rfl) (by go_simp; first | done | with_reducible rfl | rfl) ((C1.out X0 hb0).mono fun e w' ⟨p, ⟨A1, c1, A2, c2, h1, h2, h3, h4⟩, _, h5, h6, h7⟩ => ⟨_, h1, p, A1, c1, A2, c2, rfl, h2, ⟨h5, h6, h7⟩, h4⟩) ?_
  rintro v X1 ⟨p, A1, c1, A2, c2, rfl, S1, HP, hb'⟩
  replace m0 := (hb'.cells _ _ (by omega)).trans m0; replace m1 := (hb'.cells _ _ (by omega)).trans m1; replace m2 := (hb'.cells _ _ (by omega)).trans m2; replace m3 := (hb'.cells _ _ (by omega)).trans m3; replace m4 := (hb'.cells _ _ (by omega)).trans m4; replace x0 := (hb'.cells _ _ (by omega)).trans x0; replace x1 := (hb'.cells _ _ (by omega)).trans x1; replace x2 := (hb'.cells _ _ (by omega)).trans x2
  have zX1 : w.heap.size + 3 ≤ X1.heap.size := Nat.le_trans zX0 hb'.size
  have hX1 := hX0.trans hb'
  have hb1 := hb0.trans hb'
  clear hb'
  refine ⟨⟨hb1, m0, m1, m2, m3, m4, x0, x1, x2⟩, ?_⟩
  (try simp only [Act.put, List.setIfInBounds_toArray, List.set_cons_zero, List.set_cons_succ])
  refine wpAnyH_all (rs := [4]) (by kernel_rfl) (by simp) ?_
  intro i hi
  simp only [List.mem_cons, List.not_mem_nil, or_false] at hi
  subst hi
  refine wpOp_enter (o := { dst := some 19, op := Op.call { callee := Callee.value (Operand.func 37), args := #[Operand.tmp 17, Operand.tmp 18], argTypes := #[26, 24] }, type := 39, pos := "sets.go:43", after := #[{ on := 2, ground := Ground.data }, { on := 3, ground := Ground.data }, { on := 1, ground := Ground.chain }], guard := none }) (R := fun v w' => ∃ r A3 c3 A4 c4, v = (⟨K, r, false, [], 0, nulH any2 not2 m⟩ : St).val A3 c3 A4 c4 ∧ SpP X1.heap.size w' A3 c3 r ∧ ((∀ s ∈ r, Rng s) ∧ (∀ n, SMem r n ↔ MemH K sc any2 not2 m n) ∧ r.length ≤ m.length + 1) ∧ Bel X1 w') rfl (by rfl) (by go_simp; first | done | with_reducible rfl | rfl) ((C2.out X1 hb1).mono fun e w' ⟨r, ⟨A3, c3, A4, c4, h1, h2, h3, h4⟩, _, h5, h6, h7⟩ => ⟨_, h1, r, A3, c3, A4, c4, rfl, h2, ⟨h5, h6, h7⟩, h4⟩) ?_
  rintro v X2 ⟨r, A3, c3, A4, c4, rfl, S2, HR, hb'⟩
  replace m0 := (hb'.cells _ _ (by omega)).trans m0; replace m1 := (hb'.cells _ _ (by omega)).trans m1; replace m2 := (hb'.cells _ _ (by omega)).trans m2; replace m3 := (hb'.cells _ _ (by omega)).trans m3; replace m4 := (hb'.cells _ _ (by omega)).trans m4; replace x0 := (hb'.cells _ _ (by omega)).trans x0; replace x1 := (hb'.cells _ _ (by omega)).trans x1; replace x2 := (hb'.cells _ _ (by omega)).trans x2
  have zX2 : w.heap.size + 3 ≤ X2.heap.size := Nat.le_trans zX1 hb'.size
  have hX2 := hX1.trans hb'
  have hb2 := hb1.trans hb'
  replace S1 := S1.keep hb'
  clear hb'
  refine ⟨⟨hb2, m0, m1, m2, m3, m4, x0, x1, x2⟩, ?_⟩
  (try simp only [Act.put, List.setIfInBounds_toArray, List.set_cons_zero, List.set_cons_succ])
  refine wpAnyH_all (rs := [5]) (by kernel_rfl) (by simp) ?_
  intro i hi
  simp only [List.mem_cons, List.not_mem_nil, or_false] at hi
  subst hi
  refine wpOp_enter (o := { dst := some 20, op := Op.call { callee := Callee.value (Operand.func 35), args := #[Operand.tmp 16, Operand.tmp 19], argTypes := #[39, 39] }, type := 39, pos := "sets.go:43", after := #[{ on := 1, ground := Ground.data }, { on := 4, ground := Ground.data }, { on := 4, ground := Ground.chain }], guard := none }) (R := fun v w' => ∃ q A5 c5 A6 c6, v = (⟨K, q, false, [], 0, true && nulH any2 not2 m⟩ : St).val A5 c5 A6 c6 ∧ SpP X2.heap.size w' A5 c5 q ∧ (Ord q ∧ (∀ s ∈ q, Rng s) ∧ (∀ n, SMem q n ↔ SMem p n ∧ SMem r n) ∧ q.length ≤ p.length + r.length) ∧ StP X2.heap.size w' A6 c6 [] ∧ Bel X2 w') rfl (by rfl) (by go_simp; first | done | with_reducible rfl | rfl) ((C3.out X2 A1 c1 A2 c2 A3 c3 A4 c4 p r true (nulH any2 not2 m) S1.sl S2.sl (by have := HP.2.2; have := HL.out.1; omega) (by have := HR.2.2; have := HL.out.2; omega) HP.1 HR.1).mono fun e w' ⟨q, ⟨A5, c5, A6, c6, h1, h2, h3, h4⟩, h5⟩ => ⟨_, h1, q, A5, c5, A6, c6, rfl, h2, h5, h3, h4⟩) ?_
  rintro v X3 ⟨q, A5, c5, A6, c6, rfl, S3, HQ, T3, hb'⟩
  replace m0 := (hb'.cells _ _ (by omega)).trans m0; replace m1 := (hb'.cells _ _ (by omega)).trans m1; replace m2 := (hb'.cells _ _ (by omega)).trans m2; replace m3 := (hb'.cells _ _ (by omega)).trans m3; replace m4 := (hb'.cells _ _ (by omega)).trans m4; replace x0 := (hb'.cells _ _ (by omega)).trans x0; replace x1 := (hb'.cells _ _ (by omega)).trans x1; replace x2 := (hb'.cells _ _ (by omega)).trans x2
  have zX3 : w.heap.size + 3 ≤ X3.heap.size := Nat.le_trans zX2 hb'.size
  have hX3 := hX2.trans hb'
  have hb3 := hb2.trans hb'
  clear hb'
  refine ⟨⟨hb3, m0, m1, m2, m3, m4, x0, x1, x2⟩, ?_⟩
  (try simp only [Act.put, List.setIfInBounds_toArray, List.set_cons_zero, List.set_cons_succ])
  replace r0 := (hX3.cells _ _ (by omega)).trans r0; replace r1 := (hX3.cells _ _ (by omega)).trans r1; replace r2 := (hX3.cells _ _ (by omega)).trans r2; replace r3 := (hX3.cells _ _ (by omega)).trans r3; replace r4 := (hX3.cells _ _ (by omega)).trans r4; replace r5 := (hX3.cells _ _ (by omega)).trans r5; replace rf0 := (hX3.frozens _ _ (by omega)).trans rf0; replace rf1 := (hX3.frozens _ _ (by omega)).trans rf1; replace rf2 := (hX3.frozens _ _ (by omega)).trans rf2; replace rf3 := (hX3.frozens _ _ (by omega)).trans rf3; replace rf4 := (hX3.frozens _ _ (by omega)).trans rf4; replace rf5 := (hX3.frozens _ _ (by omega)).trans rf5
  refine wpAnyH_all (rs := [6]) (by kernel_rfl) (by simp) ?_
  intro i hi
  simp only [List.mem_cons, List.not_mem_nil, or_false] at hi
  subst hi
  refine wpOp_skip (o := { dst := none, op := Op.store 39 (Operand.tmp 4) (Operand.tmp 20), type := 0, pos := "sets.go:43", after := #[{ on := 5, ground := Ground.data }, { on := 5, ground := Ground.chain }, { on := 0, ground := Ground.phase }, { on := 1, ground := Ground.phase }, { on := 2, ground := Ground.phase }, { on := 3, ground := Ground.phase }, { on := 4, ground := Ground.phase }, { on := 5, ground := Ground.phase }], guard := none }) (w' := ((((((X3.setCell ⟨w.heap.size + 2, 0, none⟩ (.int .i64 K)).setCell ⟨w.heap.size + 2, 1, none⟩ (.slice A5 q.length c5)).setCell ⟨w.heap.size + 2, 2, none⟩ (.bool false)).setCell ⟨w.heap.size + 2, 3, none⟩ (.slice A6 0 c6)).setCell ⟨w.heap.size + 2, 4, none⟩ (.int .i64 0)).setCell ⟨w.heap.size + 2, 5, none⟩ (.bool (true && nulH any2 not2 m)))) rfl (by rfl) (by go_simp; first | done | with_reducible rfl | rfl) ?_
  have hZ : Bel w ((((((X3.setCell ⟨w.heap.size + 2, 0, none⟩ (.int .i64 K)).setCell ⟨w.heap.size + 2, 1, none⟩ (.slice A5 q.length c5)).setCell ⟨w.heap.size + 2, 2, none⟩ (.bool false)).setCell ⟨w.heap.size + 2, 3, none⟩ (.slice A6 0 c6)).setCell ⟨w.heap.size + 2, 4, none⟩ (.int .i64 0)).setCell ⟨w.heap.size + 2, 5, none⟩ (.bool (true && nulH any2 not2 m))) := by
      (repeat (first | with_reducible exact Bel.refl _ | with_reducible refine Bel.setCell ?_ (by first | exact Nat.le_refl _ | (dsimp only; omega)) _ | with_reducible refine Bel.alloc ?_ _ | with_reducible refine Bel.drew ?_ | with_reducible assumption | with_reducible refine Bel.trans ?_ (by assumption)))
  replace m0 : World.cell? ((((((X3.setCell ⟨w.heap.size + 2, 0, none⟩ (.int .i64 K)).setCell ⟨w.heap.size + 2, 1, none⟩ (.slice A5 q.length c5)).setCell ⟨w.heap.size + 2, 2, none⟩ (.bool false)).setCell ⟨w.heap.size + 2, 3, none⟩ (.slice A6 0 c6)).setCell ⟨w.heap.size + 2, 4, none⟩ (.int .i64 0)).setCell ⟨w.heap.size + 2, 5, none⟩ (.bool (true && nulH any2 not2 m))) ⟨w.heap.size, 0, none⟩ = some (.int .i64 K) := by simp [go_sem, m0]
  replace m1 : World.cell? ((((((X3.setCell ⟨w.heap.size + 2, 0, none⟩ (.int .i64 K)).setCell ⟨w.heap.size + 2, 1, none⟩ (.slice A5 q.length c5)).setCell ⟨w.heap.size + 2, 2, none⟩ (.bool false)).setCell ⟨w.heap.size + 2, 3, none⟩ (.slice A6 0 c6)).setCell ⟨w.heap.size + 2, 4, none⟩ (.int .i64 0)).setCell ⟨w.heap.size + 2, 5, none⟩ (.bool (true && nulH any2 not2 m))) ⟨w.heap.size, 1, none⟩ = some (.int .i64 sc) := by simp [go_sem, m1]
  replace m2 : World.cell? ((((((X3.setCell ⟨w.heap.size + 2, 0, none⟩ (.int .i64 K)).setCell ⟨w.heap.size + 2, 1, none⟩ (.slice A5 q.length c5)).setCell ⟨w.heap.size + 2, 2, none⟩ (.bool false)).setCell ⟨w.heap.size + 2, 3, none⟩ (.slice A6 0 c6)).setCell ⟨w.heap.size + 2, 4, none⟩ (.int .i64 0)).setCell ⟨w.heap.size + 2, 5, none⟩ (.bool (true && nulH any2 not2 m))) ⟨w.heap.size, 2, none⟩ = some (.bool any) := by simp [go_sem, m2]
  replace m3 : World.cell? ((((((X3.setCell ⟨w.heap.size + 2, 0, none⟩ (.int .i64 K)).setCell ⟨w.heap.size + 2, 1, none⟩ (.slice A5 q.length c5)).setCell ⟨w.heap.size + 2, 2, none⟩ (.bool false)).setCell ⟨w.heap.size + 2, 3, none⟩ (.slice A6 0 c6)).setCell ⟨w.heap.size + 2, 4, none⟩ (.int .i64 0)).setCell ⟨w.heap.size + 2, 5, none⟩ (.bool (true && nulH any2 not2 m))) ⟨w.heap.size, 3, none⟩ = some (.bool not) := by simp [go_sem, m3]
  replace m4 : World.cell? ((((((X3.setCell ⟨w.heap.size + 2, 0, none⟩ (.int .i64 K)).setCell ⟨w.heap.size + 2, 1, none⟩ (.slice A5 q.length c5)).setCell ⟨w.heap.size + 2, 2, none⟩ (.bool false)).setCell ⟨w.heap.size + 2, 3, none⟩ (.slice A6 0 c6)).setCell ⟨w.heap.size + 2, 4, none⟩ (.int .i64 0)).setCell ⟨w.heap.size + 2, 5, none⟩ (.bool (true && nulH any2 not2 m))) ⟨w.heap.size, 4, none⟩ = some (.slice A l.length c) := by simp [go_sem, m4]
  replace x0 : World.cell? ((((((X3.setCell ⟨w.heap.size + 2, 0, none⟩ (.int .i64 K)).setCell ⟨w.heap.size + 2, 1, none⟩ (.slice A5 q.length c5)).setCell ⟨w.heap.size + 2, 2, none⟩ (.bool false)).setCell ⟨w.heap.size + 2, 3, none⟩ (.slice A6 0 c6)).setCell ⟨w.heap.size + 2, 4, none⟩ (.int .i64 0)).setCell ⟨w.heap.size + 2, 5, none⟩ (.bool (true && nulH any2 not2 m))) ⟨w.heap.size + 1, 0, none⟩ = some (.bool any2) := by simp [go_sem, x0]
  replace x1 : World.cell? ((((((X3.setCell ⟨w.heap.size + 2, 0, none⟩ (.int .i64 K)).setCell ⟨w.heap.size + 2, 1, none⟩ (.slice A5 q.length c5)).setCell ⟨w.heap.size + 2, 2, none⟩ (.bool false)).setCell ⟨w.heap.size + 2, 3, none⟩ (.slice A6 0 c6)).setCell ⟨w.heap.size + 2, 4, none⟩ (.int .i64 0)).setCell ⟨w.heap.size + 2, 5, none⟩ (.bool (true && nulH any2 not2 m))) ⟨w.heap.size + 1, 1, none⟩ = some (.bool not2) := by simp [go_sem, x1]
  replace x2 : World.cell? ((((((X3.setCell ⟨w.heap.size + 2, 0, none⟩ (.int .i64 K)).setCell ⟨w.heap.size + 2, 1, none⟩ (.slice A5 q.length c5)).setCell ⟨w.heap.size + 2, 2, none⟩ (.bool false)).setCell ⟨w.heap.size + 2, 3, none⟩ (.slice A6 0 c6)).setCell ⟨w.heap.size + 2, 4, none⟩ (.int .i64 0)).setCell ⟨w.heap.size + 2, 5, none⟩ (.bool (true && nulH any2 not2 m))) ⟨w.heap.size + 1, 2, none⟩ = some (.slice B m.length d) := by simp [go_sem, x2]
  refine ⟨⟨hZ, m0, m1, m2, m3, m4, x0, x1, x2⟩, ?_⟩
  (try simp only [Act.put, List.setIfInBounds_toArray, List.set_cons_zero, List.set_cons_succ])
  have t0 : World.cell? ((((((X3.setCell ⟨w.heap.size + 2, 0, none⟩ (.int .i64 K)).setCell ⟨w.heap.size + 2, 1, none⟩ (.slice A5 q.length c5)).setCell ⟨w.heap.size + 2, 2, none⟩ (.bool false)).setCell ⟨w.heap.size + 2, 3, none⟩ (.slice A6 0 c6)).setCell ⟨w.heap.size + 2, 4, none⟩ (.int .i64 0)).setCell ⟨w.heap.size + 2, 5, none⟩ (.bool (true && nulH any2 not2 m))) ⟨w.heap.size + 2, 0, none⟩ = some (.int .i64 K) := by simp [go_sem, r0, r1, r2, r3, r4, r5]
  have t1 : World.cell? ((((((X3.setCell ⟨w.heap.size + 2, 0, none⟩ (.int .i64 K)).setCell ⟨w.heap.size + 2, 1, none⟩ (.slice A5 q.length c5)).setCell ⟨w.heap.size + 2, 2, none⟩ (.bool false)).setCell ⟨w.heap.size + 2, 3, none⟩ (.slice A6 0 c6)).setCell ⟨w.heap.size + 2, 4, none⟩ (.int .i64 0)).setCell ⟨w.heap.size + 2, 5, none⟩ (.bool (true && nulH any2 not2 m))) ⟨w.heap.size + 2, 1, none⟩ = some (.slice A5 q.length c5) := by simp [go_sem, r0, r1, r2, r3, r4, r5]
  have t2 : World.cell? ((((((X3.setCell ⟨w.heap.size + 2, 0, none⟩ (.int .i64 K)).setCell ⟨w.heap.size + 2, 1, none⟩ (.slice A5 q.length c5)).setCell ⟨w.heap.size + 2, 2, none⟩ (.bool false)).setCell ⟨w.heap.size + 2, 3, none⟩ (.slice A6 0 c6)).setCell ⟨w.heap.size + 2, 4, none⟩ (.int .i64 0)).setCell ⟨w.heap.size + 2, 5, none⟩ (.bool (true && nulH any2 not2 m))) ⟨w.heap.size + 2, 2, none⟩ = some (.bool false) := by simp [go_sem, r0, r1, r2, r3, r4, r5]
  have t3 : World.cell? ((((((X3.setCell ⟨w.heap.size + 2, 0, none⟩ (.int .i64 K)).setCell ⟨w.heap.size + 2, 1, none⟩ (.slice A5 q.length c5)).setCell ⟨w.heap.size + 2, 2, none⟩ (.bool false)).setCell ⟨w.heap.size + 2, 3, none⟩ (.slice A6 0 c6)).setCell ⟨w.heap.size + 2, 4, none⟩ (.int .i64 0)).setCell ⟨w.heap.size + 2, 5, none⟩ (.bool (true && nulH any2 not2 m))) ⟨w.heap.size + 2, 3, none⟩ = some (.slice A6 0 c6) := by simp [go_sem, r0, r1, r2, r3, r4, r5]
  have t4 : World.cell? ((((((X3.setCell ⟨w.heap.size + 2, 0, none⟩ (.int .i64 K)).setCell ⟨w.heap.size + 2, 1, none⟩ (.slice A5 q.length c5)).setCell ⟨w.heap.size + 2, 2, none⟩ (.bool false)).setCell ⟨w.heap.size + 2, 3, none⟩ (.slice A6 0 c6)).setCell ⟨w.heap.size + 2, 4, none⟩ (.int .i64 0)).setCell ⟨w.heap.size + 2, 5, none⟩ (.bool (true && nulH any2 not2 m))) ⟨w.heap.size + 2, 4, none⟩ = some (.int .i64 0) := by simp [go_sem, r0, r1, r2, r3, r4, r5]
  have t5 : World.cell? ((((((X3.setCell ⟨w.heap.size + 2, 0, none⟩ (.int .i64 K)).setCell ⟨w.heap.size + 2, 1, none⟩ (.slice A5 q.length c5)).setCell ⟨w.heap.size + 2, 2, none⟩ (.bool false)).setCell ⟨w.heap.size + 2, 3, none⟩ (.slice A6 0 c6)).setCell ⟨w.heap.size + 2, 4, none⟩ (.int .i64 0)).setCell ⟨w.heap.size + 2, 5, none⟩ (.bool (true && nulH any2 not2 m))) ⟨w.heap.size + 2, 5, none⟩ = some (.bool (true && nulH any2 not2 m)) := by simp [go_sem, r0, r1, r2, r3, r4, r5]
  replace S3 : SpP (w.heap.size + 3) ((((((X3.setCell ⟨w.heap.size + 2, 0, none⟩ (.int .i64 K)).setCell ⟨w.heap.size + 2, 1, none⟩ (.slice A5 q.length c5)).setCell ⟨w.heap.size + 2, 2, none⟩ (.bool false)).setCell ⟨w.heap.size + 2, 3, none⟩ (.slice A6 0 c6)).setCell ⟨w.heap.size + 2, 4, none⟩ (.int .i64 0)).setCell ⟨w.heap.size + 2, 5, none⟩ (.bool (true && nulH any2 not2 m))) A5 c5 q := SpP.other (SpP.low S3 zX2) (by simp) fun k o hk => by
      have n1 : ¬ w.heap.size + 2 = k := by omega
      simp [go_sem, n1]
  replace T3 : StP (w.heap.size + 3) ((((((X3.setCell ⟨w.heap.size + 2, 0, none⟩ (.int .i64 K)).setCell ⟨w.heap.size + 2, 1, none⟩ (.slice A5 q.length c5)).setCell ⟨w.heap.size + 2, 2, none⟩ (.bool false)).setCell ⟨w.heap.size + 2, 3, none⟩ (.slice A6 0 c6)).setCell ⟨w.heap.size + 2, 4, none⟩ (.int .i64 0)).setCell ⟨w.heap.size + 2, 5, none⟩ (.bool (true && nulH any2 not2 m))) A6 c6 [] := StP.other (StP.low T3 zX2) (by simp) fun k o hk => by
      have n1 : ¬ w.heap.size + 2 = k := by omega
      simp [go_sem, n1]
  generalize ((((((X3.setCell ⟨w.heap.size + 2, 0, none⟩ (.int .i64 K)).setCell ⟨w.heap.size + 2, 1, none⟩ (.slice A5 q.length c5)).setCell ⟨w.heap.size + 2, 2, none⟩ (.bool false)).setCell ⟨w.heap.size + 2, 3, none⟩ (.slice A6 0 c6)).setCell ⟨w.heap.size + 2, 4, none⟩ (.int .i64 0)).setCell ⟨w.heap.size + 2, 5, none⟩ (.bool (true && nulH any2 not2 m))) = X4 at hZ t0 t1 t2 t3 t4 t5 S3 T3 m0 m1 m2 m3 m4 x0 x1 x2 ⊢
  refine wpAnyH_all (rs := [7]) (by kernel_rfl) (by simp) ?_
  intro i hi
  simp only [List.mem_cons, List.not_mem_nil, or_false] at hi
  subst hi
  refine wpOp_value (o := { dst := some 5, op := Op.assign (Operand.const (Value.int IntKind.i64 0)), type := 40, pos := "sets.go:43", after := #[{ on := 6, ground := Ground.chain }, { on := 0, ground := Ground.phase }, { on := 1, ground := Ground.phase }, { on := 2, ground := Ground.phase }, { on := 3, ground := Ground.phase }, { on := 4, ground := Ground.phase }, { on := 5, ground := Ground.phase }, { on := 6, ground := Ground.phase }], guard := none }) (v := .int .i64 0) (w' := X4) rfl (by rfl) (by go_simp; first | done | with_reducible rfl | rfl) ?_
  refine ⟨⟨hZ, m0, m1, m2, m3, m4, x0, x1, x2⟩, ?_⟩
  (try simp only [Act.put, List.setIfInBounds_toArray, List.set_cons_zero, List.set_cons_succ])
  refine wpAnyH_done (by kernel_rfl) ?_ _
  refine NoPanic.normal ?_
  have HX := Lib.hid (And.intro HQ (And.intro HR (And.intro HP HL.out)))
  have HS := Lib.hid (And.intro S3 T3)
  clear m0 m1 m2 m3 m4 x0 x1 x2 r0 rf0 r1 rf1 r2 rf2 r3 rf3 r4 rf4 r5 rf5 hX0 hX1 hX2 hX3 hb0 hb1 hb2 hb3 hb zW zX0 zX1 zX2 zX3 S1 S2 S3 T3 HQ HR HP HL C1 C2 C3
  go_wp2_with fail
  refine bodyPost_ret (by simp [results, Tryz.results14, go_sem, t0, t1, t2, t3, t4, t5]; try rfl) rfl ⟨q, A5, c5, A6, c6, by simp, SpP.low HS.out.1 (Nat.le_add_right _ _), StP.low HS.out.2 (Nat.le_add_right _ _), hZ, HX.out.1.1, HX.out.1.2.1, fun n => ?_, ?_⟩
  · rw [HX.out.1.2.2.1 n, HX.out.2.1.2.1 n, HX.out.2.2.1.2.1 n]
  · have := HX.out.1.2.2.2; have := HX.out.2.1.2.2; have := HX.out.2.2.1.2.2; omega
/-- A set and null. -/
def St.wnul (s : St) : St := { s with nul := true }
set_option maxRecDepth 100000 in
set_option maxHeartbeats 8000000 in
theorem fullG_any (P : St → Prop) (K sc : Int) (any not : Bool) (l : List Tst) (A : Option Addr) (c : Nat) (w : World)
    (H : ∀ W, Bel w W → Calls Tryz.prog 37 #[tyv K sc any not (.slice A l.length c), tsv any not (.slice A l.length c)] W fun e w' => ∃ q, SetOut W q e w' ∧ P q) :
    Calls Tryz.prog 36 #[tyv K sc any not (.slice A l.length c)] w fun e w' => ∃ q, SetOut w q.wnul e w' ∧ P q := by
  have C := Lib.hid H
  clear H
  go_enter Tryz.func36, Tryz.ntmps36
  go_upto_region 1 with fail
  refine under_name (w0 := w) (by (repeat (first | with_reducible exact Bel.refl _ | with_reducible refine Bel.setCell ?_ (by first | exact Nat.le_refl _ | (dsimp only; omega)) _ | with_reducible refine Bel.alloc ?_ _ | with_reducible refine Bel.drew ?_ | with_reducible assumption | with_reducible refine Bel.trans ?_ (by assumption)))) fun W hc hf hz hb => ?_
  have m0 : W.cell? ⟨w.heap.size, 0, none⟩ = some (.int .i64 K) := by simp [hc, go_sem]
  have m1 : W.cell? ⟨w.heap.size, 1, none⟩ = some (.int .i64 sc) := by simp [hc, go_sem]
  have m2 : W.cell? ⟨w.heap.size, 2, none⟩ = some (.bool any) := by simp [hc, go_sem]
  have m3 : W.cell? ⟨w.heap.size, 3, none⟩ = some (.bool not) := by simp [hc, go_sem]
  have m4 : W.cell? ⟨w.heap.size, 4, none⟩ = some (.slice A l.length c) := by simp [hc, go_sem]
  have r0 : W.cell? ⟨w.heap.size + 1, 0, none⟩ = some (.int .i64 0) := by simp [hc, go_sem]
  have r1 : W.cell? ⟨w.heap.size + 1, 1, none⟩ = some (.slice none 0 0) := by simp [hc, go_sem]
  have r2 : W.cell? ⟨w.heap.size + 1, 2, none⟩ = some (.bool false) := by simp [hc, go_sem]
  have r3 : W.cell? ⟨w.heap.size + 1, 3, none⟩ = some (.slice none 0 0) := by simp [hc, go_sem]
  have r4 : W.cell? ⟨w.heap.size + 1, 4, none⟩ = some (.int .i64 0) := by simp [hc, go_sem]
  have r5 : W.cell? ⟨w.heap.size + 1, 5, none⟩ = some (.bool false) := by simp [hc, go_sem]
  have rf0 : W.frozen? ⟨w.heap.size + 1, 0, none⟩ = false := by simp [hf, go_sem]
  have rf1 : W.frozen? ⟨w.heap.size + 1, 1, none⟩ = false := by simp [hf, go_sem]
  have rf2 : W.frozen? ⟨w.heap.size + 1, 2, none⟩ = false := by simp [hf, go_sem]
  have rf3 : W.frozen? ⟨w.heap.size + 1, 3, none⟩ = false := by simp [hf, go_sem]
  have rf4 : W.frozen? ⟨w.heap.size + 1, 4, none⟩ = false := by simp [hf, go_sem]
  have rf5 : W.frozen? ⟨w.heap.size + 1, 5, none⟩ = false := by simp [hf, go_sem]
  have z0 : w.heap.size + 2 ≤ W.heap.size := by simp [hz]
  clear hc hf hz
  go_upto_region 3 with (go_at_call 37; (with_reducible refine Calls.mono (C.out _ hb) ?_); rintro e X1 ⟨⟨qk, qs, qa, qw, qb, qn⟩, ⟨A1, c1, A2, c2, rfl, S1, T1, hx1⟩, h1⟩; have HQ := Lib.hid h1; clear h1; simp only at S1 T1; have zx1 : w.heap.size + 2 ≤ X1.heap.size := (Nat.le_trans z0 hx1.size); have hbX := hb.trans hx1; have HS := Lib.hid (And.intro S1 T1); clear S1 T1; replace r0 := (hx1.cells _ _ (by omega)).trans r0; replace r1 := (hx1.cells _ _ (by omega)).trans r1; replace r2 := (hx1.cells _ _ (by omega)).trans r2; replace r3 := (hx1.cells _ _ (by omega)).trans r3; replace r4 := (hx1.cells _ _ (by omega)).trans r4; replace r5 := (hx1.cells _ _ (by omega)).trans r5; replace rf0 := (hx1.frozens _ _ (by omega)).trans rf0; replace rf1 := (hx1.frozens _ _ (by omega)).trans rf1; replace rf2 := (hx1.frozens _ _ (by omega)).trans rf2; replace rf3 := (hx1.frozens _ _ (by omega)).trans rf3; replace rf4 := (hx1.frozens _ _ (by omega)).trans rf4; replace rf5 := (hx1.frozens _ _ (by omega)).trans rf5)
  refine under_name (w0 := X1) (by (repeat (first | with_reducible exact Bel.refl _ | with_reducible refine Bel.setCell ?_ (by first | exact Nat.le_refl _ | (dsimp only; omega)) _ | with_reducible refine Bel.alloc ?_ _ | with_reducible refine Bel.drew ?_ | with_reducible assumption | with_reducible refine Bel.trans ?_ (by assumption)))) fun Y hc hf hz hy => ?_
  have s0 : Y.cell? ⟨X1.heap.size, 0, none⟩ = some (.int .i64 qk) := by simp [hc, go_sem]
  have s1 : Y.cell? ⟨X1.heap.size, 1, none⟩ = some (.slice A1 qs.length c1) := by simp [hc, go_sem]
  have s2 : Y.cell? ⟨X1.heap.size, 2, none⟩ = some (.bool qa) := by simp [hc, go_sem]
  have s3 : Y.cell? ⟨X1.heap.size, 3, none⟩ = some (.slice A2 qw.length c2) := by simp [hc, go_sem]
  have s4 : Y.cell? ⟨X1.heap.size, 4, none⟩ = some (.int .i64 qb) := by simp [hc, go_sem]
  have s5 : Y.cell? ⟨X1.heap.size, 5, none⟩ = some (.bool true) := by simp [hc, go_sem]
  have zy : X1.heap.size < Y.heap.size := by simp [hz]
  clear hc hf hz
  replace r0 := (hy.cells _ _ (by omega)).trans r0; replace r1 := (hy.cells _ _ (by omega)).trans r1; replace r2 := (hy.cells _ _ (by omega)).trans r2; replace r3 := (hy.cells _ _ (by omega)).trans r3; replace r4 := (hy.cells _ _ (by omega)).trans r4; replace r5 := (hy.cells _ _ (by omega)).trans r5; replace rf0 := (hy.frozens _ _ (by omega)).trans rf0; replace rf1 := (hy.frozens _ _ (by omega)).trans rf1; replace rf2 := (hy.frozens _ _ (by omega)).trans rf2; replace rf3 := (hy.frozens _ _ (by omega)).trans rf3; replace rf4 := (hy.frozens _ _ (by omega)).trans rf4; replace rf5 := (hy.frozens _ _ (by omega)).trans rf5
  have hbY := hbX.trans hy
  have lt1 : w.heap.size + 1 < Y.heap.size := by omega
  replace HS := Lib.hid (And.intro (SpP.low (HS.out.1.keep hy) z0) (StP.low (HS.out.2.keep hy) z0))
  clear hx1 hbX hy hb m0 m1 m2 m3 m4 C
  go_wp2_with fail
  refine bodyPost_ret (by simp [results, Tryz.results36, go_sem, St.wnul, r0, rf0, r1, rf1, r2, rf2, r3, rf3, r4, rf4, r5, rf5]; try rfl) rfl ⟨⟨qk, qs, qa, qw, qb, qn⟩, ⟨A1, c1, A2, c2, rfl, SpP.low (SpP.other HS.out.1 (by simp) fun k o hk => ?_) (Nat.le_add_right _ _), StP.low (StP.other HS.out.2 (by simp) fun k o hk => ?_) (Nat.le_add_right _ _), ?_⟩, HQ.out⟩
  · have n1 : ¬ w.heap.size + 1 = k := by omega
    simp [go_sem, n1]
  · have n1 : ¬ w.heap.size + 1 = k := by omega
    simp [go_sem, n1]
  · (repeat (first | with_reducible exact Bel.refl _ | with_reducible refine Bel.setCell ?_ (by first | exact Nat.le_refl _ | (dsimp only; omega)) _ | with_reducible refine Bel.alloc ?_ _ | with_reducible refine Bel.drew ?_ | with_reducible assumption | with_reducible refine Bel.trans ?_ (by assumption)))
end
section
open Go.RowKit Go.Lib Go.Deep
attribute [local go_sem ↓] eql_val neq_val
set_option maxRecDepth 100000 in
set_option maxHeartbeats 4000000 in
theorem emptyT_any (p : List Sp) (al : Bool) (ws : List ByteArray) (bo : Int) (nu : Bool) (A1 : Option Addr) (c1 : Nat) (A2 : Option Addr) (c2 : Nat) (w : World) (hS : Strs w A2 ws) (hl : ws.length ≤ 9223372036854775807) (hr : ∀ s ∈ ws, Fits s) :
    Calls Tryz.prog 24 #[(⟨2, p, al, ws, bo, nu⟩ : St).val A1 c1 A2 c2] w fun e w' => e = .returned (.bool (!nu && emptyw al ws)) ∧ Bel w w' := by
  have C1 := Lib.hid fun W => known_any 2 W
  have hk : knd 2 = true := rfl
  rw [hk] at C1
  have C2 := Lib.hid fun W (hW : Bel w W) => empty_any al ws A2 c2 W (hS.keep hW) hl hr
  clear hS hl hr
  generalize emptyw al ws = R at C2 ⊢
  cases nu with
  | true =>
    go_enter Tryz.func24, Tryz.ntmps24
    go_wp2_with (go_at_call 29; (with_reducible refine Calls.mono (C1.out _) ?_); rintro e W1 ⟨rfl, hb1⟩; have hbX := ((Bel.refl w).alloc _).trans hb1)
    go_ret
    exact ⟨rfl, hbX⟩
  | false =>
    go_enter Tryz.func24, Tryz.ntmps24
    go_wp2_with (go_at_call 48; refine (C2.out _ ((Bel.refl w).alloc _)).mono ?_; rintro e W1 ⟨rfl, hb1⟩; have hbX := ((Bel.refl w).alloc _).trans hb1)
    go_ret
    exact ⟨rfl, hbX⟩
set_option maxRecDepth 100000 in
set_option maxHeartbeats 4000000 in
theorem emptyB_any (p : List Sp) (al : Bool) (ws : List ByteArray) (bo : Int) (nu : Bool) (A1 : Option Addr) (c1 : Nat) (A2 : Option Addr) (c2 : Nat) (w : World) :
    Calls Tryz.prog 24 #[(⟨3, p, al, ws, bo, nu⟩ : St).val A1 c1 A2 c2] w fun e w' => e = .returned (.bool (!nu && (bits BinOp.and IntKind.i64 bo 3 == 0))) ∧ Bel w w' := by
  have C1 := Lib.hid fun W => known_any 3 W
  have hk : knd 3 = true := rfl
  rw [hk] at C1
  cases nu with
  | true =>
    go_enter Tryz.func24, Tryz.ntmps24
    go_wp2_with (go_at_call 29; (with_reducible refine Calls.mono (C1.out _) ?_); rintro e W1 ⟨rfl, hb1⟩; have hbX := ((Bel.refl w).alloc _).trans hb1)
    go_ret
    exact ⟨rfl, hbX⟩
  | false =>
    go_enter Tryz.func24, Tryz.ntmps24
    go_wp2_with fail
    go_ret
    refine ⟨?_, ?_⟩
    · first
        | rfl
        | simp
    · (repeat (first | with_reducible exact Bel.refl _ | with_reducible refine Bel.setCell ?_ (by first | exact Nat.le_refl _ | (dsimp only; omega)) _ | with_reducible refine Bel.alloc ?_ _ | with_reducible refine Bel.drew ?_ | with_reducible assumption | with_reducible refine Bel.trans ?_ (by assumption)))
/-- Is a sound value of the type in a set? -/
def hasV (s : St) (sc : Int) (v : Val) : Bool :=
  if v.kind = 1 ∨ v.kind = 4 then smemB s.sp (unP sc v).1 else if v.kind = 2 then hasw s.all s.ws v.text else if v.kind = 3 then !(bits BinOp.and IntKind.i64 s.bools (bitV v) == 0) else s.nul
def hasT (k sc : Int) (any not : Bool) (l : List Tst) (s : St) (v : Val) : Bool := decide (s.kind = k) && (inT k sc any not l v && hasV s sc v)
/-- The set of no kind. -/
def zeroS : St := ⟨0, [], false, [], 0, false⟩
/-- What Of and Other give where they refuse. -/
def zeroV (er : Int) : Value := .tuple #[zeroS.val none 0 none 0, .int .i64 er]
end
section
open Go.RowKit Go.Lib Go.Deep
/-- What orders a number or a day: millionths, or days. -/
def keyV (v : Val) : Int := if v.kind = 1 then unt v.n v.scale else v.num
def denV (K sc : Int) : Int := if K = 1 then (P10 (6 - sc).toNat : Int) else 1
theorem denV_pos (K sc : Int) : 0 < denV K sc := by
  unfold denV
  split
  · have := P10_pos (6 - sc).toNat; omega
  · omega
theorem atP_key {n s t : Int} (h0 : 0 ≤ t ∧ t ≤ 6) (hd : SndD n s) : (atP n s t).1 = unt n s / (P10 (6 - t).toNat : Int) ∧ (atP n s t).2 = decide (unt n s % (P10 (6 - t).toNat : Int) = 0) := by
  have hd' := hd
  obtain ⟨a0, a6, _, _⟩ := hd'
  unfold atP unt
  rw [if_pos h0, if_pos hd]
  by_cases hst : s ≤ t
  · rw [if_pos hst]
    have e : (6 - s).toNat = (t - s).toNat + (6 - t).toNat := by omega
    have := at_up n (t - s).toNat (6 - t).toNat
    rw [← e] at this
    exact ⟨this.1.symm, by rw [this.2]; rfl⟩
  · rw [if_neg hst]
    have e : (6 - t).toNat = (s - t).toNat + (6 - s).toNat := by omega
    have := at_down n (s - t).toNat (6 - s).toNat
    rw [← e] at this
    refine ⟨this.1.symm, ?_⟩
    rw [Bool.eq_iff_iff]
    simp [this.2]
theorem unP_key {K sc : Int} {u : Val} (hK : K = 1 ∨ K = 4) (h0 : 0 ≤ sc ∧ sc ≤ 6) (hs : vsnd u = true) (hk : u.kind = K) :
    (unP sc u).1 = keyV u / denV K sc ∧ (unP sc u).2 = decide (keyV u % denV K sc = 0) ∧ -1000000000000000000 ≤ keyV u ∧ keyV u ≤ 1000000000000000000 := by
  obtain ⟨k, n, s, t, m⟩ := u
  simp only at hk
  subst hk
  rcases hK with rfl | rfl
  · rw [vsnd1, Bool.and_eq_true] at hs
    have hd : SndD n s := of_decide_eq_true hs.2
    have h := atP_key h0 hd
    have hb := unt_bd n s hd
    exact ⟨h.1, h.2, hb.1, hb.2⟩
  · rw [vsnd4] at hs
    simp only [Bool.and_eq_true, decide_eq_true_eq] at hs
    refine ⟨(Int.ediv_one m).symm, ?_, ?_, ?_⟩
    · show true = decide (m % 1 = 0)
      rw [Int.emod_one]; rfl
    · show -1000000000000000000 ≤ m; omega
    · show m ≤ 1000000000000000000; omega
theorem vcmp_key {K : Int} {v u : Val} (hK : K = 1 ∨ K = 4) (hv : v.kind = K) (hu : u.kind = K) : vcmp v u = Lib.compareInt (keyV v) (keyV u) := by
  unfold vcmp keyV
  rw [if_neg (by omega)]
  rcases hK with rfl | rfl
  · rw [if_pos hv, if_pos hv, if_pos hu, sg_ci]
  · rw [if_neg (by omega), if_neg (by omega), if_neg (by omega), if_neg (by omega)]
theorem ci_three (x y : Int) : (Lib.compareInt x y < 0 ↔ x < y) ∧ (0 < Lib.compareInt x y ↔ y < x) ∧ (Lib.compareInt x y = 0 ↔ x = y) := by
  unfold Lib.compareInt
  repeat' split
  all_goals omega
theorem ediv_bd18 {u D : Int} (hD : 0 < D) (h : -1000000000000000000 ≤ u ∧ u ≤ 1000000000000000000) : -1000000000000000000 ≤ u / D ∧ u / D ≤ 1000000000000000000 := by
  constructor
  · rw [← le_unit _ _ _ hD]
    have : (-1000000000000000000 : Int) * D ≤ (-1000000000000000000) * 1 := Int.mul_le_mul_of_nonpos_left (by omega) (by omega)
    omega
  · have h2 := more_unit 1000000000000000000 u D hD
    by_cases hc : u / D ≤ 1000000000000000000
    · exact hc
    · exfalso
      have h3 := (le_unit 1000000000000000001 u D hD).2 (by omega)
      have : (1000000000000000001 : Int) * 1 ≤ 1000000000000000001 * D := Int.mul_le_mul_of_nonneg_left (by omega) (by omega)
      omega
theorem link_one {K sc : Int} {t : Tst} {v : Val} (hK : K = 1 ∨ K = 4) (h0 : 0 ≤ sc ∧ sc ≤ 6) (ht : tsnd t = true) (hk : t.low.kind = K) (hv : vsnd v = true) (hvk : v.kind = K) (hex : (unP sc v).2 = true) :
    mone t v = true ↔ (spU sc t).1 ≤ (unP sc v).1 ∧ (unP sc v).1 ≤ (spU sc t).2 := by
  have hD := denV_pos K sc
  obtain ⟨v1, v2, v3, v4⟩ := unP_key hK h0 hv hvk
  obtain ⟨l1, l2, l3, l4⟩ := unP_key hK h0 (tsnd_low ht) hk
  have hvN : (unP sc v).1 * denV K sc = keyV v := by
    have hm : keyV v % denV K sc = 0 := by rw [v2] at hex; exact of_decide_eq_true hex
    rw [v1]
    have := Int.mul_ediv_add_emod (keyV v) (denV K sc)
    rw [hm] at this
    rw [Int.mul_comm]; omega
  have bN := ediv_bd18 hD ⟨v3, v4⟩
  have bL := ediv_bd18 hD ⟨l3, l4⟩
  rw [← v1] at bN
  have cL := vcmp_key hK hvk hk
  have c3 := ci_three (keyV v) (keyV t.low)
  rw [← cL] at c3
  have q1 := le_unit (unP sc v).1 (keyV t.low) _ hD
  have q2 := more_unit (unP sc v).1 (keyV t.low) _ hD
  have q3 := less_unit (unP sc v).1 (keyV t.low) _ hD
  have q4 := least_unit (unP sc v).1 (keyV t.low) _ hD
  have q5 := same_unit (unP sc v).1 (keyV t.low) _ hD
  rw [hvN] at q1 q2 q3 q4 q5
  have hkk := tsnd_kind ht
  have hhk : t.kind = 6 → t.high.kind = K := fun h6 => by
    unfold tsnd at ht
    rw [if_neg (by omega), if_neg (by omega), if_pos h6] at ht
    simp only [Bool.and_eq_true, decide_eq_true_eq] at ht
    rw [ht.2]; exact hk
  have hH : t.kind = 6 → ((vcmp v t.high < 0 ↔ keyV v < keyV t.high) ∧ (vcmp v t.high = 0 ↔ keyV v = keyV t.high)) ∧ ((keyV v ≤ keyV t.high ↔ (unP sc v).1 ≤ keyV t.high / denV K sc) ∧ (keyV v < keyV t.high ↔ (unP sc v).1 ≤ if keyV t.high % denV K sc = 0 then keyV t.high / denV K sc - 1 else keyV t.high / denV K sc)) ∧ ((unP sc t.high).1 = keyV t.high / denV K sc ∧ (unP sc t.high).2 = decide (keyV t.high % denV K sc = 0)) ∧ (-1000000000000000000 ≤ keyV t.high / denV K sc ∧ keyV t.high / denV K sc ≤ 1000000000000000000) := fun h6 => by
    obtain ⟨g1, g2, g3, g4⟩ := unP_key hK h0 (tsnd_high ht) (hhk h6)
    have cH := vcmp_key hK hvk (hhk h6)
    have d3 := ci_three (keyV v) (keyV t.high)
    rw [← cH] at d3
    have p1 := le_unit (unP sc v).1 (keyV t.high) _ hD
    have p3 := less_unit (unP sc v).1 (keyV t.high) _ hD
    rw [hvN] at p1 p3
    exact ⟨⟨d3.1, d3.2.2⟩, ⟨p1, p3⟩, ⟨g1, g2⟩, ediv_bd18 hD ⟨g3, g4⟩⟩
  unfold mone spU fstU lstU mbet
  rw [if_neg (by omega), l1, l2]
  generalize keyV t.low / denV K sc = a at *
  generalize keyV t.low % denV K sc = r at *
  generalize (unP sc v).1 = N at *
  generalize vcmp v t.low = c at *
  clear hex l1 l2 cL hvN v1 v2 ht hv
  have w1 : wrap64 (a + 1) = a + 1 := by unfold wrap64; omega
  have w2 : wrap64 (a - 1) = a - 1 := by unfold wrap64; omega
  by_cases k6 : t.kind = 6
  · obtain ⟨⟨d1, d2⟩, ⟨p1, p3⟩, ⟨g1, g2⟩, bH⟩ := hH k6
    rw [g1, g2]
    clear hH hhk g1 g2
    rw [if_neg (by omega), if_neg (by omega), if_neg (by omega), if_neg (by omega), if_pos k6, if_neg (by omega), if_neg (by omega), if_neg (by omega), if_neg (by omega), if_pos k6]
    generalize keyV t.high / denV K sc = b at *
    generalize keyV t.high % denV K sc = s at *
    generalize vcmp v t.high = d at *
    have w3 : wrap64 (b - 1) = b - 1 := by unfold wrap64; omega
    rw [w1, w3]
    cases t.ol <;> cases t.oh <;> by_cases hr : r = 0 <;> by_cases hs : s = 0 <;>
      simp only [hr, hs, if_true, if_false, decide_true, decide_false, Bool.and_true, Bool.and_false, Bool.not_true, Bool.not_false, Bool.or_false, Bool.true_and, Bool.false_and, Bool.false_eq_true, Bool.and_eq_true, Bool.or_eq_true, decide_eq_true_eq] at q1 q2 q3 q4 q5 p1 p3 ⊢ <;>
      omega
  · clear hH hhk
    by_cases hr : r = 0
    · simp only [hr, if_true, decide_true, Bool.and_true, Bool.not_true, Bool.not_false, Bool.false_eq_true, if_false, w1, w2] at q1 q2 q3 q4 q5 ⊢
      by_cases k2 : t.kind = 2
      · simp only [k2, if_true, decide_eq_true_eq]; omega
      by_cases k3 : t.kind = 3
      · simp only [k3, if_true, decide_eq_true_eq, show ¬ ((3 : Int) = 2) by decide, if_false]; omega
      by_cases k4 : t.kind = 4
      · simp only [k4, if_true, decide_eq_true_eq, show ¬ ((4 : Int) = 2) by decide, show ¬ ((4 : Int) = 3) by decide, if_false]; omega
      by_cases k5 : t.kind = 5
      · simp only [k5, if_true, decide_eq_true_eq, show ¬ ((5 : Int) = 2) by decide, show ¬ ((5 : Int) = 3) by decide, show ¬ ((5 : Int) = 4) by decide, if_false]; omega
      · simp only [k2, k3, k4, k5, k6, if_false, decide_eq_true_eq]; omega
    · simp only [hr, if_false, decide_false, Bool.and_false, Bool.false_and, Bool.false_eq_true, w1, w2] at q1 q2 q3 q4 q5 ⊢
      by_cases k2 : t.kind = 2
      · simp only [k2, if_true, decide_eq_true_eq]; omega
      by_cases k3 : t.kind = 3
      · simp only [k3, if_true, decide_eq_true_eq, show ¬ ((3 : Int) = 2) by decide, if_false]; omega
      by_cases k4 : t.kind = 4
      · simp only [k4, if_true, decide_eq_true_eq, show ¬ ((4 : Int) = 2) by decide, show ¬ ((4 : Int) = 3) by decide, if_false]; omega
      by_cases k5 : t.kind = 5
      · simp only [k5, if_true, decide_eq_true_eq, show ¬ ((5 : Int) = 2) by decide, show ¬ ((5 : Int) = 3) by decide, show ¬ ((5 : Int) = 4) by decide, if_false]; omega
      · simp only [k2, k3, k4, k5, k6, if_false, decide_eq_true_eq]; omega
theorem mone_kind {t : Tst} {v : Val} (h : mone t v = true) : v.kind = t.low.kind := by
  unfold mone at h
  by_cases hk : v.kind = t.low.kind
  · exact hk
  · rw [if_pos hk] at h; cases h
/-- Of numbers and days: the unit of a value is one of those for which tests hold just if they hold of the value. -/
theorem link_num {K sc : Int} {l : List Tst} {v : Val} (hK : K = 1 ∨ K = 4) (h0 : 0 ≤ sc ∧ sc ≤ 6) (hl : ∀ t ∈ l, tsnd t = true) (hv : vsnd v = true) (hvk : v.kind = K) (hex : (unP sc v).2 = true) :
    SMem (rngk K sc l) (unP sc v).1 ↔ (l.any fun t => mone t v) = true := by
  unfold SMem rngk
  rw [List.any_eq_true]
  constructor
  · rintro ⟨s, hs, h1, h2⟩
    obtain ⟨t, ht, rfl⟩ := List.mem_map.1 hs
    rw [List.mem_filter, decide_eq_true_eq] at ht
    exact ⟨t, ht.1, (link_one hK h0 (hl t ht.1) ht.2 hv hvk hex).2 ⟨h1, h2⟩⟩
  · rintro ⟨t, ht, hm⟩
    have hk : t.low.kind = K := (mone_kind hm).symm.trans hvk
    exact ⟨_, List.mem_map_of_mem (List.mem_filter.2 ⟨ht, by simpa using hk⟩), (link_one hK h0 (hl t ht) hk hv hvk hex).1 hm⟩
theorem usnd_all {any not : Bool} {l : List Tst} (h : usnd any not l = true) : l.length ≤ 8 ∧ ∀ t ∈ l, tsnd t = true := by
  cases any with
  | true =>
    unfold usnd at h
    simp at h
    have : l = [] := by simpa using h.2
    subst this
    exact ⟨by simp, by simp⟩
  | false => exact ⟨(usnd_list h).2.1, (usnd_list h).2.2⟩
theorem tysnd_parts {K sc : Int} {any not : Bool} {l : List Tst} (h : tysnd K sc any not l = true) : knd K = true ∧ (1 ≤ K ∧ K ≤ 4) ∧ usnd any not l = true ∧ (0 ≤ sc ∧ sc ≤ 6) := by
  unfold tysnd at h
  simp only [Bool.and_eq_true, Bool.or_eq_true, decide_eq_true_eq] at h
  obtain ⟨⟨h1, h2⟩, h3⟩ := h
  refine ⟨h1, ?_, h2, by omega⟩
  unfold knd at h1
  simp only [Bool.and_eq_true, decide_eq_true_eq] at h1
  exact h1
theorem inT_parts {K sc : Int} {any not : Bool} {l : List Tst} {v : Val} (h : inT K sc any not l v = true) : vsnd v = true ∧ (v.kind = 0 ∨ v.kind = K ∧ mall any not l v = true ∧ (K = 1 → (unP sc v).2 = true ∧ -999999999999 ≤ (unP sc v).1 ∧ (unP sc v).1 ≤ 999999999999)) := by
  unfold inT inS at h
  simp only [Bool.and_eq_true, Bool.or_eq_true, decide_eq_true_eq, Bool.not_eq_true', decide_eq_false_iff_not] at h
  refine ⟨h.1.2, ?_⟩
  rcases h.2 with h2 | ⟨⟨h2, h3⟩, h4⟩
  · exact .inl h2
  · refine .inr ⟨h2, h3, fun hk => ?_⟩
    rcases h4 with h4 | h4
    · exact absurd hk h4
    · exact ⟨h4.1.1, h4.1.2, h4.2⟩
/-- Where a value is of a type of numbers or days, its unit is exact and lies in the range. -/
theorem inT_unit {K sc : Int} {any not : Bool} {l : List Tst} {v : Val} (hK : K = 1 ∨ K = 4) (h : inT K sc any not l v = true) (hk : v.kind = K) : (unP sc v).2 = true ∧ SMem (allS K).sp (unP sc v).1 := by
  obtain ⟨hv, h0 | ⟨_, _, h1⟩⟩ := inT_parts h
  · omega
  · rcases hK with rfl | rfl
    · have := h1 rfl
      exact ⟨this.1, _, List.mem_singleton.2 rfl, this.2.1, this.2.2⟩
    · have e : unP sc v = (v.num, true) := by unfold unP; rw [if_neg (by omega)]
      rw [e]
      refine ⟨rfl, _, List.mem_singleton.2 rfl, ?_⟩
      unfold vsnd at hv
      rw [if_neg (by omega), if_neg (by omega), if_neg (by omega), if_neg (by omega), if_pos hk] at hv
      simp only [Bool.and_eq_true, decide_eq_true_eq] at hv
      exact hv.2
theorem memH_iff {K sc : Int} {any not any2 not2 : Bool} {l m : List Tst} {v : Val} (hK : K = 1 ∨ K = 4) (h0 : 0 ≤ sc ∧ sc ≤ 6) (hu : usnd any2 not2 m = true) (h : inT K sc any not l v = true) (hk : v.kind = K) :
    MemH K sc any2 not2 m (unP sc v).1 ↔ mall any2 not2 m v = true := by
  have hl := link_num hK h0 (usnd_all hu).2 (inT_parts h).1 hk (inT_unit hK h hk).1
  have hr := (inT_unit hK h hk).2
  unfold MemH mall
  cases any2 with
  | true => simp [hr]
  | false =>
    cases not2 with
    | false => simp only [hr, hl]; simp
    | true => simp only [hr, hl]; simp
theorem inT_mall {K sc : Int} {any not : Bool} {l : List Tst} {v : Val} (h : inT K sc any not l v = true) (hk : v.kind ≠ 0) : v.kind = K ∧ mall any not l v = true := by
  obtain ⟨_, h0 | ⟨h1, h2, _⟩⟩ := inT_parts h
  · exact absurd h0 hk
  · exact ⟨h1, h2⟩
/-- A set of texts: all or none but some, of good texts; what it has. -/
def PT (al : Bool) (F : ByteArray → Bool) (nu : Bool) (N : Nat) (s : St) : Prop := ∃ ws, s = ⟨2, [], al, ws, 0, nu⟩ ∧ ws.length ≤ N ∧ (∀ x ∈ ws, okw x = true) ∧ ∀ x, okw x = true → hasw al ws x = F x
theorem okw_fits {x : ByteArray} (h : okw x = true) : Fits x := by
  unfold okw at h
  simp only [Bool.and_eq_true, decide_eq_true_eq] at h
  unfold Fits; omega
theorem inl_keptl (p : ByteArray → Bool) (l : List ByteArray) (x : ByteArray) : inl (keptl p l) x = (inl l x && p x) := by
  rw [Bool.eq_iff_iff, inl_iff, keptl_mem, Bool.and_eq_true, inl_iff]
theorem inl_app (l m : List ByteArray) (x : ByteArray) : inl (l ++ m) x = (inl l x || inl m x) := by
  unfold inl; rw [List.any_append]
theorem hasw_meetl (a : Bool) (l : List ByteArray) (b : Bool) (m : List ByteArray) (x : ByteArray) : hasw (a && b) (meetl a l b m) x = (hasw a l x && hasw b m x) := by
  unfold hasw
  cases a <;> cases b
  · rw [meetl3, inl_keptl]; cases inl l x <;> cases inl m x <;> cases okw x <;> rfl
  · rw [meetl3, inl_keptl]; cases inl l x <;> cases inl m x <;> cases okw x <;> rfl
  · rw [meetl2, inl_keptl]; cases inl l x <;> cases inl m x <;> cases okw x <;> rfl
  · rw [meetl1, inl_keptl, inl_app]; cases inl l x <;> cases inl m x <;> cases okw x <;> rfl
theorem meetl_len (a : Bool) (l : List ByteArray) (b : Bool) (m : List ByteArray) : (meetl a l b m).length ≤ l.length + m.length := by
  unfold meetl
  split
  · have := keptl_len okw (l ++ m); rw [List.length_append] at this; exact this
  · split
    · have := keptl_len (fun s => okw s && !inl l s) m; omega
    · have := keptl_len (fun s => okw s && !(inl m s == b)) l; omega
theorem meetl_ok (a : Bool) (l : List ByteArray) (b : Bool) (m : List ByteArray) : ∀ x ∈ meetl a l b m, okw x = true := by
  unfold meetl
  intro x hx
  split at hx
  · exact ((keptl_mem _ _ _).1 hx).2
  · split at hx
    · have := ((keptl_mem _ _ _).1 hx).2; simp only [Bool.and_eq_true] at this; exact this.1
    · have := ((keptl_mem _ _ _).1 hx).2; simp only [Bool.and_eq_true] at this; exact this.1
theorem hasw_other (b : Bool) (m : List ByteArray) (x : ByteArray) (hx : okw x = true) : hasw (!b) (keptl okw m) x = !hasw b m x := by
  unfold hasw
  rw [inl_keptl, hx]
  cases inl m x <;> cases b <;> rfl
set_option maxHeartbeats 1000000 in
theorem meetT_any {al bl : Bool} {F G : ByteArray → Bool} {nu mu : Bool} {N M : Nat} {a b : St} (hN : N ≤ 1000) (hM : M ≤ 1000) (ha : PT al F nu N a) (hb : PT bl G mu M b) (X : World) (aA : Option Addr) (ac : Nat) (aA2 : Option Addr) (ac2 : Nat) (bA : Option Addr) (bc : Nat) (bA2 : Option Addr) (bc2 : Nat) (i1 : SetIn X aA ac aA2 ac2 a) (i2 : SetIn X bA bc bA2 bc2 b) :
    Calls Tryz.prog 35 #[a.val aA ac aA2 ac2, b.val bA bc bA2 bc2] X fun e w' => ∃ q, SetOut X q e w' ∧ PT (al && bl) (fun x => F x && G x) (nu && mu) (N + M) q := by
  obtain ⟨ws, rfl, h1, h2, h3⟩ := ha
  obtain ⟨ms, rfl, g1, g2, g3⟩ := hb
  refine (meetS2_any [] al ws 0 nu [] bl ms 0 mu aA ac aA2 ac2 bA bc bA2 bc2 X i1.2.1 i2.2.1 i1.2.2 i2.2.2 (by omega) (by omega) (fun _ _ => by omega) (fun x hx => okw_fits (h2 x hx)) (fun x hx => okw_fits (g2 x hx))).mono ?_
  intro e w' h
  exact ⟨_, h, _, rfl, Nat.le_trans (meetl_len ..) (by omega), meetl_ok _ _ _ _, fun x hx => by rw [hasw_meetl, h3 x hx, g3 x hx]⟩
set_option maxHeartbeats 1000000 in
theorem withoutT_any {al bl : Bool} {F G : ByteArray → Bool} {nu mu : Bool} {N M : Nat} {a b : St} (hN : N ≤ 1000) (hM : M ≤ 1000) (ha : PT al F nu N a) (hb : PT bl G mu M b) (X : World) (aA : Option Addr) (ac : Nat) (aA2 : Option Addr) (ac2 : Nat) (bA : Option Addr) (bc : Nat) (bA2 : Option Addr) (bc2 : Nat) (i1 : SetIn X aA ac aA2 ac2 a) (i2 : SetIn X bA bc bA2 bc2 b) :
    Calls Tryz.prog 49 #[a.val aA ac aA2 ac2, b.val bA bc bA2 bc2] X fun e w' => ∃ q, SetOut X q e w' ∧ PT (al && !bl) (fun x => F x && !G x) (nu && !mu) (N + M) q := by
  obtain ⟨ws, rfl, h1, h2, h3⟩ := ha
  obtain ⟨ms, rfl, g1, g2, g3⟩ := hb
  refine (withoutS2_any [] al ws 0 nu [] bl ms 0 mu aA ac aA2 ac2 bA bc bA2 bc2 X i1.2.1 i2.2.1 i1.2.2 i2.2.2 (by omega) (by omega) (fun x hx => okw_fits (h2 x hx)) (fun x hx => okw_fits (g2 x hx))).mono ?_
  intro e w' h
  have := keptl_len okw ms
  exact ⟨_, h, _, rfl, Nat.le_trans (meetl_len ..) (by omega), meetl_ok _ _ _ _, fun x hx => by rw [hasw_meetl, h3 x hx, hasw_other _ _ _ hx, g3 x hx]⟩
/-- Of which texts tests hold. -/
def HT (any not : Bool) (l : List Tst) (x : ByteArray) : Bool := any || (not != inl (txk l) x)
set_option maxRecDepth 100000 in
set_option maxHeartbeats 8000000 in
theorem someT_any (sc : Int) (any not : Bool) (A0 : Option Addr) (n0 c0 : Nat) (l : List Tst) (A : Option Addr) (c : Nat) (w : World) (hs : Tsts w A l) (hl : l.length ≤ 1000) (hok : ∀ t ∈ l, TOk t) :
    Calls Tryz.prog 45 #[tyv 2 sc any not (.slice A0 n0 c0), .slice A l.length c] w (SetOut w ⟨2, [], false, keptl okw (txk l), 0, nulk l⟩) := by
  have HLn := Lib.hid hl
  have HTF := Lib.hid (txk_fits hok)
  have li : (l.length : Int) ≤ 1000 := by omega
  clear hok
  go_enter Tryz.func45, Tryz.ntmps45
  go_upto_region 4 with fail
  refine under_name (w0 := w) (by (repeat (first | with_reducible exact Bel.refl _ | with_reducible refine Bel.setCell ?_ (by first | exact Nat.le_refl _ | (dsimp only; omega)) _ | with_reducible refine Bel.alloc ?_ _ | with_reducible refine Bel.drew ?_ | with_reducible assumption | with_reducible refine Bel.trans ?_ (by assumption)))) fun W hc hf hz hb => ?_
  have m0 : W.cell? ⟨w.heap.size, 0, none⟩ = some (.int .i64 2) := by simp [hc, go_sem]
  have m1 : W.cell? ⟨w.heap.size, 1, none⟩ = some (.int .i64 sc) := by simp [hc, go_sem]
  have m2 : W.cell? ⟨w.heap.size, 2, none⟩ = some (.bool any) := by simp [hc, go_sem]
  have m3 : W.cell? ⟨w.heap.size, 3, none⟩ = some (.bool not) := by simp [hc, go_sem]
  have m4 : W.cell? ⟨w.heap.size, 4, none⟩ = some (.slice A0 n0 c0) := by simp [hc, go_sem]
  have r0 : W.cell? ⟨w.heap.size + 1, 0, none⟩ = some (.int .i64 0) := by simp [hc, go_sem]
  have r1 : W.cell? ⟨w.heap.size + 1, 1, none⟩ = some (.slice none 0 0) := by simp [hc, go_sem]
  have r2 : W.cell? ⟨w.heap.size + 1, 2, none⟩ = some (.bool false) := by simp [hc, go_sem]
  have r3 : W.cell? ⟨w.heap.size + 1, 3, none⟩ = some (.slice none 0 0) := by simp [hc, go_sem]
  have r4 : W.cell? ⟨w.heap.size + 1, 4, none⟩ = some (.int .i64 0) := by simp [hc, go_sem]
  have r5 : W.cell? ⟨w.heap.size + 1, 5, none⟩ = some (.bool false) := by simp [hc, go_sem]
  have rf0 : W.frozen? ⟨w.heap.size + 1, 0, none⟩ = false := by simp [hf, go_sem]
  have rf1 : W.frozen? ⟨w.heap.size + 1, 1, none⟩ = false := by simp [hf, go_sem]
  have rf2 : W.frozen? ⟨w.heap.size + 1, 2, none⟩ = false := by simp [hf, go_sem]
  have rf3 : W.frozen? ⟨w.heap.size + 1, 3, none⟩ = false := by simp [hf, go_sem]
  have rf4 : W.frozen? ⟨w.heap.size + 1, 4, none⟩ = false := by simp [hf, go_sem]
  have rf5 : W.frozen? ⟨w.heap.size + 1, 5, none⟩ = false := by simp [hf, go_sem]
  have s0 : W.cell? ⟨w.heap.size + 2, 0, none⟩ = some (.int .i64 2) := by simp [hc, go_sem]
  have s1 : W.cell? ⟨w.heap.size + 2, 1, none⟩ = some (.slice none 0 0) := by simp [hc, go_sem]
  have s2 : W.cell? ⟨w.heap.size + 2, 2, none⟩ = some (.bool false) := by simp [hc, go_sem]
  have s3 : W.cell? ⟨w.heap.size + 2, 3, none⟩ = some (.slice none 0 0) := by simp [hc, go_sem]
  have s4 : W.cell? ⟨w.heap.size + 2, 4, none⟩ = some (.int .i64 0) := by simp [hc, go_sem]
  have s5 : W.cell? ⟨w.heap.size + 2, 5, none⟩ = some (.bool false) := by simp [hc, go_sem]
  have sf0 : W.frozen? ⟨w.heap.size + 2, 0, none⟩ = false := by simp [hf, go_sem]
  have sf1 : W.frozen? ⟨w.heap.size + 2, 1, none⟩ = false := by simp [hf, go_sem]
  have sf2 : W.frozen? ⟨w.heap.size + 2, 2, none⟩ = false := by simp [hf, go_sem]
  have sf3 : W.frozen? ⟨w.heap.size + 2, 3, none⟩ = false := by simp [hf, go_sem]
  have sf4 : W.frozen? ⟨w.heap.size + 2, 4, none⟩ = false := by simp [hf, go_sem]
  have sf5 : W.frozen? ⟨w.heap.size + 2, 5, none⟩ = false := by simp [hf, go_sem]
  have z0 : w.heap.size + 3 ≤ W.heap.size := by simp [hz]
  clear hc hf hz
  have HW := Lib.hid z0
  go_wp2_with fail
  go_loopg [6, 7, 15] l.length (fun g rv v i wr => ∃ k : Nat, rv = .slice none 0 0 ∧ i = .int .i64 k ∧ k ≤ l.length ∧ Hid (g = l.length - k) ∧ Hid (OwnT wr W.heap.size v (txk (l.take k))) ∧ Hid (But W wr (w.heap.size + 2)) ∧ wr.cell? ⟨w.heap.size + 2, 4, none⟩ = some (.int .i64 0) ∧ wr.cell? ⟨w.heap.size + 2, 5, none⟩ = some (.bool (nulk (l.take k))) ∧ Bel w wr)
  case atStart => exact ⟨0, rfl, rfl, Nat.zero_le _, rfl, OwnT.nil _ _, But.refl _ _, s4, s5, hb⟩
  case round =>
    obtain ⟨k, rfl, rfl, hk, hh, hown, hbut, y4, y5, hbw⟩ := hrel
    have BC := hbut.out.2.1
    have BF := hbut.out.2.2
    have zr : w.heap.size + 3 ≤ wr.heap.size := Nat.le_trans z0 hbut.out.1
    replace m0 := (BC _ _ (by omega) (.inl (by omega))).trans m0
    replace m1 := (BC _ _ (by omega) (.inl (by omega))).trans m1
    replace m2 := (BC _ _ (by omega) (.inl (by omega))).trans m2
    replace m3 := (BC _ _ (by omega) (.inl (by omega))).trans m3
    replace m4 := (BC _ _ (by omega) (.inl (by omega))).trans m4
    replace r0 := (BC _ _ (by omega) (.inl (by omega))).trans r0
    replace r1 := (BC _ _ (by omega) (.inl (by omega))).trans r1
    replace r2 := (BC _ _ (by omega) (.inl (by omega))).trans r2
    replace r3 := (BC _ _ (by omega) (.inl (by omega))).trans r3
    replace r4 := (BC _ _ (by omega) (.inl (by omega))).trans r4
    replace r5 := (BC _ _ (by omega) (.inl (by omega))).trans r5
    replace s0 := (BC _ _ (by omega) (.inr (by omega))).trans s0
    replace s1 := (BC _ _ (by omega) (.inr (by omega))).trans s1
    replace s2 := (BC _ _ (by omega) (.inr (by omega))).trans s2
    replace s3 := (BC _ _ (by omega) (.inr (by omega))).trans s3
    replace rf0 := (BF _ _ (by omega)).trans rf0
    replace rf1 := (BF _ _ (by omega)).trans rf1
    replace rf2 := (BF _ _ (by omega)).trans rf2
    replace rf3 := (BF _ _ (by omega)).trans rf3
    replace rf4 := (BF _ _ (by omega)).trans rf4
    replace rf5 := (BF _ _ (by omega)).trans rf5
    replace sf0 := (BF _ _ (by omega)).trans sf0
    replace sf1 := (BF _ _ (by omega)).trans sf1
    replace sf2 := (BF _ _ (by omega)).trans sf2
    replace sf3 := (BF _ _ (by omega)).trans sf3
    replace sf4 := (BF _ _ (by omega)).trans sf4
    replace sf5 := (BF _ _ (by omega)).trans sf5
    replace s4 := y4
    replace s5 := y5
    clear BC BF y4 y5 z0
    by_cases hp : k < l.length
    · obtain ⟨tb, off, rfl, hlt, hat⟩ := hs (by omega)
      obtain ⟨t, htk⟩ : ∃ t, l[k]? = some t := ⟨_, List.getElem?_eq_getElem hp⟩
      have ha := (hat k t htk).keep hbw hlt
      have HT := Lib.hid (take_snoc htk)
      have zt := Nat.lt_of_lt_of_le hlt hbw.size
      have i1 : (k : Int) < l.length := by omega
      have HN := Lib.hid (nulk_snoc (l.take k) t)
      have HG := Lib.hid (txk_snoc (l.take k) t)
      rw [← HT.out] at HN HG
      have HGl := Lib.hid (Nat.le_trans (txk_len (l.take k)) (List.length_take_le k l))
      obtain ⟨tk, ⟨a0, a1, a2, a3, a4⟩, ⟨b0, b1, b2, b3, b4⟩, x, y⟩ := t
      simp only at HN HG
      obtain ⟨t0, t1, t2, t3, t4, t5, t6, t7, t8, t9, t10, t11, t12⟩ := ha
      clear hat htk
      simp only at t0 t1 t2 t3 t4 t5 t6 t7 t8 t9 t10 t11 t12
      generalize txk (l.take k) = rs at hown HG HGl
      generalize nulk (l.take k) = q at s5 HN
      go_upto_region 8 with fail
      refine under_name (w0 := wr) ((Bel.refl wr).alloc _) fun X hc hf hz hbx => ?_
      have x0 : X.cell? ⟨wr.heap.size, 0, none⟩ = some (.int .i64 tk) := by simp [hc, go_sem]
      have x1 : X.cell? ⟨wr.heap.size, 1, none⟩ = some (.int .i64 a0) := by simp [hc, go_sem]
      have x2 : X.cell? ⟨wr.heap.size, 2, none⟩ = some (.int .i64 a1) := by simp [hc, go_sem]
      have x3 : X.cell? ⟨wr.heap.size, 3, none⟩ = some (.int .i64 a2) := by simp [hc, go_sem]
      have x4 : X.cell? ⟨wr.heap.size, 4, none⟩ = some (.string a3) := by simp [hc, go_sem]
      have x5 : X.cell? ⟨wr.heap.size, 5, none⟩ = some (.int .i64 a4) := by simp [hc, go_sem]
      have x6 : X.cell? ⟨wr.heap.size, 6, none⟩ = some (.int .i64 b0) := by simp [hc, go_sem]
      have x7 : X.cell? ⟨wr.heap.size, 7, none⟩ = some (.int .i64 b1) := by simp [hc, go_sem]
      have x8 : X.cell? ⟨wr.heap.size, 8, none⟩ = some (.int .i64 b2) := by simp [hc, go_sem]
      have x9 : X.cell? ⟨wr.heap.size, 9, none⟩ = some (.string b3) := by simp [hc, go_sem]
      have x10 : X.cell? ⟨wr.heap.size, 10, none⟩ = some (.int .i64 b4) := by simp [hc, go_sem]
      have x11 : X.cell? ⟨wr.heap.size, 11, none⟩ = some (.bool x) := by simp [hc, go_sem]
      have x12 : X.cell? ⟨wr.heap.size, 12, none⟩ = some (.bool y) := by simp [hc, go_sem]
      have zx : wr.heap.size + 1 ≤ X.heap.size := by simp [hz]
      clear hc hf hz t0 t1 t2 t3 t4 t5 t6 t7 t8 t9 t10 t11 t12 zt
      have B4 := Lib.hid s4
      have B5 := Lib.hid s5
      replace m0 := (hbx.cells _ _ (by omega)).trans m0
      replace m1 := (hbx.cells _ _ (by omega)).trans m1
      replace m2 := (hbx.cells _ _ (by omega)).trans m2
      replace m3 := (hbx.cells _ _ (by omega)).trans m3
      replace m4 := (hbx.cells _ _ (by omega)).trans m4
      replace r0 := (hbx.cells _ _ (by omega)).trans r0
      replace r1 := (hbx.cells _ _ (by omega)).trans r1
      replace r2 := (hbx.cells _ _ (by omega)).trans r2
      replace r3 := (hbx.cells _ _ (by omega)).trans r3
      replace r4 := (hbx.cells _ _ (by omega)).trans r4
      replace r5 := (hbx.cells _ _ (by omega)).trans r5
      replace s0 := (hbx.cells _ _ (by omega)).trans s0
      replace s1 := (hbx.cells _ _ (by omega)).trans s1
      replace s2 := (hbx.cells _ _ (by omega)).trans s2
      replace s3 := (hbx.cells _ _ (by omega)).trans s3
      replace s4 := (hbx.cells _ _ (by omega)).trans s4
      replace s5 := (hbx.cells _ _ (by omega)).trans s5
      replace rf0 := (hbx.frozens _ _ (by omega)).trans rf0
      replace rf1 := (hbx.frozens _ _ (by omega)).trans rf1
      replace rf2 := (hbx.frozens _ _ (by omega)).trans rf2
      replace rf3 := (hbx.frozens _ _ (by omega)).trans rf3
      replace rf4 := (hbx.frozens _ _ (by omega)).trans rf4
      replace rf5 := (hbx.frozens _ _ (by omega)).trans rf5
      replace sf0 := (hbx.frozens _ _ (by omega)).trans sf0
      replace sf1 := (hbx.frozens _ _ (by omega)).trans sf1
      replace sf2 := (hbx.frozens _ _ (by omega)).trans sf2
      replace sf3 := (hbx.frozens _ _ (by omega)).trans sf3
      replace sf4 := (hbx.frozens _ _ (by omega)).trans sf4
      replace sf5 := (hbx.frozens _ _ (by omega)).trans sf5
      by_cases e0 : a0 = 0
      · subst e0
        have hR := Lib.hid (HG.out.trans (if_neg (by omega)))
        have hQ := Lib.hid (show nulk (l.take (k + 1)) = true from by rw [HN.out]; simp)
        go_wp2_with fail
        go_roundg (l.length - (k + 1))
        case measure => have := hh.out; omega
        case rel =>
          exact ⟨k + 1, rfl, by go_num, by omega, rfl, by show OwnT _ _ _ _; rw [hR.out]; exact own_setT (hown.out.keep hbx) (by have := HW.out; dsimp only; omega) _, (hbut.out.bel hbx).set 5 (by omega) _, by simp [go_sem, s4], by rw [hQ.out]; simp [go_sem, s5], (hbw.trans hbx).setCell (by dsimp only; omega) _⟩
      · have f0 : (a0 == 0) = false := by simp [e0]
        have hQ := Lib.hid (show nulk (l.take (k + 1)) = q from by rw [HN.out]; simp [e0])
        by_cases eK : a0 = 2
        · subst eK
          have hR := Lib.hid (HG.out.trans (if_pos rfl))
          have hHB := Nat.le_trans hbut.out.1 hbx.size
          have HAp := Lib.hid fun ty => app_ownT (hown.out.keep hbx) a3 hHB (by have := HGl.out; have := HLn.out; omega) ty
          have HVq := Lib.hid fun q (hq : u7.ownBlock = some q) => (hown.out.lt q hq).1
          have HBX := Lib.hid (And.intro (hbut.out.bel hbx) (hbw.trans hbx))
          go_wp2_with (at_builtin; refine wpList_app (by rfl) (.tmp 43) (.tmp 47) _ rfl (HAp.out _) ?_; rintro v7 w7 ⟨o7, g7⟩)
          have hXA : Bel X (X.alloc (.cells #[.string a3] 9)) := (Bel.refl X).alloc _
          have hfar : ∀ o, w7.cell? ⟨w.heap.size + 2, o, none⟩ = X.cell? ⟨w.heap.size + 2, o, none⟩ := fun o => by
            rw [← hXA.cells _ _ (show w.heap.size + 2 < X.heap.size by omega)]
            exact World.cell?_of_block (g7.block (w.heap.size + 2) (by have := hXA.size; omega) (fun e => by have := HVq.out _ e.symm; have := HW.out; omega))
          go_roundg (l.length - (k + 1))
          case measure => have := hh.out; omega
          case rel =>
            have hb7 : Bel w w7 := Below.grown (HBX.out.2.trans hXA) g7 (HBX.out.2.trans hXA).size (fun q hq => by have := HVq.out q hq; have := HW.out; omega)
            exact ⟨k + 1, rfl, by go_num, by omega, rfl, by show OwnT _ _ _ _; rw [hR.out]; exact o7, (HBX.out.1.bel hXA).grown g7 (fun q hq => HVq.out q hq), by rw [hfar]; exact s4, by rw [hfar, hQ.out]; exact s5, hb7⟩
        · have fK : (a0 == 2) = false := by simp [eK]
          have hR := Lib.hid (HG.out.trans (if_neg eK))
          go_wp2_with fail
          go_roundg (l.length - (k + 1))
          case measure => have := hh.out; omega
          case rel =>
            exact ⟨k + 1, rfl, by go_num, by omega, rfl, by show OwnT _ _ _ _; rw [hR.out]; exact hown.out.keep hbx, hbut.out.bel hbx, s4, by rw [hQ.out]; exact s5, hbw.trans hbx⟩
    · obtain rfl : k = l.length := by omega
      have e0 := hown.out
      rw [List.take_length] at e0 s5
      obtain ⟨A6, c6, e6, hs6, hA6, h6⟩ := own_row e0
      have hP6 : StP W.heap.size wr A6 c6 (txk l) := ⟨hs6, hA6, by
        rcases h6 with h6 | ⟨g, h6, h7, _⟩
        · exact .inl (by simpa [strs] using h6)
        · exact .inr ⟨g, 0, h6, h7⟩⟩
      have HO := Lib.hid hP6
      clear hown e0 hs6 hA6 h6 hP6
      subst e6
      have HJ := Lib.hid fun W' => join_any (.slice none 0 0) [] W' ⟨none, 0, rfl, Sps.nil, Nat.le_refl _, .inl ⟨rfl, rfl⟩⟩ (by simp) (by simp)
      have HMk := Lib.hid fun W' (h : Strs W' A6 (txk l)) => wmake_any false (txk l) A6 c6 W' h (by have := txk_len l; have := HLn.out; omega) HTF.out
      have z9 := hbut.out.1
      have zW := HW.out
      go_upto_region 18 with (go_at_call 47; refine (HJ.out _).mono ?_; rintro e X1 ⟨v', r, rfl, o1, o2, o3, ⟨o4, o5⟩, hx1⟩; obtain rfl := ord_empty0 o2 o4; obtain ⟨A', c', rfl, hS⟩ := SpP.of_own o1; have HS := Lib.hid hS; have hxK := hx1; clear o1 o2 o3 o4 o5 hS; have hbX := hbw.trans hx1; have zx1 := hx1.size; replace m0 := (hx1.cells _ _ (by omega)).trans m0; replace m1 := (hx1.cells _ _ (by omega)).trans m1; replace m2 := (hx1.cells _ _ (by omega)).trans m2; replace m3 := (hx1.cells _ _ (by omega)).trans m3; replace m4 := (hx1.cells _ _ (by omega)).trans m4; replace r0 := (hx1.cells _ _ (by omega)).trans r0; replace r1 := (hx1.cells _ _ (by omega)).trans r1; replace r2 := (hx1.cells _ _ (by omega)).trans r2; replace r3 := (hx1.cells _ _ (by omega)).trans r3; replace r4 := (hx1.cells _ _ (by omega)).trans r4; replace r5 := (hx1.cells _ _ (by omega)).trans r5; replace rf0 := (hx1.frozens _ _ (by omega)).trans rf0; replace rf1 := (hx1.frozens _ _ (by omega)).trans rf1; replace rf2 := (hx1.frozens _ _ (by omega)).trans rf2; replace rf3 := (hx1.frozens _ _ (by omega)).trans rf3; replace rf4 := (hx1.frozens _ _ (by omega)).trans rf4; replace rf5 := (hx1.frozens _ _ (by omega)).trans rf5; replace s0 := (hx1.cells _ _ (by omega)).trans s0; replace s1 := (hx1.cells _ _ (by omega)).trans s1; replace s2 := (hx1.cells _ _ (by omega)).trans s2; replace s3 := (hx1.cells _ _ (by omega)).trans s3; replace s4 := (hx1.cells _ _ (by omega)).trans s4; replace s5 := (hx1.cells _ _ (by omega)).trans s5; replace sf0 := (hx1.frozens _ _ (by omega)).trans sf0; replace sf1 := (hx1.frozens _ _ (by omega)).trans sf1; replace sf2 := (hx1.frozens _ _ (by omega)).trans sf2; replace sf3 := (hx1.frozens _ _ (by omega)).trans sf3; replace sf4 := (hx1.frozens _ _ (by omega)).trans sf4; replace sf5 := (hx1.frozens _ _ (by omega)).trans sf5)
      have hbY : Bel w (X1.setCell ⟨w.heap.size + 1 + 1, 1, none⟩ (.slice A' 0 c')) := hbX.setCell (by dsimp only; omega) _
      refine under_name (w0 := w) hbY fun Y hc hf hz hby => ?_
      have hz2 : Y.heap.size = X1.heap.size := by rw [hz]; simp
      have hY : ∀ k o, W.heap.size ≤ k → Y.cell? ⟨k, o, none⟩ = X1.cell? ⟨k, o, none⟩ := fun k o hk => by
        rw [hc]
        have n1 : ¬ w.heap.size + 1 + 1 = k := by omega
        simp [go_sem, n1]
      have hO6 := StP.other (HO.out.keep hxK) hz2 hY
      have hS6 := SpP.other (SpP.low HS.out z9) hz2 hY
      replace r0 : Y.cell? ⟨w.heap.size + 1, 0, none⟩ = _ := (hc _).trans (by simp [go_sem]; exact r0)
      replace r1 : Y.cell? ⟨w.heap.size + 1, 1, none⟩ = _ := (hc _).trans (by simp [go_sem]; exact r1)
      replace r2 : Y.cell? ⟨w.heap.size + 1, 2, none⟩ = _ := (hc _).trans (by simp [go_sem]; exact r2)
      replace r3 : Y.cell? ⟨w.heap.size + 1, 3, none⟩ = _ := (hc _).trans (by simp [go_sem]; exact r3)
      replace r4 : Y.cell? ⟨w.heap.size + 1, 4, none⟩ = _ := (hc _).trans (by simp [go_sem]; exact r4)
      replace r5 : Y.cell? ⟨w.heap.size + 1, 5, none⟩ = _ := (hc _).trans (by simp [go_sem]; exact r5)
      replace rf0 : Y.frozen? ⟨w.heap.size + 1, 0, none⟩ = false := (hf _).trans (by simp [go_sem]; exact rf0)
      replace rf1 : Y.frozen? ⟨w.heap.size + 1, 1, none⟩ = false := (hf _).trans (by simp [go_sem]; exact rf1)
      replace rf2 : Y.frozen? ⟨w.heap.size + 1, 2, none⟩ = false := (hf _).trans (by simp [go_sem]; exact rf2)
      replace rf3 : Y.frozen? ⟨w.heap.size + 1, 3, none⟩ = false := (hf _).trans (by simp [go_sem]; exact rf3)
      replace rf4 : Y.frozen? ⟨w.heap.size + 1, 4, none⟩ = false := (hf _).trans (by simp [go_sem]; exact rf4)
      replace rf5 : Y.frozen? ⟨w.heap.size + 1, 5, none⟩ = false := (hf _).trans (by simp [go_sem]; exact rf5)
      replace s0 : Y.cell? ⟨w.heap.size + 2, 0, none⟩ = _ := (hc _).trans (by simp [go_sem]; exact s0)
      replace s1 : Y.cell? ⟨w.heap.size + 2, 1, none⟩ = some (.slice A' 0 c') := (hc _).trans (by simp [go_sem, s1])
      replace s2 : Y.cell? ⟨w.heap.size + 2, 2, none⟩ = _ := (hc _).trans (by simp [go_sem]; exact s2)
      replace s3 : Y.cell? ⟨w.heap.size + 2, 3, none⟩ = _ := (hc _).trans (by simp [go_sem]; exact s3)
      replace s4 : Y.cell? ⟨w.heap.size + 2, 4, none⟩ = _ := (hc _).trans (by simp [go_sem]; exact s4)
      replace s5 : Y.cell? ⟨w.heap.size + 2, 5, none⟩ = _ := (hc _).trans (by simp [go_sem]; exact s5)
      replace sf0 : Y.frozen? ⟨w.heap.size + 2, 0, none⟩ = false := (hf _).trans (by simp [go_sem]; exact sf0)
      replace sf1 : Y.frozen? ⟨w.heap.size + 2, 1, none⟩ = false := (hf _).trans (by simp [go_sem]; exact sf1)
      replace sf2 : Y.frozen? ⟨w.heap.size + 2, 2, none⟩ = false := (hf _).trans (by simp [go_sem]; exact sf2)
      replace sf3 : Y.frozen? ⟨w.heap.size + 2, 3, none⟩ = false := (hf _).trans (by simp [go_sem]; exact sf3)
      replace sf4 : Y.frozen? ⟨w.heap.size + 2, 4, none⟩ = false := (hf _).trans (by simp [go_sem]; exact sf4)
      replace sf5 : Y.frozen? ⟨w.heap.size + 2, 5, none⟩ = false := (hf _).trans (by simp [go_sem]; exact sf5)
      clear hc hf hz hY hbY
      have HS6 := Lib.hid hS6
      have HO6 := Lib.hid hO6.1
      have zy : w.heap.size + 3 ≤ Y.heap.size := by omega
      clear hS6 hO6 hxK hx1
      go_wp2_with (go_at_call 70; refine (HMk.out _ HO6.out).mono ?_; rintro e X2 ⟨A2, c2, rfl, h1, h2, h3, hx2⟩; have HS2 := Lib.hid (StP.of_made h1 h2 h3); clear h1 h2 h3; have hbZ := hby.trans hx2; have zx2 := hx2.size; have HX2 := Lib.hid hx2; replace r0 := (hx2.cells _ _ (by omega)).trans r0; replace r1 := (hx2.cells _ _ (by omega)).trans r1; replace r2 := (hx2.cells _ _ (by omega)).trans r2; replace r3 := (hx2.cells _ _ (by omega)).trans r3; replace r4 := (hx2.cells _ _ (by omega)).trans r4; replace r5 := (hx2.cells _ _ (by omega)).trans r5; replace rf0 := (hx2.frozens _ _ (by omega)).trans rf0; replace rf1 := (hx2.frozens _ _ (by omega)).trans rf1; replace rf2 := (hx2.frozens _ _ (by omega)).trans rf2; replace rf3 := (hx2.frozens _ _ (by omega)).trans rf3; replace rf4 := (hx2.frozens _ _ (by omega)).trans rf4; replace rf5 := (hx2.frozens _ _ (by omega)).trans rf5; replace s0 := (hx2.cells _ _ (by omega)).trans s0; replace s1 := (hx2.cells _ _ (by omega)).trans s1; replace s2 := (hx2.cells _ _ (by omega)).trans s2; replace s3 := (hx2.cells _ _ (by omega)).trans s3; replace s4 := (hx2.cells _ _ (by omega)).trans s4; replace s5 := (hx2.cells _ _ (by omega)).trans s5; replace sf0 := (hx2.frozens _ _ (by omega)).trans sf0; replace sf1 := (hx2.frozens _ _ (by omega)).trans sf1; replace sf2 := (hx2.frozens _ _ (by omega)).trans sf2; replace sf3 := (hx2.frozens _ _ (by omega)).trans sf3; replace sf4 := (hx2.frozens _ _ (by omega)).trans sf4; replace sf5 := (hx2.frozens _ _ (by omega)).trans sf5)
      refine bodyPost_ret (by simp [results, Tryz.results45, go_sem, r0, s0, rf0, sf0, r1, s1, rf1, sf1, r2, s2, rf2, sf2, r3, s3, rf3, sf3, r4, s4, rf4, sf4, r5, s5, rf5, sf5]; try rfl) rfl ⟨A', c', A2, c2, rfl, SpP.low (SpP.other (HS6.out.keep HX2.out) (by simp) fun k o hk => ?_) (by omega), StP.low (StP.other (StP.low HS2.out zy) (by simp) fun k o hk => ?_) (Nat.le_add_right _ _), ?_⟩
      · have n1 : ¬ w.heap.size + 1 = k := by omega
        have n2 : ¬ w.heap.size + 2 = k := by omega
        simp [go_sem, n1, n2]
      · have n1 : ¬ w.heap.size + 1 = k := by omega
        have n2 : ¬ w.heap.size + 2 = k := by omega
        simp [go_sem, n1, n2]
      · (repeat (first | with_reducible exact Bel.refl _ | with_reducible refine Bel.setCell ?_ (by first | exact Nat.le_refl _ | (dsimp only; omega)) _ | with_reducible refine Bel.alloc ?_ _ | with_reducible refine Bel.drew ?_ | with_reducible assumption | with_reducible refine Bel.trans ?_ (by assumption)))
set_option maxRecDepth 100000 in
set_option maxHeartbeats 8000000 in
theorem someB_any (sc : Int) (any not : Bool) (A0 : Option Addr) (n0 c0 : Nat) (l : List Tst) (A : Option Addr) (c : Nat) (w : World) (hs : Tsts w A l) (hl : l.length ≤ 1000) (hsn : ∀ t ∈ l, tsnd t = true) :
    Calls Tryz.prog 45 #[tyv 3 sc any not (.slice A0 n0 c0), .slice A l.length c] w (SetOut w ⟨3, [], false, [], bok l, nulk l⟩) := by
  have HLn := Lib.hid hl
  have HSN := Lib.hid hsn
  have li : (l.length : Int) ≤ 1000 := by omega
  clear hsn
  go_enter Tryz.func45, Tryz.ntmps45
  go_upto_region 4 with fail
  refine under_name (w0 := w) (by (repeat (first | with_reducible exact Bel.refl _ | with_reducible refine Bel.setCell ?_ (by first | exact Nat.le_refl _ | (dsimp only; omega)) _ | with_reducible refine Bel.alloc ?_ _ | with_reducible refine Bel.drew ?_ | with_reducible assumption | with_reducible refine Bel.trans ?_ (by assumption)))) fun W hc hf hz hb => ?_
  have m0 : W.cell? ⟨w.heap.size, 0, none⟩ = some (.int .i64 3) := by simp [hc, go_sem]
  have m1 : W.cell? ⟨w.heap.size, 1, none⟩ = some (.int .i64 sc) := by simp [hc, go_sem]
  have m2 : W.cell? ⟨w.heap.size, 2, none⟩ = some (.bool any) := by simp [hc, go_sem]
  have m3 : W.cell? ⟨w.heap.size, 3, none⟩ = some (.bool not) := by simp [hc, go_sem]
  have m4 : W.cell? ⟨w.heap.size, 4, none⟩ = some (.slice A0 n0 c0) := by simp [hc, go_sem]
  have r0 : W.cell? ⟨w.heap.size + 1, 0, none⟩ = some (.int .i64 0) := by simp [hc, go_sem]
  have r1 : W.cell? ⟨w.heap.size + 1, 1, none⟩ = some (.slice none 0 0) := by simp [hc, go_sem]
  have r2 : W.cell? ⟨w.heap.size + 1, 2, none⟩ = some (.bool false) := by simp [hc, go_sem]
  have r3 : W.cell? ⟨w.heap.size + 1, 3, none⟩ = some (.slice none 0 0) := by simp [hc, go_sem]
  have r4 : W.cell? ⟨w.heap.size + 1, 4, none⟩ = some (.int .i64 0) := by simp [hc, go_sem]
  have r5 : W.cell? ⟨w.heap.size + 1, 5, none⟩ = some (.bool false) := by simp [hc, go_sem]
  have rf0 : W.frozen? ⟨w.heap.size + 1, 0, none⟩ = false := by simp [hf, go_sem]
  have rf1 : W.frozen? ⟨w.heap.size + 1, 1, none⟩ = false := by simp [hf, go_sem]
  have rf2 : W.frozen? ⟨w.heap.size + 1, 2, none⟩ = false := by simp [hf, go_sem]
  have rf3 : W.frozen? ⟨w.heap.size + 1, 3, none⟩ = false := by simp [hf, go_sem]
  have rf4 : W.frozen? ⟨w.heap.size + 1, 4, none⟩ = false := by simp [hf, go_sem]
  have rf5 : W.frozen? ⟨w.heap.size + 1, 5, none⟩ = false := by simp [hf, go_sem]
  have s0 : W.cell? ⟨w.heap.size + 2, 0, none⟩ = some (.int .i64 3) := by simp [hc, go_sem]
  have s1 : W.cell? ⟨w.heap.size + 2, 1, none⟩ = some (.slice none 0 0) := by simp [hc, go_sem]
  have s2 : W.cell? ⟨w.heap.size + 2, 2, none⟩ = some (.bool false) := by simp [hc, go_sem]
  have s3 : W.cell? ⟨w.heap.size + 2, 3, none⟩ = some (.slice none 0 0) := by simp [hc, go_sem]
  have s4 : W.cell? ⟨w.heap.size + 2, 4, none⟩ = some (.int .i64 0) := by simp [hc, go_sem]
  have s5 : W.cell? ⟨w.heap.size + 2, 5, none⟩ = some (.bool false) := by simp [hc, go_sem]
  have sf0 : W.frozen? ⟨w.heap.size + 2, 0, none⟩ = false := by simp [hf, go_sem]
  have sf1 : W.frozen? ⟨w.heap.size + 2, 1, none⟩ = false := by simp [hf, go_sem]
  have sf2 : W.frozen? ⟨w.heap.size + 2, 2, none⟩ = false := by simp [hf, go_sem]
  have sf3 : W.frozen? ⟨w.heap.size + 2, 3, none⟩ = false := by simp [hf, go_sem]
  have sf4 : W.frozen? ⟨w.heap.size + 2, 4, none⟩ = false := by simp [hf, go_sem]
  have sf5 : W.frozen? ⟨w.heap.size + 2, 5, none⟩ = false := by simp [hf, go_sem]
  have z0 : w.heap.size + 3 ≤ W.heap.size := by simp [hz]
  clear hc hf hz
  have HW := Lib.hid z0
  go_wp2_with fail
  go_loopg [6, 7, 15] l.length (fun g rv v i wr => ∃ k : Nat, rv = .slice none 0 0 ∧ i = .int .i64 k ∧ k ≤ l.length ∧ Hid (g = l.length - k) ∧ v = .slice none 0 0 ∧ Hid (But W wr (w.heap.size + 2)) ∧ wr.cell? ⟨w.heap.size + 2, 4, none⟩ = some (.int .i64 (bok (l.take k))) ∧ wr.cell? ⟨w.heap.size + 2, 5, none⟩ = some (.bool (nulk (l.take k))) ∧ Bel w wr)
  case atStart => exact ⟨0, rfl, rfl, Nat.zero_le _, rfl, rfl, But.refl _ _, s4, s5, hb⟩
  case round =>
    obtain ⟨k, rfl, rfl, hk, hh, rfl, hbut, y4, y5, hbw⟩ := hrel
    have BC := hbut.out.2.1
    have BF := hbut.out.2.2
    have zr : w.heap.size + 3 ≤ wr.heap.size := Nat.le_trans z0 hbut.out.1
    replace m0 := (BC _ _ (by omega) (.inl (by omega))).trans m0
    replace m1 := (BC _ _ (by omega) (.inl (by omega))).trans m1
    replace m2 := (BC _ _ (by omega) (.inl (by omega))).trans m2
    replace m3 := (BC _ _ (by omega) (.inl (by omega))).trans m3
    replace m4 := (BC _ _ (by omega) (.inl (by omega))).trans m4
    replace r0 := (BC _ _ (by omega) (.inl (by omega))).trans r0
    replace r1 := (BC _ _ (by omega) (.inl (by omega))).trans r1
    replace r2 := (BC _ _ (by omega) (.inl (by omega))).trans r2
    replace r3 := (BC _ _ (by omega) (.inl (by omega))).trans r3
    replace r4 := (BC _ _ (by omega) (.inl (by omega))).trans r4
    replace r5 := (BC _ _ (by omega) (.inl (by omega))).trans r5
    replace s0 := (BC _ _ (by omega) (.inr (by omega))).trans s0
    replace s1 := (BC _ _ (by omega) (.inr (by omega))).trans s1
    replace s2 := (BC _ _ (by omega) (.inr (by omega))).trans s2
    replace s3 := (BC _ _ (by omega) (.inr (by omega))).trans s3
    replace rf0 := (BF _ _ (by omega)).trans rf0
    replace rf1 := (BF _ _ (by omega)).trans rf1
    replace rf2 := (BF _ _ (by omega)).trans rf2
    replace rf3 := (BF _ _ (by omega)).trans rf3
    replace rf4 := (BF _ _ (by omega)).trans rf4
    replace rf5 := (BF _ _ (by omega)).trans rf5
    replace sf0 := (BF _ _ (by omega)).trans sf0
    replace sf1 := (BF _ _ (by omega)).trans sf1
    replace sf2 := (BF _ _ (by omega)).trans sf2
    replace sf3 := (BF _ _ (by omega)).trans sf3
    replace sf4 := (BF _ _ (by omega)).trans sf4
    replace sf5 := (BF _ _ (by omega)).trans sf5
    replace s4 := y4
    replace s5 := y5
    clear BC BF y4 y5 z0
    by_cases hp : k < l.length
    · obtain ⟨tb, off, rfl, hlt, hat⟩ := hs (by omega)
      obtain ⟨t, htk⟩ : ∃ t, l[k]? = some t := ⟨_, List.getElem?_eq_getElem hp⟩
      have ha := (hat k t htk).keep hbw hlt
      have HT := Lib.hid (take_snoc htk)
      have zt := Nat.lt_of_lt_of_le hlt hbw.size
      have i1 : (k : Int) < l.length := by omega
      have HN := Lib.hid (nulk_snoc (l.take k) t)
      have HG := Lib.hid (bok_snoc (l.take k) t (fun h => tsnd_num (HSN.out t (List.mem_of_getElem? htk)) h))
      have HBn := Lib.hid fun h => tsnd_num (HSN.out t (List.mem_of_getElem? htk)) h
      have HBt := Lib.hid fun W => fun h => bit_any t.low h W
      rw [← HT.out] at HN HG
      obtain ⟨tk, ⟨a0, a1, a2, a3, a4⟩, ⟨b0, b1, b2, b3, b4⟩, x, y⟩ := t
      simp only at HN HG HBn HBt
      obtain ⟨t0, t1, t2, t3, t4, t5, t6, t7, t8, t9, t10, t11, t12⟩ := ha
      clear hat htk
      simp only at t0 t1 t2 t3 t4 t5 t6 t7 t8 t9 t10 t11 t12
      generalize bok (l.take k) = bb at s4 HG
      generalize nulk (l.take k) = q at s5 HN
      go_upto_region 8 with fail
      refine under_name (w0 := wr) ((Bel.refl wr).alloc _) fun X hc hf hz hbx => ?_
      have x0 : X.cell? ⟨wr.heap.size, 0, none⟩ = some (.int .i64 tk) := by simp [hc, go_sem]
      have x1 : X.cell? ⟨wr.heap.size, 1, none⟩ = some (.int .i64 a0) := by simp [hc, go_sem]
      have x2 : X.cell? ⟨wr.heap.size, 2, none⟩ = some (.int .i64 a1) := by simp [hc, go_sem]
      have x3 : X.cell? ⟨wr.heap.size, 3, none⟩ = some (.int .i64 a2) := by simp [hc, go_sem]
      have x4 : X.cell? ⟨wr.heap.size, 4, none⟩ = some (.string a3) := by simp [hc, go_sem]
      have x5 : X.cell? ⟨wr.heap.size, 5, none⟩ = some (.int .i64 a4) := by simp [hc, go_sem]
      have x6 : X.cell? ⟨wr.heap.size, 6, none⟩ = some (.int .i64 b0) := by simp [hc, go_sem]
      have x7 : X.cell? ⟨wr.heap.size, 7, none⟩ = some (.int .i64 b1) := by simp [hc, go_sem]
      have x8 : X.cell? ⟨wr.heap.size, 8, none⟩ = some (.int .i64 b2) := by simp [hc, go_sem]
      have x9 : X.cell? ⟨wr.heap.size, 9, none⟩ = some (.string b3) := by simp [hc, go_sem]
      have x10 : X.cell? ⟨wr.heap.size, 10, none⟩ = some (.int .i64 b4) := by simp [hc, go_sem]
      have x11 : X.cell? ⟨wr.heap.size, 11, none⟩ = some (.bool x) := by simp [hc, go_sem]
      have x12 : X.cell? ⟨wr.heap.size, 12, none⟩ = some (.bool y) := by simp [hc, go_sem]
      have zx : wr.heap.size + 1 ≤ X.heap.size := by simp [hz]
      clear hc hf hz t0 t1 t2 t3 t4 t5 t6 t7 t8 t9 t10 t11 t12 zt
      have B4 := Lib.hid s4
      have B5 := Lib.hid s5
      replace m0 := (hbx.cells _ _ (by omega)).trans m0
      replace m1 := (hbx.cells _ _ (by omega)).trans m1
      replace m2 := (hbx.cells _ _ (by omega)).trans m2
      replace m3 := (hbx.cells _ _ (by omega)).trans m3
      replace m4 := (hbx.cells _ _ (by omega)).trans m4
      replace r0 := (hbx.cells _ _ (by omega)).trans r0
      replace r1 := (hbx.cells _ _ (by omega)).trans r1
      replace r2 := (hbx.cells _ _ (by omega)).trans r2
      replace r3 := (hbx.cells _ _ (by omega)).trans r3
      replace r4 := (hbx.cells _ _ (by omega)).trans r4
      replace r5 := (hbx.cells _ _ (by omega)).trans r5
      replace s0 := (hbx.cells _ _ (by omega)).trans s0
      replace s1 := (hbx.cells _ _ (by omega)).trans s1
      replace s2 := (hbx.cells _ _ (by omega)).trans s2
      replace s3 := (hbx.cells _ _ (by omega)).trans s3
      replace s4 := (hbx.cells _ _ (by omega)).trans s4
      replace s5 := (hbx.cells _ _ (by omega)).trans s5
      replace rf0 := (hbx.frozens _ _ (by omega)).trans rf0
      replace rf1 := (hbx.frozens _ _ (by omega)).trans rf1
      replace rf2 := (hbx.frozens _ _ (by omega)).trans rf2
      replace rf3 := (hbx.frozens _ _ (by omega)).trans rf3
      replace rf4 := (hbx.frozens _ _ (by omega)).trans rf4
      replace rf5 := (hbx.frozens _ _ (by omega)).trans rf5
      replace sf0 := (hbx.frozens _ _ (by omega)).trans sf0
      replace sf1 := (hbx.frozens _ _ (by omega)).trans sf1
      replace sf2 := (hbx.frozens _ _ (by omega)).trans sf2
      replace sf3 := (hbx.frozens _ _ (by omega)).trans sf3
      replace sf4 := (hbx.frozens _ _ (by omega)).trans sf4
      replace sf5 := (hbx.frozens _ _ (by omega)).trans sf5
      by_cases e0 : a0 = 0
      · subst e0
        have hR := Lib.hid (HG.out.trans (if_neg (by omega)))
        have hQ := Lib.hid (show nulk (l.take (k + 1)) = true from by rw [HN.out]; simp)
        go_wp2_with fail
        go_roundg (l.length - (k + 1))
        case measure => have := hh.out; omega
        case rel =>
          exact ⟨k + 1, rfl, by go_num, by omega, rfl, rfl, (hbut.out.bel hbx).set 5 (by omega) _, by rw [hR.out]; simp [go_sem, s4], by rw [hQ.out]; simp [go_sem, s5], (hbw.trans hbx).setCell (by dsimp only; omega) _⟩
      · have f0 : (a0 == 0) = false := by simp [e0]
        have hQ := Lib.hid (show nulk (l.take (k + 1)) = q from by rw [HN.out]; simp [e0])
        by_cases eK : a0 = 3
        · subst eK
          have hR := Lib.hid (HG.out.trans (if_pos rfl))
          go_upto_region 14 with fail
          have HBi := HBn.out rfl
          refine wp_region_noPanic ?_
          refine wp_region_held (S := fun Y => Y.cell? ⟨wr.heap.size, 1, none⟩ = some (.int .i64 3) ∧ Y.cell? ⟨wr.heap.size, 2, none⟩ = some (.int .i64 a1) ∧ Y.cell? ⟨wr.heap.size, 3, none⟩ = some (.int .i64 a2) ∧ Y.cell? ⟨wr.heap.size, 4, none⟩ = some (.string a3) ∧ Y.cell? ⟨wr.heap.size, 5, none⟩ = some (.int .i64 a4)) (by kernel_rfl) ?_
          have hX0 : Bel X { X with drawn := X.drawn + 1 } := (Bel.refl X).drew
          generalize { X with drawn := X.drawn + 1 } = X0 at hX0 ⊢
          replace x1 := (hX0.cells _ _ (by omega)).trans x1
          replace x2 := (hX0.cells _ _ (by omega)).trans x2
          replace x3 := (hX0.cells _ _ (by omega)).trans x3
          replace x4 := (hX0.cells _ _ (by omega)).trans x4
          replace x5 := (hX0.cells _ _ (by omega)).trans x5
          replace s4 := (hX0.cells _ _ (by omega)).trans s4
          replace s5 := (hX0.cells _ _ (by omega)).trans s5
          replace sf4 := (hX0.frozens _ _ (by omega)).trans sf4
          have zX0 : wr.heap.size + 1 ≤ X0.heap.size := Nat.le_trans zx hX0.size
          refine wpAnyH_take (i := 0) (oi := { dst := some 53, op := Op.fieldAddr 39 (Operand.tmp 5) 3, type := 0, pos := "kinds.go:99", after := #[], guard := none }) (v := .pointer (some ⟨w.heap.size + 2, 4, none⟩)) rfl (by kernel_rfl) (by kernel_rfl) (by kernel_rfl) (fun _ _ _ h => h) (.inl ⟨by rfl, fun Y hS => by
              obtain ⟨k1, k2, k3, k4, k5⟩ := hS
              go_simp; first | done | with_reducible rfl | rfl⟩) ⟨x1, x2, x3, x4, x5⟩ ?_
          (try simp only [Act.put, List.setIfInBounds_toArray, List.set_cons_zero, List.set_cons_succ])
          refine wpAnyH_take (i := 2) (oi := { dst := some 55, op := Op.fieldAddr 59 (Operand.tmp 9) 1, type := 0, pos := "kinds.go:99", after := #[], guard := none }) (v := .pointer (some ⟨wr.heap.size, 1, none⟩)) rfl (by kernel_rfl) (by kernel_rfl) (by kernel_rfl) (fun _ _ _ h => h) (.inl ⟨by rfl, fun Y hS => by
              obtain ⟨k1, k2, k3, k4, k5⟩ := hS
              go_simp; first | done | with_reducible rfl | rfl⟩) ⟨x1, x2, x3, x4, x5⟩ ?_
          (try simp only [Act.put, List.setIfInBounds_toArray, List.set_cons_zero, List.set_cons_succ])
          refine wpAnyH_take (i := 3) (oi := { dst := some 56, op := Op.load 30 (Operand.tmp 55), type := 30, pos := "kinds.go:99", after := #[{ on := 2, ground := Ground.data }], guard := none }) (v := .agg #[.int .i64 3, .int .i64 a1, .int .i64 a2, .string a3, .int .i64 a4]) rfl (by kernel_rfl) (by kernel_rfl) (by kernel_rfl) (fun _ _ _ h => h) (.inl ⟨by rfl, fun Y hS => by
              obtain ⟨k1, k2, k3, k4, k5⟩ := hS
              go_simp; first | done | with_reducible rfl | rfl⟩) ⟨x1, x2, x3, x4, x5⟩ ?_
          (try simp only [Act.put, List.setIfInBounds_toArray, List.set_cons_zero, List.set_cons_succ])
          refine wpAnyH_all (rs := [1, 4]) (by kernel_rfl) (by simp) ?_
          intro i hi
          simp only [List.mem_cons, List.not_mem_nil, or_false] at hi
          rcases hi with rfl | rfl
          · -- the load, the call
            refine wpOp_value (o := { dst := some 54, op := Op.load 3 (Operand.tmp 53), type := 3, pos := "kinds.go:99", after := #[{ on := 0, ground := Ground.data }], guard := none }) (v := .int .i64 bb) (w' := X0) rfl (by rfl) (by go_simp; first | done | with_reducible rfl | rfl) ?_
            refine ⟨⟨x1, x2, x3, x4, x5⟩, ?_⟩
            (try simp only [Act.put, List.setIfInBounds_toArray, List.set_cons_zero, List.set_cons_succ])
            refine wpAnyH_all (rs := [4]) (by kernel_rfl) (by simp) ?_
            intro i hi
            simp only [List.mem_cons, List.not_mem_nil, or_false] at hi
            subst hi
            refine wpOp_enter (o := { dst := some 57, op := Op.call { callee := Callee.value (Operand.func 53), args := #[Operand.tmp 56], argTypes := #[30] }, type := 3, pos := "kinds.go:99", after := #[{ on := 3, ground := Ground.data }], guard := none }) (R := fun v w' => v = .int .i64 (bitV ⟨3, a1, a2, a3, a4⟩) ∧ Bel X0 w') rfl (by rfl) (by go_simp; first | done | with_reducible rfl | rfl) ((HBt.out X0 HBi).mono fun e w' ⟨h1, h2⟩ => ⟨_, h1, rfl, h2⟩) ?_
            rintro v X1 ⟨rfl, hb'⟩
            replace x1 := (hb'.cells _ _ (by omega)).trans x1
            replace x2 := (hb'.cells _ _ (by omega)).trans x2
            replace x3 := (hb'.cells _ _ (by omega)).trans x3
            replace x4 := (hb'.cells _ _ (by omega)).trans x4
            replace x5 := (hb'.cells _ _ (by omega)).trans x5
            replace s4 := (hb'.cells _ _ (by omega)).trans s4
            replace s5 := (hb'.cells _ _ (by omega)).trans s5
            replace sf4 := (hb'.frozens _ _ (by omega)).trans sf4
            have hX1 := hX0.trans hb'
            have zX1 : wr.heap.size + 1 ≤ X1.heap.size := Nat.le_trans zX0 hb'.size
            clear hb'
            refine ⟨⟨x1, x2, x3, x4, x5⟩, ?_⟩
            (try simp only [Act.put, List.setIfInBounds_toArray, List.set_cons_zero, List.set_cons_succ])
            refine wpAnyH_all (rs := [5]) (by kernel_rfl) (by simp) ?_
            intro i hi
            simp only [List.mem_cons, List.not_mem_nil, or_false] at hi
            subst hi
            refine wpOp_value (o := { dst := some 58, op := Op.binOp BinOp.or 3 (Operand.tmp 54) (Operand.tmp 57) 3, type := 3, pos := "kinds.go:99", after := #[{ on := 1, ground := Ground.data }, { on := 4, ground := Ground.data }], guard := none }) (v := .int .i64 (bits BinOp.or IntKind.i64 bb (bitV ⟨3, a1, a2, a3, a4⟩))) (w' := X1) rfl (by rfl) (by go_simp; first | done | with_reducible rfl | rfl) ?_
            refine ⟨⟨x1, x2, x3, x4, x5⟩, ?_⟩
            (try simp only [Act.put, List.setIfInBounds_toArray, List.set_cons_zero, List.set_cons_succ])
            refine wpAnyH_all (rs := [6]) (by kernel_rfl) (by simp) ?_
            intro i hi
            simp only [List.mem_cons, List.not_mem_nil, or_false] at hi
            subst hi
            refine wpOp_value (o := { dst := some 59, op := Op.fieldAddr 39 (Operand.tmp 5) 3, type := 0, pos := "kinds.go:99", after := #[{ on := 0, ground := Ground.phase }, { on := 1, ground := Ground.phase }, { on := 2, ground := Ground.phase }, { on := 3, ground := Ground.phase }, { on := 4, ground := Ground.phase }, { on := 5, ground := Ground.phase }], guard := none }) (v := .pointer (some ⟨w.heap.size + 2, 4, none⟩)) (w' := X1) rfl (by rfl) (by go_simp; first | done | with_reducible rfl | rfl) ?_
            refine ⟨⟨x1, x2, x3, x4, x5⟩, ?_⟩
            (try simp only [Act.put, List.setIfInBounds_toArray, List.set_cons_zero, List.set_cons_succ])
            refine wpAnyH_all (rs := [7]) (by kernel_rfl) (by simp) ?_
            intro i hi
            simp only [List.mem_cons, List.not_mem_nil, or_false] at hi
            subst hi
            refine wpOp_skip (o := { dst := none, op := Op.store 3 (Operand.tmp 59) (Operand.tmp 58), type := 0, pos := "kinds.go:99", after := #[{ on := 6, ground := Ground.data }, { on := 5, ground := Ground.data }, { on := 4, ground := Ground.chain }, { on := 0, ground := Ground.phase }, { on := 1, ground := Ground.phase }, { on := 2, ground := Ground.phase }, { on := 3, ground := Ground.phase }, { on := 4, ground := Ground.phase }, { on := 5, ground := Ground.phase }], guard := none }) (w' := (X1.setCell ⟨w.heap.size + 2, 4, none⟩ (.int .i64 (bits BinOp.or IntKind.i64 bb (bitV ⟨3, a1, a2, a3, a4⟩))))) rfl (by rfl) (by go_simp; first | done | with_reducible rfl | rfl) ?_
            refine ⟨⟨by simp [go_sem, x1], by simp [go_sem, x2], by simp [go_sem, x3], by simp [go_sem, x4], by simp [go_sem, x5]⟩, ?_⟩
            (try simp only [Act.put, List.setIfInBounds_toArray, List.set_cons_zero, List.set_cons_succ])
            refine wpAnyH_done (by kernel_rfl) ?_ _
            refine NoPanic.normal ?_
            go_wp2_with fail
            go_roundg (l.length - (k + 1))
            case measure => have := hh.out; omega
            case rel =>
              have hbX1 := hbx.trans hX1
              exact ⟨k + 1, rfl, by go_num, by omega, rfl, rfl, (hbut.out.bel hbX1).set 4 (by omega) _, by rw [hR.out]; simp [go_sem, s4], by rw [hQ.out]; simp [go_sem, s5], (hbw.trans hbX1).setCell (by dsimp only; omega) _⟩
          · -- the call, the load
            refine wpOp_enter (o := { dst := some 57, op := Op.call { callee := Callee.value (Operand.func 53), args := #[Operand.tmp 56], argTypes := #[30] }, type := 3, pos := "kinds.go:99", after := #[{ on := 3, ground := Ground.data }], guard := none }) (R := fun v w' => v = .int .i64 (bitV ⟨3, a1, a2, a3, a4⟩) ∧ Bel X0 w') rfl (by rfl) (by go_simp; first | done | with_reducible rfl | rfl) ((HBt.out X0 HBi).mono fun e w' ⟨h1, h2⟩ => ⟨_, h1, rfl, h2⟩) ?_
            rintro v X1 ⟨rfl, hb'⟩
            replace x1 := (hb'.cells _ _ (by omega)).trans x1
            replace x2 := (hb'.cells _ _ (by omega)).trans x2
            replace x3 := (hb'.cells _ _ (by omega)).trans x3
            replace x4 := (hb'.cells _ _ (by omega)).trans x4
            replace x5 := (hb'.cells _ _ (by omega)).trans x5
            replace s4 := (hb'.cells _ _ (by omega)).trans s4
            replace s5 := (hb'.cells _ _ (by omega)).trans s5
            replace sf4 := (hb'.frozens _ _ (by omega)).trans sf4
            have hX1 := hX0.trans hb'
            have zX1 : wr.heap.size + 1 ≤ X1.heap.size := Nat.le_trans zX0 hb'.size
            clear hb'
            refine ⟨⟨x1, x2, x3, x4, x5⟩, ?_⟩
            (try simp only [Act.put, List.setIfInBounds_toArray, List.set_cons_zero, List.set_cons_succ])
            refine wpAnyH_all (rs := [1]) (by kernel_rfl) (by simp) ?_
            intro i hi
            simp only [List.mem_cons, List.not_mem_nil, or_false] at hi
            subst hi
            refine wpOp_value (o := { dst := some 54, op := Op.load 3 (Operand.tmp 53), type := 3, pos := "kinds.go:99", after := #[{ on := 0, ground := Ground.data }], guard := none }) (v := .int .i64 bb) (w' := X1) rfl (by rfl) (by go_simp; first | done | with_reducible rfl | rfl) ?_
            refine ⟨⟨x1, x2, x3, x4, x5⟩, ?_⟩
            (try simp only [Act.put, List.setIfInBounds_toArray, List.set_cons_zero, List.set_cons_succ])
            refine wpAnyH_all (rs := [5]) (by kernel_rfl) (by simp) ?_
            intro i hi
            simp only [List.mem_cons, List.not_mem_nil, or_false] at hi
            subst hi
            refine wpOp_value (o := { dst := some 58, op := Op.binOp BinOp.or 3 (Operand.tmp 54) (Operand.tmp 57) 3, type := 3, pos := "kinds.go:99", after := #[{ on := 1, ground := Ground.data }, { on := 4, ground := Ground.data }], guard := none }) (v := .int .i64 (bits BinOp.or IntKind.i64 bb (bitV ⟨3, a1, a2, a3, a4⟩))) (w' := X1) rfl (by rfl) (by go_simp; first | done | with_reducible rfl | rfl) ?_
            refine ⟨⟨x1, x2, x3, x4, x5⟩, ?_⟩
            (try simp only [Act.put, List.setIfInBounds_toArray, List.set_cons_zero, List.set_cons_succ])
            refine wpAnyH_all (rs := [6]) (by kernel_rfl) (by simp) ?_
            intro i hi
            simp only [List.mem_cons, List.not_mem_nil, or_false] at hi
            subst hi
            refine wpOp_value (o := { dst := some 59, op := Op.fieldAddr 39 (Operand.tmp 5) 3, type := 0, pos := "kinds.go:99", after := #[{ on := 0, ground := Ground.phase }, { on := 1, ground := Ground.phase }, { on := 2, ground := Ground.phase }, { on := 3, ground := Ground.phase }, { on := 4, ground := Ground.phase }, { on := 5, ground := Ground.phase }], guard := none }) (v := .pointer (some ⟨w.heap.size + 2, 4, none⟩)) (w' := X1) rfl (by rfl) (by go_simp; first | done | with_reducible rfl | rfl) ?_
            refine ⟨⟨x1, x2, x3, x4, x5⟩, ?_⟩
            (try simp only [Act.put, List.setIfInBounds_toArray, List.set_cons_zero, List.set_cons_succ])
            refine wpAnyH_all (rs := [7]) (by kernel_rfl) (by simp) ?_
            intro i hi
            simp only [List.mem_cons, List.not_mem_nil, or_false] at hi
            subst hi
            refine wpOp_skip (o := { dst := none, op := Op.store 3 (Operand.tmp 59) (Operand.tmp 58), type := 0, pos := "kinds.go:99", after := #[{ on := 6, ground := Ground.data }, { on := 5, ground := Ground.data }, { on := 4, ground := Ground.chain }, { on := 0, ground := Ground.phase }, { on := 1, ground := Ground.phase }, { on := 2, ground := Ground.phase }, { on := 3, ground := Ground.phase }, { on := 4, ground := Ground.phase }, { on := 5, ground := Ground.phase }], guard := none }) (w' := (X1.setCell ⟨w.heap.size + 2, 4, none⟩ (.int .i64 (bits BinOp.or IntKind.i64 bb (bitV ⟨3, a1, a2, a3, a4⟩))))) rfl (by rfl) (by go_simp; first | done | with_reducible rfl | rfl) ?_
            refine ⟨⟨by simp [go_sem, x1], by simp [go_sem, x2], by simp [go_sem, x3], by simp [go_sem, x4], by simp [go_sem, x5]⟩, ?_⟩
            (try simp only [Act.put, List.setIfInBounds_toArray, List.set_cons_zero, List.set_cons_succ])
            refine wpAnyH_done (by kernel_rfl) ?_ _
            refine NoPanic.normal ?_
            go_wp2_with fail
            go_roundg (l.length - (k + 1))
            case measure => have := hh.out; omega
            case rel =>
              have hbX1 := hbx.trans hX1
              exact ⟨k + 1, rfl, by go_num, by omega, rfl, rfl, (hbut.out.bel hbX1).set 4 (by omega) _, by rw [hR.out]; simp [go_sem, s4], by rw [hQ.out]; simp [go_sem, s5], (hbw.trans hbX1).setCell (by dsimp only; omega) _⟩
        · have fK : (a0 == 3) = false := by simp [eK]
          have hR := Lib.hid (HG.out.trans (if_neg eK))
          go_wp2_with fail
          go_roundg (l.length - (k + 1))
          case measure => have := hh.out; omega
          case rel =>
            exact ⟨k + 1, rfl, by go_num, by omega, rfl, rfl, hbut.out.bel hbx, by rw [hR.out]; exact s4, by rw [hQ.out]; exact s5, hbw.trans hbx⟩
    · obtain rfl : k = l.length := by omega
      rw [List.take_length] at s4 s5
      have HJ := Lib.hid fun W' => join_any (.slice none 0 0) [] W' ⟨none, 0, rfl, Sps.nil, Nat.le_refl _, .inl ⟨rfl, rfl⟩⟩ (by simp) (by simp)
      have z9 := hbut.out.1
      have zW := HW.out
      go_wp2_with (go_at_call 47; refine (HJ.out _).mono ?_; rintro e X1 ⟨v', r, rfl, o1, o2, o3, ⟨o4, o5⟩, hx1⟩; obtain rfl := ord_empty0 o2 o4; obtain ⟨A', c', rfl, hS⟩ := SpP.of_own o1; have HS := Lib.hid hS; clear o1 o2 o3 o4 o5 hS; have hbX := hbw.trans hx1; have zx1 := hx1.size; replace m0 := (hx1.cells _ _ (by omega)).trans m0; replace m1 := (hx1.cells _ _ (by omega)).trans m1; replace m2 := (hx1.cells _ _ (by omega)).trans m2; replace m3 := (hx1.cells _ _ (by omega)).trans m3; replace m4 := (hx1.cells _ _ (by omega)).trans m4; replace r0 := (hx1.cells _ _ (by omega)).trans r0; replace r1 := (hx1.cells _ _ (by omega)).trans r1; replace r2 := (hx1.cells _ _ (by omega)).trans r2; replace r3 := (hx1.cells _ _ (by omega)).trans r3; replace r4 := (hx1.cells _ _ (by omega)).trans r4; replace r5 := (hx1.cells _ _ (by omega)).trans r5; replace rf0 := (hx1.frozens _ _ (by omega)).trans rf0; replace rf1 := (hx1.frozens _ _ (by omega)).trans rf1; replace rf2 := (hx1.frozens _ _ (by omega)).trans rf2; replace rf3 := (hx1.frozens _ _ (by omega)).trans rf3; replace rf4 := (hx1.frozens _ _ (by omega)).trans rf4; replace rf5 := (hx1.frozens _ _ (by omega)).trans rf5; replace s0 := (hx1.cells _ _ (by omega)).trans s0; replace s1 := (hx1.cells _ _ (by omega)).trans s1; replace s2 := (hx1.cells _ _ (by omega)).trans s2; replace s3 := (hx1.cells _ _ (by omega)).trans s3; replace s4 := (hx1.cells _ _ (by omega)).trans s4; replace s5 := (hx1.cells _ _ (by omega)).trans s5; replace sf0 := (hx1.frozens _ _ (by omega)).trans sf0; replace sf1 := (hx1.frozens _ _ (by omega)).trans sf1; replace sf2 := (hx1.frozens _ _ (by omega)).trans sf2; replace sf3 := (hx1.frozens _ _ (by omega)).trans sf3; replace sf4 := (hx1.frozens _ _ (by omega)).trans sf4; replace sf5 := (hx1.frozens _ _ (by omega)).trans sf5)
      refine bodyPost_ret (by simp [results, Tryz.results45, go_sem, r0, s0, rf0, sf0, r1, s1, rf1, sf1, r2, s2, rf2, sf2, r3, s3, rf3, sf3, r4, s4, rf4, sf4, r5, s5, rf5, sf5]; try rfl) rfl ⟨A', c', none, 0, rfl, SpP.low (SpP.other (SpP.low HS.out (show w.heap.size + 3 ≤ wr.heap.size from by omega)) (by simp) fun k o hk => ?_) (Nat.le_add_right _ _), StP.nil _ _, ?_⟩
      · have n1 : ¬ w.heap.size + 1 = k := by omega
        have n2 : ¬ w.heap.size + 2 = k := by omega
        simp [go_sem, n1, n2]
      · (repeat (first | with_reducible exact Bel.refl _ | with_reducible refine Bel.setCell ?_ (by first | exact Nat.le_refl _ | (dsimp only; omega)) _ | with_reducible refine Bel.alloc ?_ _ | with_reducible refine Bel.drew ?_ | with_reducible assumption | with_reducible refine Bel.trans ?_ (by assumption)))
theorem PT.eq {al al' : Bool} {F G : ByteArray → Bool} {nu nu' : Bool} {N M : Nat} {s : St} (h : PT al F nu N s) (ha : al = al') (hn : nu = nu') (hf : ∀ x, okw x = true → F x = G x) (hN : N ≤ M) : PT al' G nu' M s := by
  subst ha; subst hn
  obtain ⟨ws, h1, h2, h3, h4⟩ := h
  exact ⟨ws, h1, Nat.le_trans h2 hN, h3, fun x hx => (h4 x hx).trans (hf x hx)⟩
theorem allT : PT true (fun _ => true) true 0 (allS 2) := ⟨[], rfl, Nat.le_refl _, fun x hx => absurd hx (List.not_mem_nil), fun x hx => by unfold hasw; rw [hx]; rfl⟩
theorem someT (m : List Tst) : PT false (inl (txk m)) (nulk m) m.length ⟨2, [], false, keptl okw (txk m), 0, nulk m⟩ :=
  ⟨_, rfl, Nat.le_trans (keptl_len ..) (txk_len m), fun x hx => ((keptl_mem _ _ _).1 hx).2, fun x hx => by unfold hasw; rw [inl_keptl, hx]; cases inl (txk m) x <;> rfl⟩
set_option maxHeartbeats 1000000 in
theorem holdT_any (sc : Int) (any0 not0 : Bool) (A0 : Option Addr) (n0 c0 : Nat) (any not : Bool) (m : List Tst) (B : Option Addr) (d : Nat) (w : World) (hm : Tsts w B m) (hml : m.length ≤ 100) (ht : ∀ t ∈ m, TOk t) :
    Calls Tryz.prog 37 #[tyv 2 sc any0 not0 (.slice A0 n0 c0), tsv any not (.slice B m.length d)] w fun e w' => ∃ q, SetOut w q e w' ∧ PT (any || not) (HT any not m) (nulH any not m) 100 q := by
  cases any with
  | true =>
    refine (holdGA_any 2 sc any0 not0 A0 n0 c0 not m.length B d w (by omega) (by omega)).mono fun e w' h => ⟨_, h, ?_⟩
    exact allT.eq rfl (by unfold nulH; simp) (fun x hx => rfl) (by omega)
  | false =>
    have H2 : ∀ W, Bel w W → Calls Tryz.prog 45 #[tyv 2 sc any0 not0 (.slice A0 n0 c0), .slice B m.length d] W fun e w' => ∃ s, SetOut W s e w' ∧ PT false (inl (txk m)) (nulk m) 100 s := fun W hW =>
      (someT_any sc any0 not0 A0 n0 c0 m B d W (hm.keep hW) (by omega) ht).mono fun e w' h => ⟨_, h, (someT m).eq rfl rfl (fun _ _ => rfl) hml⟩
    cases not with
    | false =>
      refine (holdGM_any _ (fun _ q => PT (false || false) (HT false false m) (nulH false false m) 100 q) 2 sc any0 not0 A0 n0 c0 m B d w (by omega) (by omega) H2 ?_).mono fun e w' ⟨s, q, h1, _, h2⟩ => ⟨q, h1, h2⟩
      intro X s bA bc bA2 bc2 cA cc cA2 cc2 hs i1 i2
      refine (meetT_any (by omega) (by omega) allT hs X bA bc bA2 bc2 cA cc cA2 cc2 i1 i2).mono fun e w' ⟨q, h1, h2⟩ => ⟨q, h1, h2.eq rfl ?_ ?_ (by omega)⟩
      · unfold nulH; cases nulk m <;> rfl
      · intro x hx; unfold HT; cases inl (txk m) x <;> rfl
    | true =>
      refine (holdGW_any _ (fun _ q => PT (false || true) (HT false true m) (nulH false true m) 100 q) 2 sc any0 not0 A0 n0 c0 m B d w (by omega) (by omega) H2 ?_).mono fun e w' ⟨s, q, h1, _, h2⟩ => ⟨q, h1, h2⟩
      intro X s bA bc bA2 bc2 cA cc cA2 cc2 hs i1 i2
      refine (withoutT_any (by omega) (by omega) allT hs X bA bc bA2 bc2 cA cc cA2 cc2 i1 i2).mono fun e w' ⟨q, h1, h2⟩ => ⟨q, h1, h2.eq rfl ?_ ?_ (by omega)⟩
      · unfold nulH; cases nulk m <;> rfl
      · intro x hx; unfold HT; cases inl (txk m) x <;> rfl
theorem fullT_any (sc : Int) (any not : Bool) (l : List Tst) (A : Option Addr) (c : Nat) (w : World) (hm : Tsts w A l) (hml : l.length ≤ 100) (ht : ∀ t ∈ l, TOk t) :
    Calls Tryz.prog 36 #[tyv 2 sc any not (.slice A l.length c)] w fun e w' => ∃ q, SetOut w q e w' ∧ PT (any || not) (HT any not l) true 100 q :=
  (fullG_any _ 2 sc any not l A c w fun W hW => holdT_any sc any not A l.length c any not l A c W (hm.keep hW) hml ht).mono fun e w' ⟨q, h1, h2⟩ => ⟨_, h1, by
    obtain ⟨ws, rfl, g⟩ := h2
    exact ⟨ws, rfl, g⟩⟩
/-- Of texts: the text of a value is one of those for which tests hold just if they hold of the value. -/
theorem link_text {any not : Bool} {l : List Tst} {v : Val} (hu : usnd any not l = true) (hv : vsnd v = true) (hk : v.kind = 2) : okw v.text = true ∧ HT any not l v.text = mall any not l v := by
  have hsn := (usnd_all hu).2
  have hok : ∀ {u : Val}, vsnd u = true → u.kind = 2 → okw u.text = true ∧ u = ⟨2, 0, 0, u.text, 0⟩ := by
    intro u hu2 hk2
    obtain ⟨k, n, s, t, m⟩ := u
    simp only at hk2
    subst hk2
    rw [vsnd2, Bool.and_eq_true, veq_iff] at hu2
    exact ⟨hu2.2, hu2.1⟩
  refine ⟨(hok hv hk).1, ?_⟩
  have key : inl (txk l) v.text = l.any fun t => mone t v := by
    rw [Bool.eq_iff_iff, inl_iff, List.any_eq_true]
    unfold txk
    have one : ∀ t ∈ l, t.low.kind = 2 → (mone t v = true ↔ t.low.text = v.text) := fun t ht h2 => by
      have hts := hsn t ht
      have hlo := tsnd_low hts
      have h1 : t.kind = 1 := by
        unfold tsnd at hts
        by_cases h1 : t.kind = 1
        · exact h1
        · rw [if_neg h1] at hts
          split at hts
          · rw [h2] at hts; simp [ordk] at hts
          · split at hts
            · rw [h2] at hts; simp [ordk] at hts
            · cases hts
      unfold mone
      rw [if_neg (by omega), if_neg (by omega), if_neg (by omega), if_neg (by omega), if_neg (by omega), if_neg (by omega), decide_eq_true_eq, vcmp_zero hv hlo]
      constructor
      · intro h; rw [h]
      · intro h; rw [(hok hv hk).2, (hok hlo h2).2, h]
    constructor
    · intro h
      obtain ⟨t, ht, he⟩ := List.mem_map.1 h
      rw [List.mem_filter, decide_eq_true_eq] at ht
      exact ⟨t, ht.1, (one t ht.1 ht.2).2 he⟩
    · rintro ⟨t, ht, hmo⟩
      have h2 : t.low.kind = 2 := (mone_kind hmo).symm.trans hk
      exact List.mem_map.2 ⟨t, List.mem_filter.2 ⟨ht, by simpa using h2⟩, (one t ht h2).1 hmo⟩
  unfold HT mall
  rw [key]
  cases any <;> simp
theorem has_text {K sc : Int} {any not : Bool} {l : List Tst} {al : Bool} {F : ByteArray → Bool} {nu : Bool} {N : Nat} {a : St} {v : Val} (ha : PT al F nu N a) :
    hasT 2 sc any not l a v = (inT 2 sc any not l v && if v.kind = 0 then nu else F v.text) := by
  obtain ⟨ws, rfl, _, _, hF⟩ := ha
  unfold hasT
  simp only [decide_true, Bool.true_and]
  cases hi : inT 2 sc any not l v with
  | false => rfl
  | true =>
    simp only [Bool.true_and]
    unfold hasV
    by_cases hk : v.kind = 0
    · rw [if_neg (by omega), if_neg (by omega), if_neg (by omega), if_pos hk]
    · obtain ⟨hkK, hml⟩ := inT_mall hi hk
      have hok : okw v.text = true := by
        have hv := (inT_parts hi).1
        obtain ⟨k, n, s, t, m⟩ := v
        simp only at hkK
        subst hkK
        rw [vsnd2, Bool.and_eq_true] at hv
        exact hv.2
      rw [if_neg (by omega), if_pos hkK, if_neg hk]
      exact hF _ hok
/-- A set of truths: whether it has false, true, null. -/
def PB (x y : Bool) (nu : Bool) (s : St) : Prop := s = ⟨3, [], false, [], bitsOf x y, nu⟩
theorem bits_meet (x y z u : Bool) : bits BinOp.and IntKind.i64 (bits BinOp.and IntKind.i64 (bitsOf x y) (bitsOf z u)) 3 = bitsOf (x && z) (y && u) := by
  cases x <;> cases y <;> cases z <;> cases u <;> decide +kernel
theorem bits_without (x y z u : Bool) : bits BinOp.and IntKind.i64 (bits BinOp.andNot IntKind.i64 (bitsOf x y) (bitsOf z u)) 3 = bitsOf (x && !z) (y && !u) := by
  cases x <;> cases y <;> cases z <;> cases u <;> decide +kernel
theorem bits_has (x y : Bool) (v : Val) : (!(bits BinOp.and IntKind.i64 (bitsOf x y) (bitV v) == 0)) = if v.num = 0 then x else y := by
  unfold bitV
  by_cases h : v.num = 0
  · rw [if_pos h, if_pos h]; cases x <;> cases y <;> decide +kernel
  · rw [if_neg h, if_neg h]; cases x <;> cases y <;> decide +kernel
theorem meetB_any {x y nu z u mu : Bool} {a b : St} (ha : PB x y nu a) (hb : PB z u mu b) (X : World) (aA : Option Addr) (ac : Nat) (aA2 : Option Addr) (ac2 : Nat) (bA : Option Addr) (bc : Nat) (bA2 : Option Addr) (bc2 : Nat) :
    Calls Tryz.prog 35 #[a.val aA ac aA2 ac2, b.val bA bc bA2 bc2] X fun e w' => ∃ q, SetOut X q e w' ∧ PB (x && z) (y && u) (nu && mu) q := by
  unfold PB at ha hb
  subst ha; subst hb
  refine (meetS3_any [] false [] _ nu [] false [] _ mu aA ac aA2 ac2 bA bc bA2 bc2 X).mono ?_
  intro e w' h
  rw [bits_meet] at h
  exact ⟨_, h, rfl⟩
theorem withoutB_any {x y nu z u mu : Bool} {a b : St} (ha : PB x y nu a) (hb : PB z u mu b) (X : World) (aA : Option Addr) (ac : Nat) (aA2 : Option Addr) (ac2 : Nat) (bA : Option Addr) (bc : Nat) (bA2 : Option Addr) (bc2 : Nat) :
    Calls Tryz.prog 49 #[a.val aA ac aA2 ac2, b.val bA bc bA2 bc2] X fun e w' => ∃ q, SetOut X q e w' ∧ PB (x && !z) (y && !u) (nu && !mu) q := by
  unfold PB at ha hb
  subst ha; subst hb
  refine (withoutS3_any [] false [] _ nu [] false [] _ mu aA ac aA2 ac2 bA bc bA2 bc2 X).mono ?_
  intro e w' h
  rw [bits_without] at h
  exact ⟨_, h, rfl⟩
/-- Of which truths tests hold. -/
def HB0 (any not : Bool) (l : List Tst) : Bool := any || (not != b0k l)
def HB1 (any not : Bool) (l : List Tst) : Bool := any || (not != b1k l)
theorem PB.eq {x y nu x' y' nu' : Bool} {s : St} (h : PB x y nu s) (h1 : x = x') (h2 : y = y') (h3 : nu = nu') : PB x' y' nu' s := by
  subst h1; subst h2; subst h3; exact h
theorem allB : PB true true true (allS 3) := rfl
set_option maxHeartbeats 1000000 in
theorem holdB_any (sc : Int) (any0 not0 : Bool) (A0 : Option Addr) (n0 c0 : Nat) (any not : Bool) (m : List Tst) (B : Option Addr) (d : Nat) (w : World) (hm : Tsts w B m) (hml : m.length ≤ 100) (ht : ∀ t ∈ m, tsnd t = true) :
    Calls Tryz.prog 37 #[tyv 3 sc any0 not0 (.slice A0 n0 c0), tsv any not (.slice B m.length d)] w fun e w' => ∃ q, SetOut w q e w' ∧ PB (HB0 any not m) (HB1 any not m) (nulH any not m) q := by
  cases any with
  | true =>
    refine (holdGA_any 3 sc any0 not0 A0 n0 c0 not m.length B d w (by omega) (by omega)).mono fun e w' h => ⟨_, h, ?_⟩
    exact allB.eq rfl rfl (by unfold nulH; simp)
  | false =>
    have H2 : ∀ W, Bel w W → Calls Tryz.prog 45 #[tyv 3 sc any0 not0 (.slice A0 n0 c0), .slice B m.length d] W fun e w' => ∃ s, SetOut W s e w' ∧ PB (b0k m) (b1k m) (nulk m) s := fun W hW =>
      (someB_any sc any0 not0 A0 n0 c0 m B d W (hm.keep hW) (by omega) ht).mono fun e w' h => ⟨_, h, rfl⟩
    cases not with
    | false =>
      refine (holdGM_any _ (fun _ q => PB (HB0 false false m) (HB1 false false m) (nulH false false m) q) 3 sc any0 not0 A0 n0 c0 m B d w (by omega) (by omega) H2 ?_).mono fun e w' ⟨s, q, h1, _, h2⟩ => ⟨q, h1, h2⟩
      intro X s bA bc bA2 bc2 cA cc cA2 cc2 hs i1 i2
      refine (meetB_any allB hs X bA bc bA2 bc2 cA cc cA2 cc2).mono fun e w' ⟨q, h1, h2⟩ => ⟨q, h1, h2.eq ?_ ?_ ?_⟩
      · unfold HB0; cases b0k m <;> rfl
      · unfold HB1; cases b1k m <;> rfl
      · unfold nulH; cases nulk m <;> rfl
    | true =>
      refine (holdGW_any _ (fun _ q => PB (HB0 false true m) (HB1 false true m) (nulH false true m) q) 3 sc any0 not0 A0 n0 c0 m B d w (by omega) (by omega) H2 ?_).mono fun e w' ⟨s, q, h1, _, h2⟩ => ⟨q, h1, h2⟩
      intro X s bA bc bA2 bc2 cA cc cA2 cc2 hs i1 i2
      refine (withoutB_any allB hs X bA bc bA2 bc2 cA cc cA2 cc2).mono fun e w' ⟨q, h1, h2⟩ => ⟨q, h1, h2.eq ?_ ?_ ?_⟩
      · unfold HB0; cases b0k m <;> rfl
      · unfold HB1; cases b1k m <;> rfl
      · unfold nulH; cases nulk m <;> rfl
theorem fullB_any (sc : Int) (any not : Bool) (l : List Tst) (A : Option Addr) (c : Nat) (w : World) (hm : Tsts w A l) (hml : l.length ≤ 100) (ht : ∀ t ∈ l, tsnd t = true) :
    Calls Tryz.prog 36 #[tyv 3 sc any not (.slice A l.length c)] w fun e w' => ∃ q, SetOut w q e w' ∧ PB (HB0 any not l) (HB1 any not l) true q :=
  (fullG_any _ 3 sc any not l A c w fun W hW => holdB_any sc any not A l.length c any not l A c W (hm.keep hW) hml ht).mono fun e w' ⟨q, h1, h2⟩ => ⟨_, h1, by
    unfold PB at h2
    subst h2
    rfl⟩
theorem vsnd_bool {u : Val} (h : vsnd u = true) (hk : u.kind = 3) : u = ⟨3, 0, 0, ⟨#[]⟩, u.num⟩ ∧ (u.num = 0 ∨ u.num = 1) := by
  obtain ⟨k, n, s, t, m⟩ := u
  simp only at hk
  subst hk
  rw [vsnd3, Bool.and_eq_true, veq_iff, Bool.or_eq_true, decide_eq_true_eq, decide_eq_true_eq] at h
  exact h
/-- Of truths: a value is one of those for which tests hold just if they hold of it. -/
theorem link_bool {any not : Bool} {l : List Tst} {v : Val} (hu : usnd any not l = true) (hv : vsnd v = true) (hk : v.kind = 3) : (if v.num = 0 then HB0 any not l else HB1 any not l) = mall any not l v := by
  have hsn := (usnd_all hu).2
  have one : ∀ t ∈ l, t.low.kind = 3 → (mone t v = true ↔ t.low.num = v.num) := fun t ht h2 => by
    have hts := hsn t ht
    have hlo := tsnd_low hts
    have h1 : t.kind = 1 := by
      unfold tsnd at hts
      by_cases h1 : t.kind = 1
      · exact h1
      · rw [if_neg h1] at hts
        split at hts
        · rw [h2] at hts; simp [ordk] at hts
        · split at hts
          · rw [h2] at hts; simp [ordk] at hts
          · cases hts
    unfold mone
    rw [if_neg (by omega), if_neg (by omega), if_neg (by omega), if_neg (by omega), if_neg (by omega), if_neg (by omega), decide_eq_true_eq, vcmp_zero hv hlo]
    constructor
    · intro h; rw [h]
    · intro h; rw [(vsnd_bool hv hk).1, (vsnd_bool hlo h2).1, h]
  have key : (if v.num = 0 then b0k l else b1k l) = l.any fun t => mone t v := by
    have hn := (vsnd_bool hv hk).2
    unfold b0k b1k
    by_cases h0 : v.num = 0
    · rw [if_pos h0, Bool.eq_iff_iff, List.any_eq_true, List.any_eq_true]
      constructor
      · rintro ⟨t, ht, h⟩
        simp only [Bool.and_eq_true, decide_eq_true_eq] at h
        exact ⟨t, ht, (one t ht h.1).2 (by omega)⟩
      · rintro ⟨t, ht, h⟩
        have h2 : t.low.kind = 3 := (mone_kind h).symm.trans hk
        exact ⟨t, ht, by simp only [Bool.and_eq_true, decide_eq_true_eq]; exact ⟨h2, by have := (one t ht h2).1 h; omega⟩⟩
    · rw [if_neg h0, Bool.eq_iff_iff, List.any_eq_true, List.any_eq_true]
      constructor
      · rintro ⟨t, ht, h⟩
        simp only [Bool.and_eq_true, decide_eq_true_eq, Bool.not_eq_true', decide_eq_false_iff_not] at h
        have := (vsnd_bool (tsnd_low (hsn t ht)) h.1).2
        exact ⟨t, ht, (one t ht h.1).2 (by omega)⟩
      · rintro ⟨t, ht, h⟩
        have h2 : t.low.kind = 3 := (mone_kind h).symm.trans hk
        exact ⟨t, ht, by simp only [Bool.and_eq_true, decide_eq_true_eq, Bool.not_eq_true', decide_eq_false_iff_not]; exact ⟨h2, by have := (one t ht h2).1 h; omega⟩⟩
  unfold HB0 HB1 mall
  rw [← key]
  cases any <;> by_cases h0 : v.num = 0 <;> simp [h0]
theorem has_bool {sc : Int} {any not : Bool} {l : List Tst} {x y nu : Bool} {a : St} {v : Val} (ha : PB x y nu a) :
    hasT 3 sc any not l a v = (inT 3 sc any not l v && if v.kind = 0 then nu else if v.num = 0 then x else y) := by
  unfold PB at ha
  subst ha
  unfold hasT
  simp only [decide_true, Bool.true_and]
  cases hi : inT 3 sc any not l v with
  | false => rfl
  | true =>
    simp only [Bool.true_and]
    unfold hasV
    by_cases hk : v.kind = 0
    · rw [if_neg (by omega), if_neg (by omega), if_neg (by omega), if_pos hk]
    · obtain ⟨hkK, hml⟩ := inT_mall hi hk
      rw [if_neg (by omega), if_neg (by omega), if_pos hkK, if_neg hk]
      exact bits_has _ _ _
end
section
open Go.RowKit Go.Lib Go.Deep
attribute [local go_sem ↓] eql_val neq_val
set_option maxRecDepth 100000 in
set_option maxHeartbeats 4000000 in
theorem rzero_any (w : World) : Calls Tryz.prog 16 #[zeroS.val none 0 none 0] w fun e w' => e = .returned (.bool true) ∧ Bel w w' := by
  unfold zeroS
  go_enter Tryz.func16, Tryz.ntmps16
  go_wp2_with fail
  go_ret
  refine ⟨?_, ?_⟩
  · first
      | rfl
      | simp
  · (repeat (first | with_reducible exact Bel.refl _ | with_reducible refine Bel.setCell ?_ (by first | exact Nat.le_refl _ | (dsimp only; omega)) _ | with_reducible refine Bel.alloc ?_ _ | with_reducible refine Bel.drew ?_ | with_reducible assumption | with_reducible refine Bel.trans ?_ (by assumption)))
set_option maxRecDepth 100000 in
set_option maxHeartbeats 4000000 in
theorem rtidyN_any (K : Int) (p : List Sp) (nu : Bool) (A1 : Option Addr) (c1 : Nat) (A2 : Option Addr) (c2 : Nat) (w : World) (hB : SetIn w A1 c1 A2 c2 ⟨K, p, false, [], 0, nu⟩) (hK : K = 1 ∨ K = 4) (hl : p.length ≤ 1000) (ho : Ord p) (hr : ∀ s ∈ p, Rng s) :
    Calls Tryz.prog 18 #[(⟨K, p, false, [], 0, nu⟩ : St).val A1 c1 A2 c2] w fun e w' => e = .returned (.bool true) ∧ Bel w w' := by
  have C1 := Lib.hid fun W (hW : Bel w W) => rordered_any (.slice A1 p.length c1) p W (hB.1.keep hW) (by omega) ho hr
  have C2 := Lib.hid fun W (hW : Bel w W) => rrising_any [] A2 c2 W ⟨srt_nil, by simp⟩ Strs.nil (by simp) (by simp)
  clear hB hl ho hr
  rcases hK with rfl | rfl
  all_goals
    go_enter Tryz.func18, Tryz.ntmps18
    go_wp2_with (first
      | (go_at_call 38; refine (C1.out _ ((Bel.refl w).alloc _)).mono ?_; rintro e W1 ⟨rfl, hb1⟩; have hbX := ((Bel.refl w).alloc _).trans hb1; have hc1 := hb1.cells; have hz1 := hb1.lt1)
      | (go_at_call 39; refine (C2.out _ hbX).mono ?_; rintro e W2 ⟨rfl, hb2⟩; have hbY := hbX.trans hb2))
    go_ret
    exact ⟨rfl, hbY⟩
set_option maxRecDepth 100000 in
set_option maxHeartbeats 4000000 in
theorem rtidyT_any (al : Bool) (ws : List ByteArray) (nu : Bool) (A1 : Option Addr) (c1 : Nat) (A2 : Option Addr) (c2 : Nat) (w : World) (hB : SetIn w A1 c1 A2 c2 ⟨2, [], al, ws, 0, nu⟩) (hl : ws.length ≤ 1000) (hg : Goods ws) :
    Calls Tryz.prog 18 #[(⟨2, [], al, ws, 0, nu⟩ : St).val A1 c1 A2 c2] w fun e w' => e = .returned (.bool true) ∧ Bel w w' := by
  have C1 := Lib.hid fun W (hW : Bel w W) => rordered_any (.slice A1 0 c1) [] W (hB.1.keep hW) (by simp) ord_nil (by simp)
  have C2 := Lib.hid fun W (hW : Bel w W) => rrising_any ws A2 c2 W hg (hB.2.1.keep hW) (by omega) (fun x hx => okw_fits (hg.2 x hx))
  clear hB hl hg
  · skip
    go_enter Tryz.func18, Tryz.ntmps18
    go_wp2_with (first
      | (go_at_call 38; refine (C1.out _ ((Bel.refl w).alloc _)).mono ?_; rintro e W1 ⟨rfl, hb1⟩; have hbX := ((Bel.refl w).alloc _).trans hb1; have hc1 := hb1.cells; have hz1 := hb1.lt1)
      | (go_at_call 39; refine (C2.out _ hbX).mono ?_; rintro e W2 ⟨rfl, hb2⟩; have hbY := hbX.trans hb2))
    go_ret
    exact ⟨rfl, hbY⟩
set_option maxRecDepth 100000 in
set_option maxHeartbeats 4000000 in
theorem rtidyB_any (bo : Int) (nu : Bool) (A1 : Option Addr) (c1 : Nat) (A2 : Option Addr) (c2 : Nat) (w : World) (hB : SetIn w A1 c1 A2 c2 ⟨3, [], false, [], bo, nu⟩) (h0 : 0 ≤ bo ∧ bo ≤ 3) :
    Calls Tryz.prog 18 #[(⟨3, [], false, [], bo, nu⟩ : St).val A1 c1 A2 c2] w fun e w' => e = .returned (.bool true) ∧ Bel w w' := by
  have C1 := Lib.hid fun W (hW : Bel w W) => rordered_any (.slice A1 0 c1) [] W (hB.1.keep hW) (by simp) ord_nil (by simp)
  have C2 := Lib.hid fun W (hW : Bel w W) => rrising_any [] A2 c2 W ⟨srt_nil, by simp⟩ Strs.nil (by simp) (by simp)
  clear hB
  obtain ⟨h0, h3⟩ := h0
  · skip
    go_enter Tryz.func18, Tryz.ntmps18
    go_wp2_with (first
      | (go_at_call 38; refine (C1.out _ ((Bel.refl w).alloc _)).mono ?_; rintro e W1 ⟨rfl, hb1⟩; have hbX := ((Bel.refl w).alloc _).trans hb1; have hc1 := hb1.cells; have hz1 := hb1.lt1)
      | (go_at_call 39; refine (C2.out _ hbX).mono ?_; rintro e W2 ⟨rfl, hb2⟩; have hbY := hbX.trans hb2))
    go_ret
    exact ⟨rfl, hbY⟩
end
end Go.Proofs.YtpmmbcobjibpeaaGreatDoor
