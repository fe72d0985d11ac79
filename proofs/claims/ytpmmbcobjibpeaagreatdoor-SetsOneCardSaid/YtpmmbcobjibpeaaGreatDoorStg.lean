
import Derived.Test.YtpmmbcobjibpeaaGreatDoorStf
namespace Go.Proofs.YtpmmbcobjibpeaaGreatDoor
set_option linter.unusedSimpArgs false
set_option linter.unusedVariables false
open Go.RowKit Go.Lib

/-! Sets: meet. -/
/-- A handed or made set lies in memory. -/
def SetIn (w : World) (A : Option Addr) (c : Nat) (A2 : Option Addr) (c2 : Nat) (s : St) : Prop := SlS w (.slice A s.sp.length c) s.sp ∧ Strs w A2 s.ws ∧ (A2 = none → c2 = 0)
theorem SetIn.keep {w w' : World} {A : Option Addr} {c : Nat} {A2 : Option Addr} {c2 : Nat} {s : St} (h : SetIn w A c A2 c2 s) (hb : Bel w w') : SetIn w' A c A2 c2 s := ⟨h.1.keep hb, h.2.1.keep hb, h.2.2⟩
set_option maxRecDepth 100000 in
set_option maxHeartbeats 4000000 in
theorem meetS1_any (asp : List Sp) (aal : Bool) (aws : List ByteArray) (abo : Int) (anu : Bool) (bsp : List Sp) (bal : Bool) (bws : List ByteArray) (bbo : Int) (bnu : Bool) (aA : Option Addr) (ac : Nat) (aA2 : Option Addr) (ac2 : Nat) (bA : Option Addr) (bc : Nat) (bA2 : Option Addr) (bc2 : Nat) (w : World) (ha : SlS w (.slice aA asp.length ac) asp) (hb0 : SlS w (.slice bA bsp.length bc) bsp) (hla : asp.length ≤ 1000) (hlb : bsp.length ≤ 1000) (hra : ∀ s ∈ asp, Rng s) (hrb : ∀ s ∈ bsp, Rng s) :
    Calls Tryz.prog 35 #[(⟨1, asp, aal, aws, abo, anu⟩ : St).val aA ac aA2 ac2, (⟨1, bsp, bal, bws, bbo, bnu⟩ : St).val bA bc bA2 bc2] w fun e w' => ∃ r, SetOut w ⟨1, r, false, [], 0, anu && bnu⟩ e w' ∧ Ord r ∧ (∀ s ∈ r, Rng s) ∧ (∀ n, SMem r n ↔ SMem asp n ∧ SMem bsp n) ∧ r.length ≤ asp.length + bsp.length := by
  have C := Lib.hid fun W (hW : Bel w W) => meet_any (.slice aA asp.length ac) (.slice bA bsp.length bc) asp bsp W (ha.keep hW) (hb0.keep hW) hla hlb hra hrb
  clear ha hb0 hla hlb hra hrb
  rcases Bool.eq_false_or_eq_true anu with hnu | hnu
  all_goals
    go_enter Tryz.func35, Tryz.ntmps35
    go_upto_region 2 with fail
    refine under_name (w0 := w) (by (repeat (first | with_reducible exact Bel.refl _ | with_reducible refine Bel.setCell ?_ (by first | exact Nat.le_refl _ | (dsimp only; omega)) _ | with_reducible refine Bel.alloc ?_ _ | with_reducible refine Bel.drew ?_ | with_reducible assumption | with_reducible refine Bel.trans ?_ (by assumption)))) fun W hc hf hz hb => ?_
    have a0 : W.cell? ⟨w.heap.size, 0, none⟩ = some (.int .i64 1) := by simp [hc, go_sem, hnu]
    have a1 : W.cell? ⟨w.heap.size, 1, none⟩ = some (.slice aA asp.length ac) := by simp [hc, go_sem, hnu]
    have a2 : W.cell? ⟨w.heap.size, 2, none⟩ = some (.bool aal) := by simp [hc, go_sem, hnu]
    have a3 : W.cell? ⟨w.heap.size, 3, none⟩ = some (.slice aA2 aws.length ac2) := by simp [hc, go_sem, hnu]
    have a4 : W.cell? ⟨w.heap.size, 4, none⟩ = some (.int .i64 abo) := by simp [hc, go_sem, hnu]
    have a5 : W.cell? ⟨w.heap.size, 5, none⟩ = some (.bool anu) := by simp [hc, go_sem, hnu]
    have b0 : W.cell? ⟨w.heap.size + 1, 0, none⟩ = some (.int .i64 1) := by simp [hc, go_sem, hnu]
    have b1 : W.cell? ⟨w.heap.size + 1, 1, none⟩ = some (.slice bA bsp.length bc) := by simp [hc, go_sem, hnu]
    have b2 : W.cell? ⟨w.heap.size + 1, 2, none⟩ = some (.bool bal) := by simp [hc, go_sem, hnu]
    have b3 : W.cell? ⟨w.heap.size + 1, 3, none⟩ = some (.slice bA2 bws.length bc2) := by simp [hc, go_sem, hnu]
    have b4 : W.cell? ⟨w.heap.size + 1, 4, none⟩ = some (.int .i64 bbo) := by simp [hc, go_sem, hnu]
    have b5 : W.cell? ⟨w.heap.size + 1, 5, none⟩ = some (.bool bnu) := by simp [hc, go_sem, hnu]
    have r0 : W.cell? ⟨w.heap.size + 2, 0, none⟩ = some (.int .i64 0) := by simp [hc, go_sem]
    have r1 : W.cell? ⟨w.heap.size + 2, 1, none⟩ = some (.slice none 0 0) := by simp [hc, go_sem]
    have r2 : W.cell? ⟨w.heap.size + 2, 2, none⟩ = some (.bool false) := by simp [hc, go_sem]
    have r3 : W.cell? ⟨w.heap.size + 2, 3, none⟩ = some (.slice none 0 0) := by simp [hc, go_sem]
    have r4 : W.cell? ⟨w.heap.size + 2, 4, none⟩ = some (.int .i64 0) := by simp [hc, go_sem]
    have r5 : W.cell? ⟨w.heap.size + 2, 5, none⟩ = some (.bool false) := by simp [hc, go_sem]
    have rf0 : W.frozen? ⟨w.heap.size + 2, 0, none⟩ = false := by simp [hf, go_sem]
    have rf1 : W.frozen? ⟨w.heap.size + 2, 1, none⟩ = false := by simp [hf, go_sem]
    have rf2 : W.frozen? ⟨w.heap.size + 2, 2, none⟩ = false := by simp [hf, go_sem]
    have rf3 : W.frozen? ⟨w.heap.size + 2, 3, none⟩ = false := by simp [hf, go_sem]
    have rf4 : W.frozen? ⟨w.heap.size + 2, 4, none⟩ = false := by simp [hf, go_sem]
    have rf5 : W.frozen? ⟨w.heap.size + 2, 5, none⟩ = false := by simp [hf, go_sem]
    have m0 : W.cell? ⟨w.heap.size + 3, 0, none⟩ = some (.int .i64 1) := by simp [hc, go_sem, hnu]
    have m1 : W.cell? ⟨w.heap.size + 3, 1, none⟩ = some (.slice none 0 0) := by simp [hc, go_sem, hnu]
    have m2 : W.cell? ⟨w.heap.size + 3, 2, none⟩ = some (.bool false) := by simp [hc, go_sem, hnu]
    have m3 : W.cell? ⟨w.heap.size + 3, 3, none⟩ = some (.slice none 0 0) := by simp [hc, go_sem, hnu]
    have m4 : W.cell? ⟨w.heap.size + 3, 4, none⟩ = some (.int .i64 0) := by simp [hc, go_sem, hnu]
    have m5 : W.cell? ⟨w.heap.size + 3, 5, none⟩ = some (.bool (anu && bnu)) := by simp [hc, go_sem, hnu]
    have mf0 : W.frozen? ⟨w.heap.size + 3, 0, none⟩ = false := by simp [hf, go_sem, hnu]
    have mf1 : W.frozen? ⟨w.heap.size + 3, 1, none⟩ = false := by simp [hf, go_sem, hnu]
    have mf2 : W.frozen? ⟨w.heap.size + 3, 2, none⟩ = false := by simp [hf, go_sem, hnu]
    have mf3 : W.frozen? ⟨w.heap.size + 3, 3, none⟩ = false := by simp [hf, go_sem, hnu]
    have mf4 : W.frozen? ⟨w.heap.size + 3, 4, none⟩ = false := by simp [hf, go_sem, hnu]
    have mf5 : W.frozen? ⟨w.heap.size + 3, 5, none⟩ = false := by simp [hf, go_sem, hnu]
    have z0 : w.heap.size + 4 ≤ W.heap.size := by simp [hz]
    clear hc hf hz
    go_wp2_with (go_at_call 63; (with_reducible refine Calls.mono (C.out _ hb) ?_); rintro e W1 ⟨v, r, rfl, h1, h2, h3, ⟨h4, h5⟩, hb1⟩; obtain ⟨A', c', rfl, hS⟩ := SpP.of_own h1; have HX := Lib.hid (And.intro h2 (And.intro h3 (And.intro h4 h5))); have HS := Lib.hid hS; clear h1 h2 h3 h4 h5 hS; have hbX := hb.trans hb1; have z1 : w.heap.size + 4 ≤ W1.heap.size := (Nat.le_trans z0 hb1.size); replace r0 := (hb1.cells _ _ (by omega)).trans r0; replace r1 := (hb1.cells _ _ (by omega)).trans r1; replace r2 := (hb1.cells _ _ (by omega)).trans r2; replace r3 := (hb1.cells _ _ (by omega)).trans r3; replace r4 := (hb1.cells _ _ (by omega)).trans r4; replace r5 := (hb1.cells _ _ (by omega)).trans r5; replace rf0 := (hb1.frozens _ _ (by omega)).trans rf0; replace rf1 := (hb1.frozens _ _ (by omega)).trans rf1; replace rf2 := (hb1.frozens _ _ (by omega)).trans rf2; replace rf3 := (hb1.frozens _ _ (by omega)).trans rf3; replace rf4 := (hb1.frozens _ _ (by omega)).trans rf4; replace rf5 := (hb1.frozens _ _ (by omega)).trans rf5; replace m0 := (hb1.cells _ _ (by omega)).trans m0; replace m1 := (hb1.cells _ _ (by omega)).trans m1; replace m2 := (hb1.cells _ _ (by omega)).trans m2; replace m3 := (hb1.cells _ _ (by omega)).trans m3; replace m4 := (hb1.cells _ _ (by omega)).trans m4; replace m5 := (hb1.cells _ _ (by omega)).trans m5; replace mf0 := (hb1.frozens _ _ (by omega)).trans mf0; replace mf1 := (hb1.frozens _ _ (by omega)).trans mf1; replace mf2 := (hb1.frozens _ _ (by omega)).trans mf2; replace mf3 := (hb1.frozens _ _ (by omega)).trans mf3; replace mf4 := (hb1.frozens _ _ (by omega)).trans mf4; replace mf5 := (hb1.frozens _ _ (by omega)).trans mf5)
    refine bodyPost_ret (by simp [results, Tryz.results35, go_sem, hnu, r0, m0, rf0, mf0, r1, m1, rf1, mf1, r2, m2, rf2, mf2, r3, m3, rf3, mf3, r4, m4, rf4, mf4, r5, m5, rf5, mf5]; try rfl) rfl ⟨r, ⟨A', c', none, 0, rfl, SpP.low (SpP.other (SpP.low HS.out z0) (by simp) fun k o hk => ?_) (Nat.le_add_right _ _), StP.nil _ _, ?_⟩, HX.out⟩
    · have n1 : ¬ w.heap.size + 2 = k := by omega
      have n2 : ¬ w.heap.size + 3 = k := by omega
      simp [go_sem, n1, n2]
    · (repeat (first | with_reducible exact Bel.refl _ | with_reducible refine Bel.setCell ?_ (by first | exact Nat.le_refl _ | (dsimp only; omega)) _ | with_reducible refine Bel.alloc ?_ _ | with_reducible refine Bel.drew ?_ | with_reducible assumption | with_reducible refine Bel.trans ?_ (by assumption)))
set_option maxRecDepth 100000 in
set_option maxHeartbeats 4000000 in
theorem meetS4_any (asp : List Sp) (aal : Bool) (aws : List ByteArray) (abo : Int) (anu : Bool) (bsp : List Sp) (bal : Bool) (bws : List ByteArray) (bbo : Int) (bnu : Bool) (aA : Option Addr) (ac : Nat) (aA2 : Option Addr) (ac2 : Nat) (bA : Option Addr) (bc : Nat) (bA2 : Option Addr) (bc2 : Nat) (w : World) (ha : SlS w (.slice aA asp.length ac) asp) (hb0 : SlS w (.slice bA bsp.length bc) bsp) (hla : asp.length ≤ 1000) (hlb : bsp.length ≤ 1000) (hra : ∀ s ∈ asp, Rng s) (hrb : ∀ s ∈ bsp, Rng s) :
    Calls Tryz.prog 35 #[(⟨4, asp, aal, aws, abo, anu⟩ : St).val aA ac aA2 ac2, (⟨4, bsp, bal, bws, bbo, bnu⟩ : St).val bA bc bA2 bc2] w fun e w' => ∃ r, SetOut w ⟨4, r, false, [], 0, anu && bnu⟩ e w' ∧ Ord r ∧ (∀ s ∈ r, Rng s) ∧ (∀ n, SMem r n ↔ SMem asp n ∧ SMem bsp n) ∧ r.length ≤ asp.length + bsp.length := by
  have C := Lib.hid fun W (hW : Bel w W) => meet_any (.slice aA asp.length ac) (.slice bA bsp.length bc) asp bsp W (ha.keep hW) (hb0.keep hW) hla hlb hra hrb
  clear ha hb0 hla hlb hra hrb
  rcases Bool.eq_false_or_eq_true anu with hnu | hnu
  all_goals
    go_enter Tryz.func35, Tryz.ntmps35
    go_upto_region 2 with fail
    refine under_name (w0 := w) (by (repeat (first | with_reducible exact Bel.refl _ | with_reducible refine Bel.setCell ?_ (by first | exact Nat.le_refl _ | (dsimp only; omega)) _ | with_reducible refine Bel.alloc ?_ _ | with_reducible refine Bel.drew ?_ | with_reducible assumption | with_reducible refine Bel.trans ?_ (by assumption)))) fun W hc hf hz hb => ?_
    have a0 : W.cell? ⟨w.heap.size, 0, none⟩ = some (.int .i64 4) := by simp [hc, go_sem, hnu]
    have a1 : W.cell? ⟨w.heap.size, 1, none⟩ = some (.slice aA asp.length ac) := by simp [hc, go_sem, hnu]
    have a2 : W.cell? ⟨w.heap.size, 2, none⟩ = some (.bool aal) := by simp [hc, go_sem, hnu]
    have a3 : W.cell? ⟨w.heap.size, 3, none⟩ = some (.slice aA2 aws.length ac2) := by simp [hc, go_sem, hnu]
    have a4 : W.cell? ⟨w.heap.size, 4, none⟩ = some (.int .i64 abo) := by simp [hc, go_sem, hnu]
    have a5 : W.cell? ⟨w.heap.size, 5, none⟩ = some (.bool anu) := by simp [hc, go_sem, hnu]
    have b0 : W.cell? ⟨w.heap.size + 1, 0, none⟩ = some (.int .i64 4) := by simp [hc, go_sem, hnu]
    have b1 : W.cell? ⟨w.heap.size + 1, 1, none⟩ = some (.slice bA bsp.length bc) := by simp [hc, go_sem, hnu]
    have b2 : W.cell? ⟨w.heap.size + 1, 2, none⟩ = some (.bool bal) := by simp [hc, go_sem, hnu]
    have b3 : W.cell? ⟨w.heap.size + 1, 3, none⟩ = some (.slice bA2 bws.length bc2) := by simp [hc, go_sem, hnu]
    have b4 : W.cell? ⟨w.heap.size + 1, 4, none⟩ = some (.int .i64 bbo) := by simp [hc, go_sem, hnu]
    have b5 : W.cell? ⟨w.heap.size + 1, 5, none⟩ = some (.bool bnu) := by simp [hc, go_sem, hnu]
    have r0 : W.cell? ⟨w.heap.size + 2, 0, none⟩ = some (.int .i64 0) := by simp [hc, go_sem]
    have r1 : W.cell? ⟨w.heap.size + 2, 1, none⟩ = some (.slice none 0 0) := by simp [hc, go_sem]
    have r2 : W.cell? ⟨w.heap.size + 2, 2, none⟩ = some (.bool false) := by simp [hc, go_sem]
    have r3 : W.cell? ⟨w.heap.size + 2, 3, none⟩ = some (.slice none 0 0) := by simp [hc, go_sem]
    have r4 : W.cell? ⟨w.heap.size + 2, 4, none⟩ = some (.int .i64 0) := by simp [hc, go_sem]
    have r5 : W.cell? ⟨w.heap.size + 2, 5, none⟩ = some (.bool false) := by simp [hc, go_sem]
    have rf0 : W.frozen? ⟨w.heap.size + 2, 0, none⟩ = false := by simp [hf, go_sem]
    have rf1 : W.frozen? ⟨w.heap.size + 2, 1, none⟩ = false := by simp [hf, go_sem]
    have rf2 : W.frozen? ⟨w.heap.size + 2, 2, none⟩ = false := by simp [hf, go_sem]
    have rf3 : W.frozen? ⟨w.heap.size + 2, 3, none⟩ = false := by simp [hf, go_sem]
    have rf4 : W.frozen? ⟨w.heap.size + 2, 4, none⟩ = false := by simp [hf, go_sem]
    have rf5 : W.frozen? ⟨w.heap.size + 2, 5, none⟩ = false := by simp [hf, go_sem]
    have m0 : W.cell? ⟨w.heap.size + 3, 0, none⟩ = some (.int .i64 4) := by simp [hc, go_sem, hnu]
    have m1 : W.cell? ⟨w.heap.size + 3, 1, none⟩ = some (.slice none 0 0) := by simp [hc, go_sem, hnu]
    have m2 : W.cell? ⟨w.heap.size + 3, 2, none⟩ = some (.bool false) := by simp [hc, go_sem, hnu]
    have m3 : W.cell? ⟨w.heap.size + 3, 3, none⟩ = some (.slice none 0 0) := by simp [hc, go_sem, hnu]
    have m4 : W.cell? ⟨w.heap.size + 3, 4, none⟩ = some (.int .i64 0) := by simp [hc, go_sem, hnu]
    have m5 : W.cell? ⟨w.heap.size + 3, 5, none⟩ = some (.bool (anu && bnu)) := by simp [hc, go_sem, hnu]
    have mf0 : W.frozen? ⟨w.heap.size + 3, 0, none⟩ = false := by simp [hf, go_sem, hnu]
    have mf1 : W.frozen? ⟨w.heap.size + 3, 1, none⟩ = false := by simp [hf, go_sem, hnu]
    have mf2 : W.frozen? ⟨w.heap.size + 3, 2, none⟩ = false := by simp [hf, go_sem, hnu]
    have mf3 : W.frozen? ⟨w.heap.size + 3, 3, none⟩ = false := by simp [hf, go_sem, hnu]
    have mf4 : W.frozen? ⟨w.heap.size + 3, 4, none⟩ = false := by simp [hf, go_sem, hnu]
    have mf5 : W.frozen? ⟨w.heap.size + 3, 5, none⟩ = false := by simp [hf, go_sem, hnu]
    have z0 : w.heap.size + 4 ≤ W.heap.size := by simp [hz]
    clear hc hf hz
    go_wp2_with (go_at_call 63; (with_reducible refine Calls.mono (C.out _ hb) ?_); rintro e W1 ⟨v, r, rfl, h1, h2, h3, ⟨h4, h5⟩, hb1⟩; obtain ⟨A', c', rfl, hS⟩ := SpP.of_own h1; have HX := Lib.hid (And.intro h2 (And.intro h3 (And.intro h4 h5))); have HS := Lib.hid hS; clear h1 h2 h3 h4 h5 hS; have hbX := hb.trans hb1; have z1 : w.heap.size + 4 ≤ W1.heap.size := (Nat.le_trans z0 hb1.size); replace r0 := (hb1.cells _ _ (by omega)).trans r0; replace r1 := (hb1.cells _ _ (by omega)).trans r1; replace r2 := (hb1.cells _ _ (by omega)).trans r2; replace r3 := (hb1.cells _ _ (by omega)).trans r3; replace r4 := (hb1.cells _ _ (by omega)).trans r4; replace r5 := (hb1.cells _ _ (by omega)).trans r5; replace rf0 := (hb1.frozens _ _ (by omega)).trans rf0; replace rf1 := (hb1.frozens _ _ (by omega)).trans rf1; replace rf2 := (hb1.frozens _ _ (by omega)).trans rf2; replace rf3 := (hb1.frozens _ _ (by omega)).trans rf3; replace rf4 := (hb1.frozens _ _ (by omega)).trans rf4; replace rf5 := (hb1.frozens _ _ (by omega)).trans rf5; replace m0 := (hb1.cells _ _ (by omega)).trans m0; replace m1 := (hb1.cells _ _ (by omega)).trans m1; replace m2 := (hb1.cells _ _ (by omega)).trans m2; replace m3 := (hb1.cells _ _ (by omega)).trans m3; replace m4 := (hb1.cells _ _ (by omega)).trans m4; replace m5 := (hb1.cells _ _ (by omega)).trans m5; replace mf0 := (hb1.frozens _ _ (by omega)).trans mf0; replace mf1 := (hb1.frozens _ _ (by omega)).trans mf1; replace mf2 := (hb1.frozens _ _ (by omega)).trans mf2; replace mf3 := (hb1.frozens _ _ (by omega)).trans mf3; replace mf4 := (hb1.frozens _ _ (by omega)).trans mf4; replace mf5 := (hb1.frozens _ _ (by omega)).trans mf5)
    refine bodyPost_ret (by simp [results, Tryz.results35, go_sem, hnu, r0, m0, rf0, mf0, r1, m1, rf1, mf1, r2, m2, rf2, mf2, r3, m3, rf3, mf3, r4, m4, rf4, mf4, r5, m5, rf5, mf5]; try rfl) rfl ⟨r, ⟨A', c', none, 0, rfl, SpP.low (SpP.other (SpP.low HS.out z0) (by simp) fun k o hk => ?_) (Nat.le_add_right _ _), StP.nil _ _, ?_⟩, HX.out⟩
    · have n1 : ¬ w.heap.size + 2 = k := by omega
      have n2 : ¬ w.heap.size + 3 = k := by omega
      simp [go_sem, n1, n2]
    · (repeat (first | with_reducible exact Bel.refl _ | with_reducible refine Bel.setCell ?_ (by first | exact Nat.le_refl _ | (dsimp only; omega)) _ | with_reducible refine Bel.alloc ?_ _ | with_reducible refine Bel.drew ?_ | with_reducible assumption | with_reducible refine Bel.trans ?_ (by assumption)))
set_option maxRecDepth 100000 in
set_option maxHeartbeats 4000000 in
theorem meetS2_any (asp : List Sp) (aal : Bool) (aws : List ByteArray) (abo : Int) (anu : Bool) (bsp : List Sp) (bal : Bool) (bws : List ByteArray) (bbo : Int) (bnu : Bool) (aA : Option Addr) (ac : Nat) (aA2 : Option Addr) (ac2 : Nat) (bA : Option Addr) (bc : Nat) (bA2 : Option Addr) (bc2 : Nat) (w : World) (ha : Strs w aA2 aws) (hb0 : Strs w bA2 bws) (hA : aA2 = none → ac2 = 0) (hA2 : bA2 = none → bc2 = 0)
    (hn : aws.length * 16 ≤ 140737488355328) (hn2 : bws.length * 16 ≤ 140737488355328) (hnn : aal = true → bal = true → (aws.length + bws.length) * 16 ≤ 140737488355328) (hs : ∀ s ∈ aws, Fits s) (hs2 : ∀ s ∈ bws, Fits s) :
    Calls Tryz.prog 35 #[(⟨2, asp, aal, aws, abo, anu⟩ : St).val aA ac aA2 ac2, (⟨2, bsp, bal, bws, bbo, bnu⟩ : St).val bA bc bA2 bc2] w (SetOut w ⟨2, [], aal && bal, meetl aal aws bal bws, 0, anu && bnu⟩) := by
  have C := Lib.hid fun W (hW : Bel w W) => wmeet_any aal aws aA2 ac2 bal bws bA2 bc2 W (ha.keep hW) (hb0.keep hW) hA hA2 hn hn2 hnn hs hs2
  unfold wset at C
  generalize meetl aal aws bal bws = r at C ⊢
  clear ha hb0 hA hA2 hn hn2 hnn hs hs2
  rcases Bool.eq_false_or_eq_true anu with hnu | hnu
  all_goals
    go_enter Tryz.func35, Tryz.ntmps35
    go_upto_region 2 with fail
    refine under_name (w0 := w) (by (repeat (first | with_reducible exact Bel.refl _ | with_reducible refine Bel.setCell ?_ (by first | exact Nat.le_refl _ | (dsimp only; omega)) _ | with_reducible refine Bel.alloc ?_ _ | with_reducible refine Bel.drew ?_ | with_reducible assumption | with_reducible refine Bel.trans ?_ (by assumption)))) fun W hc hf hz hb => ?_
    have a0 : W.cell? ⟨w.heap.size, 0, none⟩ = some (.int .i64 2) := by simp [hc, go_sem, hnu]
    have a1 : W.cell? ⟨w.heap.size, 1, none⟩ = some (.slice aA asp.length ac) := by simp [hc, go_sem, hnu]
    have a2 : W.cell? ⟨w.heap.size, 2, none⟩ = some (.bool aal) := by simp [hc, go_sem, hnu]
    have a3 : W.cell? ⟨w.heap.size, 3, none⟩ = some (.slice aA2 aws.length ac2) := by simp [hc, go_sem, hnu]
    have a4 : W.cell? ⟨w.heap.size, 4, none⟩ = some (.int .i64 abo) := by simp [hc, go_sem, hnu]
    have a5 : W.cell? ⟨w.heap.size, 5, none⟩ = some (.bool anu) := by simp [hc, go_sem, hnu]
    have b0 : W.cell? ⟨w.heap.size + 1, 0, none⟩ = some (.int .i64 2) := by simp [hc, go_sem, hnu]
    have b1 : W.cell? ⟨w.heap.size + 1, 1, none⟩ = some (.slice bA bsp.length bc) := by simp [hc, go_sem, hnu]
    have b2 : W.cell? ⟨w.heap.size + 1, 2, none⟩ = some (.bool bal) := by simp [hc, go_sem, hnu]
    have b3 : W.cell? ⟨w.heap.size + 1, 3, none⟩ = some (.slice bA2 bws.length bc2) := by simp [hc, go_sem, hnu]
    have b4 : W.cell? ⟨w.heap.size + 1, 4, none⟩ = some (.int .i64 bbo) := by simp [hc, go_sem, hnu]
    have b5 : W.cell? ⟨w.heap.size + 1, 5, none⟩ = some (.bool bnu) := by simp [hc, go_sem, hnu]
    have r0 : W.cell? ⟨w.heap.size + 2, 0, none⟩ = some (.int .i64 0) := by simp [hc, go_sem]
    have r1 : W.cell? ⟨w.heap.size + 2, 1, none⟩ = some (.slice none 0 0) := by simp [hc, go_sem]
    have r2 : W.cell? ⟨w.heap.size + 2, 2, none⟩ = some (.bool false) := by simp [hc, go_sem]
    have r3 : W.cell? ⟨w.heap.size + 2, 3, none⟩ = some (.slice none 0 0) := by simp [hc, go_sem]
    have r4 : W.cell? ⟨w.heap.size + 2, 4, none⟩ = some (.int .i64 0) := by simp [hc, go_sem]
    have r5 : W.cell? ⟨w.heap.size + 2, 5, none⟩ = some (.bool false) := by simp [hc, go_sem]
    have rf0 : W.frozen? ⟨w.heap.size + 2, 0, none⟩ = false := by simp [hf, go_sem]
    have rf1 : W.frozen? ⟨w.heap.size + 2, 1, none⟩ = false := by simp [hf, go_sem]
    have rf2 : W.frozen? ⟨w.heap.size + 2, 2, none⟩ = false := by simp [hf, go_sem]
    have rf3 : W.frozen? ⟨w.heap.size + 2, 3, none⟩ = false := by simp [hf, go_sem]
    have rf4 : W.frozen? ⟨w.heap.size + 2, 4, none⟩ = false := by simp [hf, go_sem]
    have rf5 : W.frozen? ⟨w.heap.size + 2, 5, none⟩ = false := by simp [hf, go_sem]
    have m0 : W.cell? ⟨w.heap.size + 3, 0, none⟩ = some (.int .i64 2) := by simp [hc, go_sem, hnu]
    have m1 : W.cell? ⟨w.heap.size + 3, 1, none⟩ = some (.slice none 0 0) := by simp [hc, go_sem, hnu]
    have m2 : W.cell? ⟨w.heap.size + 3, 2, none⟩ = some (.bool false) := by simp [hc, go_sem, hnu]
    have m3 : W.cell? ⟨w.heap.size + 3, 3, none⟩ = some (.slice none 0 0) := by simp [hc, go_sem, hnu]
    have m4 : W.cell? ⟨w.heap.size + 3, 4, none⟩ = some (.int .i64 0) := by simp [hc, go_sem, hnu]
    have m5 : W.cell? ⟨w.heap.size + 3, 5, none⟩ = some (.bool (anu && bnu)) := by simp [hc, go_sem, hnu]
    have mf0 : W.frozen? ⟨w.heap.size + 3, 0, none⟩ = false := by simp [hf, go_sem, hnu]
    have mf1 : W.frozen? ⟨w.heap.size + 3, 1, none⟩ = false := by simp [hf, go_sem, hnu]
    have mf2 : W.frozen? ⟨w.heap.size + 3, 2, none⟩ = false := by simp [hf, go_sem, hnu]
    have mf3 : W.frozen? ⟨w.heap.size + 3, 3, none⟩ = false := by simp [hf, go_sem, hnu]
    have mf4 : W.frozen? ⟨w.heap.size + 3, 4, none⟩ = false := by simp [hf, go_sem, hnu]
    have mf5 : W.frozen? ⟨w.heap.size + 3, 5, none⟩ = false := by simp [hf, go_sem, hnu]
    have z0 : w.heap.size + 4 ≤ W.heap.size := by simp [hz]
    clear hc hf hz
    go_wp2_with (go_at_call 64; (with_reducible refine Calls.mono (C.out _ hb) ?_); rintro e W1 ⟨A', c', rfl, h1, h2, h3, hb1⟩; have HS := Lib.hid (StP.of_made h1 h2 h3); clear h1 h2 h3; have hbX := hb.trans hb1; have z1 : w.heap.size + 4 ≤ W1.heap.size := (Nat.le_trans z0 hb1.size); replace r0 := (hb1.cells _ _ (by omega)).trans r0; replace r1 := (hb1.cells _ _ (by omega)).trans r1; replace r2 := (hb1.cells _ _ (by omega)).trans r2; replace r3 := (hb1.cells _ _ (by omega)).trans r3; replace r4 := (hb1.cells _ _ (by omega)).trans r4; replace r5 := (hb1.cells _ _ (by omega)).trans r5; replace rf0 := (hb1.frozens _ _ (by omega)).trans rf0; replace rf1 := (hb1.frozens _ _ (by omega)).trans rf1; replace rf2 := (hb1.frozens _ _ (by omega)).trans rf2; replace rf3 := (hb1.frozens _ _ (by omega)).trans rf3; replace rf4 := (hb1.frozens _ _ (by omega)).trans rf4; replace rf5 := (hb1.frozens _ _ (by omega)).trans rf5; replace m0 := (hb1.cells _ _ (by omega)).trans m0; replace m1 := (hb1.cells _ _ (by omega)).trans m1; replace m2 := (hb1.cells _ _ (by omega)).trans m2; replace m3 := (hb1.cells _ _ (by omega)).trans m3; replace m4 := (hb1.cells _ _ (by omega)).trans m4; replace m5 := (hb1.cells _ _ (by omega)).trans m5; replace mf0 := (hb1.frozens _ _ (by omega)).trans mf0; replace mf1 := (hb1.frozens _ _ (by omega)).trans mf1; replace mf2 := (hb1.frozens _ _ (by omega)).trans mf2; replace mf3 := (hb1.frozens _ _ (by omega)).trans mf3; replace mf4 := (hb1.frozens _ _ (by omega)).trans mf4; replace mf5 := (hb1.frozens _ _ (by omega)).trans mf5)
    refine bodyPost_ret (by simp [results, Tryz.results35, go_sem, hnu, r0, m0, rf0, mf0, r1, m1, rf1, mf1, r2, m2, rf2, mf2, r3, m3, rf3, mf3, r4, m4, rf4, mf4, r5, m5, rf5, mf5]; try rfl) rfl ⟨none, 0, A', c', rfl, SpP.nil _ _, StP.low (StP.other (StP.low HS.out z0) (by simp) fun k o hk => ?_) (Nat.le_add_right _ _), ?_⟩
    · have n1 : ¬ w.heap.size + 2 = k := by omega
      have n2 : ¬ w.heap.size + 3 = k := by omega
      simp [go_sem, n1, n2]
    · (repeat (first | with_reducible exact Bel.refl _ | with_reducible refine Bel.setCell ?_ (by first | exact Nat.le_refl _ | (dsimp only; omega)) _ | with_reducible refine Bel.alloc ?_ _ | with_reducible refine Bel.drew ?_ | with_reducible assumption | with_reducible refine Bel.trans ?_ (by assumption)))
set_option maxRecDepth 100000 in
set_option maxHeartbeats 4000000 in
theorem meetS3_any (asp : List Sp) (aal : Bool) (aws : List ByteArray) (abo : Int) (anu : Bool) (bsp : List Sp) (bal : Bool) (bws : List ByteArray) (bbo : Int) (bnu : Bool) (aA : Option Addr) (ac : Nat) (aA2 : Option Addr) (ac2 : Nat) (bA : Option Addr) (bc : Nat) (bA2 : Option Addr) (bc2 : Nat) (w : World) :
    Calls Tryz.prog 35 #[(⟨3, asp, aal, aws, abo, anu⟩ : St).val aA ac aA2 ac2, (⟨3, bsp, bal, bws, bbo, bnu⟩ : St).val bA bc bA2 bc2] w (SetOut w ⟨3, [], false, [], bits BinOp.and IntKind.i64 (bits BinOp.and IntKind.i64 abo bbo) 3, anu && bnu⟩) := by
  rcases Bool.eq_false_or_eq_true anu with hnu | hnu
  all_goals
    go_enter Tryz.func35, Tryz.ntmps35
    go_upto_region 2 with fail
    refine under_name (w0 := w) (by (repeat (first | with_reducible exact Bel.refl _ | with_reducible refine Bel.setCell ?_ (by first | exact Nat.le_refl _ | (dsimp only; omega)) _ | with_reducible refine Bel.alloc ?_ _ | with_reducible refine Bel.drew ?_ | with_reducible assumption | with_reducible refine Bel.trans ?_ (by assumption)))) fun W hc hf hz hb => ?_
    have a0 : W.cell? ⟨w.heap.size, 0, none⟩ = some (.int .i64 3) := by simp [hc, go_sem, hnu]
    have a1 : W.cell? ⟨w.heap.size, 1, none⟩ = some (.slice aA asp.length ac) := by simp [hc, go_sem, hnu]
    have a2 : W.cell? ⟨w.heap.size, 2, none⟩ = some (.bool aal) := by simp [hc, go_sem, hnu]
    have a3 : W.cell? ⟨w.heap.size, 3, none⟩ = some (.slice aA2 aws.length ac2) := by simp [hc, go_sem, hnu]
    have a4 : W.cell? ⟨w.heap.size, 4, none⟩ = some (.int .i64 abo) := by simp [hc, go_sem, hnu]
    have a5 : W.cell? ⟨w.heap.size, 5, none⟩ = some (.bool anu) := by simp [hc, go_sem, hnu]
    have b0 : W.cell? ⟨w.heap.size + 1, 0, none⟩ = some (.int .i64 3) := by simp [hc, go_sem, hnu]
    have b1 : W.cell? ⟨w.heap.size + 1, 1, none⟩ = some (.slice bA bsp.length bc) := by simp [hc, go_sem, hnu]
    have b2 : W.cell? ⟨w.heap.size + 1, 2, none⟩ = some (.bool bal) := by simp [hc, go_sem, hnu]
    have b3 : W.cell? ⟨w.heap.size + 1, 3, none⟩ = some (.slice bA2 bws.length bc2) := by simp [hc, go_sem, hnu]
    have b4 : W.cell? ⟨w.heap.size + 1, 4, none⟩ = some (.int .i64 bbo) := by simp [hc, go_sem, hnu]
    have b5 : W.cell? ⟨w.heap.size + 1, 5, none⟩ = some (.bool bnu) := by simp [hc, go_sem, hnu]
    have r0 : W.cell? ⟨w.heap.size + 2, 0, none⟩ = some (.int .i64 0) := by simp [hc, go_sem]
    have r1 : W.cell? ⟨w.heap.size + 2, 1, none⟩ = some (.slice none 0 0) := by simp [hc, go_sem]
    have r2 : W.cell? ⟨w.heap.size + 2, 2, none⟩ = some (.bool false) := by simp [hc, go_sem]
    have r3 : W.cell? ⟨w.heap.size + 2, 3, none⟩ = some (.slice none 0 0) := by simp [hc, go_sem]
    have r4 : W.cell? ⟨w.heap.size + 2, 4, none⟩ = some (.int .i64 0) := by simp [hc, go_sem]
    have r5 : W.cell? ⟨w.heap.size + 2, 5, none⟩ = some (.bool false) := by simp [hc, go_sem]
    have rf0 : W.frozen? ⟨w.heap.size + 2, 0, none⟩ = false := by simp [hf, go_sem]
    have rf1 : W.frozen? ⟨w.heap.size + 2, 1, none⟩ = false := by simp [hf, go_sem]
    have rf2 : W.frozen? ⟨w.heap.size + 2, 2, none⟩ = false := by simp [hf, go_sem]
    have rf3 : W.frozen? ⟨w.heap.size + 2, 3, none⟩ = false := by simp [hf, go_sem]
    have rf4 : W.frozen? ⟨w.heap.size + 2, 4, none⟩ = false := by simp [hf, go_sem]
    have rf5 : W.frozen? ⟨w.heap.size + 2, 5, none⟩ = false := by simp [hf, go_sem]
    have m0 : W.cell? ⟨w.heap.size + 3, 0, none⟩ = some (.int .i64 3) := by simp [hc, go_sem, hnu]
    have m1 : W.cell? ⟨w.heap.size + 3, 1, none⟩ = some (.slice none 0 0) := by simp [hc, go_sem, hnu]
    have m2 : W.cell? ⟨w.heap.size + 3, 2, none⟩ = some (.bool false) := by simp [hc, go_sem, hnu]
    have m3 : W.cell? ⟨w.heap.size + 3, 3, none⟩ = some (.slice none 0 0) := by simp [hc, go_sem, hnu]
    have m4 : W.cell? ⟨w.heap.size + 3, 4, none⟩ = some (.int .i64 0) := by simp [hc, go_sem, hnu]
    have m5 : W.cell? ⟨w.heap.size + 3, 5, none⟩ = some (.bool (anu && bnu)) := by simp [hc, go_sem, hnu]
    have mf0 : W.frozen? ⟨w.heap.size + 3, 0, none⟩ = false := by simp [hf, go_sem, hnu]
    have mf1 : W.frozen? ⟨w.heap.size + 3, 1, none⟩ = false := by simp [hf, go_sem, hnu]
    have mf2 : W.frozen? ⟨w.heap.size + 3, 2, none⟩ = false := by simp [hf, go_sem, hnu]
    have mf3 : W.frozen? ⟨w.heap.size + 3, 3, none⟩ = false := by simp [hf, go_sem, hnu]
    have mf4 : W.frozen? ⟨w.heap.size + 3, 4, none⟩ = false := by simp [hf, go_sem, hnu]
    have mf5 : W.frozen? ⟨w.heap.size + 3, 5, none⟩ = false := by simp [hf, go_sem, hnu]
    have z0 : w.heap.size + 4 ≤ W.heap.size := by simp [hz]
    clear hc hf hz
    go_wp2_with fail
    refine bodyPost_ret (by simp [results, Tryz.results35, go_sem, hnu, r0, m0, rf0, mf0, r1, m1, rf1, mf1, r2, m2, rf2, mf2, r3, m3, rf3, mf3, r4, m4, rf4, mf4, r5, m5, rf5, mf5]; try rfl) rfl ⟨none, 0, none, 0, rfl, SpP.nil _ _, StP.nil _ _, ?_⟩
    (repeat (first | with_reducible exact Bel.refl _ | with_reducible refine Bel.setCell ?_ (by first | exact Nat.le_refl _ | (dsimp only; omega)) _ | with_reducible refine Bel.alloc ?_ _ | with_reducible refine Bel.drew ?_ | with_reducible assumption | with_reducible refine Bel.trans ?_ (by assumption)))
end Go.Proofs.YtpmmbcobjibpeaaGreatDoor
