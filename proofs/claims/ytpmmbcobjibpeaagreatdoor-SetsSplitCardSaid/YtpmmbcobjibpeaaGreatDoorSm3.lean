
import Derived.Test.YtpmmbcobjibpeaaGreatDoorSm2
import Derived.Test.YtpmmbcobjibpeaaGreatDoorMtf
import Derived.Test.YtpmmbcobjibpeaaGreatDoorMtj
namespace Go.Proofs.YtpmmbcobjibpeaaGreatDoor
set_option linter.unusedSimpArgs false
set_option linter.unusedVariables false
open Go.RowKit Go.Lib Go.Deep

/-! Sets: holding, of numbers or days. -/
/-- Does a number belong to what tests hold for? -/
def MemH (K sc : Int) (any not : Bool) (l : List Tst) (n : Int) : Prop := SMem (allS K).sp n ∧ (any = true ∨ any = false ∧ not = false ∧ SMem (rngk K sc l) n ∨ any = false ∧ not = true ∧ ¬ SMem (rngk K sc l) n)
def nulH (any not : Bool) (l : List Tst) : Bool := any || (not != nulk l)
/-- A set of numbers or days made by a call. -/
def NumOut (w : World) (K : Int) (nu : Bool) (P : Int → Prop) (b : Nat) (e : Ending) (w' : World) : Prop := ∃ r, SetOut w ⟨K, r, false, [], 0, nu⟩ e w' ∧ Ord r ∧ (∀ s ∈ r, Rng s) ∧ (∀ n, SMem r n ↔ P n) ∧ r.length ≤ b
theorem all_rng {K : Int} (hK : K = 1 ∨ K = 4) : (∀ s ∈ (allS K).sp, Rng s) ∧ (allS K).sp.length = 1 ∧ Ord (allS K).sp := by
  rcases hK with rfl | rfl <;> refine ⟨by simp [allS, Rng], rfl, by simp [allS, Ord]⟩
set_option maxRecDepth 100000 in
set_option maxHeartbeats 8000000 in
theorem holdNM_any (K sc : Int) (any0 not0 : Bool) (A0 : Option Addr) (n0 c0 : Nat) (l : List Tst) (A : Option Addr) (c : Nat) (w : World) (hK : K = 1 ∨ K = 4) (hs : Tsts w A l) (hl : l.length ≤ 999) (hsn : ∀ t ∈ l, tsnd t = true) :
    Calls Tryz.prog 37 #[tyv K sc any0 not0 (.slice A0 n0 c0), tsv false false (.slice A l.length c)] w (NumOut w K (nulH false false l) (MemH K sc false false l) (l.length + 1)) := by
  have hAll := all_rng hK
  have C1 := Lib.hid fun W => sall_any K (by omega) (by omega) W
  have C2 := Lib.hid fun W (hW : Bel w W) => someN_any K sc any0 not0 A0 n0 c0 l A c W hK (hs.keep hW) (by omega) hsn
  have C3 := Lib.hid (show ∀ X bA bc bA2 bc2 cA cc cA2 cc2 (r : List Sp), SlS X (.slice bA (allS K).sp.length bc) (allS K).sp → SlS X (.slice cA r.length cc) r → r.length ≤ 1000 → (∀ s ∈ r, Rng s) →
      Calls Tryz.prog 35 #[(allS K).val bA bc bA2 bc2, (⟨K, r, false, [], 0, nulk l⟩ : St).val cA cc cA2 cc2] X fun e w' => ∃ q, SetOut X ⟨K, q, false, [], 0, (true && nulk l)⟩ e w' ∧ Ord q ∧ (∀ s ∈ q, Rng s) ∧ (∀ n, SMem q n ↔ SMem (allS K).sp n ∧ SMem r n) ∧ q.length ≤ (allS K).sp.length + r.length from fun X bA bc bA2 bc2 cA cc cA2 cc2 r h1 h2 h3 h4 => by
    rcases hK with rfl | rfl
    · exact meetS1_any _ _ _ _ true r false [] 0 (nulk l) bA bc bA2 bc2 cA cc cA2 cc2 X h1 h2 (Nat.le_trans (Nat.le_of_eq hAll.2.1) (by decide)) h3 hAll.1 h4
    · exact meetS4_any _ _ _ _ true r false [] 0 (nulk l) bA bc bA2 bc2 cA cc cA2 cc2 X h1 h2 (Nat.le_trans (Nat.le_of_eq hAll.2.1) (by decide)) h3 hAll.1 h4)
  have HL := Lib.hid (And.intro hl hAll.2.1)
  clear hs hl hsn hAll hK
  go_enter Tryz.func37, Tryz.ntmps37
  go_upto_region 1 with fail
  refine under_name (w0 := w) (by (repeat (first | with_reducible exact Bel.refl _ | with_reducible refine Bel.setCell ?_ (by first | exact Nat.le_refl _ | (dsimp only; omega)) _ | with_reducible refine Bel.alloc ?_ _ | with_reducible refine Bel.drew ?_ | with_reducible assumption | with_reducible refine Bel.trans ?_ (by assumption)))) fun W hc hf hz hb => ?_
  have m0 : W.cell? ⟨w.heap.size, 0, none⟩ = some (.int .i64 K) := by simp [hc, go_sem]
  have m1 : W.cell? ⟨w.heap.size, 1, none⟩ = some (.int .i64 sc) := by simp [hc, go_sem]
  have m2 : W.cell? ⟨w.heap.size, 2, none⟩ = some (.bool any0) := by simp [hc, go_sem]
  have m3 : W.cell? ⟨w.heap.size, 3, none⟩ = some (.bool not0) := by simp [hc, go_sem]
  have m4 : W.cell? ⟨w.heap.size, 4, none⟩ = some (.slice A0 n0 c0) := by simp [hc, go_sem]
  have x0 : W.cell? ⟨w.heap.size + 1, 0, none⟩ = some (.bool false) := by simp [hc, go_sem]
  have x1 : W.cell? ⟨w.heap.size + 1, 1, none⟩ = some (.bool false) := by simp [hc, go_sem]
  have x2 : W.cell? ⟨w.heap.size + 1, 2, none⟩ = some (.slice A l.length c) := by simp [hc, go_sem]
  have r0 : W.cell? ⟨w.heap.size + 2, 0, none⟩ = some (.int .i64 0) := by simp [hc, go_sem]
  have r1 : W.cell? ⟨w.heap.size + 2, 1, none⟩ = some (.slice none 0 0) := by simp [hc, go_sem]
  have r2 : W.cell? ⟨w.heap.size + 2, 2, none⟩ = some (.bool false) := by simp [hc, go_sem]
  have r3 : W.cell? ⟨w.heap.size + 2, 3, none⟩ = some (.slice none 0 0) := by simp [hc, go_sem]
  have r4 : W.cell? ⟨w.heap.size + 2, 4, none⟩ = some (.int .i64 0) := by simp [hc, go_sem]
  have r5 : W.cell? ⟨w.heap.size + 2, 5, none⟩ = some (.bool false) := by simp [hc, go_sem]
  have rf0 : W.frozen? ⟨w.heap.size + 2, 0, none⟩ = false := by simp [hf, go_sem]
  have rf1 : W.frozen? ⟨w.heap.size + 2, 1, none⟩ = false := by simp [hf, go_sem]
  have rf2 : W.frozen? ⟨w.heap.size + 2, 2, none⟩ = false := by simp [hf, go_sem]
  have rf3 : W.frozen? ⟨w.heap.size + 2, 3, none⟩ = false := by simp [hf, go_sem]
  have rf4 : W.frozen? ⟨w.heap.size + 2, 4, none⟩ = false := by simp [hf, go_sem]
  have rf5 : W.frozen? ⟨w.heap.size + 2, 5, none⟩ = false := by simp [hf, go_sem]
  have z0 : w.heap.size + 3 ≤ W.heap.size := by simp [hz]
  clear hc hf hz
  go_upto_region 5 with fail
  refine wp_region_noPanic ?_
  refine wp_region_held (S := fun X => Bel w X ∧ X.cell? ⟨w.heap.size, 0, none⟩ = some (.int .i64 K) ∧ X.cell? ⟨w.heap.size, 1, none⟩ = some (.int .i64 sc) ∧ X.cell? ⟨w.heap.size, 2, none⟩ = some (.bool any0) ∧ X.cell? ⟨w.heap.size, 3, none⟩ = some (.bool not0) ∧ X.cell? ⟨w.heap.size, 4, none⟩ = some (.slice A0 n0 c0) ∧ X.cell? ⟨w.heap.size + 1, 2, none⟩ = some (.slice A l.length c)) (by kernel_rfl) ?_
  have hX0 : Bel W { W with drawn := W.drawn + 1 } := (Bel.refl W).drew
  generalize { W with drawn := W.drawn + 1 } = X0 at hX0 ⊢
  replace m0 := (hX0.cells _ _ (by omega)).trans m0
  replace m1 := (hX0.cells _ _ (by omega)).trans m1
  replace m2 := (hX0.cells _ _ (by omega)).trans m2
  replace m3 := (hX0.cells _ _ (by omega)).trans m3
  replace m4 := (hX0.cells _ _ (by omega)).trans m4
  replace x2 := (hX0.cells _ _ (by omega)).trans x2
  have zX0 : w.heap.size + 3 ≤ X0.heap.size := Nat.le_trans z0 hX0.size
  have hb0 := hb.trans hX0
  refine wpAnyH_take (i := 0) (oi := { dst := some 22, op := Op.fieldAddr 26 (Operand.tmp 2) 0, type := 0, pos := "kinds.go:54", after := #[], guard := none }) (v := .pointer (some ⟨w.heap.size, 0, none⟩)) rfl (by kernel_rfl) (by kernel_rfl) (by kernel_rfl) (fun _ _ _ h => h) (.inl ⟨by rfl, fun X hS => by
      obtain ⟨_, k0, k1, k2, k3, k4, k5⟩ := hS
      go_simp; first | done | with_reducible rfl | rfl⟩) ⟨hb0, m0, m1, m2, m3, m4, x2⟩ ?_
  (try simp only [Act.put, List.setIfInBounds_toArray, List.set_cons_zero, List.set_cons_succ])
  refine wpAnyH_take (i := 1) (oi := { dst := some 23, op := Op.load 3 (Operand.tmp 22), type := 3, pos := "kinds.go:54", after := #[{ on := 0, ground := Ground.data }], guard := none }) (v := .int .i64 K) rfl (by kernel_rfl) (by kernel_rfl) (by kernel_rfl) (fun _ _ _ h => h) (.inl ⟨by rfl, fun X hS => by
      obtain ⟨_, k0, k1, k2, k3, k4, k5⟩ := hS
      go_simp; first | done | with_reducible rfl | rfl⟩) ⟨hb0, m0, m1, m2, m3, m4, x2⟩ ?_
  (try simp only [Act.put, List.setIfInBounds_toArray, List.set_cons_zero, List.set_cons_succ])
  refine wpAnyH_take (i := 3) (oi := { dst := some 25, op := Op.load 26 (Operand.tmp 2), type := 26, pos := "kinds.go:54", after := #[], guard := none }) (v := (tyv K sc any0 not0 (.slice A0 n0 c0))) rfl (by kernel_rfl) (by kernel_rfl) (by kernel_rfl) (fun _ _ _ h => h) (.inl ⟨by rfl, fun X hS => by
      obtain ⟨_, k0, k1, k2, k3, k4, k5⟩ := hS
      go_simp; first | done | with_reducible rfl | rfl⟩) ⟨hb0, m0, m1, m2, m3, m4, x2⟩ ?_
  (try simp only [Act.put, List.setIfInBounds_toArray, List.set_cons_zero, List.set_cons_succ])
  refine wpAnyH_take (i := 4) (oi := { dst := some 26, op := Op.fieldAddr 24 (Operand.tmp 3) 2, type := 0, pos := "kinds.go:54", after := #[], guard := none }) (v := .pointer (some ⟨w.heap.size + 1, 2, none⟩)) rfl (by kernel_rfl) (by kernel_rfl) (by kernel_rfl) (fun _ _ _ h => h) (.inl ⟨by rfl, fun X hS => by
      obtain ⟨_, k0, k1, k2, k3, k4, k5⟩ := hS
      go_simp; first | done | with_reducible rfl | rfl⟩) ⟨hb0, m0, m1, m2, m3, m4, x2⟩ ?_
  (try simp only [Act.put, List.setIfInBounds_toArray, List.set_cons_zero, List.set_cons_succ])
  refine wpAnyH_take (i := 5) (oi := { dst := some 27, op := Op.load 22 (Operand.tmp 26), type := 22, pos := "kinds.go:54", after := #[{ on := 4, ground := Ground.data }], guard := none }) (v := .slice A l.length c) rfl (by kernel_rfl) (by kernel_rfl) (by kernel_rfl) (fun _ _ _ h => h) (.inl ⟨by rfl, fun X hS => by
      obtain ⟨_, k0, k1, k2, k3, k4, k5⟩ := hS
      go_simp; first | done | with_reducible rfl | rfl⟩) ⟨hb0, m0, m1, m2, m3, m4, x2⟩ ?_
  (try simp only [Act.put, List.setIfInBounds_toArray, List.set_cons_zero, List.set_cons_succ])
  refine wpAnyH_all (rs := [2]) (by kernel_rfl) (by simp) ?_
  intro i hi
  simp only [List.mem_cons, List.not_mem_nil, or_false] at hi
  subst hi
  refine wpOp_enter (o := { dst := some 24, op := Op.call { callee := Callee.value (Operand.func 65), args := #[Operand.tmp 23], argTypes := #[3] }, type := 39, pos := "kinds.go:54", after := #[{ on := 1, ground := Ground.data }], guard := none }) (R := fun v w' => ∃ A1 c1 A2 c2, v = (allS K).val A1 c1 A2 c2 ∧ SpP X0.heap.size w' A1 c1 (allS K).sp ∧ Bel X0 w') rfl (by rfl) (by go_simp; first | done | with_reducible rfl | rfl) ((C1.out X0).mono fun e w' ⟨A1, c1, A2, c2, h1, h2, h3, h4⟩ => ⟨_, h1, A1, c1, A2, c2, rfl, h2, h4⟩) ?_
  rintro v X1 ⟨A1, c1, A2, c2, rfl, S1, hb'⟩
  replace m0 := (hb'.cells _ _ (by omega)).trans m0
  replace m1 := (hb'.cells _ _ (by omega)).trans m1
  replace m2 := (hb'.cells _ _ (by omega)).trans m2
  replace m3 := (hb'.cells _ _ (by omega)).trans m3
  replace m4 := (hb'.cells _ _ (by omega)).trans m4
  replace x2 := (hb'.cells _ _ (by omega)).trans x2
  have zX1 : w.heap.size + 3 ≤ X1.heap.size := Nat.le_trans zX0 hb'.size
  have hX1 := hX0.trans hb'
  have hb1 := hb0.trans hb'
  clear hb'
  refine ⟨⟨hb1, m0, m1, m2, m3, m4, x2⟩, ?_⟩
  (try simp only [Act.put, List.setIfInBounds_toArray, List.set_cons_zero, List.set_cons_succ])
  refine wpAnyH_all (rs := [6]) (by kernel_rfl) (by simp) ?_
  intro i hi
  simp only [List.mem_cons, List.not_mem_nil, or_false] at hi
  subst hi
  refine wpOp_enter (o := { dst := some 28, op := Op.call { callee := Callee.value (Operand.func 45), args := #[Operand.tmp 25, Operand.tmp 27], argTypes := #[26, 22] }, type := 39, pos := "kinds.go:54", after := #[{ on := 3, ground := Ground.data }, { on := 5, ground := Ground.data }, { on := 2, ground := Ground.chain }], guard := none }) (R := fun v w' => ∃ r A3 c3 A4 c4, v = (⟨K, r, false, [], 0, nulk l⟩ : St).val A3 c3 A4 c4 ∧ SpP X1.heap.size w' A3 c3 r ∧ ((∀ s ∈ r, Rng s) ∧ (∀ n, SMem r n ↔ SMem (rngk K sc l) n) ∧ r.length ≤ l.length) ∧ Bel X1 w') rfl (by rfl) (by go_simp; first | done | with_reducible rfl | rfl) ((C2.out X1 hb1).mono fun e w' ⟨r, ⟨A3, c3, A4, c4, h1, h2, h3, h4⟩, _, h5, h6, h7⟩ => ⟨_, h1, r, A3, c3, A4, c4, rfl, h2, ⟨h5, h6, h7⟩, h4⟩) ?_
  rintro v X2 ⟨r, A3, c3, A4, c4, rfl, S2, HR, hb'⟩
  replace m0 := (hb'.cells _ _ (by omega)).trans m0
  replace m1 := (hb'.cells _ _ (by omega)).trans m1
  replace m2 := (hb'.cells _ _ (by omega)).trans m2
  replace m3 := (hb'.cells _ _ (by omega)).trans m3
  replace m4 := (hb'.cells _ _ (by omega)).trans m4
  replace x2 := (hb'.cells _ _ (by omega)).trans x2
  have zX2 : w.heap.size + 3 ≤ X2.heap.size := Nat.le_trans zX1 hb'.size
  have hX2 := hX1.trans hb'
  have hb2 := hb1.trans hb'
  replace S1 := S1.keep hb'
  clear hb'
  refine ⟨⟨hb2, m0, m1, m2, m3, m4, x2⟩, ?_⟩
  (try simp only [Act.put, List.setIfInBounds_toArray, List.set_cons_zero, List.set_cons_succ])
  refine wpAnyH_all (rs := [7]) (by kernel_rfl) (by simp) ?_
  intro i hi
  simp only [List.mem_cons, List.not_mem_nil, or_false] at hi
  subst hi
  refine wpOp_enter (o := { dst := some 29, op := Op.call { callee := Callee.value (Operand.func 35), args := #[Operand.tmp 24, Operand.tmp 28], argTypes := #[39, 39] }, type := 39, pos := "kinds.go:54", after := #[{ on := 2, ground := Ground.data }, { on := 6, ground := Ground.data }, { on := 6, ground := Ground.chain }], guard := none }) (R := fun v w' => ∃ q A5 c5 A6 c6, v = (⟨K, q, false, [], 0, (true && nulk l)⟩ : St).val A5 c5 A6 c6 ∧ SpP X2.heap.size w' A5 c5 q ∧ (Ord q ∧ (∀ s ∈ q, Rng s) ∧ (∀ n, SMem q n ↔ SMem (allS K).sp n ∧ SMem r n) ∧ q.length ≤ (allS K).sp.length + r.length) ∧ StP X2.heap.size w' A6 c6 [] ∧ Bel X2 w') rfl (by rfl) (by go_simp; first | done | with_reducible rfl | rfl) ((C3.out X2 A1 c1 A2 c2 A3 c3 A4 c4 r S1.sl S2.sl (by have := HR.2.2; have := HL.out.1; omega) HR.1).mono fun e w' ⟨q, ⟨A5, c5, A6, c6, h1, h2, h3, h4⟩, h5⟩ => ⟨_, h1, q, A5, c5, A6, c6, rfl, h2, h5, h3, h4⟩) ?_
  rintro v X3 ⟨q, A5, c5, A6, c6, rfl, S3, HQ, T3, hb'⟩
  replace m0 := (hb'.cells _ _ (by omega)).trans m0
  replace m1 := (hb'.cells _ _ (by omega)).trans m1
  replace m2 := (hb'.cells _ _ (by omega)).trans m2
  replace m3 := (hb'.cells _ _ (by omega)).trans m3
  replace m4 := (hb'.cells _ _ (by omega)).trans m4
  replace x2 := (hb'.cells _ _ (by omega)).trans x2
  have zX3 : w.heap.size + 3 ≤ X3.heap.size := Nat.le_trans zX2 hb'.size
  have hX3 := hX2.trans hb'
  have hb3 := hb2.trans hb'
  clear hb'
  refine ⟨⟨hb3, m0, m1, m2, m3, m4, x2⟩, ?_⟩
  (try simp only [Act.put, List.setIfInBounds_toArray, List.set_cons_zero, List.set_cons_succ])
  replace r0 := (hX3.cells _ _ (by omega)).trans r0; replace r1 := (hX3.cells _ _ (by omega)).trans r1; replace r2 := (hX3.cells _ _ (by omega)).trans r2; replace r3 := (hX3.cells _ _ (by omega)).trans r3; replace r4 := (hX3.cells _ _ (by omega)).trans r4; replace r5 := (hX3.cells _ _ (by omega)).trans r5; replace rf0 := (hX3.frozens _ _ (by omega)).trans rf0; replace rf1 := (hX3.frozens _ _ (by omega)).trans rf1; replace rf2 := (hX3.frozens _ _ (by omega)).trans rf2; replace rf3 := (hX3.frozens _ _ (by omega)).trans rf3; replace rf4 := (hX3.frozens _ _ (by omega)).trans rf4; replace rf5 := (hX3.frozens _ _ (by omega)).trans rf5
  refine wpAnyH_all (rs := [8]) (by kernel_rfl) (by simp) ?_
  intro i hi
  simp only [List.mem_cons, List.not_mem_nil, or_false] at hi
  subst hi
  refine wpOp_skip (o := { dst := none, op := Op.store 39 (Operand.tmp 4) (Operand.tmp 29), type := 0, pos := "kinds.go:54", after := #[{ on := 7, ground := Ground.data }, { on := 7, ground := Ground.chain }, { on := 0, ground := Ground.phase }, { on := 1, ground := Ground.phase }, { on := 2, ground := Ground.phase }, { on := 3, ground := Ground.phase }, { on := 4, ground := Ground.phase }, { on := 5, ground := Ground.phase }, { on := 6, ground := Ground.phase }, { on := 7, ground := Ground.phase }], guard := none }) (w' := ((((((X3.setCell ⟨w.heap.size + 2, 0, none⟩ (.int .i64 K)).setCell ⟨w.heap.size + 2, 1, none⟩ (.slice A5 q.length c5)).setCell ⟨w.heap.size + 2, 2, none⟩ (.bool false)).setCell ⟨w.heap.size + 2, 3, none⟩ (.slice A6 0 c6)).setCell ⟨w.heap.size + 2, 4, none⟩ (.int .i64 0)).setCell ⟨w.heap.size + 2, 5, none⟩ (.bool (true && nulk l)))) rfl (by rfl) (by go_simp; first | done | with_reducible rfl | rfl) ?_
  have hZ : Bel w ((((((X3.setCell ⟨w.heap.size + 2, 0, none⟩ (.int .i64 K)).setCell ⟨w.heap.size + 2, 1, none⟩ (.slice A5 q.length c5)).setCell ⟨w.heap.size + 2, 2, none⟩ (.bool false)).setCell ⟨w.heap.size + 2, 3, none⟩ (.slice A6 0 c6)).setCell ⟨w.heap.size + 2, 4, none⟩ (.int .i64 0)).setCell ⟨w.heap.size + 2, 5, none⟩ (.bool (true && nulk l))) := by
      (repeat (first | with_reducible exact Bel.refl _ | with_reducible refine Bel.setCell ?_ (by first | exact Nat.le_refl _ | (dsimp only; omega)) _ | with_reducible refine Bel.alloc ?_ _ | with_reducible refine Bel.drew ?_ | with_reducible assumption | with_reducible refine Bel.trans ?_ (by assumption)))
  refine ⟨⟨hZ, by simp [go_sem, m0], by simp [go_sem, m1], by simp [go_sem, m2], by simp [go_sem, m3], by simp [go_sem, m4], by simp [go_sem, x2]⟩, ?_⟩
  (try simp only [Act.put, List.setIfInBounds_toArray, List.set_cons_zero, List.set_cons_succ])
  have t0 : World.cell? ((((((X3.setCell ⟨w.heap.size + 2, 0, none⟩ (.int .i64 K)).setCell ⟨w.heap.size + 2, 1, none⟩ (.slice A5 q.length c5)).setCell ⟨w.heap.size + 2, 2, none⟩ (.bool false)).setCell ⟨w.heap.size + 2, 3, none⟩ (.slice A6 0 c6)).setCell ⟨w.heap.size + 2, 4, none⟩ (.int .i64 0)).setCell ⟨w.heap.size + 2, 5, none⟩ (.bool (true && nulk l))) ⟨w.heap.size + 2, 0, none⟩ = some (.int .i64 K) := by simp [go_sem, r0, r1, r2, r3, r4, r5]
  have t1 : World.cell? ((((((X3.setCell ⟨w.heap.size + 2, 0, none⟩ (.int .i64 K)).setCell ⟨w.heap.size + 2, 1, none⟩ (.slice A5 q.length c5)).setCell ⟨w.heap.size + 2, 2, none⟩ (.bool false)).setCell ⟨w.heap.size + 2, 3, none⟩ (.slice A6 0 c6)).setCell ⟨w.heap.size + 2, 4, none⟩ (.int .i64 0)).setCell ⟨w.heap.size + 2, 5, none⟩ (.bool (true && nulk l))) ⟨w.heap.size + 2, 1, none⟩ = some (.slice A5 q.length c5) := by simp [go_sem, r0, r1, r2, r3, r4, r5]
  have t2 : World.cell? ((((((X3.setCell ⟨w.heap.size + 2, 0, none⟩ (.int .i64 K)).setCell ⟨w.heap.size + 2, 1, none⟩ (.slice A5 q.length c5)).setCell ⟨w.heap.size + 2, 2, none⟩ (.bool false)).setCell ⟨w.heap.size + 2, 3, none⟩ (.slice A6 0 c6)).setCell ⟨w.heap.size + 2, 4, none⟩ (.int .i64 0)).setCell ⟨w.heap.size + 2, 5, none⟩ (.bool (true && nulk l))) ⟨w.heap.size + 2, 2, none⟩ = some (.bool false) := by simp [go_sem, r0, r1, r2, r3, r4, r5]
  have t3 : World.cell? ((((((X3.setCell ⟨w.heap.size + 2, 0, none⟩ (.int .i64 K)).setCell ⟨w.heap.size + 2, 1, none⟩ (.slice A5 q.length c5)).setCell ⟨w.heap.size + 2, 2, none⟩ (.bool false)).setCell ⟨w.heap.size + 2, 3, none⟩ (.slice A6 0 c6)).setCell ⟨w.heap.size + 2, 4, none⟩ (.int .i64 0)).setCell ⟨w.heap.size + 2, 5, none⟩ (.bool (true && nulk l))) ⟨w.heap.size + 2, 3, none⟩ = some (.slice A6 0 c6) := by simp [go_sem, r0, r1, r2, r3, r4, r5]
  have t4 : World.cell? ((((((X3.setCell ⟨w.heap.size + 2, 0, none⟩ (.int .i64 K)).setCell ⟨w.heap.size + 2, 1, none⟩ (.slice A5 q.length c5)).setCell ⟨w.heap.size + 2, 2, none⟩ (.bool false)).setCell ⟨w.heap.size + 2, 3, none⟩ (.slice A6 0 c6)).setCell ⟨w.heap.size + 2, 4, none⟩ (.int .i64 0)).setCell ⟨w.heap.size + 2, 5, none⟩ (.bool (true && nulk l))) ⟨w.heap.size + 2, 4, none⟩ = some (.int .i64 0) := by simp [go_sem, r0, r1, r2, r3, r4, r5]
  have t5 : World.cell? ((((((X3.setCell ⟨w.heap.size + 2, 0, none⟩ (.int .i64 K)).setCell ⟨w.heap.size + 2, 1, none⟩ (.slice A5 q.length c5)).setCell ⟨w.heap.size + 2, 2, none⟩ (.bool false)).setCell ⟨w.heap.size + 2, 3, none⟩ (.slice A6 0 c6)).setCell ⟨w.heap.size + 2, 4, none⟩ (.int .i64 0)).setCell ⟨w.heap.size + 2, 5, none⟩ (.bool (true && nulk l))) ⟨w.heap.size + 2, 5, none⟩ = some (.bool (true && nulk l)) := by simp [go_sem, r0, r1, r2, r3, r4, r5]
  replace S3 : SpP (w.heap.size + 3) ((((((X3.setCell ⟨w.heap.size + 2, 0, none⟩ (.int .i64 K)).setCell ⟨w.heap.size + 2, 1, none⟩ (.slice A5 q.length c5)).setCell ⟨w.heap.size + 2, 2, none⟩ (.bool false)).setCell ⟨w.heap.size + 2, 3, none⟩ (.slice A6 0 c6)).setCell ⟨w.heap.size + 2, 4, none⟩ (.int .i64 0)).setCell ⟨w.heap.size + 2, 5, none⟩ (.bool (true && nulk l))) A5 c5 q := SpP.other (SpP.low S3 zX2) (by simp) fun k o hk => by
      have n1 : ¬ w.heap.size + 2 = k := by omega
      simp [go_sem, n1]
  replace T3 : StP (w.heap.size + 3) ((((((X3.setCell ⟨w.heap.size + 2, 0, none⟩ (.int .i64 K)).setCell ⟨w.heap.size + 2, 1, none⟩ (.slice A5 q.length c5)).setCell ⟨w.heap.size + 2, 2, none⟩ (.bool false)).setCell ⟨w.heap.size + 2, 3, none⟩ (.slice A6 0 c6)).setCell ⟨w.heap.size + 2, 4, none⟩ (.int .i64 0)).setCell ⟨w.heap.size + 2, 5, none⟩ (.bool (true && nulk l))) A6 c6 [] := StP.other (StP.low T3 zX2) (by simp) fun k o hk => by
      have n1 : ¬ w.heap.size + 2 = k := by omega
      simp [go_sem, n1]
  generalize ((((((X3.setCell ⟨w.heap.size + 2, 0, none⟩ (.int .i64 K)).setCell ⟨w.heap.size + 2, 1, none⟩ (.slice A5 q.length c5)).setCell ⟨w.heap.size + 2, 2, none⟩ (.bool false)).setCell ⟨w.heap.size + 2, 3, none⟩ (.slice A6 0 c6)).setCell ⟨w.heap.size + 2, 4, none⟩ (.int .i64 0)).setCell ⟨w.heap.size + 2, 5, none⟩ (.bool (true && nulk l))) = X4 at hZ t0 t1 t2 t3 t4 t5 S3 T3 ⊢
  refine wpAnyH_done (by kernel_rfl) ?_ _
  refine NoPanic.normal ?_
  have HX := Lib.hid (And.intro HQ (And.intro HR HL.out))
  have HS := Lib.hid (And.intro S3 T3)
  clear m0 m1 m2 m3 m4 x0 x1 x2 r0 rf0 r1 rf1 r2 rf2 r3 rf3 r4 rf4 r5 rf5 hX0 hX1 hX2 hX3 hb0 hb1 hb2 hb3 hb z0 zX0 zX1 zX2 zX3 S1 S2 S3 T3 HQ HR HL C1 C2 C3
  go_wp2_with fail
  refine bodyPost_ret (by simp [results, Tryz.results37, go_sem, t0, t1, t2, t3, t4, t5]; try rfl) rfl ⟨q, ⟨A5, c5, A6, c6, by simp [nulH], SpP.low HS.out.1 (Nat.le_add_right _ _), StP.low HS.out.2 (Nat.le_add_right _ _), hZ⟩, HX.out.1.1, HX.out.1.2.1, fun n => ?_, ?_⟩
  · rw [HX.out.1.2.2.1 n, HX.out.2.1.2.1 n]; simp [MemH]
  · have := HX.out.1.2.2.2; have := HX.out.2.1.2.2; have := HX.out.2.2.2; omega
set_option maxRecDepth 100000 in
set_option maxHeartbeats 8000000 in
theorem holdNW_any (K sc : Int) (any0 not0 : Bool) (A0 : Option Addr) (n0 c0 : Nat) (l : List Tst) (A : Option Addr) (c : Nat) (w : World) (hK : K = 1 ∨ K = 4) (hs : Tsts w A l) (hl : l.length ≤ 999) (hsn : ∀ t ∈ l, tsnd t = true) :
    Calls Tryz.prog 37 #[tyv K sc any0 not0 (.slice A0 n0 c0), tsv false true (.slice A l.length c)] w (NumOut w K (nulH false true l) (MemH K sc false true l) (l.length + 1)) := by
  have hAll := all_rng hK
  have C1 := Lib.hid fun W => sall_any K (by omega) (by omega) W
  have C2 := Lib.hid fun W (hW : Bel w W) => someN_any K sc any0 not0 A0 n0 c0 l A c W hK (hs.keep hW) (by omega) hsn
  have C3 := Lib.hid (show ∀ X bA bc bA2 bc2 cA cc cA2 cc2 (r : List Sp), SlS X (.slice bA (allS K).sp.length bc) (allS K).sp → SlS X (.slice cA r.length cc) r → r.length ≤ 1000 → (∀ s ∈ r, Rng s) →
      Calls Tryz.prog 49 #[(allS K).val bA bc bA2 bc2, (⟨K, r, false, [], 0, nulk l⟩ : St).val cA cc cA2 cc2] X fun e w' => ∃ q, SetOut X ⟨K, q, false, [], 0, (true && !nulk l)⟩ e w' ∧ Ord q ∧ (∀ s ∈ q, Rng s) ∧ (∀ n, SMem q n ↔ SMem (allS K).sp n ∧ ¬ SMem r n) ∧ q.length ≤ (allS K).sp.length + r.length from fun X bA bc bA2 bc2 cA cc cA2 cc2 r h1 h2 h3 h4 => by
    rcases hK with rfl | rfl
    · exact withoutS1_any _ _ _ _ true r false [] 0 (nulk l) bA bc bA2 bc2 cA cc cA2 cc2 X h1 h2 (Nat.le_trans (Nat.le_of_eq hAll.2.1) (by decide)) h3 hAll.1 h4
    · exact withoutS4_any _ _ _ _ true r false [] 0 (nulk l) bA bc bA2 bc2 cA cc cA2 cc2 X h1 h2 (Nat.le_trans (Nat.le_of_eq hAll.2.1) (by decide)) h3 hAll.1 h4)
  have HL := Lib.hid (And.intro hl hAll.2.1)
  clear hs hl hsn hAll hK
  go_enter Tryz.func37, Tryz.ntmps37
  go_upto_region 1 with fail
  refine under_name (w0 := w) (by (repeat (first | with_reducible exact Bel.refl _ | with_reducible refine Bel.setCell ?_ (by first | exact Nat.le_refl _ | (dsimp only; omega)) _ | with_reducible refine Bel.alloc ?_ _ | with_reducible refine Bel.drew ?_ | with_reducible assumption | with_reducible refine Bel.trans ?_ (by assumption)))) fun W hc hf hz hb => ?_
  have m0 : W.cell? ⟨w.heap.size, 0, none⟩ = some (.int .i64 K) := by simp [hc, go_sem]
  have m1 : W.cell? ⟨w.heap.size, 1, none⟩ = some (.int .i64 sc) := by simp [hc, go_sem]
  have m2 : W.cell? ⟨w.heap.size, 2, none⟩ = some (.bool any0) := by simp [hc, go_sem]
  have m3 : W.cell? ⟨w.heap.size, 3, none⟩ = some (.bool not0) := by simp [hc, go_sem]
  have m4 : W.cell? ⟨w.heap.size, 4, none⟩ = some (.slice A0 n0 c0) := by simp [hc, go_sem]
  have x0 : W.cell? ⟨w.heap.size + 1, 0, none⟩ = some (.bool false) := by simp [hc, go_sem]
  have x1 : W.cell? ⟨w.heap.size + 1, 1, none⟩ = some (.bool true) := by simp [hc, go_sem]
  have x2 : W.cell? ⟨w.heap.size + 1, 2, none⟩ = some (.slice A l.length c) := by simp [hc, go_sem]
  have r0 : W.cell? ⟨w.heap.size + 2, 0, none⟩ = some (.int .i64 0) := by simp [hc, go_sem]
  have r1 : W.cell? ⟨w.heap.size + 2, 1, none⟩ = some (.slice none 0 0) := by simp [hc, go_sem]
  have r2 : W.cell? ⟨w.heap.size + 2, 2, none⟩ = some (.bool false) := by simp [hc, go_sem]
  have r3 : W.cell? ⟨w.heap.size + 2, 3, none⟩ = some (.slice none 0 0) := by simp [hc, go_sem]
  have r4 : W.cell? ⟨w.heap.size + 2, 4, none⟩ = some (.int .i64 0) := by simp [hc, go_sem]
  have r5 : W.cell? ⟨w.heap.size + 2, 5, none⟩ = some (.bool false) := by simp [hc, go_sem]
  have rf0 : W.frozen? ⟨w.heap.size + 2, 0, none⟩ = false := by simp [hf, go_sem]
  have rf1 : W.frozen? ⟨w.heap.size + 2, 1, none⟩ = false := by simp [hf, go_sem]
  have rf2 : W.frozen? ⟨w.heap.size + 2, 2, none⟩ = false := by simp [hf, go_sem]
  have rf3 : W.frozen? ⟨w.heap.size + 2, 3, none⟩ = false := by simp [hf, go_sem]
  have rf4 : W.frozen? ⟨w.heap.size + 2, 4, none⟩ = false := by simp [hf, go_sem]
  have rf5 : W.frozen? ⟨w.heap.size + 2, 5, none⟩ = false := by simp [hf, go_sem]
  have z0 : w.heap.size + 3 ≤ W.heap.size := by simp [hz]
  clear hc hf hz
  go_upto_region 4 with fail
  refine wp_region_noPanic ?_
  refine wp_region_held (S := fun X => Bel w X ∧ X.cell? ⟨w.heap.size, 0, none⟩ = some (.int .i64 K) ∧ X.cell? ⟨w.heap.size, 1, none⟩ = some (.int .i64 sc) ∧ X.cell? ⟨w.heap.size, 2, none⟩ = some (.bool any0) ∧ X.cell? ⟨w.heap.size, 3, none⟩ = some (.bool not0) ∧ X.cell? ⟨w.heap.size, 4, none⟩ = some (.slice A0 n0 c0) ∧ X.cell? ⟨w.heap.size + 1, 2, none⟩ = some (.slice A l.length c)) (by kernel_rfl) ?_
  have hX0 : Bel W { W with drawn := W.drawn + 1 } := (Bel.refl W).drew
  generalize { W with drawn := W.drawn + 1 } = X0 at hX0 ⊢
  replace m0 := (hX0.cells _ _ (by omega)).trans m0
  replace m1 := (hX0.cells _ _ (by omega)).trans m1
  replace m2 := (hX0.cells _ _ (by omega)).trans m2
  replace m3 := (hX0.cells _ _ (by omega)).trans m3
  replace m4 := (hX0.cells _ _ (by omega)).trans m4
  replace x2 := (hX0.cells _ _ (by omega)).trans x2
  have zX0 : w.heap.size + 3 ≤ X0.heap.size := Nat.le_trans z0 hX0.size
  have hb0 := hb.trans hX0
  refine wpAnyH_take (i := 0) (oi := { dst := some 14, op := Op.fieldAddr 26 (Operand.tmp 2) 0, type := 0, pos := "kinds.go:52", after := #[], guard := none }) (v := .pointer (some ⟨w.heap.size, 0, none⟩)) rfl (by kernel_rfl) (by kernel_rfl) (by kernel_rfl) (fun _ _ _ h => h) (.inl ⟨by rfl, fun X hS => by
      obtain ⟨_, k0, k1, k2, k3, k4, k5⟩ := hS
      go_simp; first | done | with_reducible rfl | rfl⟩) ⟨hb0, m0, m1, m2, m3, m4, x2⟩ ?_
  (try simp only [Act.put, List.setIfInBounds_toArray, List.set_cons_zero, List.set_cons_succ])
  refine wpAnyH_take (i := 1) (oi := { dst := some 15, op := Op.load 3 (Operand.tmp 14), type := 3, pos := "kinds.go:52", after := #[{ on := 0, ground := Ground.data }], guard := none }) (v := .int .i64 K) rfl (by kernel_rfl) (by kernel_rfl) (by kernel_rfl) (fun _ _ _ h => h) (.inl ⟨by rfl, fun X hS => by
      obtain ⟨_, k0, k1, k2, k3, k4, k5⟩ := hS
      go_simp; first | done | with_reducible rfl | rfl⟩) ⟨hb0, m0, m1, m2, m3, m4, x2⟩ ?_
  (try simp only [Act.put, List.setIfInBounds_toArray, List.set_cons_zero, List.set_cons_succ])
  refine wpAnyH_take (i := 3) (oi := { dst := some 17, op := Op.load 26 (Operand.tmp 2), type := 26, pos := "kinds.go:52", after := #[], guard := none }) (v := (tyv K sc any0 not0 (.slice A0 n0 c0))) rfl (by kernel_rfl) (by kernel_rfl) (by kernel_rfl) (fun _ _ _ h => h) (.inl ⟨by rfl, fun X hS => by
      obtain ⟨_, k0, k1, k2, k3, k4, k5⟩ := hS
      go_simp; first | done | with_reducible rfl | rfl⟩) ⟨hb0, m0, m1, m2, m3, m4, x2⟩ ?_
  (try simp only [Act.put, List.setIfInBounds_toArray, List.set_cons_zero, List.set_cons_succ])
  refine wpAnyH_take (i := 4) (oi := { dst := some 18, op := Op.fieldAddr 24 (Operand.tmp 3) 2, type := 0, pos := "kinds.go:52", after := #[], guard := none }) (v := .pointer (some ⟨w.heap.size + 1, 2, none⟩)) rfl (by kernel_rfl) (by kernel_rfl) (by kernel_rfl) (fun _ _ _ h => h) (.inl ⟨by rfl, fun X hS => by
      obtain ⟨_, k0, k1, k2, k3, k4, k5⟩ := hS
      go_simp; first | done | with_reducible rfl | rfl⟩) ⟨hb0, m0, m1, m2, m3, m4, x2⟩ ?_
  (try simp only [Act.put, List.setIfInBounds_toArray, List.set_cons_zero, List.set_cons_succ])
  refine wpAnyH_take (i := 5) (oi := { dst := some 19, op := Op.load 22 (Operand.tmp 18), type := 22, pos := "kinds.go:52", after := #[{ on := 4, ground := Ground.data }], guard := none }) (v := .slice A l.length c) rfl (by kernel_rfl) (by kernel_rfl) (by kernel_rfl) (fun _ _ _ h => h) (.inl ⟨by rfl, fun X hS => by
      obtain ⟨_, k0, k1, k2, k3, k4, k5⟩ := hS
      go_simp; first | done | with_reducible rfl | rfl⟩) ⟨hb0, m0, m1, m2, m3, m4, x2⟩ ?_
  (try simp only [Act.put, List.setIfInBounds_toArray, List.set_cons_zero, List.set_cons_succ])
  refine wpAnyH_all (rs := [2]) (by kernel_rfl) (by simp) ?_
  intro i hi
  simp only [List.mem_cons, List.not_mem_nil, or_false] at hi
  subst hi
  refine wpOp_enter (o := { dst := some 16, op := Op.call { callee := Callee.value (Operand.func 65), args := #[Operand.tmp 15], argTypes := #[3] }, type := 39, pos := "kinds.go:52", after := #[{ on := 1, ground := Ground.data }], guard := none }) (R := fun v w' => ∃ A1 c1 A2 c2, v = (allS K).val A1 c1 A2 c2 ∧ SpP X0.heap.size w' A1 c1 (allS K).sp ∧ Bel X0 w') rfl (by rfl) (by go_simp; first | done | with_reducible rfl | rfl) ((C1.out X0).mono fun e w' ⟨A1, c1, A2, c2, h1, h2, h3, h4⟩ => ⟨_, h1, A1, c1, A2, c2, rfl, h2, h4⟩) ?_
  rintro v X1 ⟨A1, c1, A2, c2, rfl, S1, hb'⟩
  replace m0 := (hb'.cells _ _ (by omega)).trans m0
  replace m1 := (hb'.cells _ _ (by omega)).trans m1
  replace m2 := (hb'.cells _ _ (by omega)).trans m2
  replace m3 := (hb'.cells _ _ (by omega)).trans m3
  replace m4 := (hb'.cells _ _ (by omega)).trans m4
  replace x2 := (hb'.cells _ _ (by omega)).trans x2
  have zX1 : w.heap.size + 3 ≤ X1.heap.size := Nat.le_trans zX0 hb'.size
  have hX1 := hX0.trans hb'
  have hb1 := hb0.trans hb'
  clear hb'
  refine ⟨⟨hb1, m0, m1, m2, m3, m4, x2⟩, ?_⟩
  (try simp only [Act.put, List.setIfInBounds_toArray, List.set_cons_zero, List.set_cons_succ])
  refine wpAnyH_all (rs := [6]) (by kernel_rfl) (by simp) ?_
  intro i hi
  simp only [List.mem_cons, List.not_mem_nil, or_false] at hi
  subst hi
  refine wpOp_enter (o := { dst := some 20, op := Op.call { callee := Callee.value (Operand.func 45), args := #[Operand.tmp 17, Operand.tmp 19], argTypes := #[26, 22] }, type := 39, pos := "kinds.go:52", after := #[{ on := 3, ground := Ground.data }, { on := 5, ground := Ground.data }, { on := 2, ground := Ground.chain }], guard := none }) (R := fun v w' => ∃ r A3 c3 A4 c4, v = (⟨K, r, false, [], 0, nulk l⟩ : St).val A3 c3 A4 c4 ∧ SpP X1.heap.size w' A3 c3 r ∧ ((∀ s ∈ r, Rng s) ∧ (∀ n, SMem r n ↔ SMem (rngk K sc l) n) ∧ r.length ≤ l.length) ∧ Bel X1 w') rfl (by rfl) (by go_simp; first | done | with_reducible rfl | rfl) ((C2.out X1 hb1).mono fun e w' ⟨r, ⟨A3, c3, A4, c4, h1, h2, h3, h4⟩, _, h5, h6, h7⟩ => ⟨_, h1, r, A3, c3, A4, c4, rfl, h2, ⟨h5, h6, h7⟩, h4⟩) ?_
  rintro v X2 ⟨r, A3, c3, A4, c4, rfl, S2, HR, hb'⟩
  replace m0 := (hb'.cells _ _ (by omega)).trans m0
  replace m1 := (hb'.cells _ _ (by omega)).trans m1
  replace m2 := (hb'.cells _ _ (by omega)).trans m2
  replace m3 := (hb'.cells _ _ (by omega)).trans m3
  replace m4 := (hb'.cells _ _ (by omega)).trans m4
  replace x2 := (hb'.cells _ _ (by omega)).trans x2
  have zX2 : w.heap.size + 3 ≤ X2.heap.size := Nat.le_trans zX1 hb'.size
  have hX2 := hX1.trans hb'
  have hb2 := hb1.trans hb'
  replace S1 := S1.keep hb'
  clear hb'
  refine ⟨⟨hb2, m0, m1, m2, m3, m4, x2⟩, ?_⟩
  (try simp only [Act.put, List.setIfInBounds_toArray, List.set_cons_zero, List.set_cons_succ])
  refine wpAnyH_all (rs := [7]) (by kernel_rfl) (by simp) ?_
  intro i hi
  simp only [List.mem_cons, List.not_mem_nil, or_false] at hi
  subst hi
  refine wpOp_enter (o := { dst := some 21, op := Op.call { callee := Callee.value (Operand.func 49), args := #[Operand.tmp 16, Operand.tmp 20], argTypes := #[39, 39] }, type := 39, pos := "kinds.go:52", after := #[{ on := 2, ground := Ground.data }, { on := 6, ground := Ground.data }, { on := 6, ground := Ground.chain }], guard := none }) (R := fun v w' => ∃ q A5 c5 A6 c6, v = (⟨K, q, false, [], 0, (true && !nulk l)⟩ : St).val A5 c5 A6 c6 ∧ SpP X2.heap.size w' A5 c5 q ∧ (Ord q ∧ (∀ s ∈ q, Rng s) ∧ (∀ n, SMem q n ↔ SMem (allS K).sp n ∧ ¬ SMem r n) ∧ q.length ≤ (allS K).sp.length + r.length) ∧ StP X2.heap.size w' A6 c6 [] ∧ Bel X2 w') rfl (by rfl) (by go_simp; first | done | with_reducible rfl | rfl) ((C3.out X2 A1 c1 A2 c2 A3 c3 A4 c4 r S1.sl S2.sl (by have := HR.2.2; have := HL.out.1; omega) HR.1).mono fun e w' ⟨q, ⟨A5, c5, A6, c6, h1, h2, h3, h4⟩, h5⟩ => ⟨_, h1, q, A5, c5, A6, c6, rfl, h2, h5, h3, h4⟩) ?_
  rintro v X3 ⟨q, A5, c5, A6, c6, rfl, S3, HQ, T3, hb'⟩
  replace m0 := (hb'.cells _ _ (by omega)).trans m0
  replace m1 := (hb'.cells _ _ (by omega)).trans m1
  replace m2 := (hb'.cells _ _ (by omega)).trans m2
  replace m3 := (hb'.cells _ _ (by omega)).trans m3
  replace m4 := (hb'.cells _ _ (by omega)).trans m4
  replace x2 := (hb'.cells _ _ (by omega)).trans x2
  have zX3 : w.heap.size + 3 ≤ X3.heap.size := Nat.le_trans zX2 hb'.size
  have hX3 := hX2.trans hb'
  have hb3 := hb2.trans hb'
  clear hb'
  refine ⟨⟨hb3, m0, m1, m2, m3, m4, x2⟩, ?_⟩
  (try simp only [Act.put, List.setIfInBounds_toArray, List.set_cons_zero, List.set_cons_succ])
  replace r0 := (hX3.cells _ _ (by omega)).trans r0; replace r1 := (hX3.cells _ _ (by omega)).trans r1; replace r2 := (hX3.cells _ _ (by omega)).trans r2; replace r3 := (hX3.cells _ _ (by omega)).trans r3; replace r4 := (hX3.cells _ _ (by omega)).trans r4; replace r5 := (hX3.cells _ _ (by omega)).trans r5; replace rf0 := (hX3.frozens _ _ (by omega)).trans rf0; replace rf1 := (hX3.frozens _ _ (by omega)).trans rf1; replace rf2 := (hX3.frozens _ _ (by omega)).trans rf2; replace rf3 := (hX3.frozens _ _ (by omega)).trans rf3; replace rf4 := (hX3.frozens _ _ (by omega)).trans rf4; replace rf5 := (hX3.frozens _ _ (by omega)).trans rf5
  refine wpAnyH_all (rs := [8]) (by kernel_rfl) (by simp) ?_
  intro i hi
  simp only [List.mem_cons, List.not_mem_nil, or_false] at hi
  subst hi
  refine wpOp_skip (o := { dst := none, op := Op.store 39 (Operand.tmp 4) (Operand.tmp 21), type := 0, pos := "kinds.go:52", after := #[{ on := 7, ground := Ground.data }, { on := 7, ground := Ground.chain }, { on := 0, ground := Ground.phase }, { on := 1, ground := Ground.phase }, { on := 2, ground := Ground.phase }, { on := 3, ground := Ground.phase }, { on := 4, ground := Ground.phase }, { on := 5, ground := Ground.phase }, { on := 6, ground := Ground.phase }, { on := 7, ground := Ground.phase }], guard := none }) (w' := ((((((X3.setCell ⟨w.heap.size + 2, 0, none⟩ (.int .i64 K)).setCell ⟨w.heap.size + 2, 1, none⟩ (.slice A5 q.length c5)).setCell ⟨w.heap.size + 2, 2, none⟩ (.bool false)).setCell ⟨w.heap.size + 2, 3, none⟩ (.slice A6 0 c6)).setCell ⟨w.heap.size + 2, 4, none⟩ (.int .i64 0)).setCell ⟨w.heap.size + 2, 5, none⟩ (.bool (true && !nulk l)))) rfl (by rfl) (by go_simp; first | done | with_reducible rfl | rfl) ?_
  have hZ : Bel w ((((((X3.setCell ⟨w.heap.size + 2, 0, none⟩ (.int .i64 K)).setCell ⟨w.heap.size + 2, 1, none⟩ (.slice A5 q.length c5)).setCell ⟨w.heap.size + 2, 2, none⟩ (.bool false)).setCell ⟨w.heap.size + 2, 3, none⟩ (.slice A6 0 c6)).setCell ⟨w.heap.size + 2, 4, none⟩ (.int .i64 0)).setCell ⟨w.heap.size + 2, 5, none⟩ (.bool (true && !nulk l))) := by
      (repeat (first | with_reducible exact Bel.refl _ | with_reducible refine Bel.setCell ?_ (by first | exact Nat.le_refl _ | (dsimp only; omega)) _ | with_reducible refine Bel.alloc ?_ _ | with_reducible refine Bel.drew ?_ | with_reducible assumption | with_reducible refine Bel.trans ?_ (by assumption)))
  refine ⟨⟨hZ, by simp [go_sem, m0], by simp [go_sem, m1], by simp [go_sem, m2], by simp [go_sem, m3], by simp [go_sem, m4], by simp [go_sem, x2]⟩, ?_⟩
  (try simp only [Act.put, List.setIfInBounds_toArray, List.set_cons_zero, List.set_cons_succ])
  have t0 : World.cell? ((((((X3.setCell ⟨w.heap.size + 2, 0, none⟩ (.int .i64 K)).setCell ⟨w.heap.size + 2, 1, none⟩ (.slice A5 q.length c5)).setCell ⟨w.heap.size + 2, 2, none⟩ (.bool false)).setCell ⟨w.heap.size + 2, 3, none⟩ (.slice A6 0 c6)).setCell ⟨w.heap.size + 2, 4, none⟩ (.int .i64 0)).setCell ⟨w.heap.size + 2, 5, none⟩ (.bool (true && !nulk l))) ⟨w.heap.size + 2, 0, none⟩ = some (.int .i64 K) := by simp [go_sem, r0, r1, r2, r3, r4, r5]
  have t1 : World.cell? ((((((X3.setCell ⟨w.heap.size + 2, 0, none⟩ (.int .i64 K)).setCell ⟨w.heap.size + 2, 1, none⟩ (.slice A5 q.length c5)).setCell ⟨w.heap.size + 2, 2, none⟩ (.bool false)).setCell ⟨w.heap.size + 2, 3, none⟩ (.slice A6 0 c6)).setCell ⟨w.heap.size + 2, 4, none⟩ (.int .i64 0)).setCell ⟨w.heap.size + 2, 5, none⟩ (.bool (true && !nulk l))) ⟨w.heap.size + 2, 1, none⟩ = some (.slice A5 q.length c5) := by simp [go_sem, r0, r1, r2, r3, r4, r5]
  have t2 : World.cell? ((((((X3.setCell ⟨w.heap.size + 2, 0, none⟩ (.int .i64 K)).setCell ⟨w.heap.size + 2, 1, none⟩ (.slice A5 q.length c5)).setCell ⟨w.heap.size + 2, 2, none⟩ (.bool false)).setCell ⟨w.heap.size + 2, 3, none⟩ (.slice A6 0 c6)).setCell ⟨w.heap.size + 2, 4, none⟩ (.int .i64 0)).setCell ⟨w.heap.size + 2, 5, none⟩ (.bool (true && !nulk l))) ⟨w.heap.size + 2, 2, none⟩ = some (.bool false) := by simp [go_sem, r0, r1, r2, r3, r4, r5]
  have t3 : World.cell? ((((((X3.setCell ⟨w.heap.size + 2, 0, none⟩ (.int .i64 K)).setCell ⟨w.heap.size + 2, 1, none⟩ (.slice A5 q.length c5)).setCell ⟨w.heap.size + 2, 2, none⟩ (.bool false)).setCell ⟨w.heap.size + 2, 3, none⟩ (.slice A6 0 c6)).setCell ⟨w.heap.size + 2, 4, none⟩ (.int .i64 0)).setCell ⟨w.heap.size + 2, 5, none⟩ (.bool (true && !nulk l))) ⟨w.heap.size + 2, 3, none⟩ = some (.slice A6 0 c6) := by simp [go_sem, r0, r1, r2, r3, r4, r5]
  have t4 : World.cell? ((((((X3.setCell ⟨w.heap.size + 2, 0, none⟩ (.int .i64 K)).setCell ⟨w.heap.size + 2, 1, none⟩ (.slice A5 q.length c5)).setCell ⟨w.heap.size + 2, 2, none⟩ (.bool false)).setCell ⟨w.heap.size + 2, 3, none⟩ (.slice A6 0 c6)).setCell ⟨w.heap.size + 2, 4, none⟩ (.int .i64 0)).setCell ⟨w.heap.size + 2, 5, none⟩ (.bool (true && !nulk l))) ⟨w.heap.size + 2, 4, none⟩ = some (.int .i64 0) := by simp [go_sem, r0, r1, r2, r3, r4, r5]
  have t5 : World.cell? ((((((X3.setCell ⟨w.heap.size + 2, 0, none⟩ (.int .i64 K)).setCell ⟨w.heap.size + 2, 1, none⟩ (.slice A5 q.length c5)).setCell ⟨w.heap.size + 2, 2, none⟩ (.bool false)).setCell ⟨w.heap.size + 2, 3, none⟩ (.slice A6 0 c6)).setCell ⟨w.heap.size + 2, 4, none⟩ (.int .i64 0)).setCell ⟨w.heap.size + 2, 5, none⟩ (.bool (true && !nulk l))) ⟨w.heap.size + 2, 5, none⟩ = some (.bool (true && !nulk l)) := by simp [go_sem, r0, r1, r2, r3, r4, r5]
  replace S3 : SpP (w.heap.size + 3) ((((((X3.setCell ⟨w.heap.size + 2, 0, none⟩ (.int .i64 K)).setCell ⟨w.heap.size + 2, 1, none⟩ (.slice A5 q.length c5)).setCell ⟨w.heap.size + 2, 2, none⟩ (.bool false)).setCell ⟨w.heap.size + 2, 3, none⟩ (.slice A6 0 c6)).setCell ⟨w.heap.size + 2, 4, none⟩ (.int .i64 0)).setCell ⟨w.heap.size + 2, 5, none⟩ (.bool (true && !nulk l))) A5 c5 q := SpP.other (SpP.low S3 zX2) (by simp) fun k o hk => by
      have n1 : ¬ w.heap.size + 2 = k := by omega
      simp [go_sem, n1]
  replace T3 : StP (w.heap.size + 3) ((((((X3.setCell ⟨w.heap.size + 2, 0, none⟩ (.int .i64 K)).setCell ⟨w.heap.size + 2, 1, none⟩ (.slice A5 q.length c5)).setCell ⟨w.heap.size + 2, 2, none⟩ (.bool false)).setCell ⟨w.heap.size + 2, 3, none⟩ (.slice A6 0 c6)).setCell ⟨w.heap.size + 2, 4, none⟩ (.int .i64 0)).setCell ⟨w.heap.size + 2, 5, none⟩ (.bool (true && !nulk l))) A6 c6 [] := StP.other (StP.low T3 zX2) (by simp) fun k o hk => by
      have n1 : ¬ w.heap.size + 2 = k := by omega
      simp [go_sem, n1]
  generalize ((((((X3.setCell ⟨w.heap.size + 2, 0, none⟩ (.int .i64 K)).setCell ⟨w.heap.size + 2, 1, none⟩ (.slice A5 q.length c5)).setCell ⟨w.heap.size + 2, 2, none⟩ (.bool false)).setCell ⟨w.heap.size + 2, 3, none⟩ (.slice A6 0 c6)).setCell ⟨w.heap.size + 2, 4, none⟩ (.int .i64 0)).setCell ⟨w.heap.size + 2, 5, none⟩ (.bool (true && !nulk l))) = X4 at hZ t0 t1 t2 t3 t4 t5 S3 T3 ⊢
  refine wpAnyH_done (by kernel_rfl) ?_ _
  refine NoPanic.normal ?_
  have HX := Lib.hid (And.intro HQ (And.intro HR HL.out))
  have HS := Lib.hid (And.intro S3 T3)
  clear m0 m1 m2 m3 m4 x0 x1 x2 r0 rf0 r1 rf1 r2 rf2 r3 rf3 r4 rf4 r5 rf5 hX0 hX1 hX2 hX3 hb0 hb1 hb2 hb3 hb z0 zX0 zX1 zX2 zX3 S1 S2 S3 T3 HQ HR HL C1 C2 C3
  go_wp2_with fail
  refine bodyPost_ret (by simp [results, Tryz.results37, go_sem, t0, t1, t2, t3, t4, t5]; try rfl) rfl ⟨q, ⟨A5, c5, A6, c6, by simp [nulH], SpP.low HS.out.1 (Nat.le_add_right _ _), StP.low HS.out.2 (Nat.le_add_right _ _), hZ⟩, HX.out.1.1, HX.out.1.2.1, fun n => ?_, ?_⟩
  · rw [HX.out.1.2.2.1 n, HX.out.2.1.2.1 n]; simp [MemH]
  · have := HX.out.1.2.2.2; have := HX.out.2.1.2.2; have := HX.out.2.2.2; omega
set_option maxRecDepth 100000 in
set_option maxHeartbeats 8000000 in
theorem holdNA_any (K sc : Int) (any0 not0 : Bool) (A0 : Option Addr) (n0 c0 : Nat) (nt : Bool) (l : List Tst) (A : Option Addr) (c : Nat) (w : World) (hK : K = 1 ∨ K = 4) (hs : Tsts w A l) (hl : l.length ≤ 999) (hsn : ∀ t ∈ l, tsnd t = true) :
    Calls Tryz.prog 37 #[tyv K sc any0 not0 (.slice A0 n0 c0), tsv true nt (.slice A l.length c)] w (NumOut w K (nulH true nt l) (MemH K sc true nt l) (l.length + 1)) := by
  have hAll := all_rng hK
  have C1 := Lib.hid fun W => sall_any K (by omega) (by omega) W
  have HL := Lib.hid (And.intro hl hAll)
  have AB := Lib.hid (show (allS K).all = false ∧ (allS K).bools = 0 from by rcases hK with rfl | rfl <;> exact ⟨rfl, rfl⟩)
  clear hs hl hsn hAll hK
  go_enter Tryz.func37, Tryz.ntmps37
  go_upto_region 1 with fail
  refine under_name (w0 := w) (by (repeat (first | with_reducible exact Bel.refl _ | with_reducible refine Bel.setCell ?_ (by first | exact Nat.le_refl _ | (dsimp only; omega)) _ | with_reducible refine Bel.alloc ?_ _ | with_reducible refine Bel.drew ?_ | with_reducible assumption | with_reducible refine Bel.trans ?_ (by assumption)))) fun W hc hf hz hb => ?_
  have m0 : W.cell? ⟨w.heap.size, 0, none⟩ = some (.int .i64 K) := by simp [hc, go_sem]
  have m1 : W.cell? ⟨w.heap.size, 1, none⟩ = some (.int .i64 sc) := by simp [hc, go_sem]
  have m2 : W.cell? ⟨w.heap.size, 2, none⟩ = some (.bool any0) := by simp [hc, go_sem]
  have m3 : W.cell? ⟨w.heap.size, 3, none⟩ = some (.bool not0) := by simp [hc, go_sem]
  have m4 : W.cell? ⟨w.heap.size, 4, none⟩ = some (.slice A0 n0 c0) := by simp [hc, go_sem]
  have x0 : W.cell? ⟨w.heap.size + 1, 0, none⟩ = some (.bool true) := by simp [hc, go_sem]
  have x1 : W.cell? ⟨w.heap.size + 1, 1, none⟩ = some (.bool nt) := by simp [hc, go_sem]
  have x2 : W.cell? ⟨w.heap.size + 1, 2, none⟩ = some (.slice A l.length c) := by simp [hc, go_sem]
  have r0 : W.cell? ⟨w.heap.size + 2, 0, none⟩ = some (.int .i64 0) := by simp [hc, go_sem]
  have r1 : W.cell? ⟨w.heap.size + 2, 1, none⟩ = some (.slice none 0 0) := by simp [hc, go_sem]
  have r2 : W.cell? ⟨w.heap.size + 2, 2, none⟩ = some (.bool false) := by simp [hc, go_sem]
  have r3 : W.cell? ⟨w.heap.size + 2, 3, none⟩ = some (.slice none 0 0) := by simp [hc, go_sem]
  have r4 : W.cell? ⟨w.heap.size + 2, 4, none⟩ = some (.int .i64 0) := by simp [hc, go_sem]
  have r5 : W.cell? ⟨w.heap.size + 2, 5, none⟩ = some (.bool false) := by simp [hc, go_sem]
  have rf0 : W.frozen? ⟨w.heap.size + 2, 0, none⟩ = false := by simp [hf, go_sem]
  have rf1 : W.frozen? ⟨w.heap.size + 2, 1, none⟩ = false := by simp [hf, go_sem]
  have rf2 : W.frozen? ⟨w.heap.size + 2, 2, none⟩ = false := by simp [hf, go_sem]
  have rf3 : W.frozen? ⟨w.heap.size + 2, 3, none⟩ = false := by simp [hf, go_sem]
  have rf4 : W.frozen? ⟨w.heap.size + 2, 4, none⟩ = false := by simp [hf, go_sem]
  have rf5 : W.frozen? ⟨w.heap.size + 2, 5, none⟩ = false := by simp [hf, go_sem]
  have z0 : w.heap.size + 3 ≤ W.heap.size := by simp [hz]
  clear hc hf hz
  go_wp2_with (go_at_call 65; (with_reducible refine Calls.mono (C1.out _) ?_); rintro e X1 ⟨A1, c1, A2, c2, rfl, S1, T1, hx1⟩; have zx1 : w.heap.size + 3 ≤ X1.heap.size := (Nat.le_trans z0 hx1.size); have hbX := hb.trans hx1; replace r0 := (hx1.cells _ _ (by omega)).trans r0; replace r1 := (hx1.cells _ _ (by omega)).trans r1; replace r2 := (hx1.cells _ _ (by omega)).trans r2; replace r3 := (hx1.cells _ _ (by omega)).trans r3; replace r4 := (hx1.cells _ _ (by omega)).trans r4; replace r5 := (hx1.cells _ _ (by omega)).trans r5; replace rf0 := (hx1.frozens _ _ (by omega)).trans rf0; replace rf1 := (hx1.frozens _ _ (by omega)).trans rf1; replace rf2 := (hx1.frozens _ _ (by omega)).trans rf2; replace rf3 := (hx1.frozens _ _ (by omega)).trans rf3; replace rf4 := (hx1.frozens _ _ (by omega)).trans rf4; replace rf5 := (hx1.frozens _ _ (by omega)).trans rf5)
  refine bodyPost_ret (by simp [results, Tryz.results37, go_sem, r0, rf0, r1, rf1, r2, rf2, r3, rf3, r4, rf4, r5, rf5]; try rfl) rfl ⟨(allS K).sp, ⟨A1, c1, A2, c2, by rw [AB.out.1, AB.out.2]; simp [nulH, allS], SpP.low (SpP.other (SpP.low S1 z0) (by simp) fun k o hk => ?_) (Nat.le_add_right _ _), StP.low (StP.other (StP.low T1 z0) (by simp) fun k o hk => ?_) (Nat.le_add_right _ _), ?_⟩, HL.out.2.2.2, HL.out.2.1, fun n => by simp [MemH], ?_⟩
  · have n1 : ¬ w.heap.size + 2 = k := by omega
    simp [go_sem, n1]
  · have n1 : ¬ w.heap.size + 2 = k := by omega
    simp [go_sem, n1]
  · (repeat (first | with_reducible exact Bel.refl _ | with_reducible refine Bel.setCell ?_ (by first | exact Nat.le_refl _ | (dsimp only; omega)) _ | with_reducible refine Bel.alloc ?_ _ | with_reducible refine Bel.drew ?_ | with_reducible assumption | with_reducible refine Bel.trans ?_ (by assumption)))
  · have := HL.out.2.2.1; omega
end Go.Proofs.YtpmmbcobjibpeaaGreatDoor
namespace Go.Proofs.YtpmmbcobjibpeaaGreatDoor
set_option linter.unusedSimpArgs false
set_option linter.unusedVariables false
open Go.RowKit Go.Lib Go.Deep

/-! Sets: holding and full, of numbers or days. -/
theorem holdN_any (K sc : Int) (any0 not0 : Bool) (A0 : Option Addr) (n0 c0 : Nat) (any not : Bool) (l : List Tst) (A : Option Addr) (c : Nat) (w : World) (hK : K = 1 ∨ K = 4) (hs : Tsts w A l) (hl : l.length ≤ 999) (hsn : ∀ t ∈ l, tsnd t = true) :
    Calls Tryz.prog 37 #[tyv K sc any0 not0 (.slice A0 n0 c0), tsv any not (.slice A l.length c)] w (NumOut w K (nulH any not l) (MemH K sc any not l) (l.length + 1)) := by
  cases any with
  | true => exact holdNA_any K sc any0 not0 A0 n0 c0 not l A c w hK hs hl hsn
  | false =>
    cases not with
    | true => exact holdNW_any K sc any0 not0 A0 n0 c0 l A c w hK hs hl hsn
    | false => exact holdNM_any K sc any0 not0 A0 n0 c0 l A c w hK hs hl hsn
set_option maxRecDepth 100000 in
set_option maxHeartbeats 8000000 in
theorem fullN_any (K sc : Int) (any not : Bool) (l : List Tst) (A : Option Addr) (c : Nat) (w : World) (hK : K = 1 ∨ K = 4) (hs : Tsts w A l) (hl : l.length ≤ 999) (hsn : ∀ t ∈ l, tsnd t = true) :
    Calls Tryz.prog 36 #[tyv K sc any not (.slice A l.length c)] w (NumOut w K true (MemH K sc any not l) (l.length + 1)) := by
  have C := Lib.hid fun W (hW : Bel w W) => holdN_any K sc any not A l.length c any not l A c W hK (hs.keep hW) hl hsn
  clear hs hl hsn hK
  go_enter Tryz.func36, Tryz.ntmps36
  go_upto_region 1 with fail
  refine under_name (w0 := w) (by (repeat (first | with_reducible exact Bel.refl _ | with_reducible refine Bel.setCell ?_ (by first | exact Nat.le_refl _ | (dsimp only; omega)) _ | with_reducible refine Bel.alloc ?_ _ | with_reducible refine Bel.drew ?_ | with_reducible assumption | with_reducible refine Bel.trans ?_ (by assumption)))) fun W hc hf hz hb => ?_
  have m0 : W.cell? ⟨w.heap.size, 0, none⟩ = some (.int .i64 K) := by simp [hc, go_sem]
  have m1 : W.cell? ⟨w.heap.size, 1, none⟩ = some (.int .i64 sc) := by simp [hc, go_sem]
  have m2 : W.cell? ⟨w.heap.size, 2, none⟩ = some (.bool any) := by simp [hc, go_sem]
  have m3 : W.cell? ⟨w.heap.size, 3, none⟩ = some (.bool not) := by simp [hc, go_sem]
  have m4 : W.cell? ⟨w.heap.size, 4, none⟩ = some (.slice A l.length c) := by simp [hc, go_sem]
  have r0 : W.cell? ⟨w.heap.size + 1, 0, none⟩ = some (.int .i64 0) := by simp [hc, go_sem]
  have r1 : W.cell? ⟨w.heap.size + 1, 1, none⟩ = some (.slice none 0 0) := by simp [hc, go_sem]
  have r2 : W.cell? ⟨w.heap.size + 1, 2, none⟩ = some (.bool false) := by simp [hc, go_sem]
  have r3 : W.cell? ⟨w.heap.size + 1, 3, none⟩ = some (.slice none 0 0) := by simp [hc, go_sem]
  have r4 : W.cell? ⟨w.heap.size + 1, 4, none⟩ = some (.int .i64 0) := by simp [hc, go_sem]
  have r5 : W.cell? ⟨w.heap.size + 1, 5, none⟩ = some (.bool false) := by simp [hc, go_sem]
  have rf0 : W.frozen? ⟨w.heap.size + 1, 0, none⟩ = false := by simp [hf, go_sem]
  have rf1 : W.frozen? ⟨w.heap.size + 1, 1, none⟩ = false := by simp [hf, go_sem]
  have rf2 : W.frozen? ⟨w.heap.size + 1, 2, none⟩ = false := by simp [hf, go_sem]
  have rf3 : W.frozen? ⟨w.heap.size + 1, 3, none⟩ = false := by simp [hf, go_sem]
  have rf4 : W.frozen? ⟨w.heap.size + 1, 4, none⟩ = false := by simp [hf, go_sem]
  have rf5 : W.frozen? ⟨w.heap.size + 1, 5, none⟩ = false := by simp [hf, go_sem]
  have z0 : w.heap.size + 2 ≤ W.heap.size := by simp [hz]
  clear hc hf hz
  go_upto_region 3 with (go_at_call 37; (with_reducible refine Calls.mono (C.out _ hb) ?_); rintro e X1 ⟨q, ⟨A1, c1, A2, c2, rfl, S1, T1, hx1⟩, h1, h2, h3, h4⟩; have HQ := Lib.hid (And.intro h1 (And.intro h2 (And.intro h3 h4))); clear h1 h2 h3 h4; have zx1 : w.heap.size + 2 ≤ X1.heap.size := (Nat.le_trans z0 hx1.size); have hbX := hb.trans hx1; have HS := Lib.hid (And.intro S1 T1); clear S1 T1; replace r0 := (hx1.cells _ _ (by omega)).trans r0; replace r1 := (hx1.cells _ _ (by omega)).trans r1; replace r2 := (hx1.cells _ _ (by omega)).trans r2; replace r3 := (hx1.cells _ _ (by omega)).trans r3; replace r4 := (hx1.cells _ _ (by omega)).trans r4; replace r5 := (hx1.cells _ _ (by omega)).trans r5; replace rf0 := (hx1.frozens _ _ (by omega)).trans rf0; replace rf1 := (hx1.frozens _ _ (by omega)).trans rf1; replace rf2 := (hx1.frozens _ _ (by omega)).trans rf2; replace rf3 := (hx1.frozens _ _ (by omega)).trans rf3; replace rf4 := (hx1.frozens _ _ (by omega)).trans rf4; replace rf5 := (hx1.frozens _ _ (by omega)).trans rf5)
  refine under_name (w0 := X1) (by (repeat (first | with_reducible exact Bel.refl _ | with_reducible refine Bel.setCell ?_ (by first | exact Nat.le_refl _ | (dsimp only; omega)) _ | with_reducible refine Bel.alloc ?_ _ | with_reducible refine Bel.drew ?_ | with_reducible assumption | with_reducible refine Bel.trans ?_ (by assumption)))) fun Y hc hf hz hy => ?_
  have s0 : Y.cell? ⟨X1.heap.size, 0, none⟩ = some (.int .i64 K) := by simp [hc, go_sem]
  have s1 : Y.cell? ⟨X1.heap.size, 1, none⟩ = some (.slice A1 q.length c1) := by simp [hc, go_sem]
  have s2 : Y.cell? ⟨X1.heap.size, 2, none⟩ = some (.bool false) := by simp [hc, go_sem]
  have s3 : Y.cell? ⟨X1.heap.size, 3, none⟩ = some (.slice A2 0 c2) := by simp [hc, go_sem]
  have s4 : Y.cell? ⟨X1.heap.size, 4, none⟩ = some (.int .i64 0) := by simp [hc, go_sem]
  have s5 : Y.cell? ⟨X1.heap.size, 5, none⟩ = some (.bool true) := by simp [hc, go_sem]
  have zy : X1.heap.size < Y.heap.size := by simp [hz]
  clear hc hf hz
  replace r0 := (hy.cells _ _ (by omega)).trans r0; replace r1 := (hy.cells _ _ (by omega)).trans r1; replace r2 := (hy.cells _ _ (by omega)).trans r2; replace r3 := (hy.cells _ _ (by omega)).trans r3; replace r4 := (hy.cells _ _ (by omega)).trans r4; replace r5 := (hy.cells _ _ (by omega)).trans r5; replace rf0 := (hy.frozens _ _ (by omega)).trans rf0; replace rf1 := (hy.frozens _ _ (by omega)).trans rf1; replace rf2 := (hy.frozens _ _ (by omega)).trans rf2; replace rf3 := (hy.frozens _ _ (by omega)).trans rf3; replace rf4 := (hy.frozens _ _ (by omega)).trans rf4; replace rf5 := (hy.frozens _ _ (by omega)).trans rf5
  have hbY := hbX.trans hy
  have lt1 : w.heap.size + 1 < Y.heap.size := by omega
  replace HS := Lib.hid (And.intro (SpP.low (HS.out.1.keep hy) z0) (StP.low (HS.out.2.keep hy) z0))
  clear hx1 hbX hy hb m0 m1 m2 m3 m4 C
  go_wp2_with fail
  refine bodyPost_ret (by simp [results, Tryz.results36, go_sem, r0, rf0, r1, rf1, r2, rf2, r3, rf3, r4, rf4, r5, rf5]; try rfl) rfl ⟨q, ⟨A1, c1, A2, c2, rfl, SpP.low (SpP.other HS.out.1 (by simp) fun k o hk => ?_) (Nat.le_add_right _ _), StP.low (StP.other HS.out.2 (by simp) fun k o hk => ?_) (Nat.le_add_right _ _), ?_⟩, HQ.out.1, HQ.out.2.1, HQ.out.2.2.1, HQ.out.2.2.2⟩
  · have n1 : ¬ w.heap.size + 1 = k := by omega
    simp [go_sem, n1]
  · have n1 : ¬ w.heap.size + 1 = k := by omega
    simp [go_sem, n1]
  · (repeat (first | with_reducible exact Bel.refl _ | with_reducible refine Bel.setCell ?_ (by first | exact Nat.le_refl _ | (dsimp only; omega)) _ | with_reducible refine Bel.alloc ?_ _ | with_reducible refine Bel.drew ?_ | with_reducible assumption | with_reducible refine Bel.trans ?_ (by assumption)))
end Go.Proofs.YtpmmbcobjibpeaaGreatDoor
namespace Go.Proofs.YtpmmbcobjibpeaaGreatDoor
set_option linter.unusedSimpArgs false
set_option linter.unusedVariables false
open Go.RowKit Go.Lib Go.Deep

/-! Sets: Of, of numbers or days, where type and tests are sound. -/
set_option maxRecDepth 100000 in
set_option maxHeartbeats 8000000 in
theorem ofN_any (K sc : Int) (any not : Bool) (l : List Tst) (A : Option Addr) (c : Nat) (any2 not2 : Bool) (m : List Tst) (B : Option Addr) (d : Nat) (w : World) (hK : K = 1 ∨ K = 4) (hs : Tsts w A l) (hl : l.length ≤ 999) (hm : Tsts w B m) (hml : m.length ≤ 999) (ht : ∀ t ∈ l, TOk t) (ht2 : ∀ t ∈ m, TOk t) (hsn : ∀ t ∈ l, tsnd t = true) (hsn2 : ∀ t ∈ m, tsnd t = true) (hy : tysnd K sc any not l = true) (hu : usnd any2 not2 m = true) :
    Calls Tryz.prog 14 #[tyv K sc any not (.slice A l.length c), tsv any2 not2 (.slice B m.length d)] w fun e w' => ∃ q A1 c1 A2 c2, e = .returned (.tuple #[(⟨K, q, false, [], 0, nulH any2 not2 m⟩ : St).val A1 c1 A2 c2, .int .i64 0]) ∧ SpP w.heap.size w' A1 c1 q ∧ StP w.heap.size w' A2 c2 [] ∧ Bel w w' ∧ Ord q ∧ (∀ s ∈ q, Rng s) ∧ (∀ n, SMem q n ↔ MemH K sc any not l n ∧ MemH K sc any2 not2 m n) ∧ q.length ≤ l.length + m.length + 2 := by
  have C0 := Lib.hid fun W (hW : Bel w W) => (show Calls Tryz.prog 10 #[tyv K sc any not (.slice A l.length c)] W fun e w' => e = .returned (.bool true) ∧ Bel W w' from by
    have := tsound_any K sc any not l A c W (hs.keep hW) (by omega) ht
    rw [hy] at this
    exact this)
  have C9 := Lib.hid fun W (hW : Bel w W) => (show Calls Tryz.prog 30 #[tsv any2 not2 (.slice B m.length d)] W fun e w' => e = .returned (.bool true) ∧ Bel W w' from by
    have := usound_any any2 not2 m B d W (hm.keep hW) (by omega) ht2
    rw [hu] at this
    exact this)
  have C1 := Lib.hid fun W (hW : Bel w W) => fullN_any K sc any not l A c W hK (hs.keep hW) hl hsn
  have C2 := Lib.hid fun W (hW : Bel w W) => holdN_any K sc any not A l.length c any2 not2 m B d W hK (hm.keep hW) hml hsn2
  have C3 := Lib.hid (show ∀ X bA bc bA2 bc2 cA cc cA2 cc2 (p r : List Sp) nu nu2, SlS X (.slice bA p.length bc) p → SlS X (.slice cA r.length cc) r → p.length ≤ 1000 → r.length ≤ 1000 → (∀ s ∈ p, Rng s) → (∀ s ∈ r, Rng s) →
      Calls Tryz.prog 35 #[(⟨K, p, false, [], 0, nu⟩ : St).val bA bc bA2 bc2, (⟨K, r, false, [], 0, nu2⟩ : St).val cA cc cA2 cc2] X fun e w' => ∃ q, SetOut X ⟨K, q, false, [], 0, nu && nu2⟩ e w' ∧ Ord q ∧ (∀ s ∈ q, Rng s) ∧ (∀ n, SMem q n ↔ SMem p n ∧ SMem r n) ∧ q.length ≤ p.length + r.length from fun X bA bc bA2 bc2 cA cc cA2 cc2 p r nu nu2 h1 h2 h3 h4 h5 h6 => by
    rcases hK with rfl | rfl
    · exact meetS1_any p false [] 0 nu r false [] 0 nu2 bA bc bA2 bc2 cA cc cA2 cc2 X h1 h2 h3 h4 h5 h6
    · exact meetS4_any p false [] 0 nu r false [] 0 nu2 bA bc bA2 bc2 cA cc cA2 cc2 X h1 h2 h3 h4 h5 h6)
  have HL := Lib.hid (And.intro hl hml)
  clear hs hl hm hml ht ht2 hsn hsn2 hy hu hK
  go_enter Tryz.func14, Tryz.ntmps14
  go_upto_region 1 with fail
  refine under_name (w0 := w) (by (repeat (first | with_reducible exact Bel.refl _ | with_reducible refine Bel.setCell ?_ (by first | exact Nat.le_refl _ | (dsimp only; omega)) _ | with_reducible refine Bel.alloc ?_ _ | with_reducible refine Bel.drew ?_ | with_reducible assumption | with_reducible refine Bel.trans ?_ (by assumption)))) fun V hc hf hz hbv => ?_
  have m0 : V.cell? ⟨w.heap.size, 0, none⟩ = some (.int .i64 K) := by simp [hc, go_sem]
  have m1 : V.cell? ⟨w.heap.size, 1, none⟩ = some (.int .i64 sc) := by simp [hc, go_sem]
  have m2 : V.cell? ⟨w.heap.size, 2, none⟩ = some (.bool any) := by simp [hc, go_sem]
  have m3 : V.cell? ⟨w.heap.size, 3, none⟩ = some (.bool not) := by simp [hc, go_sem]
  have m4 : V.cell? ⟨w.heap.size, 4, none⟩ = some (.slice A l.length c) := by simp [hc, go_sem]
  have x0 : V.cell? ⟨w.heap.size + 1, 0, none⟩ = some (.bool any2) := by simp [hc, go_sem]
  have x1 : V.cell? ⟨w.heap.size + 1, 1, none⟩ = some (.bool not2) := by simp [hc, go_sem]
  have x2 : V.cell? ⟨w.heap.size + 1, 2, none⟩ = some (.slice B m.length d) := by simp [hc, go_sem]
  have r0 : V.cell? ⟨w.heap.size + 2, 0, none⟩ = some (.int .i64 0) := by simp [hc, go_sem]
  have r1 : V.cell? ⟨w.heap.size + 2, 1, none⟩ = some (.slice none 0 0) := by simp [hc, go_sem]
  have r2 : V.cell? ⟨w.heap.size + 2, 2, none⟩ = some (.bool false) := by simp [hc, go_sem]
  have r3 : V.cell? ⟨w.heap.size + 2, 3, none⟩ = some (.slice none 0 0) := by simp [hc, go_sem]
  have r4 : V.cell? ⟨w.heap.size + 2, 4, none⟩ = some (.int .i64 0) := by simp [hc, go_sem]
  have r5 : V.cell? ⟨w.heap.size + 2, 5, none⟩ = some (.bool false) := by simp [hc, go_sem]
  have rf0 : V.frozen? ⟨w.heap.size + 2, 0, none⟩ = false := by simp [hf, go_sem]
  have rf1 : V.frozen? ⟨w.heap.size + 2, 1, none⟩ = false := by simp [hf, go_sem]
  have rf2 : V.frozen? ⟨w.heap.size + 2, 2, none⟩ = false := by simp [hf, go_sem]
  have rf3 : V.frozen? ⟨w.heap.size + 2, 3, none⟩ = false := by simp [hf, go_sem]
  have rf4 : V.frozen? ⟨w.heap.size + 2, 4, none⟩ = false := by simp [hf, go_sem]
  have rf5 : V.frozen? ⟨w.heap.size + 2, 5, none⟩ = false := by simp [hf, go_sem]
  have z0 : w.heap.size + 3 ≤ V.heap.size := by simp [hz]
  clear hc hf hz
  go_upto_region 3 with (first
    | (go_at_call 10; (with_reducible refine Calls.mono (C0.out _ hbv) ?_); rintro e V1 ⟨rfl, hv1⟩; have hbv1 := hbv.trans hv1; have zv1 : w.heap.size + 3 ≤ V1.heap.size := (Nat.le_trans z0 hv1.size); replace m0 := (hv1.cells _ _ (by omega)).trans m0; replace m1 := (hv1.cells _ _ (by omega)).trans m1; replace m2 := (hv1.cells _ _ (by omega)).trans m2; replace m3 := (hv1.cells _ _ (by omega)).trans m3; replace m4 := (hv1.cells _ _ (by omega)).trans m4; replace x0 := (hv1.cells _ _ (by omega)).trans x0; replace x1 := (hv1.cells _ _ (by omega)).trans x1; replace x2 := (hv1.cells _ _ (by omega)).trans x2; replace r0 := (hv1.cells _ _ (by omega)).trans r0; replace r1 := (hv1.cells _ _ (by omega)).trans r1; replace r2 := (hv1.cells _ _ (by omega)).trans r2; replace r3 := (hv1.cells _ _ (by omega)).trans r3; replace r4 := (hv1.cells _ _ (by omega)).trans r4; replace r5 := (hv1.cells _ _ (by omega)).trans r5; replace rf0 := (hv1.frozens _ _ (by omega)).trans rf0; replace rf1 := (hv1.frozens _ _ (by omega)).trans rf1; replace rf2 := (hv1.frozens _ _ (by omega)).trans rf2; replace rf3 := (hv1.frozens _ _ (by omega)).trans rf3; replace rf4 := (hv1.frozens _ _ (by omega)).trans rf4; replace rf5 := (hv1.frozens _ _ (by omega)).trans rf5)
    | (go_at_call 30; (with_reducible refine Calls.mono (C9.out _ hbv1) ?_); rintro e W ⟨rfl, hv2⟩; have hb := hbv1.trans hv2; have zW : w.heap.size + 3 ≤ W.heap.size := (Nat.le_trans zv1 hv2.size); replace m0 := (hv2.cells _ _ (by omega)).trans m0; replace m1 := (hv2.cells _ _ (by omega)).trans m1; replace m2 := (hv2.cells _ _ (by omega)).trans m2; replace m3 := (hv2.cells _ _ (by omega)).trans m3; replace m4 := (hv2.cells _ _ (by omega)).trans m4; replace x0 := (hv2.cells _ _ (by omega)).trans x0; replace x1 := (hv2.cells _ _ (by omega)).trans x1; replace x2 := (hv2.cells _ _ (by omega)).trans x2; replace r0 := (hv2.cells _ _ (by omega)).trans r0; replace r1 := (hv2.cells _ _ (by omega)).trans r1; replace r2 := (hv2.cells _ _ (by omega)).trans r2; replace r3 := (hv2.cells _ _ (by omega)).trans r3; replace r4 := (hv2.cells _ _ (by omega)).trans r4; replace r5 := (hv2.cells _ _ (by omega)).trans r5; replace rf0 := (hv2.frozens _ _ (by omega)).trans rf0; replace rf1 := (hv2.frozens _ _ (by omega)).trans rf1; replace rf2 := (hv2.frozens _ _ (by omega)).trans rf2; replace rf3 := (hv2.frozens _ _ (by omega)).trans rf3; replace rf4 := (hv2.frozens _ _ (by omega)).trans rf4; replace rf5 := (hv2.frozens _ _ (by omega)).trans rf5))
  clear hv1 hv2 hbv hbv1 zv1 z0 C0 C9
  refine wp_region_noPanic ?_
  refine wp_region_held (S := fun X => Bel w X ∧ X.cell? ⟨w.heap.size, 0, none⟩ = some (.int .i64 K) ∧ X.cell? ⟨w.heap.size, 1, none⟩ = some (.int .i64 sc) ∧ X.cell? ⟨w.heap.size, 2, none⟩ = some (.bool any) ∧ X.cell? ⟨w.heap.size, 3, none⟩ = some (.bool not) ∧ X.cell? ⟨w.heap.size, 4, none⟩ = some (.slice A l.length c) ∧ X.cell? ⟨w.heap.size + 1, 0, none⟩ = some (.bool any2) ∧ X.cell? ⟨w.heap.size + 1, 1, none⟩ = some (.bool not2) ∧ X.cell? ⟨w.heap.size + 1, 2, none⟩ = some (.slice B m.length d)) (by kernel_rfl) ?_
  have hX0 : Bel W { W with drawn := W.drawn + 1 } := (Bel.refl W).drew
  generalize { W with drawn := W.drawn + 1 } = X0 at hX0 ⊢
  replace m0 := (hX0.cells _ _ (by omega)).trans m0; replace m1 := (hX0.cells _ _ (by omega)).trans m1; replace m2 := (hX0.cells _ _ (by omega)).trans m2; replace m3 := (hX0.cells _ _ (by omega)).trans m3; replace m4 := (hX0.cells _ _ (by omega)).trans m4; replace x0 := (hX0.cells _ _ (by omega)).trans x0; replace x1 := (hX0.cells _ _ (by omega)).trans x1; replace x2 := (hX0.cells _ _ (by omega)).trans x2
  have zX0 : w.heap.size + 3 ≤ X0.heap.size := Nat.le_trans zW hX0.size
  have hb0 := hb.trans hX0
  refine wpAnyH_take (i := 0) (oi := { dst := some 15, op := Op.load 26 (Operand.tmp 2), type := 26, pos := "sets.go:43", after := #[], guard := none }) (v := (tyv K sc any not (.slice A l.length c))) rfl (by kernel_rfl) (by kernel_rfl) (by kernel_rfl) (fun _ _ _ h => h) (.inl ⟨by rfl, fun X hS => by
      obtain ⟨_, k0, k1, k2, k3, k4, k5, k6, k7⟩ := hS
      go_simp; first | done | with_reducible rfl | rfl⟩) ⟨hb0, m0, m1, m2, m3, m4, x0, x1, x2⟩ ?_
  (try simp only [Act.put, List.setIfInBounds_toArray, List.set_cons_zero, List.set_cons_succ])
  refine wpAnyH_take (i := 2) (oi := { dst := some 17, op := Op.load 26 (Operand.tmp 2), type := 26, pos := "sets.go:43", after := #[], guard := none }) (v := (tyv K sc any not (.slice A l.length c))) rfl (by kernel_rfl) (by kernel_rfl) (by kernel_rfl) (fun _ _ _ h => h) (.inl ⟨by rfl, fun X hS => by
      obtain ⟨_, k0, k1, k2, k3, k4, k5, k6, k7⟩ := hS
      go_simp; first | done | with_reducible rfl | rfl⟩) ⟨hb0, m0, m1, m2, m3, m4, x0, x1, x2⟩ ?_
  (try simp only [Act.put, List.setIfInBounds_toArray, List.set_cons_zero, List.set_cons_succ])
  refine wpAnyH_take (i := 3) (oi := { dst := some 18, op := Op.load 24 (Operand.tmp 3), type := 24, pos := "sets.go:43", after := #[], guard := none }) (v := (tsv any2 not2 (.slice B m.length d))) rfl (by kernel_rfl) (by kernel_rfl) (by kernel_rfl) (fun _ _ _ h => h) (.inl ⟨by rfl, fun X hS => by
      obtain ⟨_, k0, k1, k2, k3, k4, k5, k6, k7⟩ := hS
      go_simp; first | done | with_reducible rfl | rfl⟩) ⟨hb0, m0, m1, m2, m3, m4, x0, x1, x2⟩ ?_
  (try simp only [Act.put, List.setIfInBounds_toArray, List.set_cons_zero, List.set_cons_succ])
  refine wpAnyH_all (rs := [1]) (by kernel_rfl) (by simp) ?_
  intro i hi
  simp only [List.mem_cons, List.not_mem_nil, or_false] at hi
  subst hi
  refine wpOp_enter (o := { dst := some 16, op := Op.call { callee := Callee.value (Operand.func 36), args := #[Operand.tmp 15], argTypes := #[26] }, type := 39, pos := "sets.go:43", after := #[{ on := 0, ground := Ground.data }], guard := none }) (R := fun v w' => ∃ p A1 c1 A2 c2, v = (⟨K, p, false, [], 0, true⟩ : St).val A1 c1 A2 c2 ∧ SpP X0.heap.size w' A1 c1 p ∧ ((∀ s ∈ p, Rng s) ∧ (∀ n, SMem p n ↔ MemH K sc any not l n) ∧ p.length ≤ l.length + 1) ∧ Bel X0 w') rfl (by rfl) (by go_simp; first | done | with_reducible rfl | rfl) ((C1.out X0 hb0).mono fun e w' ⟨p, ⟨A1, c1, A2, c2, h1, h2, h3, h4⟩, _, h5, h6, h7⟩ => ⟨_, h1, p, A1, c1, A2, c2, rfl, h2, ⟨h5, h6, h7⟩, h4⟩) ?_
  rintro v X1 ⟨p, A1, c1, A2, c2, rfl, S1, HP, hb'⟩
  replace m0 := (hb'.cells _ _ (by omega)).trans m0; replace m1 := (hb'.cells _ _ (by omega)).trans m1; replace m2 := (hb'.cells _ _ (by omega)).trans m2; replace m3 := (hb'.cells _ _ (by omega)).trans m3; replace m4 := (hb'.cells _ _ (by omega)).trans m4; replace x0 := (hb'.cells _ _ (by omega)).trans x0; replace x1 := (hb'.cells _ _ (by omega)).trans x1; replace x2 := (hb'.cells _ _ (by omega)).trans x2
  have zX1 : w.heap.size + 3 ≤ X1.heap.size := Nat.le_trans zX0 hb'.size
  have hX1 := hX0.trans hb'
  have hb1 := hb0.trans hb'
  clear hb'
  refine ⟨⟨hb1, m0, m1, m2, m3, m4, x0, x1, x2⟩, ?_⟩
  (try simp only [Act.put, List.setIfInBounds_toArray, List.set_cons_zero, List.set_cons_succ])
  refine wpAnyH_all (rs := [4]) (by kernel_rfl) (by simp) ?_
  intro i hi
  simp only [List.mem_cons, List.not_mem_nil, or_false] at hi
  subst hi
  refine wpOp_enter (o := { dst := some 19, op := Op.call { callee := Callee.value (Operand.func 37), args := #[Operand.tmp 17, Operand.tmp 18], argTypes := #[26, 24] }, type := 39, pos := "sets.go:43", after := #[{ on := 2, ground := Ground.data }, { on := 3, ground := Ground.data }, { on := 1, ground := Ground.chain }], guard := none }) (R := fun v w' => ∃ r A3 c3 A4 c4, v = (⟨K, r, false, [], 0, nulH any2 not2 m⟩ : St).val A3 c3 A4 c4 ∧ SpP X1.heap.size w' A3 c3 r ∧ ((∀ s ∈ r, Rng s) ∧ (∀ n, SMem r n ↔ MemH K sc any2 not2 m n) ∧ r.length ≤ m.length + 1) ∧ Bel X1 w') rfl (by rfl) (by go_simp; first | done | with_reducible rfl | rfl) ((C2.out X1 hb1).mono fun e w' ⟨r, ⟨A3, c3, A4, c4, h1, h2, h3, h4⟩, _, h5, h6, h7⟩ => ⟨_, h1, r, A3, c3, A4, c4, rfl, h2, ⟨h5, h6, h7⟩, h4⟩) ?_
  rintro v X2 ⟨r, A3, c3, A4, c4, rfl, S2, HR, hb'⟩
  replace m0 := (hb'.cells _ _ (by omega)).trans m0; replace m1 := (hb'.cells _ _ (by omega)).trans m1; replace m2 := (hb'.cells _ _ (by omega)).trans m2; replace m3 := (hb'.cells _ _ (by omega)).trans m3; replace m4 := (hb'.cells _ _ (by omega)).trans m4; replace x0 := (hb'.cells _ _ (by omega)).trans x0; replace x1 := (hb'.cells _ _ (by omega)).trans x1; replace x2 := (hb'.cells _ _ (by omega)).trans x2
  have zX2 : w.heap.size + 3 ≤ X2.heap.size := Nat.le_trans zX1 hb'.size
  have hX2 := hX1.trans hb'
  have hb2 := hb1.trans hb'
  replace S1 := S1.keep hb'
  clear hb'
  refine ⟨⟨hb2, m0, m1, m2, m3, m4, x0, x1, x2⟩, ?_⟩
  (try simp only [Act.put, List.setIfInBounds_toArray, List.set_cons_zero, List.set_cons_succ])
  refine wpAnyH_all (rs := [5]) (by kernel_rfl) (by simp) ?_
  intro i hi
  simp only [List.mem_cons, List.not_mem_nil, or_false] at hi
  subst hi
  refine wpOp_enter (o := { dst := some 20, op := Op.call { callee := Callee.value (Operand.func 35), args := #[Operand.tmp 16, Operand.tmp 19], argTypes := #[39, 39] }, type := 39, pos := "sets.go:43", after := #[{ on := 1, ground := Ground.data }, { on := 4, ground := Ground.data }, { on := 4, ground := Ground.chain }], guard := none }) (R := fun v w' => ∃ q A5 c5 A6 c6, v = (⟨K, q, false, [], 0, true && nulH any2 not2 m⟩ : St).val A5 c5 A6 c6 ∧ SpP X2.heap.size w' A5 c5 q ∧ (Ord q ∧ (∀ s ∈ q, Rng s) ∧ (∀ n, SMem q n ↔ SMem p n ∧ SMem r n) ∧ q.length ≤ p.length + r.length) ∧ StP X2.heap.size w' A6 c6 [] ∧ Bel X2 w') rfl (by rfl) (by go_simp; first | done | with_reducible rfl | rfl) ((C3.out X2 A1 c1 A2 c2 A3 c3 A4 c4 p r true (nulH any2 not2 m) S1.sl S2.sl (by have := HP.2.2; have := HL.out.1; omega) (by have := HR.2.2; have := HL.out.2; omega) HP.1 HR.1).mono fun e w' ⟨q, ⟨A5, c5, A6, c6, h1, h2, h3, h4⟩, h5⟩ => ⟨_, h1, q, A5, c5, A6, c6, rfl, h2, h5, h3, h4⟩) ?_
  rintro v X3 ⟨q, A5, c5, A6, c6, rfl, S3, HQ, T3, hb'⟩
  replace m0 := (hb'.cells _ _ (by omega)).trans m0; replace m1 := (hb'.cells _ _ (by omega)).trans m1; replace m2 := (hb'.cells _ _ (by omega)).trans m2; replace m3 := (hb'.cells _ _ (by omega)).trans m3; replace m4 := (hb'.cells _ _ (by omega)).trans m4; replace x0 := (hb'.cells _ _ (by omega)).trans x0; replace x1 := (hb'.cells _ _ (by omega)).trans x1; replace x2 := (hb'.cells _ _ (by omega)).trans x2
  have zX3 : w.heap.size + 3 ≤ X3.heap.size := Nat.le_trans zX2 hb'.size
  have hX3 := hX2.trans hb'
  have hb3 := hb2.trans hb'
  clear hb'
  refine ⟨⟨hb3, m0, m1, m2, m3, m4, x0, x1, x2⟩, ?_⟩
  (try simp only [Act.put, List.setIfInBounds_toArray, List.set_cons_zero, List.set_cons_succ])
  replace r0 := (hX3.cells _ _ (by omega)).trans r0; replace r1 := (hX3.cells _ _ (by omega)).trans r1; replace r2 := (hX3.cells _ _ (by omega)).trans r2; replace r3 := (hX3.cells _ _ (by omega)).trans r3; replace r4 := (hX3.cells _ _ (by omega)).trans r4; replace r5 := (hX3.cells _ _ (by omega)).trans r5; replace rf0 := (hX3.frozens _ _ (by omega)).trans rf0; replace rf1 := (hX3.frozens _ _ (by omega)).trans rf1; replace rf2 := (hX3.frozens _ _ (by omega)).trans rf2; replace rf3 := (hX3.frozens _ _ (by omega)).trans rf3; replace rf4 := (hX3.frozens _ _ (by omega)).trans rf4; replace rf5 := (hX3.frozens _ _ (by omega)).trans rf5
  refine wpAnyH_all (rs := [6]) (by kernel_rfl) (by simp) ?_
  intro i hi
  simp only [List.mem_cons, List.not_mem_nil, or_false] at hi
  subst hi
  refine wpOp_skip (o := { dst := none, op := Op.store 39 (Operand.tmp 4) (Operand.tmp 20), type := 0, pos := "sets.go:43", after := #[{ on := 5, ground := Ground.data }, { on := 5, ground := Ground.chain }, { on := 0, ground := Ground.phase }, { on := 1, ground := Ground.phase }, { on := 2, ground := Ground.phase }, { on := 3, ground := Ground.phase }, { on := 4, ground := Ground.phase }, { on := 5, ground := Ground.phase }], guard := none }) (w' := ((((((X3.setCell ⟨w.heap.size + 2, 0, none⟩ (.int .i64 K)).setCell ⟨w.heap.size + 2, 1, none⟩ (.slice A5 q.length c5)).setCell ⟨w.heap.size + 2, 2, none⟩ (.bool false)).setCell ⟨w.heap.size + 2, 3, none⟩ (.slice A6 0 c6)).setCell ⟨w.heap.size + 2, 4, none⟩ (.int .i64 0)).setCell ⟨w.heap.size + 2, 5, none⟩ (.bool (true && nulH any2 not2 m)))) rfl (by rfl) (by go_simp; first | done | with_reducible rfl | rfl) ?_
  have hZ : Bel w ((((((X3.setCell ⟨w.heap.size + 2, 0, none⟩ (.int .i64 K)).setCell ⟨w.heap.size + 2, 1, none⟩ (.slice A5 q.length c5)).setCell ⟨w.heap.size + 2, 2, none⟩ (.bool false)).setCell ⟨w.heap.size + 2, 3, none⟩ (.slice A6 0 c6)).setCell ⟨w.heap.size + 2, 4, none⟩ (.int .i64 0)).setCell ⟨w.heap.size + 2, 5, none⟩ (.bool (true && nulH any2 not2 m))) := by
      (repeat (first | with_reducible exact Bel.refl _ | with_reducible refine Bel.setCell ?_ (by first | exact Nat.le_refl _ | (dsimp only; omega)) _ | with_reducible refine Bel.alloc ?_ _ | with_reducible refine Bel.drew ?_ | with_reducible assumption | with_reducible refine Bel.trans ?_ (by assumption)))
  replace m0 : World.cell? ((((((X3.setCell ⟨w.heap.size + 2, 0, none⟩ (.int .i64 K)).setCell ⟨w.heap.size + 2, 1, none⟩ (.slice A5 q.length c5)).setCell ⟨w.heap.size + 2, 2, none⟩ (.bool false)).setCell ⟨w.heap.size + 2, 3, none⟩ (.slice A6 0 c6)).setCell ⟨w.heap.size + 2, 4, none⟩ (.int .i64 0)).setCell ⟨w.heap.size + 2, 5, none⟩ (.bool (true && nulH any2 not2 m))) ⟨w.heap.size, 0, none⟩ = some (.int .i64 K) := by simp [go_sem, m0]
  replace m1 : World.cell? ((((((X3.setCell ⟨w.heap.size + 2, 0, none⟩ (.int .i64 K)).setCell ⟨w.heap.size + 2, 1, none⟩ (.slice A5 q.length c5)).setCell ⟨w.heap.size + 2, 2, none⟩ (.bool false)).setCell ⟨w.heap.size + 2, 3, none⟩ (.slice A6 0 c6)).setCell ⟨w.heap.size + 2, 4, none⟩ (.int .i64 0)).setCell ⟨w.heap.size + 2, 5, none⟩ (.bool (true && nulH any2 not2 m))) ⟨w.heap.size, 1, none⟩ = some (.int .i64 sc) := by simp [go_sem, m1]
  replace m2 : World.cell? ((((((X3.setCell ⟨w.heap.size + 2, 0, none⟩ (.int .i64 K)).setCell ⟨w.heap.size + 2, 1, none⟩ (.slice A5 q.length c5)).setCell ⟨w.heap.size + 2, 2, none⟩ (.bool false)).setCell ⟨w.heap.size + 2, 3, none⟩ (.slice A6 0 c6)).setCell ⟨w.heap.size + 2, 4, none⟩ (.int .i64 0)).setCell ⟨w.heap.size + 2, 5, none⟩ (.bool (true && nulH any2 not2 m))) ⟨w.heap.size, 2, none⟩ = some (.bool any) := by simp [go_sem, m2]
  replace m3 : World.cell? ((((((X3.setCell ⟨w.heap.size + 2, 0, none⟩ (.int .i64 K)).setCell ⟨w.heap.size + 2, 1, none⟩ (.slice A5 q.length c5)).setCell ⟨w.heap.size + 2, 2, none⟩ (.bool false)).setCell ⟨w.heap.size + 2, 3, none⟩ (.slice A6 0 c6)).setCell ⟨w.heap.size + 2, 4, none⟩ (.int .i64 0)).setCell ⟨w.heap.size + 2, 5, none⟩ (.bool (true && nulH any2 not2 m))) ⟨w.heap.size, 3, none⟩ = some (.bool not) := by simp [go_sem, m3]
  replace m4 : World.cell? ((((((X3.setCell ⟨w.heap.size + 2, 0, none⟩ (.int .i64 K)).setCell ⟨w.heap.size + 2, 1, none⟩ (.slice A5 q.length c5)).setCell ⟨w.heap.size + 2, 2, none⟩ (.bool false)).setCell ⟨w.heap.size + 2, 3, none⟩ (.slice A6 0 c6)).setCell ⟨w.heap.size + 2, 4, none⟩ (.int .i64 0)).setCell ⟨w.heap.size + 2, 5, none⟩ (.bool (true && nulH any2 not2 m))) ⟨w.heap.size, 4, none⟩ = some (.slice A l.length c) := by simp [go_sem, m4]
  replace x0 : World.cell? ((((((X3.setCell ⟨w.heap.size + 2, 0, none⟩ (.int .i64 K)).setCell ⟨w.heap.size + 2, 1, none⟩ (.slice A5 q.length c5)).setCell ⟨w.heap.size + 2, 2, none⟩ (.bool false)).setCell ⟨w.heap.size + 2, 3, none⟩ (.slice A6 0 c6)).setCell ⟨w.heap.size + 2, 4, none⟩ (.int .i64 0)).setCell ⟨w.heap.size + 2, 5, none⟩ (.bool (true && nulH any2 not2 m))) ⟨w.heap.size + 1, 0, none⟩ = some (.bool any2) := by simp [go_sem, x0]
  replace x1 : World.cell? ((((((X3.setCell ⟨w.heap.size + 2, 0, none⟩ (.int .i64 K)).setCell ⟨w.heap.size + 2, 1, none⟩ (.slice A5 q.length c5)).setCell ⟨w.heap.size + 2, 2, none⟩ (.bool false)).setCell ⟨w.heap.size + 2, 3, none⟩ (.slice A6 0 c6)).setCell ⟨w.heap.size + 2, 4, none⟩ (.int .i64 0)).setCell ⟨w.heap.size + 2, 5, none⟩ (.bool (true && nulH any2 not2 m))) ⟨w.heap.size + 1, 1, none⟩ = some (.bool not2) := by simp [go_sem, x1]
  replace x2 : World.cell? ((((((X3.setCell ⟨w.heap.size + 2, 0, none⟩ (.int .i64 K)).setCell ⟨w.heap.size + 2, 1, none⟩ (.slice A5 q.length c5)).setCell ⟨w.heap.size + 2, 2, none⟩ (.bool false)).setCell ⟨w.heap.size + 2, 3, none⟩ (.slice A6 0 c6)).setCell ⟨w.heap.size + 2, 4, none⟩ (.int .i64 0)).setCell ⟨w.heap.size + 2, 5, none⟩ (.bool (true && nulH any2 not2 m))) ⟨w.heap.size + 1, 2, none⟩ = some (.slice B m.length d) := by simp [go_sem, x2]
  refine ⟨⟨hZ, m0, m1, m2, m3, m4, x0, x1, x2⟩, ?_⟩
  (try simp only [Act.put, List.setIfInBounds_toArray, List.set_cons_zero, List.set_cons_succ])
  have t0 : World.cell? ((((((X3.setCell ⟨w.heap.size + 2, 0, none⟩ (.int .i64 K)).setCell ⟨w.heap.size + 2, 1, none⟩ (.slice A5 q.length c5)).setCell ⟨w.heap.size + 2, 2, none⟩ (.bool false)).setCell ⟨w.heap.size + 2, 3, none⟩ (.slice A6 0 c6)).setCell ⟨w.heap.size + 2, 4, none⟩ (.int .i64 0)).setCell ⟨w.heap.size + 2, 5, none⟩ (.bool (true && nulH any2 not2 m))) ⟨w.heap.size + 2, 0, none⟩ = some (.int .i64 K) := by simp [go_sem, r0, r1, r2, r3, r4, r5]
  have t1 : World.cell? ((((((X3.setCell ⟨w.heap.size + 2, 0, none⟩ (.int .i64 K)).setCell ⟨w.heap.size + 2, 1, none⟩ (.slice A5 q.length c5)).setCell ⟨w.heap.size + 2, 2, none⟩ (.bool false)).setCell ⟨w.heap.size + 2, 3, none⟩ (.slice A6 0 c6)).setCell ⟨w.heap.size + 2, 4, none⟩ (.int .i64 0)).setCell ⟨w.heap.size + 2, 5, none⟩ (.bool (true && nulH any2 not2 m))) ⟨w.heap.size + 2, 1, none⟩ = some (.slice A5 q.length c5) := by simp [go_sem, r0, r1, r2, r3, r4, r5]
  have t2 : World.cell? ((((((X3.setCell ⟨w.heap.size + 2, 0, none⟩ (.int .i64 K)).setCell ⟨w.heap.size + 2, 1, none⟩ (.slice A5 q.length c5)).setCell ⟨w.heap.size + 2, 2, none⟩ (.bool false)).setCell ⟨w.heap.size + 2, 3, none⟩ (.slice A6 0 c6)).setCell ⟨w.heap.size + 2, 4, none⟩ (.int .i64 0)).setCell ⟨w.heap.size + 2, 5, none⟩ (.bool (true && nulH any2 not2 m))) ⟨w.heap.size + 2, 2, none⟩ = some (.bool false) := by simp [go_sem, r0, r1, r2, r3, r4, r5]
  have t3 : World.cell? ((((((X3.setCell ⟨w.heap.size + 2, 0, none⟩ (.int .i64 K)).setCell ⟨w.heap.size + 2, 1, none⟩ (.slice A5 q.length c5)).setCell ⟨w.heap.size + 2, 2, none⟩ (.bool false)).setCell ⟨w.heap.size + 2, 3, none⟩ (.slice A6 0 c6)).setCell ⟨w.heap.size + 2, 4, none⟩ (.int .i64 0)).setCell ⟨w.heap.size + 2, 5, none⟩ (.bool (true && nulH any2 not2 m))) ⟨w.heap.size + 2, 3, none⟩ = some (.slice A6 0 c6) := by simp [go_sem, r0, r1, r2, r3, r4, r5]
  have t4 : World.cell? ((((((X3.setCell ⟨w.heap.size + 2, 0, none⟩ (.int .i64 K)).setCell ⟨w.heap.size + 2, 1, none⟩ (.slice A5 q.length c5)).setCell ⟨w.heap.size + 2, 2, none⟩ (.bool false)).setCell ⟨w.heap.size + 2, 3, none⟩ (.slice A6 0 c6)).setCell ⟨w.heap.size + 2, 4, none⟩ (.int .i64 0)).setCell ⟨w.heap.size + 2, 5, none⟩ (.bool (true && nulH any2 not2 m))) ⟨w.heap.size + 2, 4, none⟩ = some (.int .i64 0) := by simp [go_sem, r0, r1, r2, r3, r4, r5]
  have t5 : World.cell? ((((((X3.setCell ⟨w.heap.size + 2, 0, none⟩ (.int .i64 K)).setCell ⟨w.heap.size + 2, 1, none⟩ (.slice A5 q.length c5)).setCell ⟨w.heap.size + 2, 2, none⟩ (.bool false)).setCell ⟨w.heap.size + 2, 3, none⟩ (.slice A6 0 c6)).setCell ⟨w.heap.size + 2, 4, none⟩ (.int .i64 0)).setCell ⟨w.heap.size + 2, 5, none⟩ (.bool (true && nulH any2 not2 m))) ⟨w.heap.size + 2, 5, none⟩ = some (.bool (true && nulH any2 not2 m)) := by simp [go_sem, r0, r1, r2, r3, r4, r5]
  replace S3 : SpP (w.heap.size + 3) ((((((X3.setCell ⟨w.heap.size + 2, 0, none⟩ (.int .i64 K)).setCell ⟨w.heap.size + 2, 1, none⟩ (.slice A5 q.length c5)).setCell ⟨w.heap.size + 2, 2, none⟩ (.bool false)).setCell ⟨w.heap.size + 2, 3, none⟩ (.slice A6 0 c6)).setCell ⟨w.heap.size + 2, 4, none⟩ (.int .i64 0)).setCell ⟨w.heap.size + 2, 5, none⟩ (.bool (true && nulH any2 not2 m))) A5 c5 q := SpP.other (SpP.low S3 zX2) (by simp) fun k o hk => by
      have n1 : ¬ w.heap.size + 2 = k := by omega
      simp [go_sem, n1]
  replace T3 : StP (w.heap.size + 3) ((((((X3.setCell ⟨w.heap.size + 2, 0, none⟩ (.int .i64 K)).setCell ⟨w.heap.size + 2, 1, none⟩ (.slice A5 q.length c5)).setCell ⟨w.heap.size + 2, 2, none⟩ (.bool false)).setCell ⟨w.heap.size + 2, 3, none⟩ (.slice A6 0 c6)).setCell ⟨w.heap.size + 2, 4, none⟩ (.int .i64 0)).setCell ⟨w.heap.size + 2, 5, none⟩ (.bool (true && nulH any2 not2 m))) A6 c6 [] := StP.other (StP.low T3 zX2) (by simp) fun k o hk => by
      have n1 : ¬ w.heap.size + 2 = k := by omega
      simp [go_sem, n1]
  generalize ((((((X3.setCell ⟨w.heap.size + 2, 0, none⟩ (.int .i64 K)).setCell ⟨w.heap.size + 2, 1, none⟩ (.slice A5 q.length c5)).setCell ⟨w.heap.size + 2, 2, none⟩ (.bool false)).setCell ⟨w.heap.size + 2, 3, none⟩ (.slice A6 0 c6)).setCell ⟨w.heap.size + 2, 4, none⟩ (.int .i64 0)).setCell ⟨w.heap.size + 2, 5, none⟩ (.bool (true && nulH any2 not2 m))) = X4 at hZ t0 t1 t2 t3 t4 t5 S3 T3 m0 m1 m2 m3 m4 x0 x1 x2 ⊢
  refine wpAnyH_all (rs := [7]) (by kernel_rfl) (by simp) ?_
  intro i hi
  simp only [List.mem_cons, List.not_mem_nil, or_false] at hi
  subst hi
  refine wpOp_value (o := { dst := some 5, op := Op.assign (Operand.const (Value.int IntKind.i64 0)), type := 40, pos := "sets.go:43", after := #[{ on := 6, ground := Ground.chain }, { on := 0, ground := Ground.phase }, { on := 1, ground := Ground.phase }, { on := 2, ground := Ground.phase }, { on := 3, ground := Ground.phase }, { on := 4, ground := Ground.phase }, { on := 5, ground := Ground.phase }, { on := 6, ground := Ground.phase }], guard := none }) (v := .int .i64 0) (w' := X4) rfl (by rfl) (by go_simp; first | done | with_reducible rfl | rfl) ?_
  refine ⟨⟨hZ, m0, m1, m2, m3, m4, x0, x1, x2⟩, ?_⟩
  (try simp only [Act.put, List.setIfInBounds_toArray, List.set_cons_zero, List.set_cons_succ])
  refine wpAnyH_done (by kernel_rfl) ?_ _
  refine NoPanic.normal ?_
  have HX := Lib.hid (And.intro HQ (And.intro HR (And.intro HP HL.out)))
  have HS := Lib.hid (And.intro S3 T3)
  clear m0 m1 m2 m3 m4 x0 x1 x2 r0 rf0 r1 rf1 r2 rf2 r3 rf3 r4 rf4 r5 rf5 hX0 hX1 hX2 hX3 hb0 hb1 hb2 hb3 hb zW zX0 zX1 zX2 zX3 S1 S2 S3 T3 HQ HR HP HL C1 C2 C3
  go_wp2_with fail
  refine bodyPost_ret (by simp [results, Tryz.results14, go_sem, t0, t1, t2, t3, t4, t5]; try rfl) rfl ⟨q, A5, c5, A6, c6, by simp, SpP.low HS.out.1 (Nat.le_add_right _ _), StP.low HS.out.2 (Nat.le_add_right _ _), hZ, HX.out.1.1, HX.out.1.2.1, fun n => ?_, ?_⟩
  · rw [HX.out.1.2.2.1 n, HX.out.2.1.2.1 n, HX.out.2.2.1.2.1 n]
  · have := HX.out.1.2.2.2; have := HX.out.2.1.2.2; have := HX.out.2.2.1.2.2; omega
end Go.Proofs.YtpmmbcobjibpeaaGreatDoor
namespace Go.Proofs.YtpmmbcobjibpeaaGreatDoor
set_option linter.unusedSimpArgs false
set_option linter.unusedVariables false
open Go.RowKit Go.Lib Go.Deep

/-! Sets: Empty, of numbers or days. -/
theorem ord_none {r : List Sp} (h : Ord r) : r.length = 0 ↔ ∀ n, ¬ SMem r n := by
  constructor
  · intro h0 n ⟨s, hs, _⟩
    rw [List.eq_nil_of_length_eq_zero h0] at hs
    cases hs
  · intro h0
    cases r with
    | nil => rfl
    | cons s t => exact absurd ⟨s, List.mem_cons_self .., Int.le_refl _, h.2 s (List.mem_cons_self ..)⟩ (h0 s.1)
set_option maxRecDepth 100000 in
set_option maxHeartbeats 4000000 in
theorem emptyN_any (K : Int) (p : List Sp) (nu : Bool) (A1 : Option Addr) (c1 : Nat) (A2 : Option Addr) (c2 : Nat) (w : World) (hK : K = 1 ∨ K = 4) (hS : SlS w (.slice A1 p.length c1) p) (hl : p.length ≤ 1000) (hr : ∀ s ∈ p, Rng s) :
    Calls Tryz.prog 24 #[(⟨K, p, false, [], 0, nu⟩ : St).val A1 c1 A2 c2] w fun e w' => ∃ b, e = .returned (.bool b) ∧ (b = true ↔ nu = false ∧ ∀ n, ¬ SMem p n) ∧ Bel w w' := by
  have C1 := Lib.hid fun W => known_any K W
  have hk : knd K = true := by rcases hK with rfl | rfl <;> rfl
  rw [hk] at C1
  have C2 := Lib.hid fun W (hW : Bel w W) => join_any (.slice A1 p.length c1) p W (hS.keep hW) hl hr
  have k14 : ((K == 1) || (K == 4)) = true := by rcases hK with rfl | rfl <;> rfl
  clear hS hl hr
  cases nu with
  | true =>
    go_enter Tryz.func24, Tryz.ntmps24
    go_wp2_with (go_at_call 29; (with_reducible refine Calls.mono (C1.out _) ?_); rintro e W1 ⟨rfl, hb1⟩; have hbX := ((Bel.refl w).alloc _).trans hb1)
    go_ret
    exact ⟨false, rfl, by simp, hbX⟩
  | false =>
    rcases hK with rfl | rfl
    all_goals
      go_enter Tryz.func24, Tryz.ntmps24
      go_wp2_with (go_at_call 47; refine (C2.out _ ((Bel.refl w).alloc _)).mono ?_; rintro e W1 ⟨v, r, rfl, h1, h2, h3, ⟨h4, h5⟩, hb1⟩; obtain ⟨A', c', rfl⟩ := h1.sl.form; have HX := Lib.hid (And.intro h2 h4); have hbX := ((Bel.refl w).alloc _).trans hb1; clear h1 h2 h3 h4 h5 hb1)
      go_ret
      refine ⟨_, rfl, ?_, hbX⟩
      have h := ord_none HX.out.1
      simp only [beq_iff_eq]
      rw [show ((r.length : Int) = 0) = (r.length = 0) from propext (by omega), h]
      exact ⟨fun h' => ⟨by first | rfl | trivial, fun n hn => h' n ((HX.out.2 n).2 hn)⟩, fun h' n hn => h'.2 n ((HX.out.2 n).1 hn)⟩
end Go.Proofs.YtpmmbcobjibpeaaGreatDoor
namespace Go.Proofs.YtpmmbcobjibpeaaGreatDoor
set_option linter.unusedSimpArgs false
set_option linter.unusedVariables false
open Go.RowKit Go.Lib Go.Deep
attribute [local go_sem ↓] eql_val neq_val

/-! Sets: pick, of numbers or days. -/
set_option maxRecDepth 100000 in
set_option maxHeartbeats 4000000 in
theorem pick1S_any (sc : Int) (any not : Bool) (A0 : Option Addr) (n0 c0 : Nat) (p : List Sp) (nu : Bool) (A1 : Option Addr) (c1 : Nat) (A2 : Option Addr) (c2 : Nat) (w : World) (hS : SlS w (.slice A1 p.length c1) p) (hl : p.length ≤ 1000) (hr : ∀ s ∈ p, Rng s) (x a b er : Int) (hx : nearOf 0 p = some x) (hmk : makeV x sc = .tuple #[decA a b, .int .i64 er]) :
    Calls Tryz.prog 46 #[tyv 1 sc any not (.slice A0 n0 c0), (⟨1, p, false, [], 0, nu⟩ : St).val A1 c1 A2 c2] w fun e w' => e = .returned (.tuple #[(⟨1, a, b, ⟨#[]⟩, 0⟩ : Val).val, .int .i64 er]) ∧ Bel w w' := by
  have C1 := fun W (hW : Bel w W) => near_any (.slice A1 p.length c1) p 0 W (hS.keep hW) hl hr (by unfold I64; omega)
  rw [hx] at C1
  simp only [Option.getD_some, Option.getD_none, Option.isSome_some, Option.isSome_none, if_true, Bool.false_eq_true, if_false] at C1
  replace C1 := Lib.hid C1
  have C2 := fun W => make_any x sc W
  rw [hmk] at C2
  replace C2 := Lib.hid C2
  clear hmk
  clear hS hl hr hx
  go_enter Tryz.func46, Tryz.ntmps46
  go_upto_region 1 with fail
  refine under_name (w0 := w) (by (repeat (first | with_reducible exact Bel.refl _ | with_reducible refine Bel.setCell ?_ (by first | exact Nat.le_refl _ | (dsimp only; omega)) _ | with_reducible refine Bel.alloc ?_ _ | with_reducible refine Bel.drew ?_ | with_reducible assumption | with_reducible refine Bel.trans ?_ (by assumption)))) fun W hc hf hz hb => ?_
  have m0 : W.cell? ⟨w.heap.size, 0, none⟩ = some (.int .i64 1) := by simp [hc, go_sem]
  have m1 : W.cell? ⟨w.heap.size, 1, none⟩ = some (.int .i64 sc) := by simp [hc, go_sem]
  have m2 : W.cell? ⟨w.heap.size, 2, none⟩ = some (.bool any) := by simp [hc, go_sem]
  have m3 : W.cell? ⟨w.heap.size, 3, none⟩ = some (.bool not) := by simp [hc, go_sem]
  have m4 : W.cell? ⟨w.heap.size, 4, none⟩ = some (.slice A0 n0 c0) := by simp [hc, go_sem]
  have x0 : W.cell? ⟨w.heap.size + 1, 0, none⟩ = some (.int .i64 1) := by simp [hc, go_sem]
  have x1 : W.cell? ⟨w.heap.size + 1, 1, none⟩ = some (.slice A1 p.length c1) := by simp [hc, go_sem]
  have r0 : W.cell? ⟨w.heap.size + 2, 0, none⟩ = some (.int .i64 0) := by simp [hc, go_sem]
  have r1 : W.cell? ⟨w.heap.size + 2, 1, none⟩ = some (.int .i64 0) := by simp [hc, go_sem]
  have r2 : W.cell? ⟨w.heap.size + 2, 2, none⟩ = some (.int .i64 0) := by simp [hc, go_sem]
  have r3 : W.cell? ⟨w.heap.size + 2, 3, none⟩ = some (.string ⟨#[]⟩) := by simp [hc, go_sem]
  have r4 : W.cell? ⟨w.heap.size + 2, 4, none⟩ = some (.int .i64 0) := by simp [hc, go_sem]
  have rf0 : W.frozen? ⟨w.heap.size + 2, 0, none⟩ = false := by simp [hf, go_sem]
  have rf1 : W.frozen? ⟨w.heap.size + 2, 1, none⟩ = false := by simp [hf, go_sem]
  have rf2 : W.frozen? ⟨w.heap.size + 2, 2, none⟩ = false := by simp [hf, go_sem]
  have rf3 : W.frozen? ⟨w.heap.size + 2, 3, none⟩ = false := by simp [hf, go_sem]
  have rf4 : W.frozen? ⟨w.heap.size + 2, 4, none⟩ = false := by simp [hf, go_sem]
  have z0 : w.heap.size + 3 ≤ W.heap.size := by simp [hz]
  clear hc hf hz
  go_upto_region 7 with (first
    | (go_at_call 71; (with_reducible refine Calls.mono (C1.out _ hb) ?_); rintro e X1 ⟨rfl, hx1⟩; have zx1 : w.heap.size + 3 ≤ X1.heap.size := (Nat.le_trans z0 hx1.size); have lt0 : w.heap.size < X1.heap.size := (by omega); have lt1 : w.heap.size + 1 < X1.heap.size := (by omega); have lt2 : w.heap.size + 2 < X1.heap.size := (by omega); have hbX := hb.trans hx1; replace r0 := (hx1.cells _ _ (by omega)).trans r0; replace r1 := (hx1.cells _ _ (by omega)).trans r1; replace r2 := (hx1.cells _ _ (by omega)).trans r2; replace r3 := (hx1.cells _ _ (by omega)).trans r3; replace r4 := (hx1.cells _ _ (by omega)).trans r4; replace rf0 := (hx1.frozens _ _ (by omega)).trans rf0; replace rf1 := (hx1.frozens _ _ (by omega)).trans rf1; replace rf2 := (hx1.frozens _ _ (by omega)).trans rf2; replace rf3 := (hx1.frozens _ _ (by omega)).trans rf3; replace rf4 := (hx1.frozens _ _ (by omega)).trans rf4; replace m1 := (hx1.cells _ _ (by omega)).trans m1)
    | (go_at_call 72; (with_reducible refine Calls.mono (C2.out _) ?_); rintro e X2 ⟨rfl, hx2⟩; have hbY := hbX.trans hx2; have zx2 : w.heap.size + 3 ≤ X2.heap.size := (Nat.le_trans zx1 hx2.size); have lt3 : w.heap.size + 2 < X2.heap.size := (by omega); replace r0 := (hx2.cells _ _ (by omega)).trans r0; replace r1 := (hx2.cells _ _ (by omega)).trans r1; replace r2 := (hx2.cells _ _ (by omega)).trans r2; replace r3 := (hx2.cells _ _ (by omega)).trans r3; replace r4 := (hx2.cells _ _ (by omega)).trans r4; replace rf0 := (hx2.frozens _ _ (by omega)).trans rf0; replace rf1 := (hx2.frozens _ _ (by omega)).trans rf1; replace rf2 := (hx2.frozens _ _ (by omega)).trans rf2; replace rf3 := (hx2.frozens _ _ (by omega)).trans rf3; replace rf4 := (hx2.frozens _ _ (by omega)).trans rf4))
  refine under_name (w0 := X2) (by (repeat (first | with_reducible exact Bel.refl _ | with_reducible refine Bel.setCell ?_ (by first | exact Nat.le_refl _ | (dsimp only; omega)) _ | with_reducible refine Bel.alloc ?_ _ | with_reducible refine Bel.drew ?_ | with_reducible assumption | with_reducible refine Bel.trans ?_ (by assumption)))) fun Y hc hf hz hy => ?_
  have d0 : Y.cell? ⟨X2.heap.size, 0, none⟩ = some (.int .i64 a) := by simp [hc, go_sem]
  have d1 : Y.cell? ⟨X2.heap.size, 1, none⟩ = some (.int .i64 b) := by simp [hc, go_sem]
  clear hc hf hz
  replace r0 := (hy.cells _ _ (by omega)).trans r0; replace r1 := (hy.cells _ _ (by omega)).trans r1; replace r2 := (hy.cells _ _ (by omega)).trans r2; replace r3 := (hy.cells _ _ (by omega)).trans r3; replace r4 := (hy.cells _ _ (by omega)).trans r4; replace rf0 := (hy.frozens _ _ (by omega)).trans rf0; replace rf1 := (hy.frozens _ _ (by omega)).trans rf1; replace rf2 := (hy.frozens _ _ (by omega)).trans rf2; replace rf3 := (hy.frozens _ _ (by omega)).trans rf3; replace rf4 := (hy.frozens _ _ (by omega)).trans rf4
  have hbZ := hbY.trans hy
  clear m0 m1 m2 m3 m4 x0 x1 hx1 hx2 hbX hbY hb C1 C2 lt0 lt1 lt2 zx1
  go_wp2_with fail
  refine bodyPost_ret (by simp [results, Tryz.results46, go_sem, r0, rf0, r1, rf1, r2, rf2, r3, rf3, r4, rf4]; try rfl) rfl ⟨rfl, ?_⟩
  (repeat (first | with_reducible exact Bel.refl _ | with_reducible refine Bel.setCell ?_ (by first | exact Nat.le_refl _ | (dsimp only; omega)) _ | with_reducible refine Bel.alloc ?_ _ | with_reducible refine Bel.drew ?_ | with_reducible assumption | with_reducible refine Bel.trans ?_ (by assumption)))
set_option maxRecDepth 100000 in
set_option maxHeartbeats 4000000 in
theorem pick4S_any (sc : Int) (any not : Bool) (A0 : Option Addr) (n0 c0 : Nat) (p : List Sp) (nu : Bool) (A1 : Option Addr) (c1 : Nat) (A2 : Option Addr) (c2 : Nat) (w : World) (hS : SlS w (.slice A1 p.length c1) p) (hl : p.length ≤ 1000) (hr : ∀ s ∈ p, Rng s) (x : Int) (hx : nearOf 730119 p = some x) :
    Calls Tryz.prog 46 #[tyv 4 sc any not (.slice A0 n0 c0), (⟨4, p, false, [], 0, nu⟩ : St).val A1 c1 A2 c2] w fun e w' => e = .returned (.tuple #[(⟨4, 0, 0, ⟨#[]⟩, x⟩ : Val).val, .int .i64 0]) ∧ Bel w w' := by
  have C1 := fun W (hW : Bel w W) => near_any (.slice A1 p.length c1) p 730119 W (hS.keep hW) hl hr (by unfold I64; omega)
  rw [hx] at C1
  simp only [Option.getD_some, Option.getD_none, Option.isSome_some, Option.isSome_none, if_true, Bool.false_eq_true, if_false] at C1
  replace C1 := Lib.hid C1
  clear hS hl hr hx
  go_enter Tryz.func46, Tryz.ntmps46
  go_upto_region 1 with fail
  refine under_name (w0 := w) (by (repeat (first | with_reducible exact Bel.refl _ | with_reducible refine Bel.setCell ?_ (by first | exact Nat.le_refl _ | (dsimp only; omega)) _ | with_reducible refine Bel.alloc ?_ _ | with_reducible refine Bel.drew ?_ | with_reducible assumption | with_reducible refine Bel.trans ?_ (by assumption)))) fun W hc hf hz hb => ?_
  have m0 : W.cell? ⟨w.heap.size, 0, none⟩ = some (.int .i64 4) := by simp [hc, go_sem]
  have m1 : W.cell? ⟨w.heap.size, 1, none⟩ = some (.int .i64 sc) := by simp [hc, go_sem]
  have m2 : W.cell? ⟨w.heap.size, 2, none⟩ = some (.bool any) := by simp [hc, go_sem]
  have m3 : W.cell? ⟨w.heap.size, 3, none⟩ = some (.bool not) := by simp [hc, go_sem]
  have m4 : W.cell? ⟨w.heap.size, 4, none⟩ = some (.slice A0 n0 c0) := by simp [hc, go_sem]
  have x0 : W.cell? ⟨w.heap.size + 1, 0, none⟩ = some (.int .i64 4) := by simp [hc, go_sem]
  have x1 : W.cell? ⟨w.heap.size + 1, 1, none⟩ = some (.slice A1 p.length c1) := by simp [hc, go_sem]
  have r0 : W.cell? ⟨w.heap.size + 2, 0, none⟩ = some (.int .i64 0) := by simp [hc, go_sem]
  have r1 : W.cell? ⟨w.heap.size + 2, 1, none⟩ = some (.int .i64 0) := by simp [hc, go_sem]
  have r2 : W.cell? ⟨w.heap.size + 2, 2, none⟩ = some (.int .i64 0) := by simp [hc, go_sem]
  have r3 : W.cell? ⟨w.heap.size + 2, 3, none⟩ = some (.string ⟨#[]⟩) := by simp [hc, go_sem]
  have r4 : W.cell? ⟨w.heap.size + 2, 4, none⟩ = some (.int .i64 0) := by simp [hc, go_sem]
  have rf0 : W.frozen? ⟨w.heap.size + 2, 0, none⟩ = false := by simp [hf, go_sem]
  have rf1 : W.frozen? ⟨w.heap.size + 2, 1, none⟩ = false := by simp [hf, go_sem]
  have rf2 : W.frozen? ⟨w.heap.size + 2, 2, none⟩ = false := by simp [hf, go_sem]
  have rf3 : W.frozen? ⟨w.heap.size + 2, 3, none⟩ = false := by simp [hf, go_sem]
  have rf4 : W.frozen? ⟨w.heap.size + 2, 4, none⟩ = false := by simp [hf, go_sem]
  have z0 : w.heap.size + 3 ≤ W.heap.size := by simp [hz]
  clear hc hf hz
  go_wp2_with (go_at_call 71; (with_reducible refine Calls.mono (C1.out _ hb) ?_); rintro e X1 ⟨rfl, hx1⟩; have zx1 : w.heap.size + 3 ≤ X1.heap.size := (Nat.le_trans z0 hx1.size); have lt0 : w.heap.size < X1.heap.size := (by omega); have lt1 : w.heap.size + 1 < X1.heap.size := (by omega); have lt2 : w.heap.size + 2 < X1.heap.size := (by omega); have hbX := hb.trans hx1; replace r0 := (hx1.cells _ _ (by omega)).trans r0; replace r1 := (hx1.cells _ _ (by omega)).trans r1; replace r2 := (hx1.cells _ _ (by omega)).trans r2; replace r3 := (hx1.cells _ _ (by omega)).trans r3; replace r4 := (hx1.cells _ _ (by omega)).trans r4; replace rf0 := (hx1.frozens _ _ (by omega)).trans rf0; replace rf1 := (hx1.frozens _ _ (by omega)).trans rf1; replace rf2 := (hx1.frozens _ _ (by omega)).trans rf2; replace rf3 := (hx1.frozens _ _ (by omega)).trans rf3; replace rf4 := (hx1.frozens _ _ (by omega)).trans rf4; replace m1 := (hx1.cells _ _ (by omega)).trans m1)
  refine bodyPost_ret (by simp [results, Tryz.results46, go_sem, r0, rf0, r1, rf1, r2, rf2, r3, rf3, r4, rf4]; try rfl) rfl ⟨rfl, ?_⟩
  (repeat (first | with_reducible exact Bel.refl _ | with_reducible refine Bel.setCell ?_ (by first | exact Nat.le_refl _ | (dsimp only; omega)) _ | with_reducible refine Bel.alloc ?_ _ | with_reducible refine Bel.drew ?_ | with_reducible assumption | with_reducible refine Bel.trans ?_ (by assumption)))
set_option maxRecDepth 100000 in
set_option maxHeartbeats 4000000 in
theorem pick1N_any (sc : Int) (any not : Bool) (A0 : Option Addr) (n0 c0 : Nat) (p : List Sp) (nu : Bool) (A1 : Option Addr) (c1 : Nat) (A2 : Option Addr) (c2 : Nat) (w : World) (hS : SlS w (.slice A1 p.length c1) p) (hl : p.length ≤ 1000) (hr : ∀ s ∈ p, Rng s) (hx : nearOf 0 p = none) :
    Calls Tryz.prog 46 #[tyv 1 sc any not (.slice A0 n0 c0), (⟨1, p, false, [], 0, nu⟩ : St).val A1 c1 A2 c2] w fun e w' => e = .returned (.tuple #[(⟨0, 0, 0, ⟨#[]⟩, 0⟩ : Val).val, .int .i64 16]) ∧ Bel w w' := by
  have C1 := fun W (hW : Bel w W) => near_any (.slice A1 p.length c1) p 0 W (hS.keep hW) hl hr (by unfold I64; omega)
  rw [hx] at C1
  simp only [Option.getD_some, Option.getD_none, Option.isSome_some, Option.isSome_none, if_true, Bool.false_eq_true, if_false] at C1
  replace C1 := Lib.hid C1
  clear hS hl hr hx
  go_enter Tryz.func46, Tryz.ntmps46
  go_upto_region 1 with fail
  refine under_name (w0 := w) (by (repeat (first | with_reducible exact Bel.refl _ | with_reducible refine Bel.setCell ?_ (by first | exact Nat.le_refl _ | (dsimp only; omega)) _ | with_reducible refine Bel.alloc ?_ _ | with_reducible refine Bel.drew ?_ | with_reducible assumption | with_reducible refine Bel.trans ?_ (by assumption)))) fun W hc hf hz hb => ?_
  have m0 : W.cell? ⟨w.heap.size, 0, none⟩ = some (.int .i64 1) := by simp [hc, go_sem]
  have m1 : W.cell? ⟨w.heap.size, 1, none⟩ = some (.int .i64 sc) := by simp [hc, go_sem]
  have m2 : W.cell? ⟨w.heap.size, 2, none⟩ = some (.bool any) := by simp [hc, go_sem]
  have m3 : W.cell? ⟨w.heap.size, 3, none⟩ = some (.bool not) := by simp [hc, go_sem]
  have m4 : W.cell? ⟨w.heap.size, 4, none⟩ = some (.slice A0 n0 c0) := by simp [hc, go_sem]
  have x0 : W.cell? ⟨w.heap.size + 1, 0, none⟩ = some (.int .i64 1) := by simp [hc, go_sem]
  have x1 : W.cell? ⟨w.heap.size + 1, 1, none⟩ = some (.slice A1 p.length c1) := by simp [hc, go_sem]
  have r0 : W.cell? ⟨w.heap.size + 2, 0, none⟩ = some (.int .i64 0) := by simp [hc, go_sem]
  have r1 : W.cell? ⟨w.heap.size + 2, 1, none⟩ = some (.int .i64 0) := by simp [hc, go_sem]
  have r2 : W.cell? ⟨w.heap.size + 2, 2, none⟩ = some (.int .i64 0) := by simp [hc, go_sem]
  have r3 : W.cell? ⟨w.heap.size + 2, 3, none⟩ = some (.string ⟨#[]⟩) := by simp [hc, go_sem]
  have r4 : W.cell? ⟨w.heap.size + 2, 4, none⟩ = some (.int .i64 0) := by simp [hc, go_sem]
  have rf0 : W.frozen? ⟨w.heap.size + 2, 0, none⟩ = false := by simp [hf, go_sem]
  have rf1 : W.frozen? ⟨w.heap.size + 2, 1, none⟩ = false := by simp [hf, go_sem]
  have rf2 : W.frozen? ⟨w.heap.size + 2, 2, none⟩ = false := by simp [hf, go_sem]
  have rf3 : W.frozen? ⟨w.heap.size + 2, 3, none⟩ = false := by simp [hf, go_sem]
  have rf4 : W.frozen? ⟨w.heap.size + 2, 4, none⟩ = false := by simp [hf, go_sem]
  have z0 : w.heap.size + 3 ≤ W.heap.size := by simp [hz]
  clear hc hf hz
  go_wp2_with (go_at_call 71; (with_reducible refine Calls.mono (C1.out _ hb) ?_); rintro e X1 ⟨rfl, hx1⟩; have zx1 : w.heap.size + 3 ≤ X1.heap.size := (Nat.le_trans z0 hx1.size); have lt0 : w.heap.size < X1.heap.size := (by omega); have lt1 : w.heap.size + 1 < X1.heap.size := (by omega); have lt2 : w.heap.size + 2 < X1.heap.size := (by omega); have hbX := hb.trans hx1; replace r0 := (hx1.cells _ _ (by omega)).trans r0; replace r1 := (hx1.cells _ _ (by omega)).trans r1; replace r2 := (hx1.cells _ _ (by omega)).trans r2; replace r3 := (hx1.cells _ _ (by omega)).trans r3; replace r4 := (hx1.cells _ _ (by omega)).trans r4; replace rf0 := (hx1.frozens _ _ (by omega)).trans rf0; replace rf1 := (hx1.frozens _ _ (by omega)).trans rf1; replace rf2 := (hx1.frozens _ _ (by omega)).trans rf2; replace rf3 := (hx1.frozens _ _ (by omega)).trans rf3; replace rf4 := (hx1.frozens _ _ (by omega)).trans rf4; replace m1 := (hx1.cells _ _ (by omega)).trans m1)
  refine bodyPost_ret (by simp [results, Tryz.results46, go_sem, r0, rf0, r1, rf1, r2, rf2, r3, rf3, r4, rf4]; try rfl) rfl ⟨rfl, ?_⟩
  (repeat (first | with_reducible exact Bel.refl _ | with_reducible refine Bel.setCell ?_ (by first | exact Nat.le_refl _ | (dsimp only; omega)) _ | with_reducible refine Bel.alloc ?_ _ | with_reducible refine Bel.drew ?_ | with_reducible assumption | with_reducible refine Bel.trans ?_ (by assumption)))
set_option maxRecDepth 100000 in
set_option maxHeartbeats 4000000 in
theorem pick4N_any (sc : Int) (any not : Bool) (A0 : Option Addr) (n0 c0 : Nat) (p : List Sp) (nu : Bool) (A1 : Option Addr) (c1 : Nat) (A2 : Option Addr) (c2 : Nat) (w : World) (hS : SlS w (.slice A1 p.length c1) p) (hl : p.length ≤ 1000) (hr : ∀ s ∈ p, Rng s) (hx : nearOf 730119 p = none) :
    Calls Tryz.prog 46 #[tyv 4 sc any not (.slice A0 n0 c0), (⟨4, p, false, [], 0, nu⟩ : St).val A1 c1 A2 c2] w fun e w' => e = .returned (.tuple #[(⟨0, 0, 0, ⟨#[]⟩, 0⟩ : Val).val, .int .i64 16]) ∧ Bel w w' := by
  have C1 := fun W (hW : Bel w W) => near_any (.slice A1 p.length c1) p 730119 W (hS.keep hW) hl hr (by unfold I64; omega)
  rw [hx] at C1
  simp only [Option.getD_some, Option.getD_none, Option.isSome_some, Option.isSome_none, if_true, Bool.false_eq_true, if_false] at C1
  replace C1 := Lib.hid C1
  clear hS hl hr hx
  go_enter Tryz.func46, Tryz.ntmps46
  go_upto_region 1 with fail
  refine under_name (w0 := w) (by (repeat (first | with_reducible exact Bel.refl _ | with_reducible refine Bel.setCell ?_ (by first | exact Nat.le_refl _ | (dsimp only; omega)) _ | with_reducible refine Bel.alloc ?_ _ | with_reducible refine Bel.drew ?_ | with_reducible assumption | with_reducible refine Bel.trans ?_ (by assumption)))) fun W hc hf hz hb => ?_
  have m0 : W.cell? ⟨w.heap.size, 0, none⟩ = some (.int .i64 4) := by simp [hc, go_sem]
  have m1 : W.cell? ⟨w.heap.size, 1, none⟩ = some (.int .i64 sc) := by simp [hc, go_sem]
  have m2 : W.cell? ⟨w.heap.size, 2, none⟩ = some (.bool any) := by simp [hc, go_sem]
  have m3 : W.cell? ⟨w.heap.size, 3, none⟩ = some (.bool not) := by simp [hc, go_sem]
  have m4 : W.cell? ⟨w.heap.size, 4, none⟩ = some (.slice A0 n0 c0) := by simp [hc, go_sem]
  have x0 : W.cell? ⟨w.heap.size + 1, 0, none⟩ = some (.int .i64 4) := by simp [hc, go_sem]
  have x1 : W.cell? ⟨w.heap.size + 1, 1, none⟩ = some (.slice A1 p.length c1) := by simp [hc, go_sem]
  have r0 : W.cell? ⟨w.heap.size + 2, 0, none⟩ = some (.int .i64 0) := by simp [hc, go_sem]
  have r1 : W.cell? ⟨w.heap.size + 2, 1, none⟩ = some (.int .i64 0) := by simp [hc, go_sem]
  have r2 : W.cell? ⟨w.heap.size + 2, 2, none⟩ = some (.int .i64 0) := by simp [hc, go_sem]
  have r3 : W.cell? ⟨w.heap.size + 2, 3, none⟩ = some (.string ⟨#[]⟩) := by simp [hc, go_sem]
  have r4 : W.cell? ⟨w.heap.size + 2, 4, none⟩ = some (.int .i64 0) := by simp [hc, go_sem]
  have rf0 : W.frozen? ⟨w.heap.size + 2, 0, none⟩ = false := by simp [hf, go_sem]
  have rf1 : W.frozen? ⟨w.heap.size + 2, 1, none⟩ = false := by simp [hf, go_sem]
  have rf2 : W.frozen? ⟨w.heap.size + 2, 2, none⟩ = false := by simp [hf, go_sem]
  have rf3 : W.frozen? ⟨w.heap.size + 2, 3, none⟩ = false := by simp [hf, go_sem]
  have rf4 : W.frozen? ⟨w.heap.size + 2, 4, none⟩ = false := by simp [hf, go_sem]
  have z0 : w.heap.size + 3 ≤ W.heap.size := by simp [hz]
  clear hc hf hz
  go_wp2_with (go_at_call 71; (with_reducible refine Calls.mono (C1.out _ hb) ?_); rintro e X1 ⟨rfl, hx1⟩; have zx1 : w.heap.size + 3 ≤ X1.heap.size := (Nat.le_trans z0 hx1.size); have lt0 : w.heap.size < X1.heap.size := (by omega); have lt1 : w.heap.size + 1 < X1.heap.size := (by omega); have lt2 : w.heap.size + 2 < X1.heap.size := (by omega); have hbX := hb.trans hx1; replace r0 := (hx1.cells _ _ (by omega)).trans r0; replace r1 := (hx1.cells _ _ (by omega)).trans r1; replace r2 := (hx1.cells _ _ (by omega)).trans r2; replace r3 := (hx1.cells _ _ (by omega)).trans r3; replace r4 := (hx1.cells _ _ (by omega)).trans r4; replace rf0 := (hx1.frozens _ _ (by omega)).trans rf0; replace rf1 := (hx1.frozens _ _ (by omega)).trans rf1; replace rf2 := (hx1.frozens _ _ (by omega)).trans rf2; replace rf3 := (hx1.frozens _ _ (by omega)).trans rf3; replace rf4 := (hx1.frozens _ _ (by omega)).trans rf4; replace m1 := (hx1.cells _ _ (by omega)).trans m1)
  refine bodyPost_ret (by simp [results, Tryz.results46, go_sem, r0, rf0, r1, rf1, r2, rf2, r3, rf3, r4, rf4]; try rfl) rfl ⟨rfl, ?_⟩
  (repeat (first | with_reducible exact Bel.refl _ | with_reducible refine Bel.setCell ?_ (by first | exact Nat.le_refl _ | (dsimp only; omega)) _ | with_reducible refine Bel.alloc ?_ _ | with_reducible refine Bel.drew ?_ | with_reducible assumption | with_reducible refine Bel.trans ?_ (by assumption)))
end Go.Proofs.YtpmmbcobjibpeaaGreatDoor
namespace Go.Proofs.YtpmmbcobjibpeaaGreatDoor
set_option linter.unusedSimpArgs false
set_option linter.unusedVariables false
open Go.RowKit Go.Lib Go.Deep
attribute [local go_sem ↓] eql_val neq_val

/-! Sets: Pick, of numbers, where there is one. -/
set_option maxRecDepth 100000 in
set_option maxHeartbeats 8000000 in
theorem Pick1S_any (sc : Int) (any not : Bool) (l : List Tst) (A : Option Addr) (c : Nat) (p : List Sp) (nu : Bool) (A1 : Option Addr) (c1 : Nat) (A2 : Option Addr) (c2 : Nat) (w : World) (hs : Tsts w A l) (hl : l.length ≤ 499) (ht : ∀ t ∈ l, TOk t) (hsn : ∀ t ∈ l, tsnd t = true) (hy : tysnd 1 sc any not l = true)
    (hS : SlS w (.slice A1 p.length c1) p) (hpl : p.length ≤ 500) (hr : ∀ s ∈ p, Rng s) (x a b er : Int) (hx : ∀ q, Ord q → (∀ n, SMem q n ↔ MemH 1 sc any not l n ∧ SMem p n) → nearOf 0 q = some x ∧ ¬ ∀ n, ¬ SMem q n) (hmk : makeV x sc = .tuple #[decA a b, .int .i64 er]) :
    Calls Tryz.prog 23 #[tyv 1 sc any not (.slice A l.length c), (⟨1, p, false, [], 0, nu⟩ : St).val A1 c1 A2 c2] w fun e w' => e = .returned (.tuple #[(⟨1, a, b, ⟨#[]⟩, 0⟩ : Val).val, .int .i64 0]) ∧ Bel w w' := by
  have C0 := Lib.hid fun W (hW : Bel w W) => (show Calls Tryz.prog 10 #[tyv 1 sc any not (.slice A l.length c)] W fun e w' => e = .returned (.bool true) ∧ Bel W w' from by
    have := tsound_any 1 sc any not l A c W (hs.keep hW) (by omega) ht
    rw [hy] at this
    exact this)
  have C1 := Lib.hid fun W (hW : Bel w W) => fullN_any 1 sc any not l A c W (.inl rfl) (hs.keep hW) (by omega) hsn
  have C3 := Lib.hid (show ∀ X bA bc bA2 bc2 (o : List Sp) nu1, Bel w X → SlS X (.slice bA o.length bc) o → o.length ≤ l.length + 1 → (∀ s ∈ o, Rng s) →
      Calls Tryz.prog 35 #[(⟨1, o, false, [], 0, nu1⟩ : St).val bA bc bA2 bc2, (⟨1, p, false, [], 0, nu⟩ : St).val A1 c1 A2 c2] X fun e w' => ∃ q, SetOut X ⟨1, q, false, [], 0, nu1 && nu⟩ e w' ∧ Ord q ∧ (∀ s ∈ q, Rng s) ∧ (∀ n, SMem q n ↔ SMem o n ∧ SMem p n) ∧ q.length ≤ o.length + p.length from fun X bA bc bA2 bc2 o nu1 hX h1 h2 h3 =>
    meetS1_any o false [] 0 nu1 p false [] 0 nu bA bc bA2 bc2 A1 c1 A2 c2 X h1 (hS.keep hX) (by omega) (by omega) h3 hr)
  have HL := Lib.hid (And.intro hl hpl)
  have HX := Lib.hid (And.intro hx hmk)
  clear hs hl ht hsn hy hS hpl hr hx hmk
  go_enter Tryz.func23, Tryz.ntmps23
  go_upto_region 1 with fail
  refine under_name (w0 := w) (by (repeat (first | with_reducible exact Bel.refl _ | with_reducible refine Bel.setCell ?_ (by first | exact Nat.le_refl _ | (dsimp only; omega)) _ | with_reducible refine Bel.alloc ?_ _ | with_reducible refine Bel.drew ?_ | with_reducible assumption | with_reducible refine Bel.trans ?_ (by assumption)))) fun V hc hf hz hbv => ?_
  have m0 : V.cell? ⟨w.heap.size, 0, none⟩ = some (.int .i64 1) := by simp [hc, go_sem]
  have m1 : V.cell? ⟨w.heap.size, 1, none⟩ = some (.int .i64 sc) := by simp [hc, go_sem]
  have m2 : V.cell? ⟨w.heap.size, 2, none⟩ = some (.bool any) := by simp [hc, go_sem]
  have m3 : V.cell? ⟨w.heap.size, 3, none⟩ = some (.bool not) := by simp [hc, go_sem]
  have m4 : V.cell? ⟨w.heap.size, 4, none⟩ = some (.slice A l.length c) := by simp [hc, go_sem]
  have x0 : V.cell? ⟨w.heap.size + 1, 0, none⟩ = some (.int .i64 1) := by simp [hc, go_sem]
  have x1 : V.cell? ⟨w.heap.size + 1, 1, none⟩ = some (.slice A1 p.length c1) := by simp [hc, go_sem]
  have x2 : V.cell? ⟨w.heap.size + 1, 2, none⟩ = some (.bool false) := by simp [hc, go_sem]
  have x3 : V.cell? ⟨w.heap.size + 1, 3, none⟩ = some (.slice A2 0 c2) := by simp [hc, go_sem]
  have x4 : V.cell? ⟨w.heap.size + 1, 4, none⟩ = some (.int .i64 0) := by simp [hc, go_sem]
  have x5 : V.cell? ⟨w.heap.size + 1, 5, none⟩ = some (.bool nu) := by simp [hc, go_sem]
  have xf0 : V.frozen? ⟨w.heap.size + 1, 0, none⟩ = false := by simp [hf, go_sem]
  have xf1 : V.frozen? ⟨w.heap.size + 1, 1, none⟩ = false := by simp [hf, go_sem]
  have xf2 : V.frozen? ⟨w.heap.size + 1, 2, none⟩ = false := by simp [hf, go_sem]
  have xf3 : V.frozen? ⟨w.heap.size + 1, 3, none⟩ = false := by simp [hf, go_sem]
  have xf4 : V.frozen? ⟨w.heap.size + 1, 4, none⟩ = false := by simp [hf, go_sem]
  have xf5 : V.frozen? ⟨w.heap.size + 1, 5, none⟩ = false := by simp [hf, go_sem]
  have r0 : V.cell? ⟨w.heap.size + 2, 0, none⟩ = some (.int .i64 0) := by simp [hc, go_sem]
  have r1 : V.cell? ⟨w.heap.size + 2, 1, none⟩ = some (.int .i64 0) := by simp [hc, go_sem]
  have r2 : V.cell? ⟨w.heap.size + 2, 2, none⟩ = some (.int .i64 0) := by simp [hc, go_sem]
  have r3 : V.cell? ⟨w.heap.size + 2, 3, none⟩ = some (.string ⟨#[]⟩) := by simp [hc, go_sem]
  have r4 : V.cell? ⟨w.heap.size + 2, 4, none⟩ = some (.int .i64 0) := by simp [hc, go_sem]
  have rf0 : V.frozen? ⟨w.heap.size + 2, 0, none⟩ = false := by simp [hf, go_sem]
  have rf1 : V.frozen? ⟨w.heap.size + 2, 1, none⟩ = false := by simp [hf, go_sem]
  have rf2 : V.frozen? ⟨w.heap.size + 2, 2, none⟩ = false := by simp [hf, go_sem]
  have rf3 : V.frozen? ⟨w.heap.size + 2, 3, none⟩ = false := by simp [hf, go_sem]
  have rf4 : V.frozen? ⟨w.heap.size + 2, 4, none⟩ = false := by simp [hf, go_sem]
  have z0 : w.heap.size + 3 ≤ V.heap.size := by simp [hz]
  clear hc hf hz
  go_upto_region 5 with (go_at_call 10; (with_reducible refine Calls.mono (C0.out _ hbv) ?_); rintro e W ⟨rfl, hv1⟩; have hb := hbv.trans hv1; have zW : w.heap.size + 3 ≤ W.heap.size := (Nat.le_trans z0 hv1.size); replace m0 := (hv1.cells _ _ (by omega)).trans m0; replace m1 := (hv1.cells _ _ (by omega)).trans m1; replace m2 := (hv1.cells _ _ (by omega)).trans m2; replace m3 := (hv1.cells _ _ (by omega)).trans m3; replace m4 := (hv1.cells _ _ (by omega)).trans m4; replace x0 := (hv1.cells _ _ (by omega)).trans x0; replace x1 := (hv1.cells _ _ (by omega)).trans x1; replace x2 := (hv1.cells _ _ (by omega)).trans x2; replace x3 := (hv1.cells _ _ (by omega)).trans x3; replace x4 := (hv1.cells _ _ (by omega)).trans x4; replace x5 := (hv1.cells _ _ (by omega)).trans x5; replace xf0 := (hv1.frozens _ _ (by omega)).trans xf0; replace xf1 := (hv1.frozens _ _ (by omega)).trans xf1; replace xf2 := (hv1.frozens _ _ (by omega)).trans xf2; replace xf3 := (hv1.frozens _ _ (by omega)).trans xf3; replace xf4 := (hv1.frozens _ _ (by omega)).trans xf4; replace xf5 := (hv1.frozens _ _ (by omega)).trans xf5; replace r0 := (hv1.cells _ _ (by omega)).trans r0; replace r1 := (hv1.cells _ _ (by omega)).trans r1; replace r2 := (hv1.cells _ _ (by omega)).trans r2; replace r3 := (hv1.cells _ _ (by omega)).trans r3; replace r4 := (hv1.cells _ _ (by omega)).trans r4; replace rf0 := (hv1.frozens _ _ (by omega)).trans rf0; replace rf1 := (hv1.frozens _ _ (by omega)).trans rf1; replace rf2 := (hv1.frozens _ _ (by omega)).trans rf2; replace rf3 := (hv1.frozens _ _ (by omega)).trans rf3; replace rf4 := (hv1.frozens _ _ (by omega)).trans rf4)
  clear hv1 hbv z0 C0
  refine wp_region_noPanic ?_
  refine wp_region_held (S := fun X => Bel w X ∧ X.cell? ⟨w.heap.size, 0, none⟩ = some (.int .i64 1) ∧ X.cell? ⟨w.heap.size, 1, none⟩ = some (.int .i64 sc) ∧ X.cell? ⟨w.heap.size, 2, none⟩ = some (.bool any) ∧ X.cell? ⟨w.heap.size, 3, none⟩ = some (.bool not) ∧ X.cell? ⟨w.heap.size, 4, none⟩ = some (.slice A l.length c)) (by kernel_rfl) ?_
  have hX0 : Bel W { W with drawn := W.drawn + 1 } := (Bel.refl W).drew
  generalize { W with drawn := W.drawn + 1 } = X0 at hX0 ⊢
  replace m0 := (hX0.cells _ _ (by omega)).trans m0; replace m1 := (hX0.cells _ _ (by omega)).trans m1; replace m2 := (hX0.cells _ _ (by omega)).trans m2; replace m3 := (hX0.cells _ _ (by omega)).trans m3; replace m4 := (hX0.cells _ _ (by omega)).trans m4; replace x0 := (hX0.cells _ _ (by omega)).trans x0; replace x1 := (hX0.cells _ _ (by omega)).trans x1; replace x2 := (hX0.cells _ _ (by omega)).trans x2; replace x3 := (hX0.cells _ _ (by omega)).trans x3; replace x4 := (hX0.cells _ _ (by omega)).trans x4; replace x5 := (hX0.cells _ _ (by omega)).trans x5; replace xf0 := (hX0.frozens _ _ (by omega)).trans xf0; replace xf1 := (hX0.frozens _ _ (by omega)).trans xf1; replace xf2 := (hX0.frozens _ _ (by omega)).trans xf2; replace xf3 := (hX0.frozens _ _ (by omega)).trans xf3; replace xf4 := (hX0.frozens _ _ (by omega)).trans xf4; replace xf5 := (hX0.frozens _ _ (by omega)).trans xf5; replace r0 := (hX0.cells _ _ (by omega)).trans r0; replace r1 := (hX0.cells _ _ (by omega)).trans r1; replace r2 := (hX0.cells _ _ (by omega)).trans r2; replace r3 := (hX0.cells _ _ (by omega)).trans r3; replace r4 := (hX0.cells _ _ (by omega)).trans r4; replace rf0 := (hX0.frozens _ _ (by omega)).trans rf0; replace rf1 := (hX0.frozens _ _ (by omega)).trans rf1; replace rf2 := (hX0.frozens _ _ (by omega)).trans rf2; replace rf3 := (hX0.frozens _ _ (by omega)).trans rf3; replace rf4 := (hX0.frozens _ _ (by omega)).trans rf4
  have zX0 : w.heap.size + 3 ≤ X0.heap.size := Nat.le_trans zW hX0.size
  have hb0 := hb.trans hX0
  refine wpAnyH_take (i := 0) (oi := { dst := some 18, op := Op.load 26 (Operand.tmp 2), type := 26, pos := "sets.go:117", after := #[], guard := none }) (v := (tyv 1 sc any not (.slice A l.length c))) rfl (by kernel_rfl) (by kernel_rfl) (by kernel_rfl) (fun _ _ _ h => h) (.inl ⟨by rfl, fun X hS => by
      obtain ⟨_, k0, k1, k2, k3, k4⟩ := hS
      go_simp; first | done | with_reducible rfl | rfl⟩) ⟨hb0, m0, m1, m2, m3, m4⟩ ?_
  (try simp only [Act.put, List.setIfInBounds_toArray, List.set_cons_zero, List.set_cons_succ])
  refine wpAnyH_all (rs := [1, 2]) (by kernel_rfl) (by simp) ?_
  intro i hi
  simp only [List.mem_cons, List.not_mem_nil, or_false] at hi
  rcases hi with rfl | rfl
  · refine wpOp_enter (o := { dst := some 19, op := Op.call { callee := Callee.value (Operand.func 36), args := #[Operand.tmp 18], argTypes := #[26] }, type := 39, pos := "sets.go:117", after := #[{ on := 0, ground := Ground.data }], guard := none }) (R := fun v w' => ∃ o B1 d1 B2 d2, v = (⟨1, o, false, [], 0, true⟩ : St).val B1 d1 B2 d2 ∧ SpP X0.heap.size w' B1 d1 o ∧ ((∀ s ∈ o, Rng s) ∧ (∀ n, SMem o n ↔ MemH 1 sc any not l n) ∧ o.length ≤ l.length + 1) ∧ Bel X0 w') rfl (by rfl) (by go_simp; first | done | with_reducible rfl | rfl) ((C1.out X0 hb0).mono fun e w' ⟨o, ⟨B1, d1, B2, d2, h1, h2, h3, h4⟩, _, h5, h6, h7⟩ => ⟨_, h1, o, B1, d1, B2, d2, rfl, h2, ⟨h5, h6, h7⟩, h4⟩) ?_
    rintro v X1 ⟨o, B1, d1, B2, d2, rfl, S1, HO, hb'⟩
    replace m0 := (hb'.cells _ _ (by omega)).trans m0; replace m1 := (hb'.cells _ _ (by omega)).trans m1; replace m2 := (hb'.cells _ _ (by omega)).trans m2; replace m3 := (hb'.cells _ _ (by omega)).trans m3; replace m4 := (hb'.cells _ _ (by omega)).trans m4; replace x0 := (hb'.cells _ _ (by omega)).trans x0; replace x1 := (hb'.cells _ _ (by omega)).trans x1; replace x2 := (hb'.cells _ _ (by omega)).trans x2; replace x3 := (hb'.cells _ _ (by omega)).trans x3; replace x4 := (hb'.cells _ _ (by omega)).trans x4; replace x5 := (hb'.cells _ _ (by omega)).trans x5; replace xf0 := (hb'.frozens _ _ (by omega)).trans xf0; replace xf1 := (hb'.frozens _ _ (by omega)).trans xf1; replace xf2 := (hb'.frozens _ _ (by omega)).trans xf2; replace xf3 := (hb'.frozens _ _ (by omega)).trans xf3; replace xf4 := (hb'.frozens _ _ (by omega)).trans xf4; replace xf5 := (hb'.frozens _ _ (by omega)).trans xf5; replace r0 := (hb'.cells _ _ (by omega)).trans r0; replace r1 := (hb'.cells _ _ (by omega)).trans r1; replace r2 := (hb'.cells _ _ (by omega)).trans r2; replace r3 := (hb'.cells _ _ (by omega)).trans r3; replace r4 := (hb'.cells _ _ (by omega)).trans r4; replace rf0 := (hb'.frozens _ _ (by omega)).trans rf0; replace rf1 := (hb'.frozens _ _ (by omega)).trans rf1; replace rf2 := (hb'.frozens _ _ (by omega)).trans rf2; replace rf3 := (hb'.frozens _ _ (by omega)).trans rf3; replace rf4 := (hb'.frozens _ _ (by omega)).trans rf4
    have zX1 : w.heap.size + 3 ≤ X1.heap.size := Nat.le_trans zX0 hb'.size
    have hb1 := hb0.trans hb'
    clear hb'
    refine ⟨⟨hb1, m0, m1, m2, m3, m4⟩, ?_⟩
    (try simp only [Act.put, List.setIfInBounds_toArray, List.set_cons_zero, List.set_cons_succ])
    refine wpAnyH_all (rs := [2]) (by kernel_rfl) (by simp) ?_
    intro i hi
    simp only [List.mem_cons, List.not_mem_nil, or_false] at hi
    subst hi
    refine wpOp_value (o := { dst := some 20, op := Op.load 39 (Operand.tmp 3), type := 39, pos := "sets.go:117", after := #[], guard := none }) (v := ((⟨1, p, false, [], 0, nu⟩ : St).val A1 c1 A2 c2)) (w' := X1) rfl (by rfl) (by go_simp; first | done | with_reducible rfl | rfl) ?_
    refine ⟨⟨hb1, m0, m1, m2, m3, m4⟩, ?_⟩
    (try simp only [Act.put, List.setIfInBounds_toArray, List.set_cons_zero, List.set_cons_succ])
    refine wpAnyH_all (rs := [3]) (by kernel_rfl) (by simp) ?_
    intro i hi
    simp only [List.mem_cons, List.not_mem_nil, or_false] at hi
    subst hi
    refine wpOp_enter (o := { dst := some 21, op := Op.call { callee := Callee.value (Operand.func 35), args := #[Operand.tmp 19, Operand.tmp 20], argTypes := #[39, 39] }, type := 39, pos := "sets.go:117", after := #[{ on := 1, ground := Ground.data }, { on := 2, ground := Ground.data }, { on := 1, ground := Ground.chain }], guard := none }) (R := fun v w' => ∃ q A5 c5 A6 c6, v = (⟨1, q, false, [], 0, true && nu⟩ : St).val A5 c5 A6 c6 ∧ SpP X1.heap.size w' A5 c5 q ∧ (Ord q ∧ (∀ s ∈ q, Rng s) ∧ (∀ n, SMem q n ↔ SMem o n ∧ SMem p n) ∧ q.length ≤ o.length + p.length) ∧ StP X1.heap.size w' A6 c6 [] ∧ Bel X1 w') rfl (by rfl) (by go_simp; first | done | with_reducible rfl | rfl) ((C3.out X1 B1 d1 B2 d2 o true hb1 S1.sl HO.2.2 HO.1).mono fun e w' ⟨q, ⟨A5, c5, A6, c6, h1, h2, h3, h4⟩, h5⟩ => ⟨_, h1, q, A5, c5, A6, c6, rfl, h2, h5, h3, h4⟩) ?_
    rintro v X2 ⟨q, A5, c5, A6, c6, rfl, S3, HQ, T3, hb'⟩
    replace m0 := (hb'.cells _ _ (by omega)).trans m0; replace m1 := (hb'.cells _ _ (by omega)).trans m1; replace m2 := (hb'.cells _ _ (by omega)).trans m2; replace m3 := (hb'.cells _ _ (by omega)).trans m3; replace m4 := (hb'.cells _ _ (by omega)).trans m4; replace x0 := (hb'.cells _ _ (by omega)).trans x0; replace x1 := (hb'.cells _ _ (by omega)).trans x1; replace x2 := (hb'.cells _ _ (by omega)).trans x2; replace x3 := (hb'.cells _ _ (by omega)).trans x3; replace x4 := (hb'.cells _ _ (by omega)).trans x4; replace x5 := (hb'.cells _ _ (by omega)).trans x5; replace xf0 := (hb'.frozens _ _ (by omega)).trans xf0; replace xf1 := (hb'.frozens _ _ (by omega)).trans xf1; replace xf2 := (hb'.frozens _ _ (by omega)).trans xf2; replace xf3 := (hb'.frozens _ _ (by omega)).trans xf3; replace xf4 := (hb'.frozens _ _ (by omega)).trans xf4; replace xf5 := (hb'.frozens _ _ (by omega)).trans xf5; replace r0 := (hb'.cells _ _ (by omega)).trans r0; replace r1 := (hb'.cells _ _ (by omega)).trans r1; replace r2 := (hb'.cells _ _ (by omega)).trans r2; replace r3 := (hb'.cells _ _ (by omega)).trans r3; replace r4 := (hb'.cells _ _ (by omega)).trans r4; replace rf0 := (hb'.frozens _ _ (by omega)).trans rf0; replace rf1 := (hb'.frozens _ _ (by omega)).trans rf1; replace rf2 := (hb'.frozens _ _ (by omega)).trans rf2; replace rf3 := (hb'.frozens _ _ (by omega)).trans rf3; replace rf4 := (hb'.frozens _ _ (by omega)).trans rf4
    have zX2 : w.heap.size + 3 ≤ X2.heap.size := Nat.le_trans zX1 hb'.size
    have hb2 := hb1.trans hb'
    clear hb'
    refine ⟨⟨hb2, m0, m1, m2, m3, m4⟩, ?_⟩
    (try simp only [Act.put, List.setIfInBounds_toArray, List.set_cons_zero, List.set_cons_succ])
    refine wpAnyH_all (rs := [4]) (by kernel_rfl) (by simp) ?_
    intro i hi
    simp only [List.mem_cons, List.not_mem_nil, or_false] at hi
    subst hi
    refine wpOp_skip (o := { dst := none, op := Op.store 39 (Operand.tmp 3) (Operand.tmp 21), type := 0, pos := "sets.go:117", after := #[{ on := 3, ground := Ground.data }, { on := 3, ground := Ground.chain }, { on := 0, ground := Ground.phase }, { on := 1, ground := Ground.phase }, { on := 2, ground := Ground.phase }, { on := 3, ground := Ground.phase }], guard := none }) (w' := ((((((X2.setCell ⟨w.heap.size + 1, 0, none⟩ (.int .i64 1)).setCell ⟨w.heap.size + 1, 1, none⟩ (.slice A5 q.length c5)).setCell ⟨w.heap.size + 1, 2, none⟩ (.bool false)).setCell ⟨w.heap.size + 1, 3, none⟩ (.slice A6 0 c6)).setCell ⟨w.heap.size + 1, 4, none⟩ (.int .i64 0)).setCell ⟨w.heap.size + 1, 5, none⟩ (.bool (true && nu)))) rfl (by rfl) (by go_simp; first | done | with_reducible rfl | rfl) ?_
    have hZ : Bel w ((((((X2.setCell ⟨w.heap.size + 1, 0, none⟩ (.int .i64 1)).setCell ⟨w.heap.size + 1, 1, none⟩ (.slice A5 q.length c5)).setCell ⟨w.heap.size + 1, 2, none⟩ (.bool false)).setCell ⟨w.heap.size + 1, 3, none⟩ (.slice A6 0 c6)).setCell ⟨w.heap.size + 1, 4, none⟩ (.int .i64 0)).setCell ⟨w.heap.size + 1, 5, none⟩ (.bool (true && nu))) := by
        (repeat (first | with_reducible exact Bel.refl _ | with_reducible refine Bel.setCell ?_ (by first | exact Nat.le_refl _ | (dsimp only; omega)) _ | with_reducible refine Bel.alloc ?_ _ | with_reducible refine Bel.drew ?_ | with_reducible assumption | with_reducible refine Bel.trans ?_ (by assumption)))
    replace m0 : World.cell? ((((((X2.setCell ⟨w.heap.size + 1, 0, none⟩ (.int .i64 1)).setCell ⟨w.heap.size + 1, 1, none⟩ (.slice A5 q.length c5)).setCell ⟨w.heap.size + 1, 2, none⟩ (.bool false)).setCell ⟨w.heap.size + 1, 3, none⟩ (.slice A6 0 c6)).setCell ⟨w.heap.size + 1, 4, none⟩ (.int .i64 0)).setCell ⟨w.heap.size + 1, 5, none⟩ (.bool (true && nu))) ⟨w.heap.size, 0, none⟩ = some (.int .i64 1) := by simp [go_sem, m0]
    replace m1 : World.cell? ((((((X2.setCell ⟨w.heap.size + 1, 0, none⟩ (.int .i64 1)).setCell ⟨w.heap.size + 1, 1, none⟩ (.slice A5 q.length c5)).setCell ⟨w.heap.size + 1, 2, none⟩ (.bool false)).setCell ⟨w.heap.size + 1, 3, none⟩ (.slice A6 0 c6)).setCell ⟨w.heap.size + 1, 4, none⟩ (.int .i64 0)).setCell ⟨w.heap.size + 1, 5, none⟩ (.bool (true && nu))) ⟨w.heap.size, 1, none⟩ = some (.int .i64 sc) := by simp [go_sem, m1]
    replace m2 : World.cell? ((((((X2.setCell ⟨w.heap.size + 1, 0, none⟩ (.int .i64 1)).setCell ⟨w.heap.size + 1, 1, none⟩ (.slice A5 q.length c5)).setCell ⟨w.heap.size + 1, 2, none⟩ (.bool false)).setCell ⟨w.heap.size + 1, 3, none⟩ (.slice A6 0 c6)).setCell ⟨w.heap.size + 1, 4, none⟩ (.int .i64 0)).setCell ⟨w.heap.size + 1, 5, none⟩ (.bool (true && nu))) ⟨w.heap.size, 2, none⟩ = some (.bool any) := by simp [go_sem, m2]
    replace m3 : World.cell? ((((((X2.setCell ⟨w.heap.size + 1, 0, none⟩ (.int .i64 1)).setCell ⟨w.heap.size + 1, 1, none⟩ (.slice A5 q.length c5)).setCell ⟨w.heap.size + 1, 2, none⟩ (.bool false)).setCell ⟨w.heap.size + 1, 3, none⟩ (.slice A6 0 c6)).setCell ⟨w.heap.size + 1, 4, none⟩ (.int .i64 0)).setCell ⟨w.heap.size + 1, 5, none⟩ (.bool (true && nu))) ⟨w.heap.size, 3, none⟩ = some (.bool not) := by simp [go_sem, m3]
    replace m4 : World.cell? ((((((X2.setCell ⟨w.heap.size + 1, 0, none⟩ (.int .i64 1)).setCell ⟨w.heap.size + 1, 1, none⟩ (.slice A5 q.length c5)).setCell ⟨w.heap.size + 1, 2, none⟩ (.bool false)).setCell ⟨w.heap.size + 1, 3, none⟩ (.slice A6 0 c6)).setCell ⟨w.heap.size + 1, 4, none⟩ (.int .i64 0)).setCell ⟨w.heap.size + 1, 5, none⟩ (.bool (true && nu))) ⟨w.heap.size, 4, none⟩ = some (.slice A l.length c) := by simp [go_sem, m4]
    have t0 : World.cell? ((((((X2.setCell ⟨w.heap.size + 1, 0, none⟩ (.int .i64 1)).setCell ⟨w.heap.size + 1, 1, none⟩ (.slice A5 q.length c5)).setCell ⟨w.heap.size + 1, 2, none⟩ (.bool false)).setCell ⟨w.heap.size + 1, 3, none⟩ (.slice A6 0 c6)).setCell ⟨w.heap.size + 1, 4, none⟩ (.int .i64 0)).setCell ⟨w.heap.size + 1, 5, none⟩ (.bool (true && nu))) ⟨w.heap.size + 1, 0, none⟩ = some (.int .i64 1) := by simp [go_sem, x0, x1, x2, x3, x4, x5]
    have t1 : World.cell? ((((((X2.setCell ⟨w.heap.size + 1, 0, none⟩ (.int .i64 1)).setCell ⟨w.heap.size + 1, 1, none⟩ (.slice A5 q.length c5)).setCell ⟨w.heap.size + 1, 2, none⟩ (.bool false)).setCell ⟨w.heap.size + 1, 3, none⟩ (.slice A6 0 c6)).setCell ⟨w.heap.size + 1, 4, none⟩ (.int .i64 0)).setCell ⟨w.heap.size + 1, 5, none⟩ (.bool (true && nu))) ⟨w.heap.size + 1, 1, none⟩ = some (.slice A5 q.length c5) := by simp [go_sem, x0, x1, x2, x3, x4, x5]
    have t2 : World.cell? ((((((X2.setCell ⟨w.heap.size + 1, 0, none⟩ (.int .i64 1)).setCell ⟨w.heap.size + 1, 1, none⟩ (.slice A5 q.length c5)).setCell ⟨w.heap.size + 1, 2, none⟩ (.bool false)).setCell ⟨w.heap.size + 1, 3, none⟩ (.slice A6 0 c6)).setCell ⟨w.heap.size + 1, 4, none⟩ (.int .i64 0)).setCell ⟨w.heap.size + 1, 5, none⟩ (.bool (true && nu))) ⟨w.heap.size + 1, 2, none⟩ = some (.bool false) := by simp [go_sem, x0, x1, x2, x3, x4, x5]
    have t3 : World.cell? ((((((X2.setCell ⟨w.heap.size + 1, 0, none⟩ (.int .i64 1)).setCell ⟨w.heap.size + 1, 1, none⟩ (.slice A5 q.length c5)).setCell ⟨w.heap.size + 1, 2, none⟩ (.bool false)).setCell ⟨w.heap.size + 1, 3, none⟩ (.slice A6 0 c6)).setCell ⟨w.heap.size + 1, 4, none⟩ (.int .i64 0)).setCell ⟨w.heap.size + 1, 5, none⟩ (.bool (true && nu))) ⟨w.heap.size + 1, 3, none⟩ = some (.slice A6 0 c6) := by simp [go_sem, x0, x1, x2, x3, x4, x5]
    have t4 : World.cell? ((((((X2.setCell ⟨w.heap.size + 1, 0, none⟩ (.int .i64 1)).setCell ⟨w.heap.size + 1, 1, none⟩ (.slice A5 q.length c5)).setCell ⟨w.heap.size + 1, 2, none⟩ (.bool false)).setCell ⟨w.heap.size + 1, 3, none⟩ (.slice A6 0 c6)).setCell ⟨w.heap.size + 1, 4, none⟩ (.int .i64 0)).setCell ⟨w.heap.size + 1, 5, none⟩ (.bool (true && nu))) ⟨w.heap.size + 1, 4, none⟩ = some (.int .i64 0) := by simp [go_sem, x0, x1, x2, x3, x4, x5]
    have t5 : World.cell? ((((((X2.setCell ⟨w.heap.size + 1, 0, none⟩ (.int .i64 1)).setCell ⟨w.heap.size + 1, 1, none⟩ (.slice A5 q.length c5)).setCell ⟨w.heap.size + 1, 2, none⟩ (.bool false)).setCell ⟨w.heap.size + 1, 3, none⟩ (.slice A6 0 c6)).setCell ⟨w.heap.size + 1, 4, none⟩ (.int .i64 0)).setCell ⟨w.heap.size + 1, 5, none⟩ (.bool (true && nu))) ⟨w.heap.size + 1, 5, none⟩ = some (.bool (true && nu)) := by simp [go_sem, x0, x1, x2, x3, x4, x5]
    replace r0 : World.cell? ((((((X2.setCell ⟨w.heap.size + 1, 0, none⟩ (.int .i64 1)).setCell ⟨w.heap.size + 1, 1, none⟩ (.slice A5 q.length c5)).setCell ⟨w.heap.size + 1, 2, none⟩ (.bool false)).setCell ⟨w.heap.size + 1, 3, none⟩ (.slice A6 0 c6)).setCell ⟨w.heap.size + 1, 4, none⟩ (.int .i64 0)).setCell ⟨w.heap.size + 1, 5, none⟩ (.bool (true && nu))) ⟨w.heap.size + 2, 0, none⟩ = some (.int .i64 0) := by simp [go_sem, r0]
    replace r1 : World.cell? ((((((X2.setCell ⟨w.heap.size + 1, 0, none⟩ (.int .i64 1)).setCell ⟨w.heap.size + 1, 1, none⟩ (.slice A5 q.length c5)).setCell ⟨w.heap.size + 1, 2, none⟩ (.bool false)).setCell ⟨w.heap.size + 1, 3, none⟩ (.slice A6 0 c6)).setCell ⟨w.heap.size + 1, 4, none⟩ (.int .i64 0)).setCell ⟨w.heap.size + 1, 5, none⟩ (.bool (true && nu))) ⟨w.heap.size + 2, 1, none⟩ = some (.int .i64 0) := by simp [go_sem, r1]
    replace r2 : World.cell? ((((((X2.setCell ⟨w.heap.size + 1, 0, none⟩ (.int .i64 1)).setCell ⟨w.heap.size + 1, 1, none⟩ (.slice A5 q.length c5)).setCell ⟨w.heap.size + 1, 2, none⟩ (.bool false)).setCell ⟨w.heap.size + 1, 3, none⟩ (.slice A6 0 c6)).setCell ⟨w.heap.size + 1, 4, none⟩ (.int .i64 0)).setCell ⟨w.heap.size + 1, 5, none⟩ (.bool (true && nu))) ⟨w.heap.size + 2, 2, none⟩ = some (.int .i64 0) := by simp [go_sem, r2]
    replace r3 : World.cell? ((((((X2.setCell ⟨w.heap.size + 1, 0, none⟩ (.int .i64 1)).setCell ⟨w.heap.size + 1, 1, none⟩ (.slice A5 q.length c5)).setCell ⟨w.heap.size + 1, 2, none⟩ (.bool false)).setCell ⟨w.heap.size + 1, 3, none⟩ (.slice A6 0 c6)).setCell ⟨w.heap.size + 1, 4, none⟩ (.int .i64 0)).setCell ⟨w.heap.size + 1, 5, none⟩ (.bool (true && nu))) ⟨w.heap.size + 2, 3, none⟩ = some (.string ⟨#[]⟩) := by simp [go_sem, r3]
    replace r4 : World.cell? ((((((X2.setCell ⟨w.heap.size + 1, 0, none⟩ (.int .i64 1)).setCell ⟨w.heap.size + 1, 1, none⟩ (.slice A5 q.length c5)).setCell ⟨w.heap.size + 1, 2, none⟩ (.bool false)).setCell ⟨w.heap.size + 1, 3, none⟩ (.slice A6 0 c6)).setCell ⟨w.heap.size + 1, 4, none⟩ (.int .i64 0)).setCell ⟨w.heap.size + 1, 5, none⟩ (.bool (true && nu))) ⟨w.heap.size + 2, 4, none⟩ = some (.int .i64 0) := by simp [go_sem, r4]
    replace rf0 : World.frozen? ((((((X2.setCell ⟨w.heap.size + 1, 0, none⟩ (.int .i64 1)).setCell ⟨w.heap.size + 1, 1, none⟩ (.slice A5 q.length c5)).setCell ⟨w.heap.size + 1, 2, none⟩ (.bool false)).setCell ⟨w.heap.size + 1, 3, none⟩ (.slice A6 0 c6)).setCell ⟨w.heap.size + 1, 4, none⟩ (.int .i64 0)).setCell ⟨w.heap.size + 1, 5, none⟩ (.bool (true && nu))) ⟨w.heap.size + 2, 0, none⟩ = false := by simp [go_sem, rf0]
    replace rf1 : World.frozen? ((((((X2.setCell ⟨w.heap.size + 1, 0, none⟩ (.int .i64 1)).setCell ⟨w.heap.size + 1, 1, none⟩ (.slice A5 q.length c5)).setCell ⟨w.heap.size + 1, 2, none⟩ (.bool false)).setCell ⟨w.heap.size + 1, 3, none⟩ (.slice A6 0 c6)).setCell ⟨w.heap.size + 1, 4, none⟩ (.int .i64 0)).setCell ⟨w.heap.size + 1, 5, none⟩ (.bool (true && nu))) ⟨w.heap.size + 2, 1, none⟩ = false := by simp [go_sem, rf1]
    replace rf2 : World.frozen? ((((((X2.setCell ⟨w.heap.size + 1, 0, none⟩ (.int .i64 1)).setCell ⟨w.heap.size + 1, 1, none⟩ (.slice A5 q.length c5)).setCell ⟨w.heap.size + 1, 2, none⟩ (.bool false)).setCell ⟨w.heap.size + 1, 3, none⟩ (.slice A6 0 c6)).setCell ⟨w.heap.size + 1, 4, none⟩ (.int .i64 0)).setCell ⟨w.heap.size + 1, 5, none⟩ (.bool (true && nu))) ⟨w.heap.size + 2, 2, none⟩ = false := by simp [go_sem, rf2]
    replace rf3 : World.frozen? ((((((X2.setCell ⟨w.heap.size + 1, 0, none⟩ (.int .i64 1)).setCell ⟨w.heap.size + 1, 1, none⟩ (.slice A5 q.length c5)).setCell ⟨w.heap.size + 1, 2, none⟩ (.bool false)).setCell ⟨w.heap.size + 1, 3, none⟩ (.slice A6 0 c6)).setCell ⟨w.heap.size + 1, 4, none⟩ (.int .i64 0)).setCell ⟨w.heap.size + 1, 5, none⟩ (.bool (true && nu))) ⟨w.heap.size + 2, 3, none⟩ = false := by simp [go_sem, rf3]
    replace rf4 : World.frozen? ((((((X2.setCell ⟨w.heap.size + 1, 0, none⟩ (.int .i64 1)).setCell ⟨w.heap.size + 1, 1, none⟩ (.slice A5 q.length c5)).setCell ⟨w.heap.size + 1, 2, none⟩ (.bool false)).setCell ⟨w.heap.size + 1, 3, none⟩ (.slice A6 0 c6)).setCell ⟨w.heap.size + 1, 4, none⟩ (.int .i64 0)).setCell ⟨w.heap.size + 1, 5, none⟩ (.bool (true && nu))) ⟨w.heap.size + 2, 4, none⟩ = false := by simp [go_sem, rf4]
    replace S3 : SpP (w.heap.size + 3) ((((((X2.setCell ⟨w.heap.size + 1, 0, none⟩ (.int .i64 1)).setCell ⟨w.heap.size + 1, 1, none⟩ (.slice A5 q.length c5)).setCell ⟨w.heap.size + 1, 2, none⟩ (.bool false)).setCell ⟨w.heap.size + 1, 3, none⟩ (.slice A6 0 c6)).setCell ⟨w.heap.size + 1, 4, none⟩ (.int .i64 0)).setCell ⟨w.heap.size + 1, 5, none⟩ (.bool (true && nu))) A5 c5 q := SpP.other (SpP.low S3 zX1) (by simp) fun k o hk => by
        have n1 : ¬ w.heap.size + 1 = k := by omega
        simp [go_sem, n1]
    have zX4 : w.heap.size + 3 ≤ ((((((X2.setCell ⟨w.heap.size + 1, 0, none⟩ (.int .i64 1)).setCell ⟨w.heap.size + 1, 1, none⟩ (.slice A5 q.length c5)).setCell ⟨w.heap.size + 1, 2, none⟩ (.bool false)).setCell ⟨w.heap.size + 1, 3, none⟩ (.slice A6 0 c6)).setCell ⟨w.heap.size + 1, 4, none⟩ (.int .i64 0)).setCell ⟨w.heap.size + 1, 5, none⟩ (.bool (true && nu))).heap.size := by simpa using zX2
    refine ⟨⟨hZ, m0, m1, m2, m3, m4⟩, ?_⟩
    (try simp only [Act.put, List.setIfInBounds_toArray, List.set_cons_zero, List.set_cons_succ])
    generalize ((((((X2.setCell ⟨w.heap.size + 1, 0, none⟩ (.int .i64 1)).setCell ⟨w.heap.size + 1, 1, none⟩ (.slice A5 q.length c5)).setCell ⟨w.heap.size + 1, 2, none⟩ (.bool false)).setCell ⟨w.heap.size + 1, 3, none⟩ (.slice A6 0 c6)).setCell ⟨w.heap.size + 1, 4, none⟩ (.int .i64 0)).setCell ⟨w.heap.size + 1, 5, none⟩ (.bool (true && nu))) = X4 at hZ zX4 t0 t1 t2 t3 t4 t5 S3 m0 m1 m2 m3 m4 r0 r1 r2 r3 r4 rf0 rf1 rf2 rf3 rf4 ⊢
    refine wpAnyH_done (by kernel_rfl) ?_ _
    refine NoPanic.normal ?_
    have HN := Lib.hid (HX.out.1 q HQ.1 fun n => (HQ.2.2.1 n).trans (and_congr (HO.2.1 n) Iff.rfl))
    have hql : q.length ≤ 1000 := by have := HQ.2.2.2; have := HO.2.2; have := HL.out.1; have := HL.out.2; omega
    have EM := Lib.hid fun W (hW : Bel X4 W) => (show Calls Tryz.prog 24 #[(⟨1, q, false, [], 0, true && nu⟩ : St).val A5 c5 A6 c6] W fun e w' => e = .returned (.bool false) ∧ Bel W w' from (emptyN_any 1 q (true && nu) A5 c5 A6 c6 W (.inl rfl) (S3.sl.keep hW) hql HQ.2.1).mono fun e w' ⟨b, h1, h2, h3⟩ => by
      cases b with
      | false => exact ⟨h1, h3⟩
      | true => exact absurd (h2.1 rfl).2 HN.out.2)
    have PK := Lib.hid fun W (hW : Bel X4 W) => pick1S_any sc any not A l.length c q (true && nu) A5 c5 A6 c6 W (S3.sl.keep hW) hql HQ.2.1 x a b er HN.out.1 HX.out.2
    generalize (true && nu) = nu' at EM PK t5
    clear HN hql S3 T3 HQ HO S1 HL C1 C3 HX hb0 hb1 hb2 hb zW zX0 zX1 zX2 hX0 x0 x1 x2 x3 x4 x5 xf0 xf1 xf2 xf3 xf4 xf5
    go_upto_region 9 with (first
      | (go_at_call 24; (with_reducible refine Calls.mono (EM.out _ (Bel.refl X4)) ?_); rintro e Y1 ⟨rfl, hy1⟩; have zy1 : w.heap.size + 3 ≤ Y1.heap.size := (Nat.le_trans zX4 hy1.size); replace m0 := (hy1.cells _ _ (by omega)).trans m0; replace m1 := (hy1.cells _ _ (by omega)).trans m1; replace m2 := (hy1.cells _ _ (by omega)).trans m2; replace m3 := (hy1.cells _ _ (by omega)).trans m3; replace m4 := (hy1.cells _ _ (by omega)).trans m4; replace t0 := (hy1.cells _ _ (by omega)).trans t0; replace t1 := (hy1.cells _ _ (by omega)).trans t1; replace t2 := (hy1.cells _ _ (by omega)).trans t2; replace t3 := (hy1.cells _ _ (by omega)).trans t3; replace t4 := (hy1.cells _ _ (by omega)).trans t4; replace t5 := (hy1.cells _ _ (by omega)).trans t5; replace r0 := (hy1.cells _ _ (by omega)).trans r0; replace r1 := (hy1.cells _ _ (by omega)).trans r1; replace r2 := (hy1.cells _ _ (by omega)).trans r2; replace r3 := (hy1.cells _ _ (by omega)).trans r3; replace r4 := (hy1.cells _ _ (by omega)).trans r4; replace rf0 := (hy1.frozens _ _ (by omega)).trans rf0; replace rf1 := (hy1.frozens _ _ (by omega)).trans rf1; replace rf2 := (hy1.frozens _ _ (by omega)).trans rf2; replace rf3 := (hy1.frozens _ _ (by omega)).trans rf3; replace rf4 := (hy1.frozens _ _ (by omega)).trans rf4)
      | (go_at_call 46; (with_reducible refine Calls.mono (PK.out _ hy1) ?_); rintro e Y2 ⟨rfl, hy2⟩; have zy2 : w.heap.size + 3 ≤ Y2.heap.size := (Nat.le_trans zy1 hy2.size); have lt3 : w.heap.size + 2 < Y2.heap.size := (by omega); replace r0 := (hy2.cells _ _ (by omega)).trans r0; replace r1 := (hy2.cells _ _ (by omega)).trans r1; replace r2 := (hy2.cells _ _ (by omega)).trans r2; replace r3 := (hy2.cells _ _ (by omega)).trans r3; replace r4 := (hy2.cells _ _ (by omega)).trans r4; replace rf0 := (hy2.frozens _ _ (by omega)).trans rf0; replace rf1 := (hy2.frozens _ _ (by omega)).trans rf1; replace rf2 := (hy2.frozens _ _ (by omega)).trans rf2; replace rf3 := (hy2.frozens _ _ (by omega)).trans rf3; replace rf4 := (hy2.frozens _ _ (by omega)).trans rf4))
    refine under_name (w0 := Y2) (by (repeat (first | with_reducible exact Bel.refl _ | with_reducible refine Bel.setCell ?_ (by first | exact Nat.le_refl _ | (dsimp only; omega)) _ | with_reducible refine Bel.alloc ?_ _ | with_reducible refine Bel.drew ?_ | with_reducible assumption | with_reducible refine Bel.trans ?_ (by assumption)))) fun Y hc hf hz hy => ?_
    have d0 : Y.cell? ⟨Y2.heap.size, 0, none⟩ = some (.int .i64 1) := by simp [hc, go_sem]
    have d1 : Y.cell? ⟨Y2.heap.size, 1, none⟩ = some (.int .i64 a) := by simp [hc, go_sem]
    have d2 : Y.cell? ⟨Y2.heap.size, 2, none⟩ = some (.int .i64 b) := by simp [hc, go_sem]
    have d3 : Y.cell? ⟨Y2.heap.size, 3, none⟩ = some (.string ⟨#[]⟩) := by simp [hc, go_sem]
    have d4 : Y.cell? ⟨Y2.heap.size, 4, none⟩ = some (.int .i64 0) := by simp [hc, go_sem]
    clear hc hf hz
    replace r0 := (hy.cells _ _ (by omega)).trans r0; replace r1 := (hy.cells _ _ (by omega)).trans r1; replace r2 := (hy.cells _ _ (by omega)).trans r2; replace r3 := (hy.cells _ _ (by omega)).trans r3; replace r4 := (hy.cells _ _ (by omega)).trans r4; replace rf0 := (hy.frozens _ _ (by omega)).trans rf0; replace rf1 := (hy.frozens _ _ (by omega)).trans rf1; replace rf2 := (hy.frozens _ _ (by omega)).trans rf2; replace rf3 := (hy.frozens _ _ (by omega)).trans rf3; replace rf4 := (hy.frozens _ _ (by omega)).trans rf4
    have hbE := ((hZ.trans hy1).trans hy2).trans hy
    clear m0 m1 m2 m3 m4 t0 t1 t2 t3 t4 t5 hy1 hy2 hy hZ EM PK lt3 zy1 zX4
    go_wp2_with fail
    refine bodyPost_ret (by simp [results, Tryz.results23, go_sem, r0, rf0, r1, rf1, r2, rf2, r3, rf3, r4, rf4]; try rfl) rfl ⟨rfl, ?_⟩
    (repeat (first | with_reducible exact Bel.refl _ | with_reducible refine Bel.setCell ?_ (by first | exact Nat.le_refl _ | (dsimp only; omega)) _ | with_reducible refine Bel.alloc ?_ _ | with_reducible refine Bel.drew ?_ | with_reducible assumption | with_reducible refine Bel.trans ?_ (by assumption)))
  · refine wpOp_value (o := { dst := some 20, op := Op.load 39 (Operand.tmp 3), type := 39, pos := "sets.go:117", after := #[], guard := none }) (v := ((⟨1, p, false, [], 0, nu⟩ : St).val A1 c1 A2 c2)) (w' := X0) rfl (by rfl) (by go_simp; first | done | with_reducible rfl | rfl) ?_
    refine ⟨⟨hb0, m0, m1, m2, m3, m4⟩, ?_⟩
    (try simp only [Act.put, List.setIfInBounds_toArray, List.set_cons_zero, List.set_cons_succ])
    refine wpAnyH_all (rs := [1]) (by kernel_rfl) (by simp) ?_
    intro i hi
    simp only [List.mem_cons, List.not_mem_nil, or_false] at hi
    subst hi
    refine wpOp_enter (o := { dst := some 19, op := Op.call { callee := Callee.value (Operand.func 36), args := #[Operand.tmp 18], argTypes := #[26] }, type := 39, pos := "sets.go:117", after := #[{ on := 0, ground := Ground.data }], guard := none }) (R := fun v w' => ∃ o B1 d1 B2 d2, v = (⟨1, o, false, [], 0, true⟩ : St).val B1 d1 B2 d2 ∧ SpP X0.heap.size w' B1 d1 o ∧ ((∀ s ∈ o, Rng s) ∧ (∀ n, SMem o n ↔ MemH 1 sc any not l n) ∧ o.length ≤ l.length + 1) ∧ Bel X0 w') rfl (by rfl) (by go_simp; first | done | with_reducible rfl | rfl) ((C1.out X0 hb0).mono fun e w' ⟨o, ⟨B1, d1, B2, d2, h1, h2, h3, h4⟩, _, h5, h6, h7⟩ => ⟨_, h1, o, B1, d1, B2, d2, rfl, h2, ⟨h5, h6, h7⟩, h4⟩) ?_
    rintro v X1 ⟨o, B1, d1, B2, d2, rfl, S1, HO, hb'⟩
    replace m0 := (hb'.cells _ _ (by omega)).trans m0; replace m1 := (hb'.cells _ _ (by omega)).trans m1; replace m2 := (hb'.cells _ _ (by omega)).trans m2; replace m3 := (hb'.cells _ _ (by omega)).trans m3; replace m4 := (hb'.cells _ _ (by omega)).trans m4; replace x0 := (hb'.cells _ _ (by omega)).trans x0; replace x1 := (hb'.cells _ _ (by omega)).trans x1; replace x2 := (hb'.cells _ _ (by omega)).trans x2; replace x3 := (hb'.cells _ _ (by omega)).trans x3; replace x4 := (hb'.cells _ _ (by omega)).trans x4; replace x5 := (hb'.cells _ _ (by omega)).trans x5; replace xf0 := (hb'.frozens _ _ (by omega)).trans xf0; replace xf1 := (hb'.frozens _ _ (by omega)).trans xf1; replace xf2 := (hb'.frozens _ _ (by omega)).trans xf2; replace xf3 := (hb'.frozens _ _ (by omega)).trans xf3; replace xf4 := (hb'.frozens _ _ (by omega)).trans xf4; replace xf5 := (hb'.frozens _ _ (by omega)).trans xf5; replace r0 := (hb'.cells _ _ (by omega)).trans r0; replace r1 := (hb'.cells _ _ (by omega)).trans r1; replace r2 := (hb'.cells _ _ (by omega)).trans r2; replace r3 := (hb'.cells _ _ (by omega)).trans r3; replace r4 := (hb'.cells _ _ (by omega)).trans r4; replace rf0 := (hb'.frozens _ _ (by omega)).trans rf0; replace rf1 := (hb'.frozens _ _ (by omega)).trans rf1; replace rf2 := (hb'.frozens _ _ (by omega)).trans rf2; replace rf3 := (hb'.frozens _ _ (by omega)).trans rf3; replace rf4 := (hb'.frozens _ _ (by omega)).trans rf4
    have zX1 : w.heap.size + 3 ≤ X1.heap.size := Nat.le_trans zX0 hb'.size
    have hb1 := hb0.trans hb'
    clear hb'
    refine ⟨⟨hb1, m0, m1, m2, m3, m4⟩, ?_⟩
    (try simp only [Act.put, List.setIfInBounds_toArray, List.set_cons_zero, List.set_cons_succ])
    refine wpAnyH_all (rs := [3]) (by kernel_rfl) (by simp) ?_
    intro i hi
    simp only [List.mem_cons, List.not_mem_nil, or_false] at hi
    subst hi
    refine wpOp_enter (o := { dst := some 21, op := Op.call { callee := Callee.value (Operand.func 35), args := #[Operand.tmp 19, Operand.tmp 20], argTypes := #[39, 39] }, type := 39, pos := "sets.go:117", after := #[{ on := 1, ground := Ground.data }, { on := 2, ground := Ground.data }, { on := 1, ground := Ground.chain }], guard := none }) (R := fun v w' => ∃ q A5 c5 A6 c6, v = (⟨1, q, false, [], 0, true && nu⟩ : St).val A5 c5 A6 c6 ∧ SpP X1.heap.size w' A5 c5 q ∧ (Ord q ∧ (∀ s ∈ q, Rng s) ∧ (∀ n, SMem q n ↔ SMem o n ∧ SMem p n) ∧ q.length ≤ o.length + p.length) ∧ StP X1.heap.size w' A6 c6 [] ∧ Bel X1 w') rfl (by rfl) (by go_simp; first | done | with_reducible rfl | rfl) ((C3.out X1 B1 d1 B2 d2 o true hb1 S1.sl HO.2.2 HO.1).mono fun e w' ⟨q, ⟨A5, c5, A6, c6, h1, h2, h3, h4⟩, h5⟩ => ⟨_, h1, q, A5, c5, A6, c6, rfl, h2, h5, h3, h4⟩) ?_
    rintro v X2 ⟨q, A5, c5, A6, c6, rfl, S3, HQ, T3, hb'⟩
    replace m0 := (hb'.cells _ _ (by omega)).trans m0; replace m1 := (hb'.cells _ _ (by omega)).trans m1; replace m2 := (hb'.cells _ _ (by omega)).trans m2; replace m3 := (hb'.cells _ _ (by omega)).trans m3; replace m4 := (hb'.cells _ _ (by omega)).trans m4; replace x0 := (hb'.cells _ _ (by omega)).trans x0; replace x1 := (hb'.cells _ _ (by omega)).trans x1; replace x2 := (hb'.cells _ _ (by omega)).trans x2; replace x3 := (hb'.cells _ _ (by omega)).trans x3; replace x4 := (hb'.cells _ _ (by omega)).trans x4; replace x5 := (hb'.cells _ _ (by omega)).trans x5; replace xf0 := (hb'.frozens _ _ (by omega)).trans xf0; replace xf1 := (hb'.frozens _ _ (by omega)).trans xf1; replace xf2 := (hb'.frozens _ _ (by omega)).trans xf2; replace xf3 := (hb'.frozens _ _ (by omega)).trans xf3; replace xf4 := (hb'.frozens _ _ (by omega)).trans xf4; replace xf5 := (hb'.frozens _ _ (by omega)).trans xf5; replace r0 := (hb'.cells _ _ (by omega)).trans r0; replace r1 := (hb'.cells _ _ (by omega)).trans r1; replace r2 := (hb'.cells _ _ (by omega)).trans r2; replace r3 := (hb'.cells _ _ (by omega)).trans r3; replace r4 := (hb'.cells _ _ (by omega)).trans r4; replace rf0 := (hb'.frozens _ _ (by omega)).trans rf0; replace rf1 := (hb'.frozens _ _ (by omega)).trans rf1; replace rf2 := (hb'.frozens _ _ (by omega)).trans rf2; replace rf3 := (hb'.frozens _ _ (by omega)).trans rf3; replace rf4 := (hb'.frozens _ _ (by omega)).trans rf4
    have zX2 : w.heap.size + 3 ≤ X2.heap.size := Nat.le_trans zX1 hb'.size
    have hb2 := hb1.trans hb'
    clear hb'
    refine ⟨⟨hb2, m0, m1, m2, m3, m4⟩, ?_⟩
    (try simp only [Act.put, List.setIfInBounds_toArray, List.set_cons_zero, List.set_cons_succ])
    refine wpAnyH_all (rs := [4]) (by kernel_rfl) (by simp) ?_
    intro i hi
    simp only [List.mem_cons, List.not_mem_nil, or_false] at hi
    subst hi
    refine wpOp_skip (o := { dst := none, op := Op.store 39 (Operand.tmp 3) (Operand.tmp 21), type := 0, pos := "sets.go:117", after := #[{ on := 3, ground := Ground.data }, { on := 3, ground := Ground.chain }, { on := 0, ground := Ground.phase }, { on := 1, ground := Ground.phase }, { on := 2, ground := Ground.phase }, { on := 3, ground := Ground.phase }], guard := none }) (w' := ((((((X2.setCell ⟨w.heap.size + 1, 0, none⟩ (.int .i64 1)).setCell ⟨w.heap.size + 1, 1, none⟩ (.slice A5 q.length c5)).setCell ⟨w.heap.size + 1, 2, none⟩ (.bool false)).setCell ⟨w.heap.size + 1, 3, none⟩ (.slice A6 0 c6)).setCell ⟨w.heap.size + 1, 4, none⟩ (.int .i64 0)).setCell ⟨w.heap.size + 1, 5, none⟩ (.bool (true && nu)))) rfl (by rfl) (by go_simp; first | done | with_reducible rfl | rfl) ?_
    have hZ : Bel w ((((((X2.setCell ⟨w.heap.size + 1, 0, none⟩ (.int .i64 1)).setCell ⟨w.heap.size + 1, 1, none⟩ (.slice A5 q.length c5)).setCell ⟨w.heap.size + 1, 2, none⟩ (.bool false)).setCell ⟨w.heap.size + 1, 3, none⟩ (.slice A6 0 c6)).setCell ⟨w.heap.size + 1, 4, none⟩ (.int .i64 0)).setCell ⟨w.heap.size + 1, 5, none⟩ (.bool (true && nu))) := by
        (repeat (first | with_reducible exact Bel.refl _ | with_reducible refine Bel.setCell ?_ (by first | exact Nat.le_refl _ | (dsimp only; omega)) _ | with_reducible refine Bel.alloc ?_ _ | with_reducible refine Bel.drew ?_ | with_reducible assumption | with_reducible refine Bel.trans ?_ (by assumption)))
    replace m0 : World.cell? ((((((X2.setCell ⟨w.heap.size + 1, 0, none⟩ (.int .i64 1)).setCell ⟨w.heap.size + 1, 1, none⟩ (.slice A5 q.length c5)).setCell ⟨w.heap.size + 1, 2, none⟩ (.bool false)).setCell ⟨w.heap.size + 1, 3, none⟩ (.slice A6 0 c6)).setCell ⟨w.heap.size + 1, 4, none⟩ (.int .i64 0)).setCell ⟨w.heap.size + 1, 5, none⟩ (.bool (true && nu))) ⟨w.heap.size, 0, none⟩ = some (.int .i64 1) := by simp [go_sem, m0]
    replace m1 : World.cell? ((((((X2.setCell ⟨w.heap.size + 1, 0, none⟩ (.int .i64 1)).setCell ⟨w.heap.size + 1, 1, none⟩ (.slice A5 q.length c5)).setCell ⟨w.heap.size + 1, 2, none⟩ (.bool false)).setCell ⟨w.heap.size + 1, 3, none⟩ (.slice A6 0 c6)).setCell ⟨w.heap.size + 1, 4, none⟩ (.int .i64 0)).setCell ⟨w.heap.size + 1, 5, none⟩ (.bool (true && nu))) ⟨w.heap.size, 1, none⟩ = some (.int .i64 sc) := by simp [go_sem, m1]
    replace m2 : World.cell? ((((((X2.setCell ⟨w.heap.size + 1, 0, none⟩ (.int .i64 1)).setCell ⟨w.heap.size + 1, 1, none⟩ (.slice A5 q.length c5)).setCell ⟨w.heap.size + 1, 2, none⟩ (.bool false)).setCell ⟨w.heap.size + 1, 3, none⟩ (.slice A6 0 c6)).setCell ⟨w.heap.size + 1, 4, none⟩ (.int .i64 0)).setCell ⟨w.heap.size + 1, 5, none⟩ (.bool (true && nu))) ⟨w.heap.size, 2, none⟩ = some (.bool any) := by simp [go_sem, m2]
    replace m3 : World.cell? ((((((X2.setCell ⟨w.heap.size + 1, 0, none⟩ (.int .i64 1)).setCell ⟨w.heap.size + 1, 1, none⟩ (.slice A5 q.length c5)).setCell ⟨w.heap.size + 1, 2, none⟩ (.bool false)).setCell ⟨w.heap.size + 1, 3, none⟩ (.slice A6 0 c6)).setCell ⟨w.heap.size + 1, 4, none⟩ (.int .i64 0)).setCell ⟨w.heap.size + 1, 5, none⟩ (.bool (true && nu))) ⟨w.heap.size, 3, none⟩ = some (.bool not) := by simp [go_sem, m3]
    replace m4 : World.cell? ((((((X2.setCell ⟨w.heap.size + 1, 0, none⟩ (.int .i64 1)).setCell ⟨w.heap.size + 1, 1, none⟩ (.slice A5 q.length c5)).setCell ⟨w.heap.size + 1, 2, none⟩ (.bool false)).setCell ⟨w.heap.size + 1, 3, none⟩ (.slice A6 0 c6)).setCell ⟨w.heap.size + 1, 4, none⟩ (.int .i64 0)).setCell ⟨w.heap.size + 1, 5, none⟩ (.bool (true && nu))) ⟨w.heap.size, 4, none⟩ = some (.slice A l.length c) := by simp [go_sem, m4]
    have t0 : World.cell? ((((((X2.setCell ⟨w.heap.size + 1, 0, none⟩ (.int .i64 1)).setCell ⟨w.heap.size + 1, 1, none⟩ (.slice A5 q.length c5)).setCell ⟨w.heap.size + 1, 2, none⟩ (.bool false)).setCell ⟨w.heap.size + 1, 3, none⟩ (.slice A6 0 c6)).setCell ⟨w.heap.size + 1, 4, none⟩ (.int .i64 0)).setCell ⟨w.heap.size + 1, 5, none⟩ (.bool (true && nu))) ⟨w.heap.size + 1, 0, none⟩ = some (.int .i64 1) := by simp [go_sem, x0, x1, x2, x3, x4, x5]
    have t1 : World.cell? ((((((X2.setCell ⟨w.heap.size + 1, 0, none⟩ (.int .i64 1)).setCell ⟨w.heap.size + 1, 1, none⟩ (.slice A5 q.length c5)).setCell ⟨w.heap.size + 1, 2, none⟩ (.bool false)).setCell ⟨w.heap.size + 1, 3, none⟩ (.slice A6 0 c6)).setCell ⟨w.heap.size + 1, 4, none⟩ (.int .i64 0)).setCell ⟨w.heap.size + 1, 5, none⟩ (.bool (true && nu))) ⟨w.heap.size + 1, 1, none⟩ = some (.slice A5 q.length c5) := by simp [go_sem, x0, x1, x2, x3, x4, x5]
    have t2 : World.cell? ((((((X2.setCell ⟨w.heap.size + 1, 0, none⟩ (.int .i64 1)).setCell ⟨w.heap.size + 1, 1, none⟩ (.slice A5 q.length c5)).setCell ⟨w.heap.size + 1, 2, none⟩ (.bool false)).setCell ⟨w.heap.size + 1, 3, none⟩ (.slice A6 0 c6)).setCell ⟨w.heap.size + 1, 4, none⟩ (.int .i64 0)).setCell ⟨w.heap.size + 1, 5, none⟩ (.bool (true && nu))) ⟨w.heap.size + 1, 2, none⟩ = some (.bool false) := by simp [go_sem, x0, x1, x2, x3, x4, x5]
    have t3 : World.cell? ((((((X2.setCell ⟨w.heap.size + 1, 0, none⟩ (.int .i64 1)).setCell ⟨w.heap.size + 1, 1, none⟩ (.slice A5 q.length c5)).setCell ⟨w.heap.size + 1, 2, none⟩ (.bool false)).setCell ⟨w.heap.size + 1, 3, none⟩ (.slice A6 0 c6)).setCell ⟨w.heap.size + 1, 4, none⟩ (.int .i64 0)).setCell ⟨w.heap.size + 1, 5, none⟩ (.bool (true && nu))) ⟨w.heap.size + 1, 3, none⟩ = some (.slice A6 0 c6) := by simp [go_sem, x0, x1, x2, x3, x4, x5]
    have t4 : World.cell? ((((((X2.setCell ⟨w.heap.size + 1, 0, none⟩ (.int .i64 1)).setCell ⟨w.heap.size + 1, 1, none⟩ (.slice A5 q.length c5)).setCell ⟨w.heap.size + 1, 2, none⟩ (.bool false)).setCell ⟨w.heap.size + 1, 3, none⟩ (.slice A6 0 c6)).setCell ⟨w.heap.size + 1, 4, none⟩ (.int .i64 0)).setCell ⟨w.heap.size + 1, 5, none⟩ (.bool (true && nu))) ⟨w.heap.size + 1, 4, none⟩ = some (.int .i64 0) := by simp [go_sem, x0, x1, x2, x3, x4, x5]
    have t5 : World.cell? ((((((X2.setCell ⟨w.heap.size + 1, 0, none⟩ (.int .i64 1)).setCell ⟨w.heap.size + 1, 1, none⟩ (.slice A5 q.length c5)).setCell ⟨w.heap.size + 1, 2, none⟩ (.bool false)).setCell ⟨w.heap.size + 1, 3, none⟩ (.slice A6 0 c6)).setCell ⟨w.heap.size + 1, 4, none⟩ (.int .i64 0)).setCell ⟨w.heap.size + 1, 5, none⟩ (.bool (true && nu))) ⟨w.heap.size + 1, 5, none⟩ = some (.bool (true && nu)) := by simp [go_sem, x0, x1, x2, x3, x4, x5]
    replace r0 : World.cell? ((((((X2.setCell ⟨w.heap.size + 1, 0, none⟩ (.int .i64 1)).setCell ⟨w.heap.size + 1, 1, none⟩ (.slice A5 q.length c5)).setCell ⟨w.heap.size + 1, 2, none⟩ (.bool false)).setCell ⟨w.heap.size + 1, 3, none⟩ (.slice A6 0 c6)).setCell ⟨w.heap.size + 1, 4, none⟩ (.int .i64 0)).setCell ⟨w.heap.size + 1, 5, none⟩ (.bool (true && nu))) ⟨w.heap.size + 2, 0, none⟩ = some (.int .i64 0) := by simp [go_sem, r0]
    replace r1 : World.cell? ((((((X2.setCell ⟨w.heap.size + 1, 0, none⟩ (.int .i64 1)).setCell ⟨w.heap.size + 1, 1, none⟩ (.slice A5 q.length c5)).setCell ⟨w.heap.size + 1, 2, none⟩ (.bool false)).setCell ⟨w.heap.size + 1, 3, none⟩ (.slice A6 0 c6)).setCell ⟨w.heap.size + 1, 4, none⟩ (.int .i64 0)).setCell ⟨w.heap.size + 1, 5, none⟩ (.bool (true && nu))) ⟨w.heap.size + 2, 1, none⟩ = some (.int .i64 0) := by simp [go_sem, r1]
    replace r2 : World.cell? ((((((X2.setCell ⟨w.heap.size + 1, 0, none⟩ (.int .i64 1)).setCell ⟨w.heap.size + 1, 1, none⟩ (.slice A5 q.length c5)).setCell ⟨w.heap.size + 1, 2, none⟩ (.bool false)).setCell ⟨w.heap.size + 1, 3, none⟩ (.slice A6 0 c6)).setCell ⟨w.heap.size + 1, 4, none⟩ (.int .i64 0)).setCell ⟨w.heap.size + 1, 5, none⟩ (.bool (true && nu))) ⟨w.heap.size + 2, 2, none⟩ = some (.int .i64 0) := by simp [go_sem, r2]
    replace r3 : World.cell? ((((((X2.setCell ⟨w.heap.size + 1, 0, none⟩ (.int .i64 1)).setCell ⟨w.heap.size + 1, 1, none⟩ (.slice A5 q.length c5)).setCell ⟨w.heap.size + 1, 2, none⟩ (.bool false)).setCell ⟨w.heap.size + 1, 3, none⟩ (.slice A6 0 c6)).setCell ⟨w.heap.size + 1, 4, none⟩ (.int .i64 0)).setCell ⟨w.heap.size + 1, 5, none⟩ (.bool (true && nu))) ⟨w.heap.size + 2, 3, none⟩ = some (.string ⟨#[]⟩) := by simp [go_sem, r3]
    replace r4 : World.cell? ((((((X2.setCell ⟨w.heap.size + 1, 0, none⟩ (.int .i64 1)).setCell ⟨w.heap.size + 1, 1, none⟩ (.slice A5 q.length c5)).setCell ⟨w.heap.size + 1, 2, none⟩ (.bool false)).setCell ⟨w.heap.size + 1, 3, none⟩ (.slice A6 0 c6)).setCell ⟨w.heap.size + 1, 4, none⟩ (.int .i64 0)).setCell ⟨w.heap.size + 1, 5, none⟩ (.bool (true && nu))) ⟨w.heap.size + 2, 4, none⟩ = some (.int .i64 0) := by simp [go_sem, r4]
    replace rf0 : World.frozen? ((((((X2.setCell ⟨w.heap.size + 1, 0, none⟩ (.int .i64 1)).setCell ⟨w.heap.size + 1, 1, none⟩ (.slice A5 q.length c5)).setCell ⟨w.heap.size + 1, 2, none⟩ (.bool false)).setCell ⟨w.heap.size + 1, 3, none⟩ (.slice A6 0 c6)).setCell ⟨w.heap.size + 1, 4, none⟩ (.int .i64 0)).setCell ⟨w.heap.size + 1, 5, none⟩ (.bool (true && nu))) ⟨w.heap.size + 2, 0, none⟩ = false := by simp [go_sem, rf0]
    replace rf1 : World.frozen? ((((((X2.setCell ⟨w.heap.size + 1, 0, none⟩ (.int .i64 1)).setCell ⟨w.heap.size + 1, 1, none⟩ (.slice A5 q.length c5)).setCell ⟨w.heap.size + 1, 2, none⟩ (.bool false)).setCell ⟨w.heap.size + 1, 3, none⟩ (.slice A6 0 c6)).setCell ⟨w.heap.size + 1, 4, none⟩ (.int .i64 0)).setCell ⟨w.heap.size + 1, 5, none⟩ (.bool (true && nu))) ⟨w.heap.size + 2, 1, none⟩ = false := by simp [go_sem, rf1]
    replace rf2 : World.frozen? ((((((X2.setCell ⟨w.heap.size + 1, 0, none⟩ (.int .i64 1)).setCell ⟨w.heap.size + 1, 1, none⟩ (.slice A5 q.length c5)).setCell ⟨w.heap.size + 1, 2, none⟩ (.bool false)).setCell ⟨w.heap.size + 1, 3, none⟩ (.slice A6 0 c6)).setCell ⟨w.heap.size + 1, 4, none⟩ (.int .i64 0)).setCell ⟨w.heap.size + 1, 5, none⟩ (.bool (true && nu))) ⟨w.heap.size + 2, 2, none⟩ = false := by simp [go_sem, rf2]
    replace rf3 : World.frozen? ((((((X2.setCell ⟨w.heap.size + 1, 0, none⟩ (.int .i64 1)).setCell ⟨w.heap.size + 1, 1, none⟩ (.slice A5 q.length c5)).setCell ⟨w.heap.size + 1, 2, none⟩ (.bool false)).setCell ⟨w.heap.size + 1, 3, none⟩ (.slice A6 0 c6)).setCell ⟨w.heap.size + 1, 4, none⟩ (.int .i64 0)).setCell ⟨w.heap.size + 1, 5, none⟩ (.bool (true && nu))) ⟨w.heap.size + 2, 3, none⟩ = false := by simp [go_sem, rf3]
    replace rf4 : World.frozen? ((((((X2.setCell ⟨w.heap.size + 1, 0, none⟩ (.int .i64 1)).setCell ⟨w.heap.size + 1, 1, none⟩ (.slice A5 q.length c5)).setCell ⟨w.heap.size + 1, 2, none⟩ (.bool false)).setCell ⟨w.heap.size + 1, 3, none⟩ (.slice A6 0 c6)).setCell ⟨w.heap.size + 1, 4, none⟩ (.int .i64 0)).setCell ⟨w.heap.size + 1, 5, none⟩ (.bool (true && nu))) ⟨w.heap.size + 2, 4, none⟩ = false := by simp [go_sem, rf4]
    replace S3 : SpP (w.heap.size + 3) ((((((X2.setCell ⟨w.heap.size + 1, 0, none⟩ (.int .i64 1)).setCell ⟨w.heap.size + 1, 1, none⟩ (.slice A5 q.length c5)).setCell ⟨w.heap.size + 1, 2, none⟩ (.bool false)).setCell ⟨w.heap.size + 1, 3, none⟩ (.slice A6 0 c6)).setCell ⟨w.heap.size + 1, 4, none⟩ (.int .i64 0)).setCell ⟨w.heap.size + 1, 5, none⟩ (.bool (true && nu))) A5 c5 q := SpP.other (SpP.low S3 zX1) (by simp) fun k o hk => by
        have n1 : ¬ w.heap.size + 1 = k := by omega
        simp [go_sem, n1]
    have zX4 : w.heap.size + 3 ≤ ((((((X2.setCell ⟨w.heap.size + 1, 0, none⟩ (.int .i64 1)).setCell ⟨w.heap.size + 1, 1, none⟩ (.slice A5 q.length c5)).setCell ⟨w.heap.size + 1, 2, none⟩ (.bool false)).setCell ⟨w.heap.size + 1, 3, none⟩ (.slice A6 0 c6)).setCell ⟨w.heap.size + 1, 4, none⟩ (.int .i64 0)).setCell ⟨w.heap.size + 1, 5, none⟩ (.bool (true && nu))).heap.size := by simpa using zX2
    refine ⟨⟨hZ, m0, m1, m2, m3, m4⟩, ?_⟩
    (try simp only [Act.put, List.setIfInBounds_toArray, List.set_cons_zero, List.set_cons_succ])
    generalize ((((((X2.setCell ⟨w.heap.size + 1, 0, none⟩ (.int .i64 1)).setCell ⟨w.heap.size + 1, 1, none⟩ (.slice A5 q.length c5)).setCell ⟨w.heap.size + 1, 2, none⟩ (.bool false)).setCell ⟨w.heap.size + 1, 3, none⟩ (.slice A6 0 c6)).setCell ⟨w.heap.size + 1, 4, none⟩ (.int .i64 0)).setCell ⟨w.heap.size + 1, 5, none⟩ (.bool (true && nu))) = X4 at hZ zX4 t0 t1 t2 t3 t4 t5 S3 m0 m1 m2 m3 m4 r0 r1 r2 r3 r4 rf0 rf1 rf2 rf3 rf4 ⊢
    refine wpAnyH_done (by kernel_rfl) ?_ _
    refine NoPanic.normal ?_
    have HN := Lib.hid (HX.out.1 q HQ.1 fun n => (HQ.2.2.1 n).trans (and_congr (HO.2.1 n) Iff.rfl))
    have hql : q.length ≤ 1000 := by have := HQ.2.2.2; have := HO.2.2; have := HL.out.1; have := HL.out.2; omega
    have EM := Lib.hid fun W (hW : Bel X4 W) => (show Calls Tryz.prog 24 #[(⟨1, q, false, [], 0, true && nu⟩ : St).val A5 c5 A6 c6] W fun e w' => e = .returned (.bool false) ∧ Bel W w' from (emptyN_any 1 q (true && nu) A5 c5 A6 c6 W (.inl rfl) (S3.sl.keep hW) hql HQ.2.1).mono fun e w' ⟨b, h1, h2, h3⟩ => by
      cases b with
      | false => exact ⟨h1, h3⟩
      | true => exact absurd (h2.1 rfl).2 HN.out.2)
    have PK := Lib.hid fun W (hW : Bel X4 W) => pick1S_any sc any not A l.length c q (true && nu) A5 c5 A6 c6 W (S3.sl.keep hW) hql HQ.2.1 x a b er HN.out.1 HX.out.2
    generalize (true && nu) = nu' at EM PK t5
    clear HN hql S3 T3 HQ HO S1 HL C1 C3 HX hb0 hb1 hb2 hb zW zX0 zX1 zX2 hX0 x0 x1 x2 x3 x4 x5 xf0 xf1 xf2 xf3 xf4 xf5
    go_upto_region 9 with (first
      | (go_at_call 24; (with_reducible refine Calls.mono (EM.out _ (Bel.refl X4)) ?_); rintro e Y1 ⟨rfl, hy1⟩; have zy1 : w.heap.size + 3 ≤ Y1.heap.size := (Nat.le_trans zX4 hy1.size); replace m0 := (hy1.cells _ _ (by omega)).trans m0; replace m1 := (hy1.cells _ _ (by omega)).trans m1; replace m2 := (hy1.cells _ _ (by omega)).trans m2; replace m3 := (hy1.cells _ _ (by omega)).trans m3; replace m4 := (hy1.cells _ _ (by omega)).trans m4; replace t0 := (hy1.cells _ _ (by omega)).trans t0; replace t1 := (hy1.cells _ _ (by omega)).trans t1; replace t2 := (hy1.cells _ _ (by omega)).trans t2; replace t3 := (hy1.cells _ _ (by omega)).trans t3; replace t4 := (hy1.cells _ _ (by omega)).trans t4; replace t5 := (hy1.cells _ _ (by omega)).trans t5; replace r0 := (hy1.cells _ _ (by omega)).trans r0; replace r1 := (hy1.cells _ _ (by omega)).trans r1; replace r2 := (hy1.cells _ _ (by omega)).trans r2; replace r3 := (hy1.cells _ _ (by omega)).trans r3; replace r4 := (hy1.cells _ _ (by omega)).trans r4; replace rf0 := (hy1.frozens _ _ (by omega)).trans rf0; replace rf1 := (hy1.frozens _ _ (by omega)).trans rf1; replace rf2 := (hy1.frozens _ _ (by omega)).trans rf2; replace rf3 := (hy1.frozens _ _ (by omega)).trans rf3; replace rf4 := (hy1.frozens _ _ (by omega)).trans rf4)
      | (go_at_call 46; (with_reducible refine Calls.mono (PK.out _ hy1) ?_); rintro e Y2 ⟨rfl, hy2⟩; have zy2 : w.heap.size + 3 ≤ Y2.heap.size := (Nat.le_trans zy1 hy2.size); have lt3 : w.heap.size + 2 < Y2.heap.size := (by omega); replace r0 := (hy2.cells _ _ (by omega)).trans r0; replace r1 := (hy2.cells _ _ (by omega)).trans r1; replace r2 := (hy2.cells _ _ (by omega)).trans r2; replace r3 := (hy2.cells _ _ (by omega)).trans r3; replace r4 := (hy2.cells _ _ (by omega)).trans r4; replace rf0 := (hy2.frozens _ _ (by omega)).trans rf0; replace rf1 := (hy2.frozens _ _ (by omega)).trans rf1; replace rf2 := (hy2.frozens _ _ (by omega)).trans rf2; replace rf3 := (hy2.frozens _ _ (by omega)).trans rf3; replace rf4 := (hy2.frozens _ _ (by omega)).trans rf4))
    refine under_name (w0 := Y2) (by (repeat (first | with_reducible exact Bel.refl _ | with_reducible refine Bel.setCell ?_ (by first | exact Nat.le_refl _ | (dsimp only; omega)) _ | with_reducible refine Bel.alloc ?_ _ | with_reducible refine Bel.drew ?_ | with_reducible assumption | with_reducible refine Bel.trans ?_ (by assumption)))) fun Y hc hf hz hy => ?_
    have d0 : Y.cell? ⟨Y2.heap.size, 0, none⟩ = some (.int .i64 1) := by simp [hc, go_sem]
    have d1 : Y.cell? ⟨Y2.heap.size, 1, none⟩ = some (.int .i64 a) := by simp [hc, go_sem]
    have d2 : Y.cell? ⟨Y2.heap.size, 2, none⟩ = some (.int .i64 b) := by simp [hc, go_sem]
    have d3 : Y.cell? ⟨Y2.heap.size, 3, none⟩ = some (.string ⟨#[]⟩) := by simp [hc, go_sem]
    have d4 : Y.cell? ⟨Y2.heap.size, 4, none⟩ = some (.int .i64 0) := by simp [hc, go_sem]
    clear hc hf hz
    replace r0 := (hy.cells _ _ (by omega)).trans r0; replace r1 := (hy.cells _ _ (by omega)).trans r1; replace r2 := (hy.cells _ _ (by omega)).trans r2; replace r3 := (hy.cells _ _ (by omega)).trans r3; replace r4 := (hy.cells _ _ (by omega)).trans r4; replace rf0 := (hy.frozens _ _ (by omega)).trans rf0; replace rf1 := (hy.frozens _ _ (by omega)).trans rf1; replace rf2 := (hy.frozens _ _ (by omega)).trans rf2; replace rf3 := (hy.frozens _ _ (by omega)).trans rf3; replace rf4 := (hy.frozens _ _ (by omega)).trans rf4
    have hbE := ((hZ.trans hy1).trans hy2).trans hy
    clear m0 m1 m2 m3 m4 t0 t1 t2 t3 t4 t5 hy1 hy2 hy hZ EM PK lt3 zy1 zX4
    go_wp2_with fail
    refine bodyPost_ret (by simp [results, Tryz.results23, go_sem, r0, rf0, r1, rf1, r2, rf2, r3, rf3, r4, rf4]; try rfl) rfl ⟨rfl, ?_⟩
    (repeat (first | with_reducible exact Bel.refl _ | with_reducible refine Bel.setCell ?_ (by first | exact Nat.le_refl _ | (dsimp only; omega)) _ | with_reducible refine Bel.alloc ?_ _ | with_reducible refine Bel.drew ?_ | with_reducible assumption | with_reducible refine Bel.trans ?_ (by assumption)))
end Go.Proofs.YtpmmbcobjibpeaaGreatDoor
namespace Go.Proofs.YtpmmbcobjibpeaaGreatDoor
set_option linter.unusedSimpArgs false
set_option linter.unusedVariables false
open Go.RowKit Go.Lib Go.Deep
attribute [local go_sem ↓] eql_val neq_val

/-! The simplest facts. -/
theorem ord_one {q : List Sp} {lo hi : Int} (ho : Ord q) (h : lo ≤ hi) (hm : ∀ n, SMem q n ↔ lo ≤ n ∧ n ≤ hi) : q = [(lo, hi)] := by
  cases q with
  | nil =>
    obtain ⟨s, hs, _⟩ := (hm lo).2 ⟨Int.le_refl _, h⟩
    cases hs
  | cons s t =>
    have h0 := ho.2 s (List.mem_cons_self ..)
    have a1 := (hm s.1).1 ⟨s, List.mem_cons_self .., Int.le_refl _, h0⟩
    have a2 := (hm s.2).1 ⟨s, List.mem_cons_self .., h0, Int.le_refl _⟩
    cases t with
    | nil =>
      obtain ⟨u, hu, u1, u2⟩ := (hm lo).2 ⟨Int.le_refl _, h⟩
      obtain ⟨v, hv, v1, v2⟩ := (hm hi).2 ⟨h, Int.le_refl _⟩
      simp only [List.mem_cons, List.not_mem_nil, or_false] at hu hv
      subst hu
      subst hv
      have e1 : v.1 = lo := by omega
      have e2 : v.2 = hi := by omega
      rw [← e1, ← e2]
    | cons u t' =>
      have hp := List.pairwise_cons.1 ho.1
      have p1 := hp.1 u (List.mem_cons_self ..)
      have u0 := ho.2 u (List.mem_cons_of_mem _ (List.mem_cons_self ..))
      have b2 := (hm u.2).1 ⟨u, List.mem_cons_of_mem _ (List.mem_cons_self ..), u0, Int.le_refl _⟩
      obtain ⟨v, hv, v1, v2⟩ := (hm (s.2 + 1)).2 ⟨by omega, by omega⟩
      rcases List.mem_cons.1 hv with rfl | hv
      · omega
      · have := hp.1 v hv
        omega
def tA : Tst := ⟨2, ⟨1, 125, 2, ⟨#[]⟩, 0⟩, ⟨0, 0, 0, ⟨#[]⟩, 0⟩, false, false⟩
theorem tA_sp : spU 1 tA = (-9223372036854775808, 12) := by decide +kernel
theorem tA_snd : tsnd tA = true := by decide +kernel
theorem tA_us : usnd false false [tA] = true := by decide +kernel
theorem tyA : tysnd 1 1 true false [] = true := by decide +kernel
theorem smem_pair (a b n : Int) : SMem [(a, b)] n ↔ a ≤ n ∧ n ≤ b := by simp [SMem]
theorem memA1 (n : Int) : MemH 1 1 true false [] n ↔ -999999999999 ≤ n ∧ n ≤ 999999999999 := by
  unfold MemH
  rw [show (allS 1).sp = [(-999999999999, 999999999999)] from rfl, smem_pair]
  simp
theorem rngA : rngk 1 1 [tA] = [(-9223372036854775808, 12)] := by
  have : rngk 1 1 [tA] = [spU 1 tA] := rfl
  rw [this, tA_sp]
theorem memA2 (n : Int) : MemH 1 1 false false [tA] n ↔ -999999999999 ≤ n ∧ n ≤ 12 := by
  unfold MemH
  rw [show (allS 1).sp = [(-999999999999, 999999999999)] from rfl, rngA, smem_pair, smem_pair]
  simp
  omega
theorem ofA (q : List Sp) (ho : Ord q) (hm : ∀ n, SMem q n ↔ MemH 1 1 true false [] n ∧ MemH 1 1 false false [tA] n) : q = [(-999999999999, 12)] :=
  ord_one ho (by decide) fun n => by rw [hm n, memA1, memA2]; omega
theorem pickA (q : List Sp) (ho : Ord q) (hm : ∀ n, SMem q n ↔ MemH 1 1 true false [] n ∧ SMem [(-999999999999, 12)] n) : nearOf 0 q = some 0 ∧ ¬ ∀ n, ¬ SMem q n := by
  have : q = [(-999999999999, 12)] := ord_one ho (by decide) fun n => by rw [hm n, memA1, smem_pair]; omega
  subst this
  exact ⟨by decide +kernel, fun h => h 0 ((smem_pair _ _ _).2 (by decide))⟩
theorem nulA : nulH false false [tA] = false := by decide +kernel
theorem inA : inT 1 1 true false [] ⟨0, 0, 0, ⟨#[]⟩, 0⟩ = true := by decide +kernel
theorem mkA : makeV 0 1 = .tuple #[decA 0 0, .int .i64 0] := by rfl
theorem tA_ok : TOk tA := by unfold TOk; decide +kernel
end Go.Proofs.YtpmmbcobjibpeaaGreatDoor
namespace Go.Proofs.YtpmmbcobjibpeaaGreatDoor
set_option linter.unusedSimpArgs false
set_option linter.unusedVariables false
open Go.RowKit Go.Lib Go.Deep
attribute [local go_sem ↓] eql_val neq_val

/-! awake. -/
set_option maxRecDepth 100000 in
set_option maxHeartbeats 8000000 in
theorem sawake_any (w : World) : Calls Tryz.prog 9 #[] w fun e w' => e = .returned (.bool true) ∧ Bel w w' := by
  have CO := Lib.hid (show ∀ W n, n = W.heap.size → Calls Tryz.prog 14 #[tyv 1 1 true false (.slice none 0 0), tsv false false (.slice (some ⟨n, 0, none⟩) 1 1)] (W.alloc (.cells #[.int .i64 2, .int .i64 1, .int .i64 125, .int .i64 2, .string ⟨#[]⟩, .int .i64 0, .int .i64 0, .int .i64 0, .int .i64 0, .string ⟨#[]⟩, .int .i64 0, .bool false, .bool false] 59)) fun e w' => ∃ A1 c1 A2 c2, e = .returned (.tuple #[(⟨1, [(-999999999999, 12)], false, [], 0, false⟩ : St).val A1 c1 A2 c2, .int .i64 0]) ∧ SlS w' (.slice A1 1 c1) [(-999999999999, 12)] ∧ Bel W w' from fun W n hn => by
    have k := ofN_any 1 1 true false [] none 0 false false [tA] (some ⟨n, 0, none⟩) 1 (W.alloc (.cells #[.int .i64 2, .int .i64 1, .int .i64 125, .int .i64 2, .string ⟨#[]⟩, .int .i64 0, .int .i64 0, .int .i64 0, .int .i64 0, .string ⟨#[]⟩, .int .i64 0, .bool false, .bool false] 59)) (.inl rfl) (fun h => absurd h (by simp)) (by simp) (tst_one W tA hn) (by simp) (by simp) (by simp [tA_ok]) (by simp) (by simp [tA_snd]) tyA tA_us
    refine Calls.mono k ?_
    rintro e w' ⟨q, A1, c1, A2, c2, he, h1, h2, h3, h4, h5, h6, h7⟩
    obtain rfl := ofA q h4 h6
    rw [nulA] at he
    exact ⟨A1, c1, A2, c2, he, h1.sl, ((Bel.refl W).alloc _).trans h3⟩)
  have CP := Lib.hid (show ∀ W A1 c1 A2 c2, SlS W (.slice A1 1 c1) [(-999999999999, 12)] → Calls Tryz.prog 23 #[tyv 1 1 true false (.slice none 0 0), (⟨1, [(-999999999999, 12)], false, [], 0, false⟩ : St).val A1 c1 A2 c2] W fun e w' => e = .returned (.tuple #[(⟨1, 0, 0, ⟨#[]⟩, 0⟩ : Val).val, .int .i64 0]) ∧ Bel W w' from fun W A1 c1 A2 c2 h =>
    Pick1S_any 1 true false [] none 0 [(-999999999999, 12)] false A1 c1 A2 c2 W (fun h => absurd h (by simp)) (by simp) (by simp) (by simp) tyA h (by simp) (by simp [Rng]) 0 0 0 0 pickA mkA)
  have CI := Lib.hid (show ∀ W, Calls Tryz.prog 12 #[tyv 1 1 true false (.slice none 0 0), (⟨0, 0, 0, ⟨#[]⟩, 0⟩ : Val).val] W fun e w' => e = .returned (.bool true) ∧ Bel W w' from fun W => by
    have k := tin_any 1 1 true false [] none 0 ⟨0, 0, 0, ⟨#[]⟩, 0⟩ W (fun h => absurd h (by simp)) (by simp) (by simp) (by decide +kernel)
    rw [inA] at k
    exact k)
  go_enter Tryz.func9, Tryz.ntmps9
  go_upto_region 2 with fail
  refine under_name (w0 := w) (by (repeat (first | with_reducible exact Bel.refl _ | with_reducible refine Bel.setCell ?_ (by first | exact Nat.le_refl _ | (dsimp only; omega)) _ | with_reducible refine Bel.alloc ?_ _ | with_reducible refine Bel.drew ?_ | with_reducible assumption | with_reducible refine Bel.trans ?_ (by assumption)))) fun W hc hf hz hb => ?_
  have m0 : W.cell? ⟨w.heap.size, 0, none⟩ = some (.int .i64 1) := by simp [hc, go_sem]
  have m1 : W.cell? ⟨w.heap.size, 1, none⟩ = some (.int .i64 1) := by simp [hc, go_sem]
  have m2 : W.cell? ⟨w.heap.size, 2, none⟩ = some (.bool true) := by simp [hc, go_sem]
  have m3 : W.cell? ⟨w.heap.size, 3, none⟩ = some (.bool false) := by simp [hc, go_sem]
  have m4 : W.cell? ⟨w.heap.size, 4, none⟩ = some (.slice none 0 0) := by simp [hc, go_sem]
  have z0 : w.heap.size + 1 ≤ W.heap.size := by simp [hz]
  clear hc hf hz
  go_upto_region 3 with (go_at_call 14; (with_reducible refine Calls.mono (CO.out _ _ rfl) ?_); rintro e X1 ⟨A1, c1, A2, c2, rfl, S1, hx1⟩; have zx1 : w.heap.size + 1 ≤ X1.heap.size := (Nat.le_trans z0 hx1.size); have hbX := hb.trans hx1; replace m0 := (hx1.cells _ _ (by omega)).trans m0; replace m1 := (hx1.cells _ _ (by omega)).trans m1; replace m2 := (hx1.cells _ _ (by omega)).trans m2; replace m3 := (hx1.cells _ _ (by omega)).trans m3; replace m4 := (hx1.cells _ _ (by omega)).trans m4)
  refine under_name (w0 := X1) (by (repeat (first | with_reducible exact Bel.refl _ | with_reducible refine Bel.setCell ?_ (by first | exact Nat.le_refl _ | (dsimp only; omega)) _ | with_reducible refine Bel.alloc ?_ _ | with_reducible refine Bel.drew ?_ | with_reducible assumption | with_reducible refine Bel.trans ?_ (by assumption)))) fun Y hc hf hz hy => ?_
  have x0 : Y.cell? ⟨X1.heap.size, 0, none⟩ = some (.int .i64 1) := by simp [hc, go_sem]
  have x1 : Y.cell? ⟨X1.heap.size, 1, none⟩ = some (.slice A1 1 c1) := by simp [hc, go_sem]
  have x2 : Y.cell? ⟨X1.heap.size, 2, none⟩ = some (.bool false) := by simp [hc, go_sem]
  have x3 : Y.cell? ⟨X1.heap.size, 3, none⟩ = some (.slice A2 0 c2) := by simp [hc, go_sem]
  have x4 : Y.cell? ⟨X1.heap.size, 4, none⟩ = some (.int .i64 0) := by simp [hc, go_sem]
  have x5 : Y.cell? ⟨X1.heap.size, 5, none⟩ = some (.bool false) := by simp [hc, go_sem]
  have zy : X1.heap.size < Y.heap.size := by simp [hz]
  clear hc hf hz
  replace m0 := (hy.cells _ _ (by omega)).trans m0; replace m1 := (hy.cells _ _ (by omega)).trans m1; replace m2 := (hy.cells _ _ (by omega)).trans m2; replace m3 := (hy.cells _ _ (by omega)).trans m3; replace m4 := (hy.cells _ _ (by omega)).trans m4
  have SS := S1.keep hy
  obtain ⟨A', c', e, hsp, hcc, hA⟩ := S1.keep hy
  cases e
  obtain ⟨b, off, rfl, hbl, hat⟩ := hsp (by simp)
  have y0 := (hat 0 _ rfl).1
  have y1 := (hat 0 _ rfl).2
  simp only [Nat.zero_mul, Nat.add_zero] at y0 y1
  have HS := Lib.hid SS
  have hbY := hbX.trans hy
  have mlt : w.heap.size < X1.heap.size := by omega
  clear hat hsp hA SS S1 hx1 hbX hy hb z0 CO hcc
  go_upto_region 4 with (go_at_call 23; (with_reducible refine Calls.mono (CP.out _ _ _ _ _ HS.out) ?_); rintro e X2 ⟨rfl, hx2⟩; have zx2 := hx2.size; replace m0 := (hx2.cells _ _ (by omega)).trans m0; replace m1 := (hx2.cells _ _ (by omega)).trans m1; replace m2 := (hx2.cells _ _ (by omega)).trans m2; replace m3 := (hx2.cells _ _ (by omega)).trans m3; replace m4 := (hx2.cells _ _ (by omega)).trans m4; replace x0 := (hx2.cells _ _ (by omega)).trans x0; replace x1 := (hx2.cells _ _ (by omega)).trans x1; replace x2 := (hx2.cells _ _ (by omega)).trans x2; replace x3 := (hx2.cells _ _ (by omega)).trans x3; replace x4 := (hx2.cells _ _ (by omega)).trans x4; replace x5 := (hx2.cells _ _ (by omega)).trans x5; replace y0 := (hx2.cells _ _ hbl).trans y0; replace y1 := (hx2.cells _ _ hbl).trans y1)
  refine under_name (w0 := X2) (by (repeat (first | with_reducible exact Bel.refl _ | with_reducible refine Bel.setCell ?_ (by first | exact Nat.le_refl _ | (dsimp only; omega)) _ | with_reducible refine Bel.alloc ?_ _ | with_reducible refine Bel.drew ?_ | with_reducible assumption | with_reducible refine Bel.trans ?_ (by assumption)))) fun Z hc hf hz hz2 => ?_
  have v0 : Z.cell? ⟨X2.heap.size, 0, none⟩ = some (.int .i64 1) := by simp [hc, go_sem]
  have v1 : Z.cell? ⟨X2.heap.size, 1, none⟩ = some (.int .i64 0) := by simp [hc, go_sem]
  have v2 : Z.cell? ⟨X2.heap.size, 2, none⟩ = some (.int .i64 0) := by simp [hc, go_sem]
  have v3 : Z.cell? ⟨X2.heap.size, 3, none⟩ = some (.string ⟨#[]⟩) := by simp [hc, go_sem]
  have v4 : Z.cell? ⟨X2.heap.size, 4, none⟩ = some (.int .i64 0) := by simp [hc, go_sem]
  clear hc hf hz
  replace m0 := (hz2.cells _ _ (by omega)).trans m0; replace m1 := (hz2.cells _ _ (by omega)).trans m1; replace m2 := (hz2.cells _ _ (by omega)).trans m2; replace m3 := (hz2.cells _ _ (by omega)).trans m3; replace m4 := (hz2.cells _ _ (by omega)).trans m4; replace x0 := (hz2.cells _ _ (by omega)).trans x0; replace x1 := (hz2.cells _ _ (by omega)).trans x1; replace x2 := (hz2.cells _ _ (by omega)).trans x2; replace x3 := (hz2.cells _ _ (by omega)).trans x3; replace x4 := (hz2.cells _ _ (by omega)).trans x4; replace x5 := (hz2.cells _ _ (by omega)).trans x5
  replace y0 := (hz2.cells _ _ (Nat.lt_of_lt_of_le hbl hx2.size)).trans y0
  replace y1 := (hz2.cells _ _ (Nat.lt_of_lt_of_le hbl hx2.size)).trans y1
  have hbZ := (hbY.trans hx2).trans hz2
  clear hx2 hz2 hbY HS CP
  go_wp2_with (go_at_call 12; (with_reducible refine Calls.mono (CI.out _) ?_); rintro e X3 ⟨rfl, hx3⟩; have hbE := hbZ.trans hx3)
  go_ret
  exact ⟨rfl, hbE⟩
end Go.Proofs.YtpmmbcobjibpeaaGreatDoor
namespace Go.Proofs.YtpmmbcobjibpeaaGreatDoor
set_option linter.unusedSimpArgs false
set_option linter.unusedVariables false
open Go.RowKit Go.Lib
attribute [local go_sem ↓] eql_val neq_val eql_tst neq_tst

/-! The document's Sound, In. -/
set_option maxRecDepth 100000 in
set_option maxHeartbeats 4000000 in
theorem rtsound_any (k sc : Int) (any not : Bool) (l : List Tst) (A : Option Addr) (c : Nat) (w : World) (hs : Tsts w A l) (hl : l.length ≤ 9223372036854775807) (ht : ∀ t ∈ l, TOk t) :
    Calls Tryz.prog 11 #[tyv k sc any not (.slice A l.length c)] w fun e w' => e = .returned (.bool (tysnd k sc any not l)) ∧ Bel w w' := by
  have C2 := Lib.hid fun W (hW : Bel w W) => rusound_any any not l A c W (hs.keep hW) hl ht
  have hT := Lib.hid (show tysnd k sc any not l = (knd k && usnd any not l && (decide (sc = 0) || (decide (k = 1) && decide (0 < sc) && decide (sc ≤ 6)))) from rfl)
  generalize tysnd k sc any not l = R at hT ⊢
  generalize usnd any not l = q2 at hT C2
  clear hs hl ht
  by_cases h1 : k < 1
  · obtain rfl : R = false := by have := hT.out; simpa [knd, show ¬ 1 ≤ k from by omega] using this
    clear hT C2
    go_enter Tryz.func11, Tryz.ntmps11
    go_wp2_with fail
    go_ret
    refine ⟨rfl, ?_⟩
    (repeat (first | with_reducible exact Bel.refl _ | with_reducible refine Bel.setCell ?_ (by first | exact Nat.le_refl _ | (dsimp only; omega)) _ | with_reducible refine Bel.alloc ?_ _ | with_reducible refine Bel.drew ?_ | with_reducible assumption | with_reducible refine Bel.trans ?_ (by assumption)))
  · skip
    by_cases h4 : 4 < k
    · obtain rfl : R = false := by have := hT.out; simpa [knd, show ¬ k ≤ 4 from by omega] using this
      clear hT C2
      go_enter Tryz.func11, Tryz.ntmps11
      go_wp2_with fail
      go_ret
      refine ⟨rfl, ?_⟩
      (repeat (first | with_reducible exact Bel.refl _ | with_reducible refine Bel.setCell ?_ (by first | exact Nat.le_refl _ | (dsimp only; omega)) _ | with_reducible refine Bel.alloc ?_ _ | with_reducible refine Bel.drew ?_ | with_reducible assumption | with_reducible refine Bel.trans ?_ (by assumption)))
    · skip
      by_cases h0 : sc < 0
      · obtain rfl : R = false := by have := hT.out; simpa [knd, show ¬ sc = 0 from by omega, show ¬ 0 < sc from by omega] using this
        clear hT C2
        go_enter Tryz.func11, Tryz.ntmps11
        go_wp2_with fail
        go_ret
        refine ⟨rfl, ?_⟩
        (repeat (first | with_reducible exact Bel.refl _ | with_reducible refine Bel.setCell ?_ (by first | exact Nat.le_refl _ | (dsimp only; omega)) _ | with_reducible refine Bel.alloc ?_ _ | with_reducible refine Bel.drew ?_ | with_reducible assumption | with_reducible refine Bel.trans ?_ (by assumption)))
      · skip
        by_cases h6 : 6 < sc
        · obtain rfl : R = false := by have := hT.out; simpa [knd, show ¬ sc = 0 from by omega, show ¬ sc ≤ 6 from by omega] using this
          clear hT C2
          go_enter Tryz.func11, Tryz.ntmps11
          go_wp2_with fail
          go_ret
          refine ⟨rfl, ?_⟩
          (repeat (first | with_reducible exact Bel.refl _ | with_reducible refine Bel.setCell ?_ (by first | exact Nat.le_refl _ | (dsimp only; omega)) _ | with_reducible refine Bel.alloc ?_ _ | with_reducible refine Bel.drew ?_ | with_reducible assumption | with_reducible refine Bel.trans ?_ (by assumption)))
        · skip
          by_cases k1 : k = 1
          · subst k1
            obtain rfl : R = q2 := by
              have := hT.out
              by_cases hz : sc = 0
              · simpa [knd, hz] using this
              · simpa [knd, hz, show 0 < sc from by omega, show sc ≤ 6 from by omega] using this
            clear hT
            go_enter Tryz.func11, Tryz.ntmps11
            go_wp2_with (go_at_call 17; (with_reducible refine Calls.mono (C2.out _ ((Bel.refl w).alloc _)) ?_); rintro e W1 ⟨rfl, hb1⟩; have hbX := ((Bel.refl w).alloc _).trans hb1)
            go_ret
            exact ⟨rfl, hbX⟩
          · have e1 : (k == 1) = false := by simp [k1]
            by_cases hz : sc = 0
            · subst hz
              obtain rfl : R = q2 := by have := hT.out; simpa [knd, show 1 ≤ k from by omega, show k ≤ 4 from by omega] using this
              clear hT
              go_enter Tryz.func11, Tryz.ntmps11
              go_wp2_with (go_at_call 17; (with_reducible refine Calls.mono (C2.out _ ((Bel.refl w).alloc _)) ?_); rintro e W1 ⟨rfl, hb1⟩; have hbX := ((Bel.refl w).alloc _).trans hb1)
              go_ret
              exact ⟨rfl, hbX⟩
            · have ez : (sc == 0) = false := by simp [hz]
              obtain rfl : R = false := by have := hT.out; simpa [knd, hz, k1] using this
              clear hT
              go_enter Tryz.func11, Tryz.ntmps11
              go_wp2_with (go_at_call 17; exfalso; simp_all)
              all_goals go_ret
              all_goals refine ⟨rfl, ?_⟩
              all_goals (repeat (first | with_reducible exact Bel.refl _ | with_reducible refine Bel.setCell ?_ (by first | exact Nat.le_refl _ | (dsimp only; omega)) _ | with_reducible refine Bel.alloc ?_ _ | with_reducible refine Bel.drew ?_ | with_reducible assumption | with_reducible refine Bel.trans ?_ (by assumption)))
end Go.Proofs.YtpmmbcobjibpeaaGreatDoor
namespace Go.Proofs.YtpmmbcobjibpeaaGreatDoor
set_option linter.unusedSimpArgs false
set_option linter.unusedVariables false
open Go.RowKit Go.Lib
attribute [local go_sem ↓] eql_val neq_val eql_tst neq_tst

/-! The document's In. -/
set_option maxRecDepth 100000 in
set_option maxHeartbeats 8000000 in
theorem rtin_any (k sc : Int) (any not : Bool) (l : List Tst) (A : Option Addr) (c : Nat) (v : Val) (w : World) (hs : Tsts w A l) (hl : l.length ≤ 9223372036854775807) (ht : ∀ t ∈ l, TOk t) (hv : v.text.size ≤ 9223372036854775807) :
    Calls Tryz.prog 13 #[tyv k sc any not (.slice A l.length c), v.val] w fun e w' => e = .returned (.bool (inT k sc any not l v)) ∧ Bel w w' := by
  have C1 := Lib.hid fun W (hW : Bel w W) => rtsound_any k sc any not l A c W (hs.keep hW) hl ht
  have C2 := Lib.hid fun W => rvsound_any v hv W
  have C0 := Lib.hid (show tysnd k sc any not l = true → vsnd v = true → ∀ W, Bel w W → Calls Tryz.prog 21 #[tsv any not (.slice A l.length c), v.val] W fun e w' => e = .returned (.bool (mall any not l v)) ∧ Bel W w' from fun h1 h2 W hW => rall_any any not l A c v W (hs.keep hW) ht (tysnd_sc h1).2.2.2.2.2 hv h2)
  have C4 := fun W => rat_any v.n v.scale sc W
  simp only [atV_P] at C4
  replace C4 := Lib.hid C4
  have hT := Lib.hid (show inT k sc any not l v = (tysnd k sc any not l && vsnd v && (decide (v.kind = 0) || (decide (v.kind = k) && mall any not l v && (!decide (k = 1) || ((unP sc v).2 && decide (-999999999999 ≤ (unP sc v).1) && decide ((unP sc v).1 ≤ 999999999999)))))) from rfl)
  have hU := Lib.hid (show v.kind = 1 → unP sc v = atP v.n v.scale sc from fun h => if_pos h)
  generalize inT k sc any not l v = R at hT ⊢
  generalize mall any not l v = q3 at hT C0
  generalize tysnd k sc any not l = q1 at hT C1 C0
  generalize vsnd v = q2 at hT C2 C0
  generalize unP sc v = u at hT hU
  generalize atP v.n v.scale sc = p at C4 hU
  generalize atE v.n v.scale sc = er at C4
  generalize hn : l.length = n at C1 C0 ⊢
  obtain ⟨v0, v1, v2, v3, v4⟩ := v
  obtain ⟨p1, p2⟩ := p
  simp only at hT hU C2 C0 C4
  clear hs hl ht hv hn
  cases q1 with
  | false =>
    obtain rfl : R = false := by have := hT.out; simpa using this
    clear hT C0 C4 hU
    go_enter Tryz.func13, Tryz.ntmps13
    go_wp2_with (go_at_call 11; (with_reducible refine Calls.mono (C1.out _ (((Bel.refl w).alloc _).alloc _)) ?_); rintro e W1 ⟨rfl, hb1⟩; have hc1 := hb1.cells; have hz1 := hb1.lt2; have hbX := (((Bel.refl w).alloc _).alloc _).trans hb1)
    go_ret
    exact ⟨rfl, hbX⟩
  | true =>
    cases q2 with
    | false =>
      obtain rfl : R = false := by have := hT.out; simpa using this
      clear hT C0 C4 hU
      go_enter Tryz.func13, Tryz.ntmps13
      go_wp2_with (first
        | (go_at_call 11; (with_reducible refine Calls.mono (C1.out _ (((Bel.refl w).alloc _).alloc _)) ?_); rintro e W1 ⟨rfl, hb1⟩; have hc1 := hb1.cells; have hz1 := hb1.lt2; have hbX := (((Bel.refl w).alloc _).alloc _).trans hb1)
        | (go_at_call 33; (with_reducible refine Calls.mono (C2.out _) ?_); rintro e W2 ⟨rfl, hb2⟩; have hc2 := hb2.cells; have g0 : w.heap.size < W2.heap.size := (by have := hb1.lt2.1; have := hb2.size; omega); have g1 : w.heap.size + 1 < W2.heap.size := (by have := hb1.lt2.2; have := hb2.size; omega); have hz2 := hb2.size; have hbY := hbX.trans hb2))
      go_ret
      exact ⟨rfl, hbY⟩
    | true =>
      have C3 := Lib.hid (C0.out rfl rfl)
      have hR := Lib.hid (show R = (decide (v0 = 0) || (decide (v0 = k) && q3 && (!decide (k = 1) || (u.2 && decide (-999999999999 ≤ u.1) && decide (u.1 ≤ 999999999999))))) from by have := hT.out; simpa using this)
      clear hT C0
      by_cases h0 : v0 = 0
      · subst h0
        obtain rfl : R = true := by have := hR.out; simpa using this
        clear hR C3 C4 hU
        go_enter Tryz.func13, Tryz.ntmps13
        go_wp2_with (first
          | (go_at_call 11; (with_reducible refine Calls.mono (C1.out _ (((Bel.refl w).alloc _).alloc _)) ?_); rintro e W1 ⟨rfl, hb1⟩; have hc1 := hb1.cells; have hz1 := hb1.lt2; have hbX := (((Bel.refl w).alloc _).alloc _).trans hb1)
          | (go_at_call 33; (with_reducible refine Calls.mono (C2.out _) ?_); rintro e W2 ⟨rfl, hb2⟩; have hc2 := hb2.cells; have g0 : w.heap.size < W2.heap.size := (by have := hb1.lt2.1; have := hb2.size; omega); have g1 : w.heap.size + 1 < W2.heap.size := (by have := hb1.lt2.2; have := hb2.size; omega); have hz2 := hb2.size; have hbY := hbX.trans hb2))
        go_ret
        exact ⟨rfl, hbY⟩
      · have e0 : (v0 == 0) = false := by simp [h0]
        by_cases hk : v0 = k
        · subst hk
          cases q3 with
          | false =>
            obtain rfl : R = false := by have := hR.out; simpa [h0] using this
            clear hR C4 hU
            go_enter Tryz.func13, Tryz.ntmps13
            go_wp2_with (first
              | (go_at_call 11; (with_reducible refine Calls.mono (C1.out _ (((Bel.refl w).alloc _).alloc _)) ?_); rintro e W1 ⟨rfl, hb1⟩; have hc1 := hb1.cells; have hz1 := hb1.lt2; have hbX := (((Bel.refl w).alloc _).alloc _).trans hb1)
              | (go_at_call 33; (with_reducible refine Calls.mono (C2.out _) ?_); rintro e W2 ⟨rfl, hb2⟩; have hc2 := hb2.cells; have g0 : w.heap.size < W2.heap.size := (by have := hb1.lt2.1; have := hb2.size; omega); have g1 : w.heap.size + 1 < W2.heap.size := (by have := hb1.lt2.2; have := hb2.size; omega); have hz2 := hb2.size; have hbY := hbX.trans hb2)
              | (go_at_call 21; (with_reducible refine Calls.mono (C3.out _ hbY) ?_); rintro e W3 ⟨rfl, hb3⟩; have hc3 := hb3.cells; have hz3 := hb3.size; have hbZ := hbY.trans hb3))
            go_ret
            exact ⟨rfl, hbZ⟩
          | true =>
            by_cases h1 : v0 = 1
            · subst h1
              obtain rfl : u = (p1, p2) := hU.out rfl
              have hR := Lib.hid (show R = (p2 && decide (-999999999999 ≤ p1) && decide (p1 ≤ 999999999999)) from by have := hR.out; simpa using this)
              cases p2 with
              | false =>
                obtain rfl : R = false := by have := hR.out; simpa using this
                clear hR hU
                go_enter Tryz.func13, Tryz.ntmps13
                go_wp2_with (first
                  | (go_at_call 11; (with_reducible refine Calls.mono (C1.out _ (((Bel.refl w).alloc _).alloc _)) ?_); rintro e W1 ⟨rfl, hb1⟩; have hc1 := hb1.cells; have hz1 := hb1.lt2; have hbX := (((Bel.refl w).alloc _).alloc _).trans hb1)
                  | (go_at_call 33; (with_reducible refine Calls.mono (C2.out _) ?_); rintro e W2 ⟨rfl, hb2⟩; have hc2 := hb2.cells; have g0 : w.heap.size < W2.heap.size := (by have := hb1.lt2.1; have := hb2.size; omega); have g1 : w.heap.size + 1 < W2.heap.size := (by have := hb1.lt2.2; have := hb2.size; omega); have hz2 := hb2.size; have hbY := hbX.trans hb2)
                  | (go_at_call 21; (with_reducible refine Calls.mono (C3.out _ hbY) ?_); rintro e W3 ⟨rfl, hb3⟩; have hc3 := hb3.cells; have hz3 := hb3.size; have hbZ := hbY.trans hb3)
                  | (go_at_call 34; (with_reducible refine Calls.mono (C4.out _) ?_); rintro e W4 ⟨rfl, hb4⟩; have hbE := hbZ.trans hb4))
                go_ret
                exact ⟨rfl, hbE⟩
              | true =>
                by_cases h2 : -999999999999 ≤ p1
                · obtain rfl : R = decide (p1 ≤ 999999999999) := by have := hR.out; simpa [h2] using this
                  clear hR hU
                  go_enter Tryz.func13, Tryz.ntmps13
                  go_wp2_with (first
                    | (go_at_call 11; (with_reducible refine Calls.mono (C1.out _ (((Bel.refl w).alloc _).alloc _)) ?_); rintro e W1 ⟨rfl, hb1⟩; have hc1 := hb1.cells; have hz1 := hb1.lt2; have hbX := (((Bel.refl w).alloc _).alloc _).trans hb1)
                    | (go_at_call 33; (with_reducible refine Calls.mono (C2.out _) ?_); rintro e W2 ⟨rfl, hb2⟩; have hc2 := hb2.cells; have g0 : w.heap.size < W2.heap.size := (by have := hb1.lt2.1; have := hb2.size; omega); have g1 : w.heap.size + 1 < W2.heap.size := (by have := hb1.lt2.2; have := hb2.size; omega); have hz2 := hb2.size; have hbY := hbX.trans hb2)
                    | (go_at_call 21; (with_reducible refine Calls.mono (C3.out _ hbY) ?_); rintro e W3 ⟨rfl, hb3⟩; have hc3 := hb3.cells; have hz3 := hb3.size; have hbZ := hbY.trans hb3)
                    | (go_at_call 34; (with_reducible refine Calls.mono (C4.out _) ?_); rintro e W4 ⟨rfl, hb4⟩; have hbE := hbZ.trans hb4))
                  go_ret
                  exact ⟨rfl, hbE⟩
                · obtain rfl : R = false := by have := hR.out; simpa [h2] using this
                  clear hR hU
                  go_enter Tryz.func13, Tryz.ntmps13
                  go_wp2_with (first
                    | (go_at_call 11; (with_reducible refine Calls.mono (C1.out _ (((Bel.refl w).alloc _).alloc _)) ?_); rintro e W1 ⟨rfl, hb1⟩; have hc1 := hb1.cells; have hz1 := hb1.lt2; have hbX := (((Bel.refl w).alloc _).alloc _).trans hb1)
                    | (go_at_call 33; (with_reducible refine Calls.mono (C2.out _) ?_); rintro e W2 ⟨rfl, hb2⟩; have hc2 := hb2.cells; have g0 : w.heap.size < W2.heap.size := (by have := hb1.lt2.1; have := hb2.size; omega); have g1 : w.heap.size + 1 < W2.heap.size := (by have := hb1.lt2.2; have := hb2.size; omega); have hz2 := hb2.size; have hbY := hbX.trans hb2)
                    | (go_at_call 21; (with_reducible refine Calls.mono (C3.out _ hbY) ?_); rintro e W3 ⟨rfl, hb3⟩; have hc3 := hb3.cells; have hz3 := hb3.size; have hbZ := hbY.trans hb3)
                    | (go_at_call 34; (with_reducible refine Calls.mono (C4.out _) ?_); rintro e W4 ⟨rfl, hb4⟩; have hbE := hbZ.trans hb4))
                  go_ret
                  exact ⟨rfl, hbE⟩
            · have e1 : (v0 == 1) = false := by simp [h1]
              obtain rfl : R = true := by have := hR.out; simpa [h0, h1] using this
              clear hR C4 hU
              go_enter Tryz.func13, Tryz.ntmps13
              go_wp2_with (first
                | (go_at_call 11; (with_reducible refine Calls.mono (C1.out _ (((Bel.refl w).alloc _).alloc _)) ?_); rintro e W1 ⟨rfl, hb1⟩; have hc1 := hb1.cells; have hz1 := hb1.lt2; have hbX := (((Bel.refl w).alloc _).alloc _).trans hb1)
                | (go_at_call 33; (with_reducible refine Calls.mono (C2.out _) ?_); rintro e W2 ⟨rfl, hb2⟩; have hc2 := hb2.cells; have g0 : w.heap.size < W2.heap.size := (by have := hb1.lt2.1; have := hb2.size; omega); have g1 : w.heap.size + 1 < W2.heap.size := (by have := hb1.lt2.2; have := hb2.size; omega); have hz2 := hb2.size; have hbY := hbX.trans hb2)
                | (go_at_call 21; (with_reducible refine Calls.mono (C3.out _ hbY) ?_); rintro e W3 ⟨rfl, hb3⟩; have hc3 := hb3.cells; have hz3 := hb3.size; have hbZ := hbY.trans hb3))
              go_ret
              exact ⟨rfl, hbZ⟩
        · have ek : (v0 == k) = false := by simp [hk]
          obtain rfl : R = false := by have := hR.out; simpa [h0, hk] using this
          clear hR C3 C4 hU
          go_enter Tryz.func13, Tryz.ntmps13
          go_wp2_with (first
            | (go_at_call 11; (with_reducible refine Calls.mono (C1.out _ (((Bel.refl w).alloc _).alloc _)) ?_); rintro e W1 ⟨rfl, hb1⟩; have hc1 := hb1.cells; have hz1 := hb1.lt2; have hbX := (((Bel.refl w).alloc _).alloc _).trans hb1)
            | (go_at_call 33; (with_reducible refine Calls.mono (C2.out _) ?_); rintro e W2 ⟨rfl, hb2⟩; have hc2 := hb2.cells; have g0 : w.heap.size < W2.heap.size := (by have := hb1.lt2.1; have := hb2.size; omega); have g1 : w.heap.size + 1 < W2.heap.size := (by have := hb1.lt2.2; have := hb2.size; omega); have hz2 := hb2.size; have hbY := hbX.trans hb2))
          go_ret
          exact ⟨rfl, hbY⟩
end Go.Proofs.YtpmmbcobjibpeaaGreatDoor
namespace Go.Proofs.YtpmmbcobjibpeaaGreatDoor
set_option linter.unusedSimpArgs false
set_option linter.unusedVariables false
open Go.RowKit Go.Lib
attribute [local go_sem ↓] eql_val neq_val eql_tst neq_tst

/-! The law SetsTypes. -/
set_option maxRecDepth 100000 in
set_option maxHeartbeats 8000000 in
theorem law_Types (k sc : Int) (any not : Bool) (l : List Tst) (A : Option Addr) (c : Nat) (v : Val) (w : World) (hs : Tsts w A l) (hl : l.length ≤ 9223372036854775807) (ht : ∀ t ∈ l, TOk t) (hv : v.text.size ≤ 9223372036854775807) :
    Calls Tryz.prog 3 #[tyv k sc any not (.slice A l.length c), v.val] w fun e w' => e = .returned (.bool true) ∧ Bel w w' := by
  have C1 := Lib.hid fun W (hW : Bel w W) => tsound_any k sc any not l A c W (hs.keep hW) hl ht
  have C2 := Lib.hid fun W (hW : Bel w W) => rtsound_any k sc any not l A c W (hs.keep hW) hl ht
  have C3 := Lib.hid fun W (hW : Bel w W) => tin_any k sc any not l A c v W (hs.keep hW) hl ht hv
  have C4 := Lib.hid fun W (hW : Bel w W) => rtin_any k sc any not l A c v W (hs.keep hW) hl ht hv
  generalize inT k sc any not l v = q2 at C3 C4
  generalize tysnd k sc any not l = q1 at C1 C2
  generalize hn : l.length = n at C1 C2 C3 C4 ⊢
  obtain ⟨v0, v1, v2, v3, v4⟩ := v
  clear hs hl ht hv hn
  cases q1 <;> cases q2
  all_goals
    go_enter Tryz.func3, Tryz.ntmps3
    go_upto_region 1 with fail
    refine under_name (w0 := w) (by (repeat (first | with_reducible exact Bel.refl _ | with_reducible refine Bel.setCell ?_ (by first | exact Nat.le_refl _ | (dsimp only; omega)) _ | with_reducible refine Bel.alloc ?_ _ | with_reducible refine Bel.drew ?_ | with_reducible assumption | with_reducible refine Bel.trans ?_ (by assumption)))) fun W hc hf hz hb => ?_
    have m0 : W.cell? ⟨w.heap.size, 0, none⟩ = some (.int .i64 k) := by simp [hc, go_sem]
    have m1 : W.cell? ⟨w.heap.size, 1, none⟩ = some (.int .i64 sc) := by simp [hc, go_sem]
    have m2 : W.cell? ⟨w.heap.size, 2, none⟩ = some (.bool any) := by simp [hc, go_sem]
    have m3 : W.cell? ⟨w.heap.size, 3, none⟩ = some (.bool not) := by simp [hc, go_sem]
    have m4 : W.cell? ⟨w.heap.size, 4, none⟩ = some (.slice A n c) := by simp [hc, go_sem]
    have x0 : W.cell? ⟨w.heap.size + 1, 0, none⟩ = some (.int .i64 v0) := by simp [hc, go_sem]
    have x1 : W.cell? ⟨w.heap.size + 1, 1, none⟩ = some (.int .i64 v1) := by simp [hc, go_sem]
    have x2 : W.cell? ⟨w.heap.size + 1, 2, none⟩ = some (.int .i64 v2) := by simp [hc, go_sem]
    have x3 : W.cell? ⟨w.heap.size + 1, 3, none⟩ = some (.string v3) := by simp [hc, go_sem]
    have x4 : W.cell? ⟨w.heap.size + 1, 4, none⟩ = some (.int .i64 v4) := by simp [hc, go_sem]
    have z1 : w.heap.size < W.heap.size := by simp [hz] <;> omega
    have z2 : w.heap.size + 1 < W.heap.size := by simp [hz] <;> omega
    clear hc hf hz
    refine wp_region_uni (S := (fun w' => Bel W w' ∧ (∀ b o, b < W.heap.size → w'.cell? ⟨b, o, none⟩ = W.cell? ⟨b, o, none⟩))) (by kernel_rfl) (by kernel_rfl) keep0 ?_
    repeat (first | (refine wpUni_skip (by rfl) ?_; (try simp only [Act.put, List.setIfInBounds_toArray, List.set_cons_zero, List.set_cons_succ]))
                                                            | (refine wpUni_value (by rfl) (fun w hS => by (try dsimp only at hS); go_simp; first | done | with_reducible rfl) ?_; (try simp only [Act.put, List.setIfInBounds_toArray, List.set_cons_zero, List.set_cons_succ]))
                                                            | (refine wpUni_call (f := 9) (by rfl) (fun w => by go_simp; first | done | with_reducible rfl) (fun w hS => ((sawake_any w)).mono fun e w' ⟨he, hb⟩ => ⟨he, keep1 hS hb⟩) ?_; (try simp only [Act.put, List.setIfInBounds_toArray, List.set_cons_zero, List.set_cons_succ]))
                                                            | (refine wpUni_call (f := 10) (by rfl) (fun w => by go_simp; first | done | with_reducible rfl) (fun w hS => ((C1.out w (hb.trans hS.1))).mono fun e w' ⟨he, hb⟩ => ⟨he, keep1 hS hb⟩) ?_; (try simp only [Act.put, List.setIfInBounds_toArray, List.set_cons_zero, List.set_cons_succ]))
                                                            | (refine wpUni_call (f := 11) (by rfl) (fun w => by go_simp; first | done | with_reducible rfl) (fun w hS => ((C2.out w (hb.trans hS.1))).mono fun e w' ⟨he, hb⟩ => ⟨he, keep1 hS hb⟩) ?_; (try simp only [Act.put, List.setIfInBounds_toArray, List.set_cons_zero, List.set_cons_succ]))
                                                            | (refine wpUni_call (f := 12) (by rfl) (fun w => by go_simp; first | done | with_reducible rfl) (fun w hS => ((C3.out w (hb.trans hS.1))).mono fun e w' ⟨he, hb⟩ => ⟨he, keep1 hS hb⟩) ?_; (try simp only [Act.put, List.setIfInBounds_toArray, List.set_cons_zero, List.set_cons_succ]))
                                                            | (refine wpUni_call (f := 13) (by rfl) (fun w => by go_simp; first | done | with_reducible rfl) (fun w hS => ((C4.out w (hb.trans hS.1))).mono fun e w' ⟨he, hb⟩ => ⟨he, keep1 hS hb⟩) ?_; (try simp only [Act.put, List.setIfInBounds_toArray, List.set_cons_zero, List.set_cons_succ])))
    refine wpUni_nil fun W1 hS => ?_
    have hb1 := hb.trans hS.1
    clear hS
    go_wp2_with fail
    go_ret
    exact ⟨rfl, hb1⟩
end Go.Proofs.YtpmmbcobjibpeaaGreatDoor
namespace Go.Proofs.YtpmmbcobjibpeaaGreatDoor
set_option linter.unusedSimpArgs false
set_option linter.unusedVariables false
open Go.ChangeShapes Go.WideShapes Go.ChangeAt Go.RowKit Go.Deep

/-! Lists handed in: of anything. -/
/-- A slice of cells reads as a list. -/
def Lists {D : Type} (enc : D → List Value) (k : Nat) (w : World) (A : Option Addr) (l : List D) : Prop :=
  0 < l.length → ∃ b off, A = some ⟨b, off, none⟩ ∧ b < w.heap.size ∧ ∀ i d, l[i]? = some d → ∀ j v, (enc d)[j]? = some v → w.cell? ⟨b, off + i * k + j, none⟩ = some v
theorem Lists.keep {D : Type} {enc : D → List Value} {k : Nat} {w w' : World} {A : Option Addr} {l : List D} (h : Lists enc k w A l) (hb : Bel w w') : Lists enc k w' A l := fun h0 => by
  obtain ⟨b, off, hA, hlt, hc⟩ := h h0
  exact ⟨b, off, hA, Nat.lt_of_lt_of_le hlt hb.size, fun i d hd j v hv => by rw [hb.cells _ _ hlt]; exact hc i d hd j v hv⟩
set_option maxRecDepth 100000
section
variable {H : Type} {enc : TypeId × Value → H} {w : World} {base : Nat} {spare : Nat → Bool} {held : Bool} {fuel : Nat}
theorem open_list {D : Type} (dflt : D) (en : D → List Value) (k : Nat) (good : D → Prop) {t e : TypeId} (ht : Tryz.prog.underlying t = some (.slice e)) (hk : Tryz.prog.cellsOf e = k) (hk0 : 0 < k) (hen : ∀ d, (en d).length = k)
    (op : ∀ {cs : List Value} {x : DataW H × List MemPlace} {fuel : Nat}, DataW.trod enc Tryz.prog w base spare held fuel e cs = some x → ∃ d, cs = en d ∧ good d)
    {cs : List Value} {x : DataW H × List MemPlace} (h : DataW.trod enc Tryz.prog w base spare held fuel t cs = some x) :
    ∃ (A : Option Addr) (c : Nat) (l : List D), cs = [.slice A l.length c] ∧ Lists en k w A l ∧ l.length ≤ maxLen ∧ (A = none → c = 0 ∧ l = []) ∧ ∀ d ∈ l, good d := by
  rcases open_slice ht h with ⟨hcs, _⟩ | ⟨ad, len, cap, m, n', E, Pl, hcs, _, hl, hm, hmm, hx, hi⟩
  · exact ⟨none, 0, [], hcs, fun h => absurd h (by simp), by simp, fun _ => ⟨rfl, rfl⟩, by simp⟩
  · have hlm : len ≤ m := by rw [hmm]; split <;> omega
    obtain ⟨b, off, spot⟩ := ad
    have key : ∀ i : Nat, ∃ d : D, i < len → spot = none ∧ b < w.heap.size ∧ (∀ j v, (en d)[j]? = some v → w.cell? ⟨b, off + i * k + j, none⟩ = some v) ∧ good d := by
      intro i
      by_cases hlt : i < len
      · obtain ⟨cs', hc, hd⟩ := hi i (by omega)
        rw [hk] at hc
        obtain ⟨d, rfl, hok⟩ := op hd
        obtain ⟨_, _, hat⟩ := World.cells?_some hc
        obtain ⟨cs0, hc0, hd0⟩ := hi 0 (by omega)
        rw [hk] at hc0
        obtain ⟨d0, rfl, _⟩ := op hd0
        have h00 := (World.cells?_some hc0).2.2 0 hk0
        simp only [Nat.zero_mul, Addr.add, if_true] at h00
        rw [List.getElem?_eq_getElem (by rw [hen]; exact hk0)] at h00
        have hspot : spot = none := by simpa using World.cell?_spot h00
        subst hspot
        have hblk := World.block_lt_of_cell? _ _ h00
        refine ⟨d, fun _ => ⟨rfl, hblk, fun j v hv => ?_, hok⟩⟩
        have hj : j < k := by
          have := (List.getElem?_eq_some_iff.1 hv).1
          rwa [hen] at this
        have a := hat j hj
        rw [hv] at a
        simp only [Go.WideShapes.add_plain] at a
        exact a
      · exact ⟨dflt, fun h => absurd h hlt⟩
    let V : Nat → D := fun i => Classical.choose (key i)
    have hV : ∀ i, i < len → spot = none ∧ b < w.heap.size ∧ (∀ j v, (en (V i))[j]? = some v → w.cell? ⟨b, off + i * k + j, none⟩ = some v) ∧ good (V i) := fun i => Classical.choose_spec (key i)
    have hlen : ((List.range len).map V).length = len := by simp
    refine ⟨some ⟨b, off, spot⟩, cap, (List.range len).map V, by rw [hlen]; exact hcs, fun h0 => ?_, by rw [hlen]; omega, fun h => by (cases h), fun x hx => ?_⟩
    · rw [hlen] at h0
      obtain ⟨rfl, hb0, _⟩ := hV 0 h0
      refine ⟨b, off, rfl, hb0, fun i d hd => ?_⟩
      rw [List.getElem?_map] at hd
      by_cases hlt : i < len
      · rw [List.getElem?_range hlt] at hd
        simp only [Option.map_some, Option.some.injEq] at hd
        subst hd
        exact (hV i hlt).2.2.1
      · rw [List.getElem?_eq_none (by simpa using hlt)] at hd
        cases hd
    · rw [List.mem_map] at hx
      obtain ⟨i, hi', rfl⟩ := hx
      exact (hV i (List.mem_range.1 hi')).2.2.2
end

/-! Cells: tests, and lists of them. -/
theorem Lists.tsts {w : World} {A : Option Addr} {l : List Tst} (h : Lists encT 13 w A l) : Tsts w A l := fun h0 => by
  obtain ⟨b, off, hA, hlt, hc⟩ := h h0
  exact ⟨b, off, hA, hlt, fun i t ht => ⟨hc i t ht 0 _ rfl, hc i t ht 1 _ rfl, hc i t ht 2 _ rfl, hc i t ht 3 _ rfl, hc i t ht 4 _ rfl, hc i t ht 5 _ rfl, hc i t ht 6 _ rfl, hc i t ht 7 _ rfl, hc i t ht 8 _ rfl, hc i t ht 9 _ rfl, hc i t ht 10 _ rfl, hc i t ht 11 _ rfl, hc i t ht 12 _ rfl⟩⟩
/-- A cell. -/
structure Cel where
  any : Bool
  not : Bool
  A : Option Addr
  c : Nat
  l : List Tst
instance : Inhabited Cel := ⟨⟨false, false, none, 0, []⟩⟩
abbrev Cel.val (x : Cel) : Value := .agg #[.bool x.any, .bool x.not, .slice x.A x.l.length x.c]
def encC (x : Cel) : List Value := [.bool x.any, .bool x.not, .slice x.A x.l.length x.c]
structure CelOk (w : World) (x : Cel) : Prop where
  tsts : Tsts w x.A x.l
  len : x.l.length ≤ maxLen
  nil : x.A = none → x.c = 0 ∧ x.l = []
  ok : ∀ t ∈ x.l, t.Ok
theorem CelOk.keep {w w' : World} {x : Cel} (h : CelOk w x) (hb : Bel w w') : CelOk w' x := ⟨h.tsts.keep hb, h.len, h.nil, h.ok⟩
theorem cellsC : Tryz.prog.cellsOf 24 = 3 := by kernel_rfl
theorem cellsL : Tryz.prog.cellsOf 22 = 1 := by kernel_rfl
section
variable {H : Type} {enc : TypeId × Value → H} {w : World} {base : Nat} {spare : Nat → Bool} {held : Bool} {fuel : Nat}
theorem trod_tsts {cs : List Value} {x : DataW H × List MemPlace} (h : DataW.trod enc Tryz.prog w base spare held fuel 22 cs = some x) :
    ∃ (A : Option Addr) (c : Nat) (l : List Tst), cs = [.slice A l.length c] ∧ Tsts w A l ∧ l.length ≤ maxLen ∧ (A = none → c = 0 ∧ l = []) ∧ ∀ t ∈ l, t.Ok := by
  obtain ⟨A, c, l, h1, h2, h3, h4, h5⟩ := open_list default encT 13 Tst.Ok Tryz.underlying22 cellsT (by omega) (fun _ => rfl) (fun h => by
    obtain ⟨t, ht, hok⟩ := trod_test h
    exact ⟨t, ht, hok⟩) h
  exact ⟨A, c, l, h1, h2.tsts, h3, h4, h5⟩
theorem trod_cel {cs : List Value} {x : DataW H × List MemPlace} (h : DataW.trod enc Tryz.prog w base spare held fuel 24 cs = some x) :
    ∃ y : Cel, cs = encC y ∧ CelOk w y := by
  obtain ⟨xs, m, _, _, hl, hxs, hf⟩ := DataW.trod_struct (fs := Tryz.prog.fieldsOf 24) (by kernel_rfl) h
  have hz : (Tryz.prog.fieldsOf 24).size = 3 := by kernel_rfl
  rw [cellsC] at hl
  rw [hz] at hxs
  match cs, hl, xs, hxs with
  | [c0, c1, c2], _, [x0, x1, x2], _ =>
    obtain ⟨f0, g0, t0, o0⟩ := field_at (fs := Tryz.prog.fieldsOf 24) (i := 0) (t := 4) (o := 0) (by kernel_rfl)
    obtain ⟨f1, g1, t1, o1⟩ := field_at (fs := Tryz.prog.fieldsOf 24) (i := 1) (t := 4) (o := 1) (by kernel_rfl)
    obtain ⟨f2, g2, t2, o2⟩ := field_at (fs := Tryz.prog.fieldsOf 24) (i := 2) (t := 22) (o := 2) (by kernel_rfl)
    have e0 := hf 0 f0 g0
    have e1 := hf 1 f1 g1
    have e2 := hf 2 f2 g2
    rw [t0, o0, cellsB] at e0
    rw [t1, o1, cellsB] at e1
    rw [t2, o2, cellsL] at e2
    obtain ⟨n0, k0, _⟩ := DataW.trod_bool Tryz.underlying4 e0
    obtain ⟨n1, k1, _⟩ := DataW.trod_bool Tryz.underlying4 e1
    obtain ⟨A, c, l, k2, p1, p2, p3, p4⟩ := trod_tsts e2
    simp at k0 k1 k2
    subst k0 k1 k2
    exact ⟨⟨n0, n1, A, c, l⟩, rfl, p1, p2, p3, p4⟩
theorem open_test {r : Reach} {v : Value} {d : DataW H} {p : List MemPlace} (hv : Value.okWide Tryz.prog w r base 59 v) (h : DataW.Trod enc Tryz.prog w 0 spare held 59 v d p) : ∃ x : Tst, v = x.val ∧ x.Ok := by
  obtain ⟨cs, rfl, hsz⟩ := okWide_struct (fs := Tryz.prog.fieldsOf 59) (by kernel_rfl) hv
  obtain ⟨n, hn⟩ := h
  obtain ⟨x, hx, hok⟩ := trod_test hn
  refine ⟨x, ?_, hok⟩
  simp only [Value.cells] at hx
  obtain ⟨l⟩ := cs
  simp only at hx
  rw [hx]
theorem open_cel {r : Reach} {v : Value} {d : DataW H} {p : List MemPlace} (hv : Value.okWide Tryz.prog w r base 24 v) (h : DataW.Trod enc Tryz.prog w 0 spare held 24 v d p) : ∃ x : Cel, v = x.val ∧ CelOk w x := by
  obtain ⟨cs, rfl, hsz⟩ := okWide_struct (fs := Tryz.prog.fieldsOf 24) (by kernel_rfl) hv
  obtain ⟨n, hn⟩ := h
  obtain ⟨x, hx, hok⟩ := trod_cel hn
  refine ⟨x, ?_, hok⟩
  simp only [Value.cells] at hx
  obtain ⟨l⟩ := cs
  simp only [encC] at hx
  rw [hx]
/-- A type, as data. -/
structure Typ where
  kind : Int
  sc : Int
  cel : Cel
def encY (y : Typ) : List Value := [.int .i64 y.kind, .int .i64 y.sc] ++ encC y.cel
abbrev Typ.val (y : Typ) : Value := .agg #[.int .i64 y.kind, .int .i64 y.sc, .bool y.cel.any, .bool y.cel.not, .slice y.cel.A y.cel.l.length y.cel.c]
theorem cellsY : Tryz.prog.cellsOf 26 = 5 := by kernel_rfl
theorem trod_typ {cs : List Value} {x : DataW H × List MemPlace} (h : DataW.trod enc Tryz.prog w base spare held fuel 26 cs = some x) :
    ∃ y : Typ, cs = encY y ∧ CelOk w y.cel := by
  obtain ⟨xs, m, _, _, hl, hxs, hf⟩ := DataW.trod_struct (fs := Tryz.prog.fieldsOf 26) (by kernel_rfl) h
  have hz : (Tryz.prog.fieldsOf 26).size = 3 := by kernel_rfl
  rw [cellsY] at hl
  rw [hz] at hxs
  match cs, hl, xs, hxs with
  | [c0, c1, c2, c3, c4], _, [x0, x1, x2], _ =>
    obtain ⟨f0, g0, t0, o0⟩ := field_at (fs := Tryz.prog.fieldsOf 26) (i := 0) (t := 3) (o := 0) (by kernel_rfl)
    obtain ⟨f1, g1, t1, o1⟩ := field_at (fs := Tryz.prog.fieldsOf 26) (i := 1) (t := 3) (o := 1) (by kernel_rfl)
    obtain ⟨f2, g2, t2, o2⟩ := field_at (fs := Tryz.prog.fieldsOf 26) (i := 2) (t := 24) (o := 2) (by kernel_rfl)
    have e0 := hf 0 f0 g0
    have e1 := hf 1 f1 g1
    have e2 := hf 2 f2 g2
    rw [t0, o0, cells3] at e0
    rw [t1, o1, cells3] at e1
    rw [t2, o2, cellsC] at e2
    obtain ⟨n0, k0, _⟩ := DataW.trod_int Tryz.underlying3 e0
    obtain ⟨n1, k1, _⟩ := DataW.trod_int Tryz.underlying3 e1
    obtain ⟨y, k2, p1⟩ := trod_cel e2
    simp [encC] at k0 k1 k2
    obtain ⟨k2, k3, k4⟩ := k2
    subst k0 k1 k2 k3 k4
    exact ⟨⟨n0, n1, y⟩, rfl, p1⟩
theorem open_typ {r : Reach} {v : Value} {d : DataW H} {p : List MemPlace} (hv : Value.okWide Tryz.prog w r base 26 v) (h : DataW.Trod enc Tryz.prog w 0 spare held 26 v d p) : ∃ x : Typ, v = x.val ∧ CelOk w x.cel := by
  obtain ⟨cs, rfl, hsz⟩ := okWide_struct (fs := Tryz.prog.fieldsOf 26) (by kernel_rfl) hv
  obtain ⟨n, hn⟩ := h
  obtain ⟨x, hx, hok⟩ := trod_typ hn
  refine ⟨x, ?_, hok⟩
  simp only [Value.cells] at hx
  obtain ⟨l⟩ := cs
  simp only [encY, encC, List.cons_append, List.nil_append] at hx
  rw [hx]
end
end Go.Proofs.YtpmmbcobjibpeaaGreatDoor
