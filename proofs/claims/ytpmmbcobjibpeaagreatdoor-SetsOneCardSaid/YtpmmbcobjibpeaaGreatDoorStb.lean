
import Derived.Test.YtpmmbcobjibpeaaGreatDoorSta
import Derived.Test.YtpmmbcobjibpeaaGreatDoorTsu
import Derived.Deep.DeepCutAuto
import Derived.Deep.RegionHeld3
namespace Go.Proofs.YtpmmbcobjibpeaaGreatDoor
set_option linter.unusedSimpArgs false
set_option linter.unusedVariables false
open Go.RowKit Go.Lib

/-! A region that draws its order and makes memory: each order by itself, the world under a name behind each step. -/
section
variable {P : Program} {ops : Array Oper} {Q : Exit → Act → World → Prop} {K : Act → World → Prop} {a : Act} {w : World}
theorem wpOp_value {i : Nat} {o : Oper} {v : Value} {w' : World} (hi : ops[i]? = some o) (hw : Region.wanted o (yielded ops a.tmps) = true) (hx : (execOp a.eval o).run P w = .ok (.value v) w') (h : K (a.put o.dst v) w') : wpOp P ops Q i K a w := by
  unfold wpOp
  rw [hi]
  simp only [hw, if_true]
  left
  unfold Oper.wp
  rw [hx]
  exact h
theorem wpOp_skip {i : Nat} {o : Oper} {w' : World} (hi : ops[i]? = some o) (hw : Region.wanted o (yielded ops a.tmps) = true) (hx : (execOp a.eval o).run P w = .ok .skip w') (h : K (a.put o.dst undef) w') : wpOp P ops Q i K a w := by
  unfold wpOp
  rw [hi]
  simp only [hw, if_true]
  left
  unfold Oper.wp
  rw [hx]
  exact h
theorem wpOp_enter {i : Nat} {o : Oper} {f : FuncId} {args : Array Value} {R : Value → World → Prop} (hi : ops[i]? = some o) (hw : Region.wanted o (yielded ops a.tmps) = true) (hx : (execOp a.eval o).run P w = .ok (.enter f args) w)
    (hc : Calls P f args w fun e w' => ∃ v, e = .returned v ∧ R v w') (h : ∀ v w', R v w' → K (a.put o.dst v) w') : wpOp P ops Q i K a w := by
  unfold wpOp
  rw [hi]
  simp only [hw, if_true]
  left
  unfold Oper.wp
  rw [hx]
  show Oper.upon P o a K Q _
  refine Calls.mono hc ?_
  rintro e w' ⟨v, rfl, hR⟩
  exact h v w' hR
end
/-! The units of a test. -/
def spU (sc : Int) (t : Tst) : Int × Int :=
  if t.kind = 2 then (-9223372036854775808, lstU (unP sc t.low).1 (unP sc t.low).2 true)
  else if t.kind = 3 then (-9223372036854775808, (unP sc t.low).1)
  else if t.kind = 4 then (wrap64 ((unP sc t.low).1 + 1), 9223372036854775807)
  else if t.kind = 5 then (fstU (unP sc t.low).1 (unP sc t.low).2 false, 9223372036854775807)
  else if t.kind = 6 then (fstU (unP sc t.low).1 (unP sc t.low).2 t.ol, lstU (unP sc t.high).1 (unP sc t.high).2 t.oh)
  else (fstU (unP sc t.low).1 (unP sc t.low).2 false, (unP sc t.low).1)
abbrev spw (s : Int × Int) : Value := .agg #[.int .i64 s.1, .int .i64 s.2]
set_option maxRecDepth 100000 in
set_option maxHeartbeats 8000000 in
theorem span_any (k sc : Int) (any not : Bool) (A : Option Addr) (n c : Nat) (t : Tst) (w : World) : Calls Tryz.prog 69 #[tyv k sc any not (.slice A n c), t.val] w fun e w' => e = .returned (spw (spU sc t)) ∧ Bel w w' := by
  have hU := Lib.hid (show spU sc t = if t.kind = 2 then (-9223372036854775808, lstU (unP sc t.low).1 (unP sc t.low).2 true)
    else if t.kind = 3 then (-9223372036854775808, (unP sc t.low).1)
    else if t.kind = 4 then (wrap64 ((unP sc t.low).1 + 1), 9223372036854775807)
    else if t.kind = 5 then (fstU (unP sc t.low).1 (unP sc t.low).2 false, 9223372036854775807)
    else if t.kind = 6 then (fstU (unP sc t.low).1 (unP sc t.low).2 t.ol, lstU (unP sc t.high).1 (unP sc t.high).2 t.oh)
    else (fstU (unP sc t.low).1 (unP sc t.low).2 false, (unP sc t.low).1) from rfl)
  have C1 := Lib.hid fun W => unit_any k sc any not A n c t.low W
  have C2 := Lib.hid fun W => unit_any k sc any not A n c t.high W
  generalize spU sc t = U at hU ⊢
  generalize unP sc t.low = p at hU C1
  generalize unP sc t.high = q at hU C2
  obtain ⟨tk, ⟨a0, a1, a2, a3, a4⟩, ⟨b0, b1, b2, b3, b4⟩, x, y⟩ := t
  obtain ⟨p1, p2⟩ := p
  obtain ⟨q1, q2⟩ := q
  simp only at hU C1 C2
  have F := Lib.hid fun op W => first_any p1 p2 op W
  have L := Lib.hid fun op W => last_any p1 p2 op W
  have L2 := Lib.hid fun op W => last_any q1 q2 op W
  go_enter Tryz.func69, Tryz.ntmps69
  go_upto_region 1 with fail
  refine under_name ((((Bel.refl w).alloc _).alloc _).alloc _) fun W hc hf hz hb => ?_
  have m0 : W.cell? ⟨w.heap.size, 0, none⟩ = some (.int .i64 k) := by simp [hc, go_sem]
  have m1 : W.cell? ⟨w.heap.size, 1, none⟩ = some (.int .i64 sc) := by simp [hc, go_sem]
  have m2 : W.cell? ⟨w.heap.size, 2, none⟩ = some (.bool any) := by simp [hc, go_sem]
  have m3 : W.cell? ⟨w.heap.size, 3, none⟩ = some (.bool not) := by simp [hc, go_sem]
  have m4 : W.cell? ⟨w.heap.size, 4, none⟩ = some (.slice A n c) := by simp [hc, go_sem]
  have n0 : W.cell? ⟨w.heap.size + 1, 0, none⟩ = some (.int .i64 tk) := by simp [hc, go_sem]
  have n1 : W.cell? ⟨w.heap.size + 1, 1, none⟩ = some (.int .i64 a0) := by simp [hc, go_sem]
  have n2 : W.cell? ⟨w.heap.size + 1, 2, none⟩ = some (.int .i64 a1) := by simp [hc, go_sem]
  have n3 : W.cell? ⟨w.heap.size + 1, 3, none⟩ = some (.int .i64 a2) := by simp [hc, go_sem]
  have n4 : W.cell? ⟨w.heap.size + 1, 4, none⟩ = some (.string a3) := by simp [hc, go_sem]
  have n5 : W.cell? ⟨w.heap.size + 1, 5, none⟩ = some (.int .i64 a4) := by simp [hc, go_sem]
  have n6 : W.cell? ⟨w.heap.size + 1, 6, none⟩ = some (.int .i64 b0) := by simp [hc, go_sem]
  have n7 : W.cell? ⟨w.heap.size + 1, 7, none⟩ = some (.int .i64 b1) := by simp [hc, go_sem]
  have n8 : W.cell? ⟨w.heap.size + 1, 8, none⟩ = some (.int .i64 b2) := by simp [hc, go_sem]
  have n9 : W.cell? ⟨w.heap.size + 1, 9, none⟩ = some (.string b3) := by simp [hc, go_sem]
  have n10 : W.cell? ⟨w.heap.size + 1, 10, none⟩ = some (.int .i64 b4) := by simp [hc, go_sem]
  have n11 : W.cell? ⟨w.heap.size + 1, 11, none⟩ = some (.bool x) := by simp [hc, go_sem]
  have n12 : W.cell? ⟨w.heap.size + 1, 12, none⟩ = some (.bool y) := by simp [hc, go_sem]
  have r0 : W.cell? ⟨w.heap.size + 2, 0, none⟩ = some (.int .i64 0) := by simp [hc, go_sem]
  have r1 : W.cell? ⟨w.heap.size + 2, 1, none⟩ = some (.int .i64 0) := by simp [hc, go_sem]
  have g0 : W.frozen? ⟨w.heap.size + 2, 0, none⟩ = false := by simp [hf, go_sem]
  have g1 : W.frozen? ⟨w.heap.size + 2, 1, none⟩ = false := by simp [hf, go_sem]
  have z0 : w.heap.size + 3 ≤ W.heap.size := by simp [hz]
  clear hc hf hz
  go_upto_region 2 with (go_at_call 50; with_reducible refine Calls.mono (C1.out _) ?_; rintro e W1 ⟨rfl, hb1⟩; have hbX := hb.trans hb1; have z1 := hb1.size)
  replace m0 := (hb1.cells _ _ (by omega)).trans m0
  replace m1 := (hb1.cells _ _ (by omega)).trans m1
  replace m2 := (hb1.cells _ _ (by omega)).trans m2
  replace m3 := (hb1.cells _ _ (by omega)).trans m3
  replace m4 := (hb1.cells _ _ (by omega)).trans m4
  replace n0 := (hb1.cells _ _ (by omega)).trans n0
  replace n6 := (hb1.cells _ _ (by omega)).trans n6
  replace n7 := (hb1.cells _ _ (by omega)).trans n7
  replace n8 := (hb1.cells _ _ (by omega)).trans n8
  replace n9 := (hb1.cells _ _ (by omega)).trans n9
  replace n10 := (hb1.cells _ _ (by omega)).trans n10
  replace n11 := (hb1.cells _ _ (by omega)).trans n11
  replace n12 := (hb1.cells _ _ (by omega)).trans n12
  replace r0 := (hb1.cells _ _ (by omega)).trans r0
  replace r1 := (hb1.cells _ _ (by omega)).trans r1
  replace g0 := (hb1.frozens _ _ (by omega)).trans g0
  replace g1 := (hb1.frozens _ _ (by omega)).trans g1
  clear n1 n2 n3 n4 n5 hb1 C1
  have z2 : w.heap.size + 3 ≤ W1.heap.size := by omega
  clear z0 z1 hb
  by_cases h6 : tk = 6
  · subst h6
    obtain rfl : U = (fstU p1 p2 x, lstU q1 q2 y) := by have := hU.out; simpa using this
    clear hU
    go_upto_region 13 with (go_at_call 50; with_reducible refine Calls.mono (C2.out _) ?_; rintro e W2 ⟨rfl, hb2⟩)
    have x11 := (hb2.cells _ _ (by omega)).trans n11
    have x12 := (hb2.cells _ _ (by omega)).trans n12
    have s0 := (hb2.cells _ _ (by omega)).trans r0
    have s1 := (hb2.cells _ _ (by omega)).trans r1
    have f0 := (hb2.frozens _ _ (by omega)).trans g0
    have f1 := (hb2.frozens _ _ (by omega)).trans g1
    have z3 : w.heap.size + 3 ≤ W2.heap.size := Nat.le_trans z2 hb2.size
    have hbY := hbX.trans hb2
    clear m0 m1 m2 m3 m4 n0 n6 n7 n8 n9 n10 n11 n12 r0 r1 g0 g1 z2 hb2 hbX C2
    have u11 := x11
    have u12 := x12
    refine wp_region_noPanic ?_
    refine wp_region_held (S := fun X => Bel w X ∧ X.cell? ⟨w.heap.size + 1, 11, none⟩ = some (.bool x) ∧ X.cell? ⟨w.heap.size + 1, 12, none⟩ = some (.bool y)) (by kernel_rfl) ?_
    have hX0 : Bel W2 { W2 with drawn := W2.drawn + 1 } := (Bel.refl W2).drew
    generalize { W2 with drawn := W2.drawn + 1 } = X0 at hX0 ⊢
    replace u11 := (hX0.cells _ _ (by omega)).trans u11
    replace u12 := (hX0.cells _ _ (by omega)).trans u12
    refine wpAnyH_take (i := 0) (oi := { dst := some 48, op := Op.move (Operand.tmp 5), type := 3, pos := "kinds.go:126", after := #[], guard := none }) (v := .int .i64 p1) rfl (by kernel_rfl) (by kernel_rfl) (by kernel_rfl) (fun _ _ _ h => h) (.inl ⟨by rfl, fun X hS => by
      obtain ⟨_, k11, k12⟩ := hS
      go_simp; first | done | with_reducible rfl | rfl⟩) ⟨hbY.trans hX0, u11, u12⟩ ?_
    (try simp only [Act.put, List.setIfInBounds_toArray, List.set_cons_zero, List.set_cons_succ])
    refine wpAnyH_take (i := 1) (oi := { dst := some 49, op := Op.move (Operand.tmp 6), type := 4, pos := "kinds.go:126", after := #[], guard := none }) (v := .bool p2) rfl (by kernel_rfl) (by kernel_rfl) (by kernel_rfl) (fun _ _ _ h => h) (.inl ⟨by rfl, fun X hS => by
      obtain ⟨_, k11, k12⟩ := hS
      go_simp; first | done | with_reducible rfl | rfl⟩) ⟨hbY.trans hX0, u11, u12⟩ ?_
    (try simp only [Act.put, List.setIfInBounds_toArray, List.set_cons_zero, List.set_cons_succ])
    refine wpAnyH_take (i := 2) (oi := { dst := some 50, op := Op.fieldAddr 59 (Operand.tmp 3) 3, type := 0, pos := "kinds.go:126", after := #[], guard := none }) (v := .pointer (some ⟨w.heap.size + 1, 11, none⟩)) rfl (by kernel_rfl) (by kernel_rfl) (by kernel_rfl) (fun _ _ _ h => h) (.inl ⟨by rfl, fun X hS => by
      obtain ⟨_, k11, k12⟩ := hS
      go_simp; first | done | with_reducible rfl | rfl⟩) ⟨hbY.trans hX0, u11, u12⟩ ?_
    (try simp only [Act.put, List.setIfInBounds_toArray, List.set_cons_zero, List.set_cons_succ])
    refine wpAnyH_take (i := 3) (oi := { dst := some 51, op := Op.load 4 (Operand.tmp 50), type := 4, pos := "kinds.go:126", after := #[{ on := 2, ground := Ground.data }], guard := none }) (v := .bool x) rfl (by kernel_rfl) (by kernel_rfl) (by kernel_rfl) (fun _ _ _ h => h) (.inl ⟨by rfl, fun X hS => by
      obtain ⟨_, k11, k12⟩ := hS
      go_simp; first | done | with_reducible rfl | rfl⟩) ⟨hbY.trans hX0, u11, u12⟩ ?_
    (try simp only [Act.put, List.setIfInBounds_toArray, List.set_cons_zero, List.set_cons_succ])
    refine wpAnyH_take (i := 5) (oi := { dst := some 53, op := Op.move (Operand.tmp 7), type := 3, pos := "kinds.go:126", after := #[], guard := none }) (v := .int .i64 q1) rfl (by kernel_rfl) (by kernel_rfl) (by kernel_rfl) (fun _ _ _ h => h) (.inl ⟨by rfl, fun X hS => by
      obtain ⟨_, k11, k12⟩ := hS
      go_simp; first | done | with_reducible rfl | rfl⟩) ⟨hbY.trans hX0, u11, u12⟩ ?_
    (try simp only [Act.put, List.setIfInBounds_toArray, List.set_cons_zero, List.set_cons_succ])
    refine wpAnyH_take (i := 6) (oi := { dst := some 54, op := Op.move (Operand.tmp 8), type := 4, pos := "kinds.go:126", after := #[], guard := none }) (v := .bool q2) rfl (by kernel_rfl) (by kernel_rfl) (by kernel_rfl) (fun _ _ _ h => h) (.inl ⟨by rfl, fun X hS => by
      obtain ⟨_, k11, k12⟩ := hS
      go_simp; first | done | with_reducible rfl | rfl⟩) ⟨hbY.trans hX0, u11, u12⟩ ?_
    (try simp only [Act.put, List.setIfInBounds_toArray, List.set_cons_zero, List.set_cons_succ])
    refine wpAnyH_take (i := 7) (oi := { dst := some 55, op := Op.fieldAddr 59 (Operand.tmp 3) 4, type := 0, pos := "kinds.go:126", after := #[], guard := none }) (v := .pointer (some ⟨w.heap.size + 1, 12, none⟩)) rfl (by kernel_rfl) (by kernel_rfl) (by kernel_rfl) (fun _ _ _ h => h) (.inl ⟨by rfl, fun X hS => by
      obtain ⟨_, k11, k12⟩ := hS
      go_simp; first | done | with_reducible rfl | rfl⟩) ⟨hbY.trans hX0, u11, u12⟩ ?_
    (try simp only [Act.put, List.setIfInBounds_toArray, List.set_cons_zero, List.set_cons_succ])
    refine wpAnyH_take (i := 8) (oi := { dst := some 56, op := Op.load 4 (Operand.tmp 55), type := 4, pos := "kinds.go:126", after := #[{ on := 7, ground := Ground.data }], guard := none }) (v := .bool y) rfl (by kernel_rfl) (by kernel_rfl) (by kernel_rfl) (fun _ _ _ h => h) (.inl ⟨by rfl, fun X hS => by
      obtain ⟨_, k11, k12⟩ := hS
      go_simp; first | done | with_reducible rfl | rfl⟩) ⟨hbY.trans hX0, u11, u12⟩ ?_
    (try simp only [Act.put, List.setIfInBounds_toArray, List.set_cons_zero, List.set_cons_succ])
    refine wpAnyH_all (rs := [4]) (by kernel_rfl) (by simp) ?_
    intro i hi
    simp only [List.mem_cons, List.not_mem_nil, or_false] at hi
    subst hi
    refine wpOp_enter (o := { dst := some 52, op := Op.call { callee := Callee.value (Operand.func 103), args := #[Operand.tmp 48, Operand.tmp 49, Operand.tmp 51], argTypes := #[3, 4, 4] }, type := 3, pos := "kinds.go:126", after := #[{ on := 0, ground := Ground.data }, { on := 1, ground := Ground.data }, { on := 3, ground := Ground.data }], guard := none }) (R := fun v w' => v = .int .i64 (fstU p1 p2 x) ∧ Bel X0 w') rfl (by rfl) (by go_simp; first | done | with_reducible rfl | rfl) ((F.out x X0).mono fun e w' ⟨h1, h2⟩ => ⟨_, h1, rfl, h2⟩) ?_
    rintro v X1 ⟨rfl, hb'⟩
    replace u11 := (hb'.cells _ _ (by have := hX0.size; omega)).trans u11
    replace u12 := (hb'.cells _ _ (by have := hX0.size; omega)).trans u12
    have hX1 := hX0.trans hb'
    clear hb'
    refine ⟨⟨hbY.trans hX1, u11, u12⟩, ?_⟩
    (try simp only [Act.put, List.setIfInBounds_toArray, List.set_cons_zero, List.set_cons_succ])
    refine wpAnyH_all (rs := [9]) (by kernel_rfl) (by simp) ?_
    intro i hi
    simp only [List.mem_cons, List.not_mem_nil, or_false] at hi
    subst hi
    refine wpOp_enter (o := { dst := some 57, op := Op.call { callee := Callee.value (Operand.func 102), args := #[Operand.tmp 53, Operand.tmp 54, Operand.tmp 56], argTypes := #[3, 4, 4] }, type := 3, pos := "kinds.go:126", after := #[{ on := 5, ground := Ground.data }, { on := 6, ground := Ground.data }, { on := 8, ground := Ground.data }, { on := 4, ground := Ground.chain }], guard := none }) (R := fun v w' => v = .int .i64 (lstU q1 q2 y) ∧ Bel X1 w') rfl (by rfl) (by go_simp; first | done | with_reducible rfl | rfl) ((L2.out y X1).mono fun e w' ⟨h1, h2⟩ => ⟨_, h1, rfl, h2⟩) ?_
    rintro v X2 ⟨rfl, hb'⟩
    replace u11 := (hb'.cells _ _ (by have := hX1.size; omega)).trans u11
    replace u12 := (hb'.cells _ _ (by have := hX1.size; omega)).trans u12
    have hX2 := hX1.trans hb'
    clear hb'
    refine ⟨⟨hbY.trans hX2, u11, u12⟩, ?_⟩
    (try simp only [Act.put, List.setIfInBounds_toArray, List.set_cons_zero, List.set_cons_succ])
    refine wpAnyH_all (rs := [10]) (by kernel_rfl) (by simp) ?_
    intro i hi
    simp only [List.mem_cons, List.not_mem_nil, or_false] at hi
    subst hi
    refine wpOp_value (o := { dst := some 58, op := Op.build 61 #[(0, Operand.tmp 52), (1, Operand.tmp 57)], type := 61, pos := "kinds.go:126", after := #[{ on := 4, ground := Ground.data }, { on := 9, ground := Ground.data }], guard := none }) (v := .agg #[.int .i64 (fstU p1 p2 x), .int .i64 (lstU q1 q2 y)]) (w' := X2) rfl (by rfl) (by go_simp; first | done | with_reducible rfl | rfl) ?_
    refine ⟨⟨hbY.trans hX2, u11, u12⟩, ?_⟩
    (try simp only [Act.put, List.setIfInBounds_toArray, List.set_cons_zero, List.set_cons_succ])
    refine wpAnyH_all (rs := [11]) (by kernel_rfl) (by simp) ?_
    intro i hi
    simp only [List.mem_cons, List.not_mem_nil, or_false] at hi
    subst hi
    replace s0 := (hX2.cells _ _ (by omega)).trans s0
    replace s1 := (hX2.cells _ _ (by omega)).trans s1
    replace f0 := (hX2.frozens _ _ (by omega)).trans f0
    replace f1 := (hX2.frozens _ _ (by omega)).trans f1
    refine wpOp_skip (o := { dst := none, op := Op.store 61 (Operand.tmp 4) (Operand.tmp 58), type := 0, pos := "kinds.go:126", after := #[{ on := 10, ground := Ground.data }, { on := 9, ground := Ground.chain }, { on := 0, ground := Ground.phase }, { on := 1, ground := Ground.phase }, { on := 2, ground := Ground.phase }, { on := 3, ground := Ground.phase }, { on := 4, ground := Ground.phase }, { on := 5, ground := Ground.phase }, { on := 6, ground := Ground.phase }, { on := 7, ground := Ground.phase }, { on := 8, ground := Ground.phase }, { on := 9, ground := Ground.phase }, { on := 10, ground := Ground.phase }], guard := none }) (w' := ((X2.setCell ⟨w.heap.size + 2, 0, none⟩ (.int .i64 (fstU p1 p2 x))).setCell ⟨w.heap.size + 2, 1, none⟩ (.int .i64 (lstU q1 q2 y)))) rfl (by rfl) (by go_simp; first | done | with_reducible rfl | rfl) ?_
    have hZ : Bel w ((X2.setCell ⟨w.heap.size + 2, 0, none⟩ (.int .i64 (fstU p1 p2 x))).setCell ⟨w.heap.size + 2, 1, none⟩ (.int .i64 (lstU q1 q2 y))) := ((hbY.trans hX2).setCell (by dsimp only; omega) _).setCell (by dsimp only; omega) _
    refine ⟨⟨hZ, by simp [go_sem, u11], by simp [go_sem, u12]⟩, ?_⟩
    (try simp only [Act.put, List.setIfInBounds_toArray, List.set_cons_zero, List.set_cons_succ])
    have t0 : World.cell? ((X2.setCell ⟨w.heap.size + 2, 0, none⟩ (.int .i64 (fstU p1 p2 x))).setCell ⟨w.heap.size + 2, 1, none⟩ (.int .i64 (lstU q1 q2 y))) ⟨w.heap.size + 2, 0, none⟩ = some (.int .i64 (fstU p1 p2 x)) := by simp [go_sem, s0, s1]
    have t1 : World.cell? ((X2.setCell ⟨w.heap.size + 2, 0, none⟩ (.int .i64 (fstU p1 p2 x))).setCell ⟨w.heap.size + 2, 1, none⟩ (.int .i64 (lstU q1 q2 y))) ⟨w.heap.size + 2, 1, none⟩ = some (.int .i64 (lstU q1 q2 y)) := by simp [go_sem, s0, s1]
    generalize ((X2.setCell ⟨w.heap.size + 2, 0, none⟩ (.int .i64 (fstU p1 p2 x))).setCell ⟨w.heap.size + 2, 1, none⟩ (.int .i64 (lstU q1 q2 y))) = X3 at hZ t0 t1 ⊢
    refine wpAnyH_done (by kernel_rfl) ?_ _
    refine NoPanic.normal ?_
    clear u11 u12 s0 s1 f0 f1 hX0 hX1 hX2 x11 x12 hbY
    go_wp2_with fail
    exact bodyPost_ret (by simp [results, Tryz.results69, go_sem, t0, t1]; try rfl) rfl ⟨rfl, hZ⟩
  · have e6 : (tk == 6) = false := by simp [h6]
    by_cases h2 : tk = 2
    · subst h2
      obtain rfl : U = (-9223372036854775808, lstU p1 p2 true) := by have := hU.out; simpa using this
      clear hU C2 L2 e6 h6
      go_wp2_with (first
          | (go_at_call 103; with_reducible refine Calls.mono (F.out _ _) ?_; rintro e W2 ⟨rfl, hb2⟩; have hbY := hbX.trans hb2; have q0 := (hb2.cells _ _ (by omega)).trans r0; have q1 := (hb2.cells _ _ (by omega)).trans r1; have f0 := (hb2.frozens _ _ (by omega)).trans g0; have f1 := (hb2.frozens _ _ (by omega)).trans g1)
          | (go_at_call 102; with_reducible refine Calls.mono (L.out _ _) ?_; rintro e W2 ⟨rfl, hb2⟩; have hbY := hbX.trans hb2; have q0 := (hb2.cells _ _ (by omega)).trans r0; have q1 := (hb2.cells _ _ (by omega)).trans r1; have f0 := (hb2.frozens _ _ (by omega)).trans g0; have f1 := (hb2.frozens _ _ (by omega)).trans g1))
      exact bodyPost_ret (by simp [results, Tryz.results69, go_sem, q0, q1, f0, f1]; try rfl) rfl ⟨rfl, (hbY.setCell (by dsimp only; omega) _).setCell (by dsimp only; omega) _⟩
    · have e2 : (tk == 2) = false := by simp [h2]
      by_cases h3 : tk = 3
      · subst h3
        obtain rfl : U = (-9223372036854775808, p1) := by have := hU.out; simpa using this
        clear hU C2 L2 e6 h6
        go_wp2_with fail
        exact bodyPost_ret (by simp [results, Tryz.results69, go_sem, r0, r1, g0, g1]; try rfl) rfl ⟨rfl, (hbX.setCell (by dsimp only; omega) _).setCell (by dsimp only; omega) _⟩
      · have e3 : (tk == 3) = false := by simp [h3]
        by_cases h4 : tk = 4
        · subst h4
          obtain rfl : U = (wrap64 (p1 + 1), 9223372036854775807) := by have := hU.out; simpa using this
          clear hU C2 L2 e6 h6
          go_wp2_with fail
          exact bodyPost_ret (by simp [results, Tryz.results69, go_sem, r0, r1, g0, g1]; try rfl) rfl ⟨rfl, (hbX.setCell (by dsimp only; omega) _).setCell (by dsimp only; omega) _⟩
        · have e4 : (tk == 4) = false := by simp [h4]
          by_cases h5 : tk = 5
          · subst h5
            obtain rfl : U = (fstU p1 p2 false, 9223372036854775807) := by have := hU.out; simpa using this
            clear hU C2 L2 e6 h6
            go_wp2_with (first
                | (go_at_call 103; with_reducible refine Calls.mono (F.out _ _) ?_; rintro e W2 ⟨rfl, hb2⟩; have hbY := hbX.trans hb2; have q0 := (hb2.cells _ _ (by omega)).trans r0; have q1 := (hb2.cells _ _ (by omega)).trans r1; have f0 := (hb2.frozens _ _ (by omega)).trans g0; have f1 := (hb2.frozens _ _ (by omega)).trans g1)
                | (go_at_call 102; with_reducible refine Calls.mono (L.out _ _) ?_; rintro e W2 ⟨rfl, hb2⟩; have hbY := hbX.trans hb2; have q0 := (hb2.cells _ _ (by omega)).trans r0; have q1 := (hb2.cells _ _ (by omega)).trans r1; have f0 := (hb2.frozens _ _ (by omega)).trans g0; have f1 := (hb2.frozens _ _ (by omega)).trans g1))
            exact bodyPost_ret (by simp [results, Tryz.results69, go_sem, q0, q1, f0, f1]; try rfl) rfl ⟨rfl, (hbY.setCell (by dsimp only; omega) _).setCell (by dsimp only; omega) _⟩
          · have e5 : (tk == 5) = false := by simp [h5]
            obtain rfl : U = (fstU p1 p2 false, p1) := by have := hU.out; simpa [h2, h3, h4, h5, h6] using this
            clear hU C2 L2 h6
            go_wp2_with (first
                | (go_at_call 103; with_reducible refine Calls.mono (F.out _ _) ?_; rintro e W2 ⟨rfl, hb2⟩; have hbY := hbX.trans hb2; have q0 := (hb2.cells _ _ (by omega)).trans r0; have q1 := (hb2.cells _ _ (by omega)).trans r1; have f0 := (hb2.frozens _ _ (by omega)).trans g0; have f1 := (hb2.frozens _ _ (by omega)).trans g1)
                | (go_at_call 102; with_reducible refine Calls.mono (L.out _ _) ?_; rintro e W2 ⟨rfl, hb2⟩; have hbY := hbX.trans hb2; have q0 := (hb2.cells _ _ (by omega)).trans r0; have q1 := (hb2.cells _ _ (by omega)).trans r1; have f0 := (hb2.frozens _ _ (by omega)).trans g0; have f1 := (hb2.frozens _ _ (by omega)).trans g1))
            exact bodyPost_ret (by simp [results, Tryz.results69, go_sem, q0, q1, f0, f1]; try rfl) rfl ⟨rfl, (hbY.setCell (by dsimp only; omega) _).setCell (by dsimp only; omega) _⟩
end Go.Proofs.YtpmmbcobjibpeaaGreatDoor
