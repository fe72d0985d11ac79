import Derived.Test.YtjckpkamhdbcnaaGreatDoorJci
import Derived.Test.YtjckpkamhdbcnaaGreatDoorKef
namespace Go.Proofs.YtjckpkamhdbcnaaGreatDoor
set_option linter.unusedSimpArgs false
set_option linter.unusedVariables false
open Go.RowKit
attribute [local go_sem ↓] eql_val neq_val
/-! Of two values one of three holds. -/
theorem veq_tv (q : Bool) : veq (tval q) (tval true) = q := by cases q <;> decide
theorem veq_z : veq zero (tval true) = false := by decide
theorem cnt3 (x y z : Val) : cnt true [x, y, z] = (if veq x (tval true) = true then 1 else 0) + (if veq y (tval true) = true then 1 else 0) + (if veq z (tval true) = true then 1 else 0) := by
  unfold cnt
  cases hx : veq x (tval true) <;> cases hy : veq y (tval true) <;> cases hz : veq z (tval true) <;> simp [List.filter_cons, hx, hy, hz]
def thr (a b : Val) : Nat := cnt true [ltV a b, eqV a b, ltV b a]
theorem thr_no {a b : Val} (h : ¬ (vsnd a = true ∧ vsnd b = true)) : thr a b = 0 := by
  have h1 : ltV a b = zero := if_neg fun k => h ⟨k.1, k.2.1⟩
  have h2 : eqV a b = zero := if_neg fun k => h ⟨k.1, k.2.1⟩
  have h3 : ltV b a = zero := if_neg fun k => h ⟨k.2.1, k.1⟩
  unfold thr
  rw [h1, h2, h3]
  decide
theorem thr_one {a b : Val} (ha : vsnd a = true) (hb : vsnd b = true) (hk : a.kind = b.kind) (h3 : a.kind ≠ 3) (h0 : a.kind ≠ 0) : thr a b = 1 := by
  have e1 : ltV a b = tval (decide (vcmp a b < 0)) := if_pos ⟨ha, hb, hk, h0, h3⟩
  have e2 : eqV a b = tval (veq a b) := if_pos ⟨ha, hb, .inr (.inr hk)⟩
  have e3 : ltV b a = tval (decide (vcmp b a < 0)) := if_pos ⟨hb, ha, hk.symm, hk ▸ h0, hk ▸ h3⟩
  unfold thr
  rw [e1, e2, e3, cnt3, veq_tv, veq_tv, veq_tv, veq_cmp ha hb, vcmp_anti a b]
  generalize vcmp a b = c
  by_cases g : c < 0
  · have g1 : ¬ (c = 0) := by omega
    have g2 : ¬ (-c < 0) := by omega
    simp [g, g1, g2]; omega
  · by_cases g1 : c = 0
    · subst g1; rfl
    · have g2 : -c < 0 := by omega
      simp [g, g1, g2]; omega
theorem thr_two {a b : Val} (ha : vsnd a = true) (hb : vsnd b = true) (h : ¬ (a.kind = b.kind ∧ a.kind ≠ 3 ∧ a.kind ≠ 0)) : thr a b = if veq a b = true then 1 else 0 := by
  have e1 : ltV a b = zero := if_neg fun k => h ⟨k.2.2.1, k.2.2.2.2, k.2.2.2.1⟩
  have e3 : ltV b a = zero := by
    unfold ltV
    rw [if_neg]
    rintro ⟨-, -, k1, k2, k3⟩
    exact h ⟨k1.symm, k1 ▸ k3, k1 ▸ k2⟩
  unfold thr
  rw [e1, e3, cnt3, veq_z]
  by_cases g : a.kind = 0 ∨ b.kind = 0 ∨ a.kind = b.kind
  · rw [show eqV a b = tval (veq a b) from if_pos ⟨ha, hb, g⟩, veq_tv]
    simp
  · rw [show eqV a b = zero from if_neg fun k => g k.2.2, veq_z]
    have : veq a b = false := decide_eq_false fun e => g (.inr (.inr (by rw [e])))
    rw [this]
    rfl
theorem vals_three (w : World) (v u z : Val) : Vals (w.alloc (.cells #[.int .i64 v.kind, .int .i64 v.n, .int .i64 v.scale, .string v.text, .int .i64 v.num, .int .i64 u.kind, .int .i64 u.n, .int .i64 u.scale, .string u.text, .int .i64 u.num, .int .i64 z.kind, .int .i64 z.n, .int .i64 z.scale, .string z.text, .int .i64 z.num] 25)) (some ⟨w.heap.size, 0, none⟩) [v, u, z] := fun _ => by
  refine ⟨_, 0, rfl, by simp, fun i x hx => ?_⟩
  match i, hx with
  | 0, hx =>
    simp only [List.getElem?_cons_zero, Option.some.injEq] at hx
    subst hx
    simp [ValAt, go_sem]
  | 1, hx =>
    simp only [List.getElem?_cons_succ, List.getElem?_cons_zero, Option.some.injEq] at hx
    subst hx
    simp [ValAt, go_sem]
  | 2, hx =>
    simp only [List.getElem?_cons_succ, List.getElem?_cons_zero, Option.some.injEq] at hx
    subst hx
    simp [ValAt, go_sem]
set_option maxRecDepth 100000 in
set_option maxHeartbeats 8000000 in
theorem law_Three (a b : Val) (ha : a.text.size ≤ 9223372036854775807) (hb : b.text.size ≤ 9223372036854775807) (w : World) (hm : Mx w) :
    Calls Tryz.prog 6 #[a.val, b.val] w fun e w' => e = .returned (.bool true) ∧ Bel w w' := by
  have CL := fun w => lessV_any a b ha hb w
  have CE := fun w => equalV_any a b ha hb w
  have CG := fun w => lessV_any b a hb ha w
  have SA := Lib.hid (fun w => rvsound_any a ha w)
  have SB := Lib.hid (fun w => rvsound_any b hb w)
  have T0 := Lib.hid (@thr_no a b)
  have T1 := Lib.hid (@thr_one a b)
  have T2 := Lib.hid (@thr_two a b)
  have HR := Lib.hid (show thr a b = cnt true [ltV a b, eqV a b, ltV b a] from rfl)
  generalize thr a b = R at T0 T1 T2 HR
  generalize ltV a b = vl at CL HR
  generalize eqV a b = ve at CE HR
  generalize ltV b a = vg at CG HR
  obtain ⟨qa, hqa⟩ : ∃ q, q = vsnd a := ⟨_, rfl⟩
  obtain ⟨qb, hqb⟩ : ∃ q, q = vsnd b := ⟨_, rfl⟩
  have HQA := Lib.hid hqa
  have HQB := Lib.hid hqb
  rw [← hqa] at SA
  rw [← hqb] at SB
  obtain ⟨k, n, s, t, m⟩ := a
  obtain ⟨k', n', s', t', m'⟩ := b
  obtain ⟨lk, ln, ls, lt, lm⟩ := vl
  obtain ⟨ek, en, es, et, em⟩ := ve
  obtain ⟨gk, gn, gs, gt, gm⟩ := vg
  have CL := Lib.hid CL
  have CE := Lib.hid CE
  have CG := Lib.hid CG
  have HM := Lib.hid hm
  clear ha hb hm hqa hqb
  go_enter Tryz.func6, Tryz.ntmps6
  go_upto_region 2 with fail
  refine under_name (w0 := w) (by (repeat (first | with_reducible exact Bel.refl _ | with_reducible refine Bel.setCell ?_ (by first | exact Nat.le_refl _ | (dsimp only; omega)) _ | with_reducible refine Bel.alloc ?_ _ | with_reducible refine Bel.drew ?_ | with_reducible assumption | with_reducible refine Bel.trans ?_ (by assumption)))) fun W hcc hf hz hb0 => ?_
  have A0 : ValAt W w.heap.size 0 ⟨k, n, s, t, m⟩ := by simp [ValAt, hcc, hf, hz, go_sem]
  have B0 : ValAt W (w.heap.size + 1) 0 ⟨k', n', s', t', m'⟩ := by simp [ValAt, hcc, hf, hz, go_sem]
  have g0 : w.heap.size < W.heap.size := by rw [hz]; simp; omega
  have g1 : w.heap.size + 1 < W.heap.size := by rw [hz]; simp
  clear hcc hf hz
  have HB := Lib.hid hb0
  clear hb0
  generalize w.heap.size = N at A0 B0 g0 g1
  have KA := Lib.hid A0
  have KB := Lib.hid B0
  go_cut [17, 18, 19] (fun s17 s18 s19 wx => (∃ B, s17 = .slice (some ⟨B, 0, none⟩) 3 3 ∧ s18 = .int .i64 3 ∧ s19 = .int .i64 0 ∧ Vals wx (some ⟨B, 0, none⟩) [⟨lk, ln, ls, lt, lm⟩, ⟨ek, en, es, et, em⟩, ⟨gk, gn, gs, gt, gm⟩]) ∧ Bel W wx)
  case first =>
    have RD := Lib.hid fun X (hX : Bel W X) => And.intro (A0.keep hX g0) (B0.keep hX g1)
    simp only [ValAt, Nat.zero_add] at RD
    clear A0 B0 g0 g1 KA KB SA SB T0 T1 T2 HR HQA HQB HM HB
    refine wp_region_noPanic ?_
    refine wp_region_held (S := fun X => Bel W X) (by kernel_rfl) ?_
    have hX0 : Bel W { W with drawn := W.drawn + 1 } := (Bel.refl W).drew
    generalize { W with drawn := W.drawn + 1 } = X0 at hX0 ⊢
    refine wpAnyH_take (i := 0) (oi := { dst := some 8, op := Op.load 25 (Operand.tmp 2), type := 25, pos := "law.go:61", after := #[], guard := none }) (v := .agg #[.int .i64 k, .int .i64 n, .int .i64 s, .string t, .int .i64 m]) rfl (by kernel_rfl) (by kernel_rfl) (by kernel_rfl) (fun _ _ _ h => h) (.inl ⟨by rfl, fun X hS => by
        obtain ⟨⟨a0, a1, a2, a3, a4⟩, ⟨b0, b1, b2, b3, b4⟩⟩ := RD.out X hS
        go_simp; first | done | with_reducible rfl | rfl⟩) hX0 ?_
    (try simp only [Act.put, List.setIfInBounds_toArray, List.set_cons_zero, List.set_cons_succ])
    refine wpAnyH_take (i := 1) (oi := { dst := some 9, op := Op.load 25 (Operand.tmp 3), type := 25, pos := "law.go:61", after := #[], guard := none }) (v := .agg #[.int .i64 k', .int .i64 n', .int .i64 s', .string t', .int .i64 m']) rfl (by kernel_rfl) (by kernel_rfl) (by kernel_rfl) (fun _ _ _ h => h) (.inl ⟨by rfl, fun X hS => by
        obtain ⟨⟨a0, a1, a2, a3, a4⟩, ⟨b0, b1, b2, b3, b4⟩⟩ := RD.out X hS
        go_simp; first | done | with_reducible rfl | rfl⟩) hX0 ?_
    (try simp only [Act.put, List.setIfInBounds_toArray, List.set_cons_zero, List.set_cons_succ])
    refine wpAnyH_take (i := 3) (oi := { dst := some 11, op := Op.load 25 (Operand.tmp 2), type := 25, pos := "law.go:61", after := #[], guard := none }) (v := .agg #[.int .i64 k, .int .i64 n, .int .i64 s, .string t, .int .i64 m]) rfl (by kernel_rfl) (by kernel_rfl) (by kernel_rfl) (fun _ _ _ h => h) (.inl ⟨by rfl, fun X hS => by
        obtain ⟨⟨a0, a1, a2, a3, a4⟩, ⟨b0, b1, b2, b3, b4⟩⟩ := RD.out X hS
        go_simp; first | done | with_reducible rfl | rfl⟩) hX0 ?_
    (try simp only [Act.put, List.setIfInBounds_toArray, List.set_cons_zero, List.set_cons_succ])
    refine wpAnyH_take (i := 4) (oi := { dst := some 12, op := Op.load 25 (Operand.tmp 3), type := 25, pos := "law.go:61", after := #[], guard := none }) (v := .agg #[.int .i64 k', .int .i64 n', .int .i64 s', .string t', .int .i64 m']) rfl (by kernel_rfl) (by kernel_rfl) (by kernel_rfl) (fun _ _ _ h => h) (.inl ⟨by rfl, fun X hS => by
        obtain ⟨⟨a0, a1, a2, a3, a4⟩, ⟨b0, b1, b2, b3, b4⟩⟩ := RD.out X hS
        go_simp; first | done | with_reducible rfl | rfl⟩) hX0 ?_
    (try simp only [Act.put, List.setIfInBounds_toArray, List.set_cons_zero, List.set_cons_succ])
    refine wpAnyH_take (i := 6) (oi := { dst := some 14, op := Op.load 25 (Operand.tmp 3), type := 25, pos := "law.go:61", after := #[], guard := none }) (v := .agg #[.int .i64 k', .int .i64 n', .int .i64 s', .string t', .int .i64 m']) rfl (by kernel_rfl) (by kernel_rfl) (by kernel_rfl) (fun _ _ _ h => h) (.inl ⟨by rfl, fun X hS => by
        obtain ⟨⟨a0, a1, a2, a3, a4⟩, ⟨b0, b1, b2, b3, b4⟩⟩ := RD.out X hS
        go_simp; first | done | with_reducible rfl | rfl⟩) hX0 ?_
    (try simp only [Act.put, List.setIfInBounds_toArray, List.set_cons_zero, List.set_cons_succ])
    refine wpAnyH_take (i := 7) (oi := { dst := some 15, op := Op.load 25 (Operand.tmp 2), type := 25, pos := "law.go:61", after := #[], guard := none }) (v := .agg #[.int .i64 k, .int .i64 n, .int .i64 s, .string t, .int .i64 m]) rfl (by kernel_rfl) (by kernel_rfl) (by kernel_rfl) (fun _ _ _ h => h) (.inl ⟨by rfl, fun X hS => by
        obtain ⟨⟨a0, a1, a2, a3, a4⟩, ⟨b0, b1, b2, b3, b4⟩⟩ := RD.out X hS
        go_simp; first | done | with_reducible rfl | rfl⟩) hX0 ?_
    (try simp only [Act.put, List.setIfInBounds_toArray, List.set_cons_zero, List.set_cons_succ])
    refine wpAnyH_take (i := 11) (oi := { dst := some 19, op := Op.move (Operand.const (Value.int IntKind.i64 0)), type := 3, pos := "law.go:61", after := #[], guard := none }) (v := .int .i64 0) rfl (by kernel_rfl) (by kernel_rfl) (by kernel_rfl) (fun _ _ _ h => h) (.inl ⟨by rfl, fun X hS => by
        go_simp; first | done | with_reducible rfl | rfl⟩) hX0 ?_
    (try simp only [Act.put, List.setIfInBounds_toArray, List.set_cons_zero, List.set_cons_succ])
    refine wpAnyH_all (rs := [2]) (by kernel_rfl) (by simp) ?_
    intro i hi
    simp only [List.mem_cons, List.not_mem_nil, or_false] at hi
    subst hi
    refine wpOp_enter (o := { dst := some 10, op := Op.call { callee := Callee.value (Operand.func 17), args := #[Operand.tmp 8, Operand.tmp 9], argTypes := #[25, 25] }, type := 25, pos := "law.go:61", after := #[{ on := 0, ground := Ground.data }, { on := 1, ground := Ground.data }], guard := none }) (R := fun v w' => v = .agg #[.int .i64 lk, .int .i64 ln, .int .i64 ls, .string lt, .int .i64 lm] ∧ Bel X0 w') rfl (by rfl) (by go_simp; first | done | with_reducible rfl | rfl) ((CL.out X0).mono fun e w' h => ⟨_, h.1, rfl, h.2⟩) ?_
    rintro v X1 ⟨rfl, hb'⟩
    refine ⟨hX0.trans hb', ?_⟩
    (try simp only [Act.put, List.setIfInBounds_toArray, List.set_cons_zero, List.set_cons_succ])
    have hX1 := hX0.trans hb'
    clear hb'
    refine wpAnyH_all (rs := [5]) (by kernel_rfl) (by simp) ?_
    intro i hi
    simp only [List.mem_cons, List.not_mem_nil, or_false] at hi
    subst hi
    refine wpOp_enter (o := { dst := some 13, op := Op.call { callee := Callee.value (Operand.func 15), args := #[Operand.tmp 11, Operand.tmp 12], argTypes := #[25, 25] }, type := 25, pos := "law.go:61", after := #[{ on := 3, ground := Ground.data }, { on := 4, ground := Ground.data }, { on := 2, ground := Ground.chain }], guard := none }) (R := fun v w' => v = .agg #[.int .i64 ek, .int .i64 en, .int .i64 es, .string et, .int .i64 em] ∧ Bel X1 w') rfl (by rfl) (by go_simp; first | done | with_reducible rfl | rfl) ((CE.out X1).mono fun e w' h => ⟨_, h.1, rfl, h.2⟩) ?_
    rintro v X2 ⟨rfl, hb'⟩
    refine ⟨hX1.trans hb', ?_⟩
    (try simp only [Act.put, List.setIfInBounds_toArray, List.set_cons_zero, List.set_cons_succ])
    have hX2 := hX1.trans hb'
    clear hb'
    refine wpAnyH_all (rs := [8]) (by kernel_rfl) (by simp) ?_
    intro i hi
    simp only [List.mem_cons, List.not_mem_nil, or_false] at hi
    subst hi
    refine wpOp_enter (o := { dst := some 16, op := Op.call { callee := Callee.value (Operand.func 17), args := #[Operand.tmp 14, Operand.tmp 15], argTypes := #[25, 25] }, type := 25, pos := "law.go:61", after := #[{ on := 6, ground := Ground.data }, { on := 7, ground := Ground.data }, { on := 5, ground := Ground.chain }], guard := none }) (R := fun v w' => v = .agg #[.int .i64 gk, .int .i64 gn, .int .i64 gs, .string gt, .int .i64 gm] ∧ Bel X2 w') rfl (by rfl) (by go_simp; first | done | with_reducible rfl | rfl) ((CG.out X2).mono fun e w' h => ⟨_, h.1, rfl, h.2⟩) ?_
    rintro v X3 ⟨rfl, hb'⟩
    refine ⟨hX2.trans hb', ?_⟩
    (try simp only [Act.put, List.setIfInBounds_toArray, List.set_cons_zero, List.set_cons_succ])
    have hX3 := hX2.trans hb'
    clear hb'
    refine wpAnyH_all (rs := [9]) (by kernel_rfl) (by simp) ?_
    intro i hi
    simp only [List.mem_cons, List.not_mem_nil, or_false] at hi
    subst hi
    refine wpOp_value (o := { dst := some 17, op := Op.buildSlice 42 3 #[(0, Operand.tmp 10), (1, Operand.tmp 13), (2, Operand.tmp 16)], type := 42, pos := "law.go:61", after := #[{ on := 2, ground := Ground.data }, { on := 5, ground := Ground.data }, { on := 8, ground := Ground.data }], guard := none }) (v := .slice (some ⟨X3.heap.size, 0, none⟩) 3 3) (w' := X3.alloc (.cells #[.int .i64 lk, .int .i64 ln, .int .i64 ls, .string lt, .int .i64 lm, .int .i64 ek, .int .i64 en, .int .i64 es, .string et, .int .i64 em, .int .i64 gk, .int .i64 gn, .int .i64 gs, .string gt, .int .i64 gm] 25)) rfl (by rfl) (by go_simp; first | done | with_reducible rfl | rfl) ?_
    have hb' : Bel X3 (X3.alloc (.cells #[.int .i64 lk, .int .i64 ln, .int .i64 ls, .string lt, .int .i64 lm, .int .i64 ek, .int .i64 en, .int .i64 es, .string et, .int .i64 em, .int .i64 gk, .int .i64 gn, .int .i64 gs, .string gt, .int .i64 gm] 25)) := (Bel.refl _).alloc _
    have hV := vals_three X3 ⟨lk, ln, ls, lt, lm⟩ ⟨ek, en, es, et, em⟩ ⟨gk, gn, gs, gt, gm⟩
    refine ⟨hX3.trans hb', ?_⟩
    (try simp only [Act.put, List.setIfInBounds_toArray, List.set_cons_zero, List.set_cons_succ])
    have hX4 := hX3.trans hb'
    clear hb'
    generalize X3.alloc (.cells #[.int .i64 lk, .int .i64 ln, .int .i64 ls, .string lt, .int .i64 lm, .int .i64 ek, .int .i64 en, .int .i64 es, .string et, .int .i64 em, .int .i64 gk, .int .i64 gn, .int .i64 gs, .string gt, .int .i64 gm] 25) = X4 at hX4 hV ⊢
    generalize X3.heap.size = B at hV ⊢
    refine wpAnyH_all (rs := [10]) (by kernel_rfl) (by simp) ?_
    intro i hi
    simp only [List.mem_cons, List.not_mem_nil, or_false] at hi
    subst hi
    refine wpOp_value (o := { dst := some 18, op := Op.call { callee := Callee.builtin Builtin.len, args := #[Operand.tmp 17], argTypes := #[42] }, type := 3, pos := "law.go:61", after := #[{ on := 9, ground := Ground.data }], guard := none }) (v := .int .i64 3) (w' := X4) rfl (by rfl) (by go_simp; first | done | with_reducible rfl | rfl) ?_
    refine ⟨hX4, ?_⟩
    (try simp only [Act.put, List.setIfInBounds_toArray, List.set_cons_zero, List.set_cons_succ])
    refine wpAnyH_done (by kernel_rfl) ?_ _
    refine NoPanic.normal ?_
    go_wp2
    go_meet
    exact ⟨⟨B, rfl, rfl, rfl, hV⟩, hX4⟩
  case rest =>
    obtain ⟨⟨B, rfl, rfl, rfl, hV⟩, hbX⟩ := hcut
    obtain ⟨vs, hvs⟩ : ∃ vs : List Val, vs = [⟨lk, ln, ls, lt, lm⟩, ⟨ek, en, es, et, em⟩, ⟨gk, gn, gs, gt, gm⟩] := ⟨_, rfl⟩
    have hR := HR.out
    rw [← hvs] at hV hR
    have HL : Hid (vs.length = 3) := Lib.hid (by rw [hvs]; rfl)
    have HR2 := Lib.hid hR
    clear hvs hR HR CL CE CG A0 B0
    have G0 := Lib.hid g0
    have G1 := Lib.hid g1
    clear g0 g1
    have HV := Lib.hid hV
    have HBX := Lib.hid hbX
    clear hV hbX
    go_wp2_with fail
    go_loopw [5, 7, 19] (fun n5 _ i wr => ∃ q : Nat, q ≤ 3 ∧ i = .int .i64 q ∧ n5 = .int .i64 (cnt true (vs.take q)) ∧ Hid (Bel W wr) ∧ Hid (Vals wr (some ⟨B, 0, none⟩) vs)) (fun _ _ i _ => 3 - (intOf i).toNat)
    case atStart => exact ⟨0, by omega, rfl, rfl, HBX, HV⟩
    case round =>
      obtain ⟨q, hq, rfl, rfl, hb, hVr⟩ := hrel
      have l1 := cnt_le true (vs.take q)
      have l3 : (vs.take q).length ≤ q := List.length_take_le _ _
      by_cases hlt : q < 3
      · obtain ⟨b, off, he, hbl, hcell⟩ := hVr.out (by rw [HL.out]; decide)
        cases he
        obtain ⟨⟨k0, n0, s0, t0, m0⟩, hv0⟩ : ∃ v, vs[q]? = some v := ⟨_, List.getElem?_eq_getElem (by rw [HL.out]; exact hlt)⟩
        obtain ⟨h0, h1, h2, h3, h4⟩ := hcell q _ hv0
        simp only [Nat.zero_add] at h0 h1 h2 h3 h4
        have Ht := Lib.hid (cnt_snoc true vs q _ hv0)
        clear hcell hv0
        cases hx : veq ⟨k0, n0, s0, t0, m0⟩ (tval true)
        all_goals
          have E1 := Lib.hid hx
          simp only [tval, if_true] at hx
          go_upto_region 5 with fail
          refine under_name (w0 := wr) (by (repeat (first | with_reducible exact Bel.refl _ | with_reducible refine Bel.setCell ?_ (by first | exact Nat.le_refl _ | (dsimp only; omega)) _ | with_reducible refine Bel.alloc ?_ _ | with_reducible refine Bel.drew ?_ | with_reducible assumption | with_reducible refine Bel.trans ?_ (by assumption)))) fun W5 hcc hf hz hb5 => ?_
          have A5 : ValAt W5 wr.heap.size 0 ⟨k0, n0, s0, t0, m0⟩ := by simp [ValAt, hcc, hf, hz, go_sem]
          have g5 : wr.heap.size < W5.heap.size := by rw [hz]; simp
          have HB5 := Lib.hid (hb.out.trans hb5)
          have HV5 := Lib.hid (hVr.out.keep hb5)
          clear hcc hf hz hb5 h0 h1 h2 h3 h4
          generalize wr.heap.size = Y at A5 g5
          obtain ⟨a0, a1, a2, a3, a4⟩ := A5
          simp only [Nat.zero_add] at a0 a1 a2 a3 a4
          refine wp_region_uni (S := (fun w' => Bel W5 w' ∧ (∀ b o, b < W5.heap.size → w'.cell? ⟨b, o, none⟩ = W5.cell? ⟨b, o, none⟩))) (by kernel_rfl) (by kernel_rfl) keep0 ?_
          repeat (first | (refine wpUni_skip (by rfl) ?_; (try simp only [Act.put, List.setIfInBounds_toArray, List.set_cons_zero, List.set_cons_succ]))
                                                            | (refine wpUni_value (by rfl) (fun w hS => by (try dsimp only at hS); go_simp; first | done | with_reducible rfl) ?_; (try simp only [Act.put, List.setIfInBounds_toArray, List.set_cons_zero, List.set_cons_succ]))
                                                            | (refine wpUni_call (f := 19) (by rfl) (fun w => by go_simp; first | done | with_reducible rfl) (fun w hS => ((rtruth_t w)).mono fun e w' ⟨he, hb⟩ => ⟨he, keep1 hS hb⟩) ?_; (try simp only [Act.put, List.setIfInBounds_toArray, List.set_cons_zero, List.set_cons_succ])))
          refine wpUni_nil fun W6 hS => ?_
          have HB6 := Lib.hid (HB5.out.trans hS.1)
          have HV6 := Lib.hid (HV5.out.keep hS.1)
          clear hS a0 a1 a2 a3 a4 g5
          go_wp2_with fail
          go_roundw
          case rel => exact ⟨q + 1, by omega, by go_num, by rw [Ht.out, E1.out]; go_num, HB6, HV6⟩
          case measure => simp [intOf]; omega
      · obtain rfl : q = 3 := by omega
        have hR3 : cnt true (vs.take 3) = R := by rw [HR2.out, List.take_of_length_le (by rw [HL.out]; decide)]
        rw [hR3]
        clear hR3 l1 l3 hlt hq
        have HB0 := hb
        have ka := KA.out.keep HB0.out G0.out
        have kb := KB.out.keep HB0.out G1.out
        simp only [ValAt, Nat.zero_add] at ka kb
        have HW : Hid (Bel w wr) := Lib.hid (HB.out.trans HB0.out)
        clear hb hVr
        cases qa with
        | false =>
          obtain rfl : R = 0 := T0.out (fun h => by have := HQA.out; rw [h.1] at this; cases this)
          clear T0 T1 T2
          have K0 : Hid (0 = 0) := Lib.hid rfl
          go_wp2_with (first
            | (have _t := K0.out; clear _t K0; have K1 : Hid (1 = 1) := Lib.hid rfl; go_at_call 11; (with_reducible refine Calls.mono (awake_T _ (HM.out.keep HW.out)) ?_); rintro e V1 ⟨rfl, hb1⟩; clear ka kb; have HB1 := Lib.hid (HB0.out.trans hb1); have ka := KA.out.keep HB1.out G0.out; have kb := KB.out.keep HB1.out G1.out; simp only [ValAt, Nat.zero_add] at ka kb; have HW := Lib.hid (HW.out.trans hb1); clear hb1)
            | (have _t := K1.out; clear _t K1; have K2 : Hid (2 = 2) := Lib.hid rfl; go_at_call 20; (with_reducible refine Calls.mono (SA.out _) ?_); rintro e V2 ⟨rfl, hb2⟩; clear ka kb; have HB2 := Lib.hid (HB1.out.trans hb2); have ka := KA.out.keep HB2.out G0.out; have kb := KB.out.keep HB2.out G1.out; simp only [ValAt, Nat.zero_add] at ka kb; have HW := Lib.hid (HW.out.trans hb2); clear hb2)
            | (have _t := K2.out; clear _t K2; have K3 : Hid (3 = 3) := Lib.hid rfl; go_at_call 11; (with_reducible refine Calls.mono (awake_T _ (HM.out.keep HW.out)) ?_); rintro e V3 ⟨rfl, hb3⟩; clear ka kb; have HB3 := Lib.hid (HB2.out.trans hb3); have ka := KA.out.keep HB3.out G0.out; have kb := KB.out.keep HB3.out G1.out; simp only [ValAt, Nat.zero_add] at ka kb; have HW := Lib.hid (HW.out.trans hb3); clear hb3))
          go_ret
          exact ⟨rfl, (by have h0 := HW.out; (repeat (first | with_reducible exact Bel.refl _ | with_reducible refine Bel.setCell ?_ (by first | exact Nat.le_refl _ | (dsimp only; omega)) _ | with_reducible refine Bel.alloc ?_ _ | with_reducible refine Bel.drew ?_ | with_reducible assumption | with_reducible refine Bel.trans ?_ (by assumption))))⟩
        | true =>
        cases qb with
        | false =>
          obtain rfl : R = 0 := T0.out (fun h => by have := HQB.out; rw [h.2] at this; cases this)
          clear T0 T1 T2
          have K0 : Hid (0 = 0) := Lib.hid rfl
          go_wp2_with (first
            | (have _t := K0.out; clear _t K0; have K1 : Hid (1 = 1) := Lib.hid rfl; go_at_call 11; (with_reducible refine Calls.mono (awake_T _ (HM.out.keep HW.out)) ?_); rintro e V1 ⟨rfl, hb1⟩; clear ka kb; have HB1 := Lib.hid (HB0.out.trans hb1); have ka := KA.out.keep HB1.out G0.out; have kb := KB.out.keep HB1.out G1.out; simp only [ValAt, Nat.zero_add] at ka kb; have HW := Lib.hid (HW.out.trans hb1); clear hb1)
            | (have _t := K1.out; clear _t K1; have K2 : Hid (2 = 2) := Lib.hid rfl; go_at_call 20; (with_reducible refine Calls.mono (SA.out _) ?_); rintro e V2 ⟨rfl, hb2⟩; clear ka kb; have HB2 := Lib.hid (HB1.out.trans hb2); have ka := KA.out.keep HB2.out G0.out; have kb := KB.out.keep HB2.out G1.out; simp only [ValAt, Nat.zero_add] at ka kb; have HW := Lib.hid (HW.out.trans hb2); clear hb2)
            | (have _t := K2.out; clear _t K2; have K3 : Hid (3 = 3) := Lib.hid rfl; go_at_call 20; (with_reducible refine Calls.mono (SB.out _) ?_); rintro e V3 ⟨rfl, hb3⟩; clear ka kb; have HB3 := Lib.hid (HB2.out.trans hb3); have ka := KA.out.keep HB3.out G0.out; have kb := KB.out.keep HB3.out G1.out; simp only [ValAt, Nat.zero_add] at ka kb; have HW := Lib.hid (HW.out.trans hb3); clear hb3)
            | (have _t := K3.out; clear _t K3; have K4 : Hid (4 = 4) := Lib.hid rfl; go_at_call 11; (with_reducible refine Calls.mono (awake_T _ (HM.out.keep HW.out)) ?_); rintro e V4 ⟨rfl, hb4⟩; clear ka kb; have HB4 := Lib.hid (HB3.out.trans hb4); have ka := KA.out.keep HB4.out G0.out; have kb := KB.out.keep HB4.out G1.out; simp only [ValAt, Nat.zero_add] at ka kb; have HW := Lib.hid (HW.out.trans hb4); clear hb4))
          go_ret
          exact ⟨rfl, (by have h0 := HW.out; (repeat (first | with_reducible exact Bel.refl _ | with_reducible refine Bel.setCell ?_ (by first | exact Nat.le_refl _ | (dsimp only; omega)) _ | with_reducible refine Bel.alloc ?_ _ | with_reducible refine Bel.drew ?_ | with_reducible assumption | with_reducible refine Bel.trans ?_ (by assumption))))⟩
        | true =>
          by_cases hk : k = k' ∧ k ≠ 3 ∧ k ≠ 0
          · obtain rfl : R = 1 := T1.out HQA.out.symm HQB.out.symm hk.1 hk.2.1 hk.2.2
            clear T0 T1 T2
            have f1 : (k == k') = true := by rw [beq_iff_eq]; exact hk.1
            have f2 : (k != 3) = true := by rw [bne_iff_ne]; exact hk.2.1
            have f3 : (k != 0) = true := by rw [bne_iff_ne]; exact hk.2.2
            clear hk
            have K0 : Hid (0 = 0) := Lib.hid rfl
            go_wp2_with (first
              | (have _t := K0.out; clear _t K0; have K1 : Hid (1 = 1) := Lib.hid rfl; go_at_call 11; (with_reducible refine Calls.mono (awake_T _ (HM.out.keep HW.out)) ?_); rintro e V1 ⟨rfl, hb1⟩; clear ka kb; have HB1 := Lib.hid (HB0.out.trans hb1); have ka := KA.out.keep HB1.out G0.out; have kb := KB.out.keep HB1.out G1.out; simp only [ValAt, Nat.zero_add] at ka kb; have HW := Lib.hid (HW.out.trans hb1); clear hb1)
              | (have _t := K1.out; clear _t K1; have K2 : Hid (2 = 2) := Lib.hid rfl; go_at_call 20; (with_reducible refine Calls.mono (SA.out _) ?_); rintro e V2 ⟨rfl, hb2⟩; clear ka kb; have HB2 := Lib.hid (HB1.out.trans hb2); have ka := KA.out.keep HB2.out G0.out; have kb := KB.out.keep HB2.out G1.out; simp only [ValAt, Nat.zero_add] at ka kb; have HW := Lib.hid (HW.out.trans hb2); clear hb2)
              | (have _t := K2.out; clear _t K2; have K3 : Hid (3 = 3) := Lib.hid rfl; go_at_call 20; (with_reducible refine Calls.mono (SB.out _) ?_); rintro e V3 ⟨rfl, hb3⟩; clear ka kb; have HB3 := Lib.hid (HB2.out.trans hb3); have ka := KA.out.keep HB3.out G0.out; have kb := KB.out.keep HB3.out G1.out; simp only [ValAt, Nat.zero_add] at ka kb; have HW := Lib.hid (HW.out.trans hb3); clear hb3))
            go_ret
            exact ⟨rfl, (by have h0 := HW.out; (repeat (first | with_reducible exact Bel.refl _ | with_reducible refine Bel.setCell ?_ (by first | exact Nat.le_refl _ | (dsimp only; omega)) _ | with_reducible refine Bel.alloc ?_ _ | with_reducible refine Bel.drew ?_ | with_reducible assumption | with_reducible refine Bel.trans ?_ (by assumption))))⟩
          · have hR : R = if veq ⟨k, n, s, t, m⟩ ⟨k', n', s', t', m'⟩ = true then 1 else 0 := T2.out HQA.out.symm HQB.out.symm hk
            clear T0 T1 T2
            by_cases h1 : k = k'
            · have f1 : (k == k') = true := by rw [beq_iff_eq]; exact h1
              by_cases h2 : k = 3
              · have f2 : (k != 3) = false := by rw [bne_eq_false_iff_eq]; exact h2
                cases hx : veq ⟨k, n, s, t, m⟩ ⟨k', n', s', t', m'⟩
                all_goals
                  rw [hx] at hR
                  simp only [if_true, Bool.false_eq_true, if_false] at hR
                  subst hR
                  clear hk h1 h2
                  have K0 : Hid (0 = 0) := Lib.hid rfl
                  go_wp2_with (first
                    | (have _t := K0.out; clear _t K0; have K1 : Hid (1 = 1) := Lib.hid rfl; go_at_call 11; (with_reducible refine Calls.mono (awake_T _ (HM.out.keep HW.out)) ?_); rintro e V1 ⟨rfl, hb1⟩; clear ka kb; have HB1 := Lib.hid (HB0.out.trans hb1); have ka := KA.out.keep HB1.out G0.out; have kb := KB.out.keep HB1.out G1.out; simp only [ValAt, Nat.zero_add] at ka kb; have HW := Lib.hid (HW.out.trans hb1); clear hb1)
                    | (have _t := K1.out; clear _t K1; have K2 : Hid (2 = 2) := Lib.hid rfl; go_at_call 20; (with_reducible refine Calls.mono (SA.out _) ?_); rintro e V2 ⟨rfl, hb2⟩; clear ka kb; have HB2 := Lib.hid (HB1.out.trans hb2); have ka := KA.out.keep HB2.out G0.out; have kb := KB.out.keep HB2.out G1.out; simp only [ValAt, Nat.zero_add] at ka kb; have HW := Lib.hid (HW.out.trans hb2); clear hb2)
                    | (have _t := K2.out; clear _t K2; have K3 : Hid (3 = 3) := Lib.hid rfl; go_at_call 20; (with_reducible refine Calls.mono (SB.out _) ?_); rintro e V3 ⟨rfl, hb3⟩; clear ka kb; have HB3 := Lib.hid (HB2.out.trans hb3); have ka := KA.out.keep HB3.out G0.out; have kb := KB.out.keep HB3.out G1.out; simp only [ValAt, Nat.zero_add] at ka kb; have HW := Lib.hid (HW.out.trans hb3); clear hb3))
                  go_ret
                  exact ⟨rfl, (by have h0 := HW.out; (repeat (first | with_reducible exact Bel.refl _ | with_reducible refine Bel.setCell ?_ (by first | exact Nat.le_refl _ | (dsimp only; omega)) _ | with_reducible refine Bel.alloc ?_ _ | with_reducible refine Bel.drew ?_ | with_reducible assumption | with_reducible refine Bel.trans ?_ (by assumption))))⟩
              · have f2 : (k != 3) = true := by rw [bne_iff_ne]; exact h2
                have f3 : (k != 0) = false := by rw [bne_eq_false_iff_eq]; exact Classical.not_not.1 fun e => hk ⟨h1, h2, e⟩
                cases hx : veq ⟨k, n, s, t, m⟩ ⟨k', n', s', t', m'⟩
                all_goals
                  rw [hx] at hR
                  simp only [if_true, Bool.false_eq_true, if_false] at hR
                  subst hR
                  clear hk h1 h2
                  have K0 : Hid (0 = 0) := Lib.hid rfl
                  go_wp2_with (first
                    | (have _t := K0.out; clear _t K0; have K1 : Hid (1 = 1) := Lib.hid rfl; go_at_call 11; (with_reducible refine Calls.mono (awake_T _ (HM.out.keep HW.out)) ?_); rintro e V1 ⟨rfl, hb1⟩; clear ka kb; have HB1 := Lib.hid (HB0.out.trans hb1); have ka := KA.out.keep HB1.out G0.out; have kb := KB.out.keep HB1.out G1.out; simp only [ValAt, Nat.zero_add] at ka kb; have HW := Lib.hid (HW.out.trans hb1); clear hb1)
                    | (have _t := K1.out; clear _t K1; have K2 : Hid (2 = 2) := Lib.hid rfl; go_at_call 20; (with_reducible refine Calls.mono (SA.out _) ?_); rintro e V2 ⟨rfl, hb2⟩; clear ka kb; have HB2 := Lib.hid (HB1.out.trans hb2); have ka := KA.out.keep HB2.out G0.out; have kb := KB.out.keep HB2.out G1.out; simp only [ValAt, Nat.zero_add] at ka kb; have HW := Lib.hid (HW.out.trans hb2); clear hb2)
                    | (have _t := K2.out; clear _t K2; have K3 : Hid (3 = 3) := Lib.hid rfl; go_at_call 20; (with_reducible refine Calls.mono (SB.out _) ?_); rintro e V3 ⟨rfl, hb3⟩; clear ka kb; have HB3 := Lib.hid (HB2.out.trans hb3); have ka := KA.out.keep HB3.out G0.out; have kb := KB.out.keep HB3.out G1.out; simp only [ValAt, Nat.zero_add] at ka kb; have HW := Lib.hid (HW.out.trans hb3); clear hb3))
                  go_ret
                  exact ⟨rfl, (by have h0 := HW.out; (repeat (first | with_reducible exact Bel.refl _ | with_reducible refine Bel.setCell ?_ (by first | exact Nat.le_refl _ | (dsimp only; omega)) _ | with_reducible refine Bel.alloc ?_ _ | with_reducible refine Bel.drew ?_ | with_reducible assumption | with_reducible refine Bel.trans ?_ (by assumption))))⟩
            · have f1 : (k == k') = false := by rw [beq_eq_false_iff_ne]; exact h1
              cases hx : veq ⟨k, n, s, t, m⟩ ⟨k', n', s', t', m'⟩
              all_goals
                rw [hx] at hR
                simp only [if_true, Bool.false_eq_true, if_false] at hR
                subst hR
                clear hk h1
                have K0 : Hid (0 = 0) := Lib.hid rfl
                go_wp2_with (first
                  | (have _t := K0.out; clear _t K0; have K1 : Hid (1 = 1) := Lib.hid rfl; go_at_call 11; (with_reducible refine Calls.mono (awake_T _ (HM.out.keep HW.out)) ?_); rintro e V1 ⟨rfl, hb1⟩; clear ka kb; have HB1 := Lib.hid (HB0.out.trans hb1); have ka := KA.out.keep HB1.out G0.out; have kb := KB.out.keep HB1.out G1.out; simp only [ValAt, Nat.zero_add] at ka kb; have HW := Lib.hid (HW.out.trans hb1); clear hb1)
                  | (have _t := K1.out; clear _t K1; have K2 : Hid (2 = 2) := Lib.hid rfl; go_at_call 20; (with_reducible refine Calls.mono (SA.out _) ?_); rintro e V2 ⟨rfl, hb2⟩; clear ka kb; have HB2 := Lib.hid (HB1.out.trans hb2); have ka := KA.out.keep HB2.out G0.out; have kb := KB.out.keep HB2.out G1.out; simp only [ValAt, Nat.zero_add] at ka kb; have HW := Lib.hid (HW.out.trans hb2); clear hb2)
                  | (have _t := K2.out; clear _t K2; have K3 : Hid (3 = 3) := Lib.hid rfl; go_at_call 20; (with_reducible refine Calls.mono (SB.out _) ?_); rintro e V3 ⟨rfl, hb3⟩; clear ka kb; have HB3 := Lib.hid (HB2.out.trans hb3); have ka := KA.out.keep HB3.out G0.out; have kb := KB.out.keep HB3.out G1.out; simp only [ValAt, Nat.zero_add] at ka kb; have HW := Lib.hid (HW.out.trans hb3); clear hb3))
                go_ret
                exact ⟨rfl, (by have h0 := HW.out; (repeat (first | with_reducible exact Bel.refl _ | with_reducible refine Bel.setCell ?_ (by first | exact Nat.le_refl _ | (dsimp only; omega)) _ | with_reducible refine Bel.alloc ?_ _ | with_reducible refine Bel.drew ?_ | with_reducible assumption | with_reducible refine Bel.trans ?_ (by assumption))))⟩
end Go.Proofs.YtjckpkamhdbcnaaGreatDoor
