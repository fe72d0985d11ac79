import Derived.Test.YtdggbafpdjenmaaGreatDoorUco
namespace Go.Proofs.YtdggbafpdjenmaaGreatDoor
set_option linter.unusedSimpArgs false
set_option linter.unusedVariables false
open Go.RowKit
/-! A region that draws its order and makes memory: each order by itself. -/
section
variable {P : Program} {ops : Array Oper} {Q : Exit → Act → World → Prop} {K : Act → World → Prop} {a : Act} {w : World}
theorem wpOp_value {i : Nat} {o : Oper} {v : Value} {w' : World} (hi : ops[i]? = some o) (hw : Region.wanted o (yielded ops a.tmps) = true) (hx : (execOp a.eval o).run P w = .ok (.value v) w') (h : K (a.put o.dst v) w') : wpOp P ops Q i K a w := by
  unfold wpOp
  rw [hi]
  simp only [hw, if_true]
  left
  unfold Oper.wp
  rw [hx]
  exact h
theorem wpOp_skip {i : Nat} {o : Oper} {w' : World} (hi : ops[i]? = some o) (hw : Region.wanted o (yielded ops a.tmps) = true) (hx : (execOp a.eval o).run P w = .ok .skip w') (h : K (a.put o.dst undef) w') : wpOp P ops Q i K a w := by
  unfold wpOp
  rw [hi]
  simp only [hw, if_true]
  left
  unfold Oper.wp
  rw [hx]
  exact h
theorem wpOp_enter {i : Nat} {o : Oper} {f : FuncId} {args : Array Value} {R : Value → World → Prop} (hi : ops[i]? = some o) (hw : Region.wanted o (yielded ops a.tmps) = true) (hx : (execOp a.eval o).run P w = .ok (.enter f args) w)
    (hc : Calls P f args w fun e w' => ∃ v, e = .returned v ∧ R v w') (h : ∀ v w', R v w' → K (a.put o.dst v) w') : wpOp P ops Q i K a w := by
  unfold wpOp
  rw [hi]
  simp only [hw, if_true]
  left
  unfold Oper.wp
  rw [hx]
  show Oper.upon P o a K Q _
  refine Calls.mono hc ?_
  rintro e w' ⟨v, rfl, hR⟩
  exact h v w' hR
end
/-! An interval that ends otherwise. -/
theorem TFree.oh {w : World} {b : Nat} {t : Tst} (h : TFree w b t) (o : Bool) : TFree (w.setCell ⟨b, 12, none⟩ (.bool o)) b ⟨t.kind, t.low, t.high, t.ol, o⟩ := by
  obtain ⟨z, ⟨a0, a1, a2, a3, a4, a5, a6, a7, a8, a9, a10, a11, a12⟩, ⟨f0, f1, f2, f3, f4, f5, f6, f7, f8, f9, f10, f11, f12⟩⟩ := h
  simp only [Nat.zero_add] at a0 a1 a2 a3 a4 a5 a6 a7 a8 a9 a10 a11 a12
  simp [TFree, TstAt, go_sem, z, a0, a1, a2, a3, a4, a5, a6, a7, a8, a9, a10, a11, a12, f0, f1, f2, f3, f4, f5, f6, f7, f8, f9, f10, f11, f12]
theorem Rdc.apart {w w' : World} {b g : Nat} {A : Option Addr} {n c i : Nat} {en wr e : Int} (h : Rdc w b A n c i en wr e) (hb : But g w w') (hg : ¬ b = g) : Rdc w' b A n c i en wr e := by
  obtain ⟨h0, ⟨a0, a1, a2, a3, a4⟩, ⟨f0, f1, f2, f3, f4⟩⟩ := h
  have c : ∀ o, w'.cell? ⟨b, o, none⟩ = w.cell? ⟨b, o, none⟩ := fun o => hb.cell (p := ⟨b, o, none⟩) h0 hg
  have f : ∀ o, w'.frozen? ⟨b, o, none⟩ = w.frozen? ⟨b, o, none⟩ := fun o => hb.frozen (p := ⟨b, o, none⟩) h0 hg
  refine ⟨Nat.lt_of_lt_of_le h0 hb.size, ⟨?_, ?_, ?_, ?_, ?_⟩, ⟨?_, ?_, ?_, ?_, ?_⟩⟩
  all_goals first | (rw [c]; assumption) | (rw [f]; assumption)
set_option maxRecDepth 100000 in
set_option maxHeartbeats 8000000 in
theorem uint_par (op : Bool) (ts : List Tok) (w : World) (b : Nat) (A : Option Addr) (c i : Nat) (en wr : Int) (hT : Toks w A ts) (hr : Rdc w b A ts.length c i en wr 0) (hi : i ≤ ts.length) (hl : ts.length ≤ 65536) (hB : ∃ B, Toks B A ts ∧ Bel B w ∧ B.heap.size ≤ b) (hS : ∀ t ∈ ts, ksnd t = true) (lo hi2 : Val) (r2 r3 : List Tok) (hv : valP ordk (ts.drop i) = .ok lo r2) (hs : isS [46, 46] r2 = true) (hv2 : valP (fun k => decide (k = lo.kind)) r2.tail = .ok hi2 r3) (hs3 : isS [93] r3 = false) (h4 : isS [41] r3 = true) :
    Calls Tryz.prog 64 #[.pointer (some ⟨b, 0, none⟩), .bool op] w (TstOut ts b A c en wr (intP op (ts.drop i)) w) := by
  have HP : intP op (ts.drop i) = .ok ⟨6, lo, hi2, op, true⟩ r3.tail := by
    unfold intP
    rw [hv]
    simp only
    rw [if_pos hs, hv2]
    simp only
    rw [if_neg (by rw [hs3]; decide), if_pos (.inl h4)]
  rw [HP]
  have hbw := hr.1
  obtain ⟨B, hTB, hBw, hBb⟩ := hB
  have KV := Lib.hid fun W (hW : Bel w W) => uval_ord ts W b A c i en wr (hT.keep hW) (hr.keep hW) hi hl ⟨B, hTB, hBw.trans hW, hBb⟩ hS
  rw [hv] at KV
  have KT := Lib.hid fun W (hW : But b w W) => hTB.keep (hW.bel hBw hBb)
  have HB0 := Lib.hid (show ∀ W, But b w W → ∃ B, Toks B A ts ∧ Bel B W ∧ B.heap.size ≤ b from fun W hW => ⟨B, hTB, hW.bel hBw hBb, hBb⟩)
  have HS0 := Lib.hid hS
  clear hT hr hTB hS HP hv
  go_enter Tryz.func64, Tryz.ntmps64
  go_upto_region 2 with fail
  refine under_name (((Bel.refl w).alloc _).alloc _) fun W hcc hf hz hb => ?_
  have T1 : TFree W w.heap.size ⟨0, zv, zv, false, false⟩ := by simp [TFree, TstAt, zv, hcc, hf, hz, go_sem]
  have T2 : TFree W (w.heap.size + 1) ⟨6, zv, zv, op, false⟩ := by simp [TFree, TstAt, zv, hcc, hf, hz, go_sem]
  clear hcc hf hz
  generalize hN : w.heap.size = N at T1 T2 ⊢
  have nb : N ≠ b := by omega
  have mb : N + 1 ≠ b := by omega
  have NW := Lib.hid (show w.heap.size ≤ N from by omega)
  clear hN
  have nm : ¬ N = N + 1 := by omega
  have mn : ¬ N + 1 = N := by omega
  have x2 : ¬ b = N := fun e => nb e.symm
  have xm : ¬ b = N + 1 := fun e => mb e.symm
  have MW := Lib.hid (show w.heap.size ≤ N + 1 from by have := NW.out; omega)
  have K1 := Lib.hid T1
  have K2 := Lib.hid T2
  clear T1 T2
  go_upto_region 3 with fail
  go_upto_region 4 with (go_at_call 63; (with_reducible refine Calls.mono (KV.out _ hb) ?_); rintro ee V1 ⟨j, wr', e', hb1, hr1, hj1, hee⟩; simp only at hee; obtain ⟨hee, hdj, hw', he'⟩ := hee; subst hee hw' he'; have hq1 := Lib.hid hb1; have hq2 := Lib.hid hr1; have hqd := Lib.hid hdj; obtain ⟨tz, ⟨t0, t1, t2, t3, t4, t5, t6, t7, t8, t9, t10, t11, t12⟩, ⟨g0, g1, g2, g3, g4, g5, g6, g7, g8, g9, g10, g11, g12⟩⟩ := K2.out.but hb1 mb; simp only [zv] at t0 t1 t2 t3 t4 t5 t6 t7 t8 t9 t10 t11 t12)
  clear t0 t1 t2 t3 t4 t5 t6 t7 t8 t9 t10 t11 t12 tz g0 g1 g2 g3 g4 g5 g6 g7 g8 g9 g10 g11 g12
  have L2 := Lib.hid ((K2.out.but hq1.out mb).low lo)
  have L1 := Lib.hid ((K1.out.but hq1.out nb).far (m := N + 1) (o := 1) nm lo)
  have R2 := Lib.hid (hq2.out.stV (m := N + 1) (o := 1) xm lo)
  have B2 := Lib.hid (((But.of hb).trans hq1.out).stV (m := N + 1) (o := 1) MW.out lo)
  refine at_world (stV V1 (N + 1) 1 lo) rfl ?_
  generalize stV V1 (N + 1) 1 lo = W2 at L2 L1 R2 B2 ⊢
  have hsj : isK 5 [46, 46] (ts.drop j) = true := by rw [hqd.out]; exact hs
  have hjl : j < ts.length := (tail_at hsj).1
  have CS := Lib.hid (sign_any ts [46, 46] W2 b A c j (j + 1) en wr' 0 (KT.out W2 B2.out) R2.out hj1 hl (by rw [if_pos hsj]))
  rw [hsj, show bytesOf [46, 46] = (⟨#[46, 46]⟩ : ByteArray) from rfl] at CS
  have hdj2 : ts.drop (j + 1) = r2.tail := by rw [← hqd.out, List.tail_drop]
  go_upto_region 8 with (go_at_call 40; (with_reducible refine Calls.mono CS.out ?_); rintro ee V3 ⟨rfl, hb3, hr3⟩; have hq3 := Lib.hid hb3; have hq4 := Lib.hid hr3)
  have L4 := Lib.hid (L2.out.but hq3.out mb)
  have L3 := Lib.hid (L1.out.but hq3.out nb)
  have B4 := Lib.hid (B2.out.trans hq3.out)
  have CV := uval_same lo.kind (N + 1) ts V3 b A c (j + 1) en wr' (by have h9 := L4.out.2.1.2.1; exact h9) L4.out.1 mb (KT.out V3 B4.out) hq4.out hjl hl (HB0.out V3 B4.out) HS0.out
  rw [hdj2, hv2] at CV
  have CV := Lib.hid CV
  clear CS hdj2 hsj
  go_upto_region 9 with (go_at_call 63; (with_reducible refine Calls.mono CV.out ?_); rintro ee V5 ⟨j5, wr5, e5, hb5, hr5, hj5, hee⟩; simp only at hee; obtain ⟨hee, hd5, hw5, he5⟩ := hee; subst hee hw5 he5; have hq5 := Lib.hid hb5; have hq6 := Lib.hid hr5; have hq8 := Lib.hid hd5; obtain ⟨tz, ⟨t0, t1, t2, t3, t4, t5, t6, t7, t8, t9, t10, t11, t12⟩, ⟨g0, g1, g2, g3, g4, g5, g6, g7, g8, g9, g10, g11, g12⟩⟩ := L4.out.but hb5 mb; simp only [zv] at t0 t1 t2 t3 t4 t5 t6 t7 t8 t9 t10 t11 t12)
  clear t0 t1 t2 t3 t4 t5 t6 t7 t8 t9 t10 t11 t12 tz g0 g1 g2 g3 g4 g5 g6 g7 g8 g9 g10 g11 g12
  have L6 := Lib.hid ((L4.out.but hq5.out mb).high hi2)
  have L5 := Lib.hid ((L3.out.but hq5.out nb).far (m := N + 1) (o := 6) nm hi2)
  have R6 := Lib.hid (hq6.out.stV (m := N + 1) (o := 6) xm hi2)
  have B6 := Lib.hid ((B4.out.trans hq5.out).stV (m := N + 1) (o := 6) MW.out hi2)
  refine at_world (stV V5 (N + 1) 6 hi2) rfl ?_
  generalize stV V5 (N + 1) 6 hi2 = W6 at L6 L5 R6 B6 ⊢
  have hsj3 : isK 5 [93] (ts.drop j5) = false := by rw [hq8.out]; exact hs3
  have CS := Lib.hid (sign_any ts [93] W6 b A c j5 j5 en wr5 0 (KT.out W6 B6.out) R6.out hj5 hl (by rw [if_neg (by rw [hsj3]; decide)]))
  rw [hsj3, show bytesOf [93] = (⟨#[93]⟩ : ByteArray) from rfl] at CS
  clear hsj3
  go_upto_region 13 with (go_at_call 40; (with_reducible refine Calls.mono CS.out ?_); rintro ee V7 ⟨rfl, hb7, hr7⟩; have hq9 := Lib.hid hb7; have hq10 := Lib.hid hr7)
  obtain ⟨tz, ⟨t0, t1, t2, t3, t4, t5, t6, t7, t8, t9, t10, t11, t12⟩, ⟨g0, g1, g2, g3, g4, g5, g6, g7, g8, g9, g10, g11, g12⟩⟩ := L6.out.but hq9.out mb
  simp only [zv] at t0 t1 t2 t3 t4 t5 t6 t7 t8 t9 t10 t11 t12
  go_upto_region 14 with fail
  clear t0 t1 t2 t3 t4 t5 t6 t7 t8 t9 t10 t11 t12 tz g0 g1 g2 g3 g4 g5 g6 g7 g8 g9 g10 g11 g12
  have hM8 : But (N + 1) V7 (V7.setCell ⟨N + 1, 12, none⟩ (.bool true)) := (But.refl (N + 1) V7).setCell (p := ⟨N + 1, 12, none⟩) rfl _
  have L8 := Lib.hid ((L6.out.but hq9.out mb).oh true)
  have L7 := Lib.hid ((L5.out.but hq9.out nb).but hM8 nm)
  have R8 := Lib.hid (hq10.out.far (p := ⟨N + 1, 12, none⟩) xm (.bool true))
  have B8 := Lib.hid ((B6.out.trans hq9.out).new (p := ⟨N + 1, 12, none⟩) MW.out (.bool true))
  refine at_world (V7.setCell ⟨N + 1, 12, none⟩ (.bool true)) rfl ?_
  clear hM8
  generalize V7.setCell ⟨N + 1, 12, none⟩ (.bool true) = W8 at L8 L7 R8 B8 ⊢
  have k4 : isK 5 [41] (ts.drop j5) = true := by rw [hq8.out]; exact h4
  have CA := fun W (hW : But b W8 W) (hR : Rdc W b A ts.length c j5 en wr5 0) => sign_any ts [41] W b A c j5 (j5 + 1) en wr5 0 (KT.out W (B8.out.trans hW)) hR hj5 hl (by rw [if_pos k4])
  rw [k4, show bytesOf [41] = (⟨#[41]⟩ : ByteArray) from rfl] at CA
  have CA := Lib.hid CA
  have hjl3 : j5 < ts.length := (tail_at k4).1
  have hd6 := Lib.hid (show ts.drop (j5 + 1) = r3.tail from by rw [← hq8.out, List.tail_drop])
  clear k4
  obtain ⟨sz, ⟨s0, s1, s2, s3, s4, s5, s6, s7, s8, s9, s10, s11, s12⟩, sg⟩ := L7.out
  clear s0 s1 s2 s3 s4 s5 s6 s7 s8 s9 s10 s11 s12 sg sz
  refine wp_region_noPanic ?_
  refine wp_region_held (S := fun X => TstAt X (N + 1) 0 (⟨6, lo, hi2, op, true⟩ : Tst)) (by kernel_rfl) ?_
  have hX0 : Bel W8 { W8 with drawn := W8.drawn + 1 } := (Bel.refl W8).drew
  generalize { W8 with drawn := W8.drawn + 1 } = X0 at hX0 ⊢
  have B0 := But.of (b := b) hX0
  have R0 := R8.out.keep hX0
  clear hX0
  have S0 := (L8.out.but B0 mb).2.1
  refine wpAnyH_take (i := 0) (oi := { dst := some 45, op := Op.load 40 (Operand.tmp 6), type := 40, pos := "parse.go:96", after := #[], guard := none }) (v := .agg #[.int .i64 6, .int .i64 lo.kind, .int .i64 lo.n, .int .i64 lo.scale, .string lo.text, .int .i64 lo.num, .int .i64 hi2.kind, .int .i64 hi2.n, .int .i64 hi2.scale, .string hi2.text, .int .i64 hi2.num, .bool op, .bool true]) rfl (by kernel_rfl) (by kernel_rfl) (by kernel_rfl) (fun _ _ _ h => h) (.inl ⟨by rfl, fun X hS => by
      obtain ⟨k0, k1, k2, k3, k4, k5, k6, k7, k8, k9, k10, k11, k12⟩ := hS
      simp only [Nat.zero_add] at k0 k1 k2 k3 k4 k5 k6 k7 k8 k9 k10 k11 k12
      go_simp; first | done | with_reducible rfl | rfl⟩) S0 ?_
  (try simp only [Act.put, List.setIfInBounds_toArray, List.set_cons_zero, List.set_cons_succ])
  refine wpAnyH_take (i := 1) (oi := { dst := some 46, op := Op.move (Operand.tmp 0), type := 45, pos := "parse.go:96", after := #[], guard := none }) (v := .pointer (some ⟨b, 0, none⟩)) rfl (by kernel_rfl) (by kernel_rfl) (by kernel_rfl) (fun _ _ _ h => h) (.inl ⟨by rfl, fun X hS => by
      clear hS
      go_simp; first | done | with_reducible rfl | rfl⟩) S0 ?_
  (try simp only [Act.put, List.setIfInBounds_toArray, List.set_cons_zero, List.set_cons_succ])
  refine wpAnyH_take (i := 2) (oi := { dst := some 47, op := Op.nilCheck (Operand.tmp 46), type := 0, pos := "parse.go:96", after := #[{ on := 1, ground := Ground.data }], guard := none }) (v := .pointer (some ⟨b, 0, none⟩)) rfl (by kernel_rfl) (by kernel_rfl) (by kernel_rfl) (fun _ _ _ h => h) (.inl ⟨by rfl, fun X hS => by
      clear hS
      go_simp; first | done | with_reducible rfl | rfl⟩) S0 ?_
  (try simp only [Act.put, List.setIfInBounds_toArray, List.set_cons_zero, List.set_cons_succ])
  refine wpAnyH_take (i := 3) (oi := { dst := some 48, op := Op.fieldAddr 51 (Operand.tmp 47) 0, type := 0, pos := "parse.go:96", after := #[{ on := 2, ground := Ground.data }], guard := none }) (v := .pointer (some ⟨b, 0, none⟩)) rfl (by kernel_rfl) (by kernel_rfl) (by kernel_rfl) (fun _ _ _ h => h) (.inl ⟨by rfl, fun X hS => by
      clear hS
      go_simp; first | done | with_reducible rfl | rfl⟩) S0 ?_
  (try simp only [Act.put, List.setIfInBounds_toArray, List.set_cons_zero, List.set_cons_succ])
  refine wpAnyH_all (rs := [4]) (by kernel_rfl) (by simp) ?_
  intro i hi
  simp only [List.mem_cons, List.not_mem_nil, or_false] at hi
  subst hi
  refine wpOp_enter (o := { dst := some 49, op := Op.call { callee := Callee.value (Operand.func 40), args := #[Operand.tmp 48, Operand.const (Value.string { data := #[41] })], argTypes := #[48, 9] }, type := 4, pos := "parse.go:96", after := #[{ on := 3, ground := Ground.data }], guard := none }) (R := fun v w' => v = .bool true ∧ But b X0 w' ∧ Rdc w' b A ts.length c (j5 + 1) en wr5 0) rfl (by rfl) (by go_simp; first | done | with_reducible rfl | rfl) ((CA.out X0 B0 R0).mono fun e w' ⟨h1, h2, h3⟩ => ⟨_, h1, rfl, h2, h3⟩) ?_
  rintro v X1 ⟨rfl, hb', R1⟩
  have B1 := B0.trans hb'
  have S1 := (L8.out.but B1 mb).2.1
  clear hb'
  refine ⟨S1, ?_⟩
  (try simp only [Act.put, List.setIfInBounds_toArray, List.set_cons_zero, List.set_cons_succ])
  refine wpAnyH_take (i := 5) (oi := { dst := some 50, op := Op.move (Operand.tmp 49), type := 4, pos := "parse.go:96", after := #[{ on := 4, ground := Ground.data }, { on := 4, ground := Ground.chain }], guard := none }) (v := .bool true) rfl (by kernel_rfl) (by kernel_rfl) (by kernel_rfl) (fun _ _ _ h => h) (.inl ⟨by rfl, fun X hS => by
      clear hS
      go_simp; first | done | with_reducible rfl | rfl⟩) S1 ?_
  (try simp only [Act.put, List.setIfInBounds_toArray, List.set_cons_zero, List.set_cons_succ])
  refine wpAnyH_take (i := 6) (oi := { dst := some 51, op := Op.move (Operand.tmp 0), type := 45, pos := "parse.go:96", after := #[{ on := 5, ground := Ground.guard }], guard := some (5, false) }) (v := undef) rfl (by kernel_rfl) (by kernel_rfl) (by kernel_rfl) (fun _ _ _ h => h) (.inr ⟨by rfl, rfl⟩) S1 ?_
  (try simp only [Act.put, List.setIfInBounds_toArray, List.set_cons_zero, List.set_cons_succ])
  refine wpAnyH_take (i := 7) (oi := { dst := some 52, op := Op.nilCheck (Operand.tmp 51), type := 0, pos := "parse.go:96", after := #[{ on := 6, ground := Ground.data }, { on := 5, ground := Ground.guard }], guard := some (5, false) }) (v := undef) rfl (by kernel_rfl) (by kernel_rfl) (by kernel_rfl) (fun _ _ _ h => h) (.inr ⟨by rfl, rfl⟩) S1 ?_
  (try simp only [Act.put, List.setIfInBounds_toArray, List.set_cons_zero, List.set_cons_succ])
  refine wpAnyH_take (i := 8) (oi := { dst := some 53, op := Op.fieldAddr 51 (Operand.tmp 52) 0, type := 0, pos := "parse.go:96", after := #[{ on := 7, ground := Ground.data }, { on := 5, ground := Ground.guard }], guard := some (5, false) }) (v := undef) rfl (by kernel_rfl) (by kernel_rfl) (by kernel_rfl) (fun _ _ _ h => h) (.inr ⟨by rfl, rfl⟩) S1 ?_
  (try simp only [Act.put, List.setIfInBounds_toArray, List.set_cons_zero, List.set_cons_succ])
  refine wpAnyH_take (i := 9) (oi := { dst := some 54, op := Op.call { callee := Callee.value (Operand.func 40), args := #[Operand.tmp 53, Operand.const (Value.string { data := #[91] })], argTypes := #[48, 9] }, type := 4, pos := "parse.go:96", after := #[{ on := 8, ground := Ground.data }, { on := 5, ground := Ground.chain }, { on := 5, ground := Ground.guard }], guard := some (5, false) }) (v := undef) rfl (by kernel_rfl) (by kernel_rfl) (by kernel_rfl) (fun _ _ _ h => h) (.inr ⟨by rfl, rfl⟩) S1 ?_
  (try simp only [Act.put, List.setIfInBounds_toArray, List.set_cons_zero, List.set_cons_succ])
  refine wpAnyH_take (i := 10) (oi := { dst := some 55, op := Op.pick (Operand.tmp 50) (Operand.const (Value.bool true)) (Operand.tmp 54), type := 4, pos := "parse.go:96", after := #[{ on := 5, ground := Ground.data }, { on := 9, ground := Ground.data }], guard := none }) (v := .bool true) rfl (by kernel_rfl) (by kernel_rfl) (by kernel_rfl) (fun _ _ _ h => h) (.inl ⟨by rfl, fun X hS => by
      clear hS
      go_simp; first | done | with_reducible rfl | rfl⟩) S1 ?_
  (try simp only [Act.put, List.setIfInBounds_toArray, List.set_cons_zero, List.set_cons_succ])
  refine wpAnyH_take (i := 11) (oi := { dst := some 56, op := Op.move (Operand.tmp 55), type := 4, pos := "parse.go:96", after := #[{ on := 10, ground := Ground.data }, { on := 9, ground := Ground.chain }], guard := none }) (v := .bool true) rfl (by kernel_rfl) (by kernel_rfl) (by kernel_rfl) (fun _ _ _ h => h) (.inl ⟨by rfl, fun X hS => by
      clear hS
      go_simp; first | done | with_reducible rfl | rfl⟩) S1 ?_
  (try simp only [Act.put, List.setIfInBounds_toArray, List.set_cons_zero, List.set_cons_succ])
  refine wpAnyH_take (i := 12) (oi := { dst := some 57, op := Op.move (Operand.tmp 0), type := 45, pos := "parse.go:96", after := #[{ on := 11, ground := Ground.guard }], guard := some (11, false) }) (v := undef) rfl (by kernel_rfl) (by kernel_rfl) (by kernel_rfl) (fun _ _ _ h => h) (.inr ⟨by rfl, rfl⟩) S1 ?_
  (try simp only [Act.put, List.setIfInBounds_toArray, List.set_cons_zero, List.set_cons_succ])
  refine wpAnyH_take (i := 13) (oi := { dst := some 58, op := Op.nilCheck (Operand.tmp 57), type := 0, pos := "parse.go:96", after := #[{ on := 12, ground := Ground.data }, { on := 11, ground := Ground.guard }], guard := some (11, false) }) (v := undef) rfl (by kernel_rfl) (by kernel_rfl) (by kernel_rfl) (fun _ _ _ h => h) (.inr ⟨by rfl, rfl⟩) S1 ?_
  (try simp only [Act.put, List.setIfInBounds_toArray, List.set_cons_zero, List.set_cons_succ])
  refine wpAnyH_take (i := 14) (oi := { dst := some 59, op := Op.fieldAddr 51 (Operand.tmp 58) 0, type := 0, pos := "parse.go:96", after := #[{ on := 13, ground := Ground.data }, { on := 11, ground := Ground.guard }], guard := some (11, false) }) (v := undef) rfl (by kernel_rfl) (by kernel_rfl) (by kernel_rfl) (fun _ _ _ h => h) (.inr ⟨by rfl, rfl⟩) S1 ?_
  (try simp only [Act.put, List.setIfInBounds_toArray, List.set_cons_zero, List.set_cons_succ])
  refine wpAnyH_take (i := 15) (oi := { dst := some 60, op := Op.call { callee := Callee.value (Operand.func 41), args := #[Operand.tmp 59, Operand.const (Value.int IntKind.i64 5)], argTypes := #[48, 25] }, type := 4, pos := "parse.go:96", after := #[{ on := 14, ground := Ground.data }, { on := 11, ground := Ground.chain }, { on := 11, ground := Ground.guard }], guard := some (11, false) }) (v := undef) rfl (by kernel_rfl) (by kernel_rfl) (by kernel_rfl) (fun _ _ _ h => h) (.inr ⟨by rfl, rfl⟩) S1 ?_
  (try simp only [Act.put, List.setIfInBounds_toArray, List.set_cons_zero, List.set_cons_succ])
  refine wpAnyH_take (i := 16) (oi := { dst := some 61, op := Op.pick (Operand.tmp 56) (Operand.const (Value.bool true)) (Operand.tmp 60), type := 4, pos := "parse.go:96", after := #[{ on := 11, ground := Ground.data }, { on := 15, ground := Ground.data }, { on := 17, ground := Ground.gcOnly Departure.lateStores }], guard := none }) (v := .bool true) rfl (by kernel_rfl) (by kernel_rfl) (by kernel_rfl) (fun _ _ _ h => h) (.inl ⟨by rfl, fun X hS => by
      clear hS
      go_simp; first | done | with_reducible rfl | rfl⟩) S1 ?_
  (try simp only [Act.put, List.setIfInBounds_toArray, List.set_cons_zero, List.set_cons_succ])
  obtain ⟨sz, ⟨s0, s1, s2, s3, s4, s5, s6, s7, s8, s9, s10, s11, s12⟩, ⟨f0, f1, f2, f3, f4, f5, f6, f7, f8, f9, f10, f11, f12⟩⟩ := L7.out.but B1 nb
  simp only [zv, Nat.zero_add] at s0 s1 s2 s3 s4 s5 s6 s7 s8 s9 s10 s11 s12
  have hNX : But N X1 (((((((((((((X1.setCell ⟨N, 0, none⟩ (.int .i64 6)).setCell ⟨N, 1, none⟩ (.int .i64 lo.kind)).setCell ⟨N, 2, none⟩ (.int .i64 lo.n)).setCell ⟨N, 3, none⟩ (.int .i64 lo.scale)).setCell ⟨N, 4, none⟩ (.string lo.text)).setCell ⟨N, 5, none⟩ (.int .i64 lo.num)).setCell ⟨N, 6, none⟩ (.int .i64 hi2.kind)).setCell ⟨N, 7, none⟩ (.int .i64 hi2.n)).setCell ⟨N, 8, none⟩ (.int .i64 hi2.scale)).setCell ⟨N, 9, none⟩ (.string hi2.text)).setCell ⟨N, 10, none⟩ (.int .i64 hi2.num)).setCell ⟨N, 11, none⟩ (.bool op)).setCell ⟨N, 12, none⟩ (.bool true)) := by
    repeat (first | with_reducible exact But.refl N X1 | refine But.setCell (b := N) ?_ rfl _)
  have hwX : But b w (((((((((((((X1.setCell ⟨N, 0, none⟩ (.int .i64 6)).setCell ⟨N, 1, none⟩ (.int .i64 lo.kind)).setCell ⟨N, 2, none⟩ (.int .i64 lo.n)).setCell ⟨N, 3, none⟩ (.int .i64 lo.scale)).setCell ⟨N, 4, none⟩ (.string lo.text)).setCell ⟨N, 5, none⟩ (.int .i64 lo.num)).setCell ⟨N, 6, none⟩ (.int .i64 hi2.kind)).setCell ⟨N, 7, none⟩ (.int .i64 hi2.n)).setCell ⟨N, 8, none⟩ (.int .i64 hi2.scale)).setCell ⟨N, 9, none⟩ (.string hi2.text)).setCell ⟨N, 10, none⟩ (.int .i64 hi2.num)).setCell ⟨N, 11, none⟩ (.bool op)).setCell ⟨N, 12, none⟩ (.bool true)) := by
    repeat (first | with_reducible exact B8.out.trans B1 | refine But.new ?_ NW.out _)
  have hrX := R1.apart hNX x2
  have u : TstAt (((((((((((((X1.setCell ⟨N, 0, none⟩ (.int .i64 6)).setCell ⟨N, 1, none⟩ (.int .i64 lo.kind)).setCell ⟨N, 2, none⟩ (.int .i64 lo.n)).setCell ⟨N, 3, none⟩ (.int .i64 lo.scale)).setCell ⟨N, 4, none⟩ (.string lo.text)).setCell ⟨N, 5, none⟩ (.int .i64 lo.num)).setCell ⟨N, 6, none⟩ (.int .i64 hi2.kind)).setCell ⟨N, 7, none⟩ (.int .i64 hi2.n)).setCell ⟨N, 8, none⟩ (.int .i64 hi2.scale)).setCell ⟨N, 9, none⟩ (.string hi2.text)).setCell ⟨N, 10, none⟩ (.int .i64 hi2.num)).setCell ⟨N, 11, none⟩ (.bool op)).setCell ⟨N, 12, none⟩ (.bool true)) N 0 (⟨6, lo, hi2, op, true⟩ : Tst) := by simp [TstAt, go_sem, sz, s0, s1, s2, s3, s4, s5, s6, s7, s8, s9, s10, s11, s12]
  have SY := ((L8.out.but B1 mb).but hNX mn).2.1
  refine wpAnyH_all (rs := [17]) (by kernel_rfl) (by simp) ?_
  intro i hi
  simp only [List.mem_cons, List.not_mem_nil, or_false] at hi
  subst hi
  refine wpOp_skip (o := { dst := none, op := Op.store 40 (Operand.tmp 4) (Operand.tmp 45), type := 0, pos := "parse.go:96", after := #[{ on := 0, ground := Ground.data }, { on := 15, ground := Ground.chain }, { on := 0, ground := Ground.phase }, { on := 1, ground := Ground.textOnly Departure.lateStores }, { on := 2, ground := Ground.textOnly Departure.lateStores }, { on := 3, ground := Ground.textOnly Departure.lateStores }, { on := 4, ground := Ground.textOnly Departure.lateStoresUnsure }, { on := 5, ground := Ground.textOnly Departure.lateStores }, { on := 6, ground := Ground.textOnly Departure.lateStores }, { on := 7, ground := Ground.textOnly Departure.lateStores }, { on := 8, ground := Ground.textOnly Departure.lateStores }, { on := 9, ground := Ground.textOnly Departure.lateStoresUnsure }, { on := 10, ground := Ground.textOnly Departure.lateStores }, { on := 11, ground := Ground.textOnly Departure.lateStores }, { on := 12, ground := Ground.textOnly Departure.lateStores }, { on := 13, ground := Ground.textOnly Departure.lateStores }, { on := 14, ground := Ground.textOnly Departure.lateStores }, { on := 15, ground := Ground.textOnly Departure.lateStoresUnsure }, { on := 16, ground := Ground.textOnly Departure.lateStores }], guard := none }) (w' := (((((((((((((X1.setCell ⟨N, 0, none⟩ (.int .i64 6)).setCell ⟨N, 1, none⟩ (.int .i64 lo.kind)).setCell ⟨N, 2, none⟩ (.int .i64 lo.n)).setCell ⟨N, 3, none⟩ (.int .i64 lo.scale)).setCell ⟨N, 4, none⟩ (.string lo.text)).setCell ⟨N, 5, none⟩ (.int .i64 lo.num)).setCell ⟨N, 6, none⟩ (.int .i64 hi2.kind)).setCell ⟨N, 7, none⟩ (.int .i64 hi2.n)).setCell ⟨N, 8, none⟩ (.int .i64 hi2.scale)).setCell ⟨N, 9, none⟩ (.string hi2.text)).setCell ⟨N, 10, none⟩ (.int .i64 hi2.num)).setCell ⟨N, 11, none⟩ (.bool op)).setCell ⟨N, 12, none⟩ (.bool true))) rfl (by rfl) (by go_simp; first | done | with_reducible rfl | rfl) ?_
  refine ⟨SY, ?_⟩
  (try simp only [Act.put, List.setIfInBounds_toArray, List.set_cons_zero, List.set_cons_succ])
  generalize (((((((((((((X1.setCell ⟨N, 0, none⟩ (.int .i64 6)).setCell ⟨N, 1, none⟩ (.int .i64 lo.kind)).setCell ⟨N, 2, none⟩ (.int .i64 lo.n)).setCell ⟨N, 3, none⟩ (.int .i64 lo.scale)).setCell ⟨N, 4, none⟩ (.string lo.text)).setCell ⟨N, 5, none⟩ (.int .i64 lo.num)).setCell ⟨N, 6, none⟩ (.int .i64 hi2.kind)).setCell ⟨N, 7, none⟩ (.int .i64 hi2.n)).setCell ⟨N, 8, none⟩ (.int .i64 hi2.scale)).setCell ⟨N, 9, none⟩ (.string hi2.text)).setCell ⟨N, 10, none⟩ (.int .i64 hi2.num)).setCell ⟨N, 11, none⟩ (.bool op)).setCell ⟨N, 12, none⟩ (.bool true)) = Y at hwX hrX u SY ⊢
  clear hNX s0 s1 s2 s3 s4 s5 s6 s7 s8 s9 s10 s11 s12 f0 f1 f2 f3 f4 f5 f6 f7 f8 f9 f10 f11 f12

  refine wpAnyH_take (i := 18) (oi := { dst := some 5, op := Op.assign (Operand.tmp 61), type := 4, pos := "parse.go:96", after := #[{ on := 16, ground := Ground.data }, { on := 17, ground := Ground.chain }, { on := 0, ground := Ground.phase }, { on := 1, ground := Ground.phase }, { on := 2, ground := Ground.phase }, { on := 3, ground := Ground.phase }, { on := 4, ground := Ground.phase }, { on := 5, ground := Ground.phase }, { on := 6, ground := Ground.phase }, { on := 7, ground := Ground.phase }, { on := 8, ground := Ground.phase }, { on := 9, ground := Ground.phase }, { on := 10, ground := Ground.phase }, { on := 11, ground := Ground.phase }, { on := 12, ground := Ground.phase }, { on := 13, ground := Ground.phase }, { on := 14, ground := Ground.phase }, { on := 15, ground := Ground.phase }, { on := 16, ground := Ground.phase }, { on := 17, ground := Ground.phase }], guard := none }) (v := .bool true) rfl (by kernel_rfl) (by kernel_rfl) (by kernel_rfl) (fun _ _ _ h => h) (.inl ⟨by rfl, fun X hS => by
      clear hS
      go_simp; first | done | with_reducible rfl | rfl⟩) SY ?_
  (try simp only [Act.put, List.setIfInBounds_toArray, List.set_cons_zero, List.set_cons_succ])
  refine wpAnyH_done (by kernel_rfl) ?_ _
  refine NoPanic.normal ?_
  obtain ⟨u0, u1, u2, u3, u4, u5, u6, u7, u8, u9, u10, u11, u12⟩ := u
  simp only [Nat.zero_add] at u0 u1 u2 u3 u4 u5 u6 u7 u8 u9 u10 u11 u12
  clear SY
  go_wp2_with fail
  exact bodyPost_ret (v := .tuple #[(⟨6, lo, hi2, op, true⟩ : Tst).val, .bool true]) (by simp [results, Tryz.results64, go_sem, u0, u1, u2, u3, u4, u5, u6, u7, u8, u9, u10, u11, u12]) rfl ⟨j5 + 1, wr5, 0, hwX, hrX, by omega, rfl, hd6.out, rfl, rfl⟩
set_option maxRecDepth 100000 in
set_option maxHeartbeats 8000000 in
theorem uint_brk (op : Bool) (ts : List Tok) (w : World) (b : Nat) (A : Option Addr) (c i : Nat) (en wr : Int) (hT : Toks w A ts) (hr : Rdc w b A ts.length c i en wr 0) (hi : i ≤ ts.length) (hl : ts.length ≤ 65536) (hB : ∃ B, Toks B A ts ∧ Bel B w ∧ B.heap.size ≤ b) (hS : ∀ t ∈ ts, ksnd t = true) (lo hi2 : Val) (r2 r3 : List Tok) (hv : valP ordk (ts.drop i) = .ok lo r2) (hs : isS [46, 46] r2 = true) (hv2 : valP (fun k => decide (k = lo.kind)) r2.tail = .ok hi2 r3) (hs3 : isS [93] r3 = false) (h4 : isS [41] r3 = false) (h5 : isS [91] r3 = true) :
    Calls Tryz.prog 64 #[.pointer (some ⟨b, 0, none⟩), .bool op] w (TstOut ts b A c en wr (intP op (ts.drop i)) w) := by
  have HP : intP op (ts.drop i) = .ok ⟨6, lo, hi2, op, true⟩ r3.tail := by
    unfold intP
    rw [hv]
    simp only
    rw [if_pos hs, hv2]
    simp only
    rw [if_neg (by rw [hs3]; decide), if_pos (.inr h5)]
  rw [HP]
  have hbw := hr.1
  obtain ⟨B, hTB, hBw, hBb⟩ := hB
  have KV := Lib.hid fun W (hW : Bel w W) => uval_ord ts W b A c i en wr (hT.keep hW) (hr.keep hW) hi hl ⟨B, hTB, hBw.trans hW, hBb⟩ hS
  rw [hv] at KV
  have KT := Lib.hid fun W (hW : But b w W) => hTB.keep (hW.bel hBw hBb)
  have HB0 := Lib.hid (show ∀ W, But b w W → ∃ B, Toks B A ts ∧ Bel B W ∧ B.heap.size ≤ b from fun W hW => ⟨B, hTB, hW.bel hBw hBb, hBb⟩)
  have HS0 := Lib.hid hS
  clear hT hr hTB hS HP hv
  go_enter Tryz.func64, Tryz.ntmps64
  go_upto_region 2 with fail
  refine under_name (((Bel.refl w).alloc _).alloc _) fun W hcc hf hz hb => ?_
  have T1 : TFree W w.heap.size ⟨0, zv, zv, false, false⟩ := by simp [TFree, TstAt, zv, hcc, hf, hz, go_sem]
  have T2 : TFree W (w.heap.size + 1) ⟨6, zv, zv, op, false⟩ := by simp [TFree, TstAt, zv, hcc, hf, hz, go_sem]
  clear hcc hf hz
  generalize hN : w.heap.size = N at T1 T2 ⊢
  have nb : N ≠ b := by omega
  have mb : N + 1 ≠ b := by omega
  have NW := Lib.hid (show w.heap.size ≤ N from by omega)
  clear hN
  have nm : ¬ N = N + 1 := by omega
  have mn : ¬ N + 1 = N := by omega
  have x2 : ¬ b = N := fun e => nb e.symm
  have xm : ¬ b = N + 1 := fun e => mb e.symm
  have MW := Lib.hid (show w.heap.size ≤ N + 1 from by have := NW.out; omega)
  have K1 := Lib.hid T1
  have K2 := Lib.hid T2
  clear T1 T2
  go_upto_region 3 with fail
  go_upto_region 4 with (go_at_call 63; (with_reducible refine Calls.mono (KV.out _ hb) ?_); rintro ee V1 ⟨j, wr', e', hb1, hr1, hj1, hee⟩; simp only at hee; obtain ⟨hee, hdj, hw', he'⟩ := hee; subst hee hw' he'; have hq1 := Lib.hid hb1; have hq2 := Lib.hid hr1; have hqd := Lib.hid hdj; obtain ⟨tz, ⟨t0, t1, t2, t3, t4, t5, t6, t7, t8, t9, t10, t11, t12⟩, ⟨g0, g1, g2, g3, g4, g5, g6, g7, g8, g9, g10, g11, g12⟩⟩ := K2.out.but hb1 mb; simp only [zv] at t0 t1 t2 t3 t4 t5 t6 t7 t8 t9 t10 t11 t12)
  clear t0 t1 t2 t3 t4 t5 t6 t7 t8 t9 t10 t11 t12 tz g0 g1 g2 g3 g4 g5 g6 g7 g8 g9 g10 g11 g12
  have L2 := Lib.hid ((K2.out.but hq1.out mb).low lo)
  have L1 := Lib.hid ((K1.out.but hq1.out nb).far (m := N + 1) (o := 1) nm lo)
  have R2 := Lib.hid (hq2.out.stV (m := N + 1) (o := 1) xm lo)
  have B2 := Lib.hid (((But.of hb).trans hq1.out).stV (m := N + 1) (o := 1) MW.out lo)
  refine at_world (stV V1 (N + 1) 1 lo) rfl ?_
  generalize stV V1 (N + 1) 1 lo = W2 at L2 L1 R2 B2 ⊢
  have hsj : isK 5 [46, 46] (ts.drop j) = true := by rw [hqd.out]; exact hs
  have hjl : j < ts.length := (tail_at hsj).1
  have CS := Lib.hid (sign_any ts [46, 46] W2 b A c j (j + 1) en wr' 0 (KT.out W2 B2.out) R2.out hj1 hl (by rw [if_pos hsj]))
  rw [hsj, show bytesOf [46, 46] = (⟨#[46, 46]⟩ : ByteArray) from rfl] at CS
  have hdj2 : ts.drop (j + 1) = r2.tail := by rw [← hqd.out, List.tail_drop]
  go_upto_region 8 with (go_at_call 40; (with_reducible refine Calls.mono CS.out ?_); rintro ee V3 ⟨rfl, hb3, hr3⟩; have hq3 := Lib.hid hb3; have hq4 := Lib.hid hr3)
  have L4 := Lib.hid (L2.out.but hq3.out mb)
  have L3 := Lib.hid (L1.out.but hq3.out nb)
  have B4 := Lib.hid (B2.out.trans hq3.out)
  have CV := uval_same lo.kind (N + 1) ts V3 b A c (j + 1) en wr' (by have h9 := L4.out.2.1.2.1; exact h9) L4.out.1 mb (KT.out V3 B4.out) hq4.out hjl hl (HB0.out V3 B4.out) HS0.out
  rw [hdj2, hv2] at CV
  have CV := Lib.hid CV
  clear CS hdj2 hsj
  go_upto_region 9 with (go_at_call 63; (with_reducible refine Calls.mono CV.out ?_); rintro ee V5 ⟨j5, wr5, e5, hb5, hr5, hj5, hee⟩; simp only at hee; obtain ⟨hee, hd5, hw5, he5⟩ := hee; subst hee hw5 he5; have hq5 := Lib.hid hb5; have hq6 := Lib.hid hr5; have hq8 := Lib.hid hd5; obtain ⟨tz, ⟨t0, t1, t2, t3, t4, t5, t6, t7, t8, t9, t10, t11, t12⟩, ⟨g0, g1, g2, g3, g4, g5, g6, g7, g8, g9, g10, g11, g12⟩⟩ := L4.out.but hb5 mb; simp only [zv] at t0 t1 t2 t3 t4 t5 t6 t7 t8 t9 t10 t11 t12)
  clear t0 t1 t2 t3 t4 t5 t6 t7 t8 t9 t10 t11 t12 tz g0 g1 g2 g3 g4 g5 g6 g7 g8 g9 g10 g11 g12
  have L6 := Lib.hid ((L4.out.but hq5.out mb).high hi2)
  have L5 := Lib.hid ((L3.out.but hq5.out nb).far (m := N + 1) (o := 6) nm hi2)
  have R6 := Lib.hid (hq6.out.stV (m := N + 1) (o := 6) xm hi2)
  have B6 := Lib.hid ((B4.out.trans hq5.out).stV (m := N + 1) (o := 6) MW.out hi2)
  refine at_world (stV V5 (N + 1) 6 hi2) rfl ?_
  generalize stV V5 (N + 1) 6 hi2 = W6 at L6 L5 R6 B6 ⊢
  have hsj3 : isK 5 [93] (ts.drop j5) = false := by rw [hq8.out]; exact hs3
  have CS := Lib.hid (sign_any ts [93] W6 b A c j5 j5 en wr5 0 (KT.out W6 B6.out) R6.out hj5 hl (by rw [if_neg (by rw [hsj3]; decide)]))
  rw [hsj3, show bytesOf [93] = (⟨#[93]⟩ : ByteArray) from rfl] at CS
  clear hsj3
  go_upto_region 13 with (go_at_call 40; (with_reducible refine Calls.mono CS.out ?_); rintro ee V7 ⟨rfl, hb7, hr7⟩; have hq9 := Lib.hid hb7; have hq10 := Lib.hid hr7)
  obtain ⟨tz, ⟨t0, t1, t2, t3, t4, t5, t6, t7, t8, t9, t10, t11, t12⟩, ⟨g0, g1, g2, g3, g4, g5, g6, g7, g8, g9, g10, g11, g12⟩⟩ := L6.out.but hq9.out mb
  simp only [zv] at t0 t1 t2 t3 t4 t5 t6 t7 t8 t9 t10 t11 t12
  go_upto_region 14 with fail
  clear t0 t1 t2 t3 t4 t5 t6 t7 t8 t9 t10 t11 t12 tz g0 g1 g2 g3 g4 g5 g6 g7 g8 g9 g10 g11 g12
  have hM8 : But (N + 1) V7 (V7.setCell ⟨N + 1, 12, none⟩ (.bool true)) := (But.refl (N + 1) V7).setCell (p := ⟨N + 1, 12, none⟩) rfl _
  have L8 := Lib.hid ((L6.out.but hq9.out mb).oh true)
  have L7 := Lib.hid ((L5.out.but hq9.out nb).but hM8 nm)
  have R8 := Lib.hid (hq10.out.far (p := ⟨N + 1, 12, none⟩) xm (.bool true))
  have B8 := Lib.hid ((B6.out.trans hq9.out).new (p := ⟨N + 1, 12, none⟩) MW.out (.bool true))
  refine at_world (V7.setCell ⟨N + 1, 12, none⟩ (.bool true)) rfl ?_
  clear hM8
  generalize V7.setCell ⟨N + 1, 12, none⟩ (.bool true) = W8 at L8 L7 R8 B8 ⊢
  have k4 : isK 5 [41] (ts.drop j5) = false := by rw [hq8.out]; exact h4
  have CA := fun W (hW : But b W8 W) (hR : Rdc W b A ts.length c j5 en wr5 0) => sign_any ts [41] W b A c j5 j5 en wr5 0 (KT.out W (B8.out.trans hW)) hR hj5 hl (by rw [if_neg (by rw [k4]; decide)])
  rw [k4, show bytesOf [41] = (⟨#[41]⟩ : ByteArray) from rfl] at CA
  have CA := Lib.hid CA
  have k5 : isK 5 [91] (ts.drop j5) = true := by rw [hq8.out]; exact h5
  have CB := fun W (hW : But b W8 W) (hR : Rdc W b A ts.length c j5 en wr5 0) => sign_any ts [91] W b A c j5 (j5 + 1) en wr5 0 (KT.out W (B8.out.trans hW)) hR hj5 hl (by rw [if_pos k5])
  rw [k5, show bytesOf [91] = (⟨#[91]⟩ : ByteArray) from rfl] at CB
  have CB := Lib.hid CB
  have hjl3 : j5 < ts.length := (tail_at k5).1
  have hd6 := Lib.hid (show ts.drop (j5 + 1) = r3.tail from by rw [← hq8.out, List.tail_drop])
  clear k4 k5
  obtain ⟨sz, ⟨s0, s1, s2, s3, s4, s5, s6, s7, s8, s9, s10, s11, s12⟩, sg⟩ := L7.out
  clear s0 s1 s2 s3 s4 s5 s6 s7 s8 s9 s10 s11 s12 sg sz
  refine wp_region_noPanic ?_
  refine wp_region_held (S := fun X => TstAt X (N + 1) 0 (⟨6, lo, hi2, op, true⟩ : Tst)) (by kernel_rfl) ?_
  have hX0 : Bel W8 { W8 with drawn := W8.drawn + 1 } := (Bel.refl W8).drew
  generalize { W8 with drawn := W8.drawn + 1 } = X0 at hX0 ⊢
  have B0 := But.of (b := b) hX0
  have R0 := R8.out.keep hX0
  clear hX0
  have S0 := (L8.out.but B0 mb).2.1
  refine wpAnyH_take (i := 0) (oi := { dst := some 45, op := Op.load 40 (Operand.tmp 6), type := 40, pos := "parse.go:96", after := #[], guard := none }) (v := .agg #[.int .i64 6, .int .i64 lo.kind, .int .i64 lo.n, .int .i64 lo.scale, .string lo.text, .int .i64 lo.num, .int .i64 hi2.kind, .int .i64 hi2.n, .int .i64 hi2.scale, .string hi2.text, .int .i64 hi2.num, .bool op, .bool true]) rfl (by kernel_rfl) (by kernel_rfl) (by kernel_rfl) (fun _ _ _ h => h) (.inl ⟨by rfl, fun X hS => by
      obtain ⟨k0, k1, k2, k3, k4, k5, k6, k7, k8, k9, k10, k11, k12⟩ := hS
      simp only [Nat.zero_add] at k0 k1 k2 k3 k4 k5 k6 k7 k8 k9 k10 k11 k12
      go_simp; first | done | with_reducible rfl | rfl⟩) S0 ?_
  (try simp only [Act.put, List.setIfInBounds_toArray, List.set_cons_zero, List.set_cons_succ])
  refine wpAnyH_take (i := 1) (oi := { dst := some 46, op := Op.move (Operand.tmp 0), type := 45, pos := "parse.go:96", after := #[], guard := none }) (v := .pointer (some ⟨b, 0, none⟩)) rfl (by kernel_rfl) (by kernel_rfl) (by kernel_rfl) (fun _ _ _ h => h) (.inl ⟨by rfl, fun X hS => by
      clear hS
      go_simp; first | done | with_reducible rfl | rfl⟩) S0 ?_
  (try simp only [Act.put, List.setIfInBounds_toArray, List.set_cons_zero, List.set_cons_succ])
  refine wpAnyH_take (i := 2) (oi := { dst := some 47, op := Op.nilCheck (Operand.tmp 46), type := 0, pos := "parse.go:96", after := #[{ on := 1, ground := Ground.data }], guard := none }) (v := .pointer (some ⟨b, 0, none⟩)) rfl (by kernel_rfl) (by kernel_rfl) (by kernel_rfl) (fun _ _ _ h => h) (.inl ⟨by rfl, fun X hS => by
      clear hS
      go_simp; first | done | with_reducible rfl | rfl⟩) S0 ?_
  (try simp only [Act.put, List.setIfInBounds_toArray, List.set_cons_zero, List.set_cons_succ])
  refine wpAnyH_take (i := 3) (oi := { dst := some 48, op := Op.fieldAddr 51 (Operand.tmp 47) 0, type := 0, pos := "parse.go:96", after := #[{ on := 2, ground := Ground.data }], guard := none }) (v := .pointer (some ⟨b, 0, none⟩)) rfl (by kernel_rfl) (by kernel_rfl) (by kernel_rfl) (fun _ _ _ h => h) (.inl ⟨by rfl, fun X hS => by
      clear hS
      go_simp; first | done | with_reducible rfl | rfl⟩) S0 ?_
  (try simp only [Act.put, List.setIfInBounds_toArray, List.set_cons_zero, List.set_cons_succ])
  refine wpAnyH_all (rs := [4]) (by kernel_rfl) (by simp) ?_
  intro i hi
  simp only [List.mem_cons, List.not_mem_nil, or_false] at hi
  subst hi
  refine wpOp_enter (o := { dst := some 49, op := Op.call { callee := Callee.value (Operand.func 40), args := #[Operand.tmp 48, Operand.const (Value.string { data := #[41] })], argTypes := #[48, 9] }, type := 4, pos := "parse.go:96", after := #[{ on := 3, ground := Ground.data }], guard := none }) (R := fun v w' => v = .bool false ∧ But b X0 w' ∧ Rdc w' b A ts.length c j5 en wr5 0) rfl (by rfl) (by go_simp; first | done | with_reducible rfl | rfl) ((CA.out X0 B0 R0).mono fun e w' ⟨h1, h2, h3⟩ => ⟨_, h1, rfl, h2, h3⟩) ?_
  rintro v X1 ⟨rfl, hb', R1⟩
  have B1 := B0.trans hb'
  have S1 := (L8.out.but B1 mb).2.1
  clear hb'
  refine ⟨S1, ?_⟩
  (try simp only [Act.put, List.setIfInBounds_toArray, List.set_cons_zero, List.set_cons_succ])
  refine wpAnyH_take (i := 5) (oi := { dst := some 50, op := Op.move (Operand.tmp 49), type := 4, pos := "parse.go:96", after := #[{ on := 4, ground := Ground.data }, { on := 4, ground := Ground.chain }], guard := none }) (v := .bool false) rfl (by kernel_rfl) (by kernel_rfl) (by kernel_rfl) (fun _ _ _ h => h) (.inl ⟨by rfl, fun X hS => by
      clear hS
      go_simp; first | done | with_reducible rfl | rfl⟩) S1 ?_
  (try simp only [Act.put, List.setIfInBounds_toArray, List.set_cons_zero, List.set_cons_succ])
  refine wpAnyH_take (i := 6) (oi := { dst := some 51, op := Op.move (Operand.tmp 0), type := 45, pos := "parse.go:96", after := #[{ on := 5, ground := Ground.guard }], guard := some (5, false) }) (v := .pointer (some ⟨b, 0, none⟩)) rfl (by kernel_rfl) (by kernel_rfl) (by kernel_rfl) (fun _ _ _ h => h) (.inl ⟨by rfl, fun X hS => by
      clear hS
      go_simp; first | done | with_reducible rfl | rfl⟩) S1 ?_
  (try simp only [Act.put, List.setIfInBounds_toArray, List.set_cons_zero, List.set_cons_succ])
  refine wpAnyH_take (i := 7) (oi := { dst := some 52, op := Op.nilCheck (Operand.tmp 51), type := 0, pos := "parse.go:96", after := #[{ on := 6, ground := Ground.data }, { on := 5, ground := Ground.guard }], guard := some (5, false) }) (v := .pointer (some ⟨b, 0, none⟩)) rfl (by kernel_rfl) (by kernel_rfl) (by kernel_rfl) (fun _ _ _ h => h) (.inl ⟨by rfl, fun X hS => by
      clear hS
      go_simp; first | done | with_reducible rfl | rfl⟩) S1 ?_
  (try simp only [Act.put, List.setIfInBounds_toArray, List.set_cons_zero, List.set_cons_succ])
  refine wpAnyH_take (i := 8) (oi := { dst := some 53, op := Op.fieldAddr 51 (Operand.tmp 52) 0, type := 0, pos := "parse.go:96", after := #[{ on := 7, ground := Ground.data }, { on := 5, ground := Ground.guard }], guard := some (5, false) }) (v := .pointer (some ⟨b, 0, none⟩)) rfl (by kernel_rfl) (by kernel_rfl) (by kernel_rfl) (fun _ _ _ h => h) (.inl ⟨by rfl, fun X hS => by
      clear hS
      go_simp; first | done | with_reducible rfl | rfl⟩) S1 ?_
  (try simp only [Act.put, List.setIfInBounds_toArray, List.set_cons_zero, List.set_cons_succ])
  refine wpAnyH_all (rs := [9]) (by kernel_rfl) (by simp) ?_
  intro i hi
  simp only [List.mem_cons, List.not_mem_nil, or_false] at hi
  subst hi
  refine wpOp_enter (o := { dst := some 54, op := Op.call { callee := Callee.value (Operand.func 40), args := #[Operand.tmp 53, Operand.const (Value.string { data := #[91] })], argTypes := #[48, 9] }, type := 4, pos := "parse.go:96", after := #[{ on := 8, ground := Ground.data }, { on := 5, ground := Ground.chain }, { on := 5, ground := Ground.guard }], guard := some (5, false) }) (R := fun v w' => v = .bool true ∧ But b X1 w' ∧ Rdc w' b A ts.length c (j5 + 1) en wr5 0) rfl (by rfl) (by go_simp; first | done | with_reducible rfl | rfl) ((CB.out X1 B1 R1).mono fun e w' ⟨h1, h2, h3⟩ => ⟨_, h1, rfl, h2, h3⟩) ?_
  rintro v X2 ⟨rfl, hb', R2⟩
  have B2 := B1.trans hb'
  have S2 := (L8.out.but B2 mb).2.1
  clear hb'
  refine ⟨S2, ?_⟩
  (try simp only [Act.put, List.setIfInBounds_toArray, List.set_cons_zero, List.set_cons_succ])
  refine wpAnyH_take (i := 10) (oi := { dst := some 55, op := Op.pick (Operand.tmp 50) (Operand.const (Value.bool true)) (Operand.tmp 54), type := 4, pos := "parse.go:96", after := #[{ on := 5, ground := Ground.data }, { on := 9, ground := Ground.data }], guard := none }) (v := .bool true) rfl (by kernel_rfl) (by kernel_rfl) (by kernel_rfl) (fun _ _ _ h => h) (.inl ⟨by rfl, fun X hS => by
      clear hS
      go_simp; first | done | with_reducible rfl | rfl⟩) S2 ?_
  (try simp only [Act.put, List.setIfInBounds_toArray, List.set_cons_zero, List.set_cons_succ])
  refine wpAnyH_take (i := 11) (oi := { dst := some 56, op := Op.move (Operand.tmp 55), type := 4, pos := "parse.go:96", after := #[{ on := 10, ground := Ground.data }, { on := 9, ground := Ground.chain }], guard := none }) (v := .bool true) rfl (by kernel_rfl) (by kernel_rfl) (by kernel_rfl) (fun _ _ _ h => h) (.inl ⟨by rfl, fun X hS => by
      clear hS
      go_simp; first | done | with_reducible rfl | rfl⟩) S2 ?_
  (try simp only [Act.put, List.setIfInBounds_toArray, List.set_cons_zero, List.set_cons_succ])
  refine wpAnyH_take (i := 12) (oi := { dst := some 57, op := Op.move (Operand.tmp 0), type := 45, pos := "parse.go:96", after := #[{ on := 11, ground := Ground.guard }], guard := some (11, false) }) (v := undef) rfl (by kernel_rfl) (by kernel_rfl) (by kernel_rfl) (fun _ _ _ h => h) (.inr ⟨by rfl, rfl⟩) S2 ?_
  (try simp only [Act.put, List.setIfInBounds_toArray, List.set_cons_zero, List.set_cons_succ])
  refine wpAnyH_take (i := 13) (oi := { dst := some 58, op := Op.nilCheck (Operand.tmp 57), type := 0, pos := "parse.go:96", after := #[{ on := 12, ground := Ground.data }, { on := 11, ground := Ground.guard }], guard := some (11, false) }) (v := undef) rfl (by kernel_rfl) (by kernel_rfl) (by kernel_rfl) (fun _ _ _ h => h) (.inr ⟨by rfl, rfl⟩) S2 ?_
  (try simp only [Act.put, List.setIfInBounds_toArray, List.set_cons_zero, List.set_cons_succ])
  refine wpAnyH_take (i := 14) (oi := { dst := some 59, op := Op.fieldAddr 51 (Operand.tmp 58) 0, type := 0, pos := "parse.go:96", after := #[{ on := 13, ground := Ground.data }, { on := 11, ground := Ground.guard }], guard := some (11, false) }) (v := undef) rfl (by kernel_rfl) (by kernel_rfl) (by kernel_rfl) (fun _ _ _ h => h) (.inr ⟨by rfl, rfl⟩) S2 ?_
  (try simp only [Act.put, List.setIfInBounds_toArray, List.set_cons_zero, List.set_cons_succ])
  refine wpAnyH_take (i := 15) (oi := { dst := some 60, op := Op.call { callee := Callee.value (Operand.func 41), args := #[Operand.tmp 59, Operand.const (Value.int IntKind.i64 5)], argTypes := #[48, 25] }, type := 4, pos := "parse.go:96", after := #[{ on := 14, ground := Ground.data }, { on := 11, ground := Ground.chain }, { on := 11, ground := Ground.guard }], guard := some (11, false) }) (v := undef) rfl (by kernel_rfl) (by kernel_rfl) (by kernel_rfl) (fun _ _ _ h => h) (.inr ⟨by rfl, rfl⟩) S2 ?_
  (try simp only [Act.put, List.setIfInBounds_toArray, List.set_cons_zero, List.set_cons_succ])
  refine wpAnyH_take (i := 16) (oi := { dst := some 61, op := Op.pick (Operand.tmp 56) (Operand.const (Value.bool true)) (Operand.tmp 60), type := 4, pos := "parse.go:96", after := #[{ on := 11, ground := Ground.data }, { on := 15, ground := Ground.data }, { on := 17, ground := Ground.gcOnly Departure.lateStores }], guard := none }) (v := .bool true) rfl (by kernel_rfl) (by kernel_rfl) (by kernel_rfl) (fun _ _ _ h => h) (.inl ⟨by rfl, fun X hS => by
      clear hS
      go_simp; first | done | with_reducible rfl | rfl⟩) S2 ?_
  (try simp only [Act.put, List.setIfInBounds_toArray, List.set_cons_zero, List.set_cons_succ])
  obtain ⟨sz, ⟨s0, s1, s2, s3, s4, s5, s6, s7, s8, s9, s10, s11, s12⟩, ⟨f0, f1, f2, f3, f4, f5, f6, f7, f8, f9, f10, f11, f12⟩⟩ := L7.out.but B2 nb
  simp only [zv, Nat.zero_add] at s0 s1 s2 s3 s4 s5 s6 s7 s8 s9 s10 s11 s12
  have hNX : But N X2 (((((((((((((X2.setCell ⟨N, 0, none⟩ (.int .i64 6)).setCell ⟨N, 1, none⟩ (.int .i64 lo.kind)).setCell ⟨N, 2, none⟩ (.int .i64 lo.n)).setCell ⟨N, 3, none⟩ (.int .i64 lo.scale)).setCell ⟨N, 4, none⟩ (.string lo.text)).setCell ⟨N, 5, none⟩ (.int .i64 lo.num)).setCell ⟨N, 6, none⟩ (.int .i64 hi2.kind)).setCell ⟨N, 7, none⟩ (.int .i64 hi2.n)).setCell ⟨N, 8, none⟩ (.int .i64 hi2.scale)).setCell ⟨N, 9, none⟩ (.string hi2.text)).setCell ⟨N, 10, none⟩ (.int .i64 hi2.num)).setCell ⟨N, 11, none⟩ (.bool op)).setCell ⟨N, 12, none⟩ (.bool true)) := by
    repeat (first | with_reducible exact But.refl N X2 | refine But.setCell (b := N) ?_ rfl _)
  have hwX : But b w (((((((((((((X2.setCell ⟨N, 0, none⟩ (.int .i64 6)).setCell ⟨N, 1, none⟩ (.int .i64 lo.kind)).setCell ⟨N, 2, none⟩ (.int .i64 lo.n)).setCell ⟨N, 3, none⟩ (.int .i64 lo.scale)).setCell ⟨N, 4, none⟩ (.string lo.text)).setCell ⟨N, 5, none⟩ (.int .i64 lo.num)).setCell ⟨N, 6, none⟩ (.int .i64 hi2.kind)).setCell ⟨N, 7, none⟩ (.int .i64 hi2.n)).setCell ⟨N, 8, none⟩ (.int .i64 hi2.scale)).setCell ⟨N, 9, none⟩ (.string hi2.text)).setCell ⟨N, 10, none⟩ (.int .i64 hi2.num)).setCell ⟨N, 11, none⟩ (.bool op)).setCell ⟨N, 12, none⟩ (.bool true)) := by
    repeat (first | with_reducible exact B8.out.trans B2 | refine But.new ?_ NW.out _)
  have hrX := R2.apart hNX x2
  have u : TstAt (((((((((((((X2.setCell ⟨N, 0, none⟩ (.int .i64 6)).setCell ⟨N, 1, none⟩ (.int .i64 lo.kind)).setCell ⟨N, 2, none⟩ (.int .i64 lo.n)).setCell ⟨N, 3, none⟩ (.int .i64 lo.scale)).setCell ⟨N, 4, none⟩ (.string lo.text)).setCell ⟨N, 5, none⟩ (.int .i64 lo.num)).setCell ⟨N, 6, none⟩ (.int .i64 hi2.kind)).setCell ⟨N, 7, none⟩ (.int .i64 hi2.n)).setCell ⟨N, 8, none⟩ (.int .i64 hi2.scale)).setCell ⟨N, 9, none⟩ (.string hi2.text)).setCell ⟨N, 10, none⟩ (.int .i64 hi2.num)).setCell ⟨N, 11, none⟩ (.bool op)).setCell ⟨N, 12, none⟩ (.bool true)) N 0 (⟨6, lo, hi2, op, true⟩ : Tst) := by simp [TstAt, go_sem, sz, s0, s1, s2, s3, s4, s5, s6, s7, s8, s9, s10, s11, s12]
  have SY := ((L8.out.but B2 mb).but hNX mn).2.1
  refine wpAnyH_all (rs := [17]) (by kernel_rfl) (by simp) ?_
  intro i hi
  simp only [List.mem_cons, List.not_mem_nil, or_false] at hi
  subst hi
  refine wpOp_skip (o := { dst := none, op := Op.store 40 (Operand.tmp 4) (Operand.tmp 45), type := 0, pos := "parse.go:96", after := #[{ on := 0, ground := Ground.data }, { on := 15, ground := Ground.chain }, { on := 0, ground := Ground.phase }, { on := 1, ground := Ground.textOnly Departure.lateStores }, { on := 2, ground := Ground.textOnly Departure.lateStores }, { on := 3, ground := Ground.textOnly Departure.lateStores }, { on := 4, ground := Ground.textOnly Departure.lateStoresUnsure }, { on := 5, ground := Ground.textOnly Departure.lateStores }, { on := 6, ground := Ground.textOnly Departure.lateStores }, { on := 7, ground := Ground.textOnly Departure.lateStores }, { on := 8, ground := Ground.textOnly Departure.lateStores }, { on := 9, ground := Ground.textOnly Departure.lateStoresUnsure }, { on := 10, ground := Ground.textOnly Departure.lateStores }, { on := 11, ground := Ground.textOnly Departure.lateStores }, { on := 12, ground := Ground.textOnly Departure.lateStores }, { on := 13, ground := Ground.textOnly Departure.lateStores }, { on := 14, ground := Ground.textOnly Departure.lateStores }, { on := 15, ground := Ground.textOnly Departure.lateStoresUnsure }, { on := 16, ground := Ground.textOnly Departure.lateStores }], guard := none }) (w' := (((((((((((((X2.setCell ⟨N, 0, none⟩ (.int .i64 6)).setCell ⟨N, 1, none⟩ (.int .i64 lo.kind)).setCell ⟨N, 2, none⟩ (.int .i64 lo.n)).setCell ⟨N, 3, none⟩ (.int .i64 lo.scale)).setCell ⟨N, 4, none⟩ (.string lo.text)).setCell ⟨N, 5, none⟩ (.int .i64 lo.num)).setCell ⟨N, 6, none⟩ (.int .i64 hi2.kind)).setCell ⟨N, 7, none⟩ (.int .i64 hi2.n)).setCell ⟨N, 8, none⟩ (.int .i64 hi2.scale)).setCell ⟨N, 9, none⟩ (.string hi2.text)).setCell ⟨N, 10, none⟩ (.int .i64 hi2.num)).setCell ⟨N, 11, none⟩ (.bool op)).setCell ⟨N, 12, none⟩ (.bool true))) rfl (by rfl) (by go_simp; first | done | with_reducible rfl | rfl) ?_
  refine ⟨SY, ?_⟩
  (try simp only [Act.put, List.setIfInBounds_toArray, List.set_cons_zero, List.set_cons_succ])
  generalize (((((((((((((X2.setCell ⟨N, 0, none⟩ (.int .i64 6)).setCell ⟨N, 1, none⟩ (.int .i64 lo.kind)).setCell ⟨N, 2, none⟩ (.int .i64 lo.n)).setCell ⟨N, 3, none⟩ (.int .i64 lo.scale)).setCell ⟨N, 4, none⟩ (.string lo.text)).setCell ⟨N, 5, none⟩ (.int .i64 lo.num)).setCell ⟨N, 6, none⟩ (.int .i64 hi2.kind)).setCell ⟨N, 7, none⟩ (.int .i64 hi2.n)).setCell ⟨N, 8, none⟩ (.int .i64 hi2.scale)).setCell ⟨N, 9, none⟩ (.string hi2.text)).setCell ⟨N, 10, none⟩ (.int .i64 hi2.num)).setCell ⟨N, 11, none⟩ (.bool op)).setCell ⟨N, 12, none⟩ (.bool true)) = Y at hwX hrX u SY ⊢
  clear hNX s0 s1 s2 s3 s4 s5 s6 s7 s8 s9 s10 s11 s12 f0 f1 f2 f3 f4 f5 f6 f7 f8 f9 f10 f11 f12

  refine wpAnyH_take (i := 18) (oi := { dst := some 5, op := Op.assign (Operand.tmp 61), type := 4, pos := "parse.go:96", after := #[{ on := 16, ground := Ground.data }, { on := 17, ground := Ground.chain }, { on := 0, ground := Ground.phase }, { on := 1, ground := Ground.phase }, { on := 2, ground := Ground.phase }, { on := 3, ground := Ground.phase }, { on := 4, ground := Ground.phase }, { on := 5, ground := Ground.phase }, { on := 6, ground := Ground.phase }, { on := 7, ground := Ground.phase }, { on := 8, ground := Ground.phase }, { on := 9, ground := Ground.phase }, { on := 10, ground := Ground.phase }, { on := 11, ground := Ground.phase }, { on := 12, ground := Ground.phase }, { on := 13, ground := Ground.phase }, { on := 14, ground := Ground.phase }, { on := 15, ground := Ground.phase }, { on := 16, ground := Ground.phase }, { on := 17, ground := Ground.phase }], guard := none }) (v := .bool true) rfl (by kernel_rfl) (by kernel_rfl) (by kernel_rfl) (fun _ _ _ h => h) (.inl ⟨by rfl, fun X hS => by
      clear hS
      go_simp; first | done | with_reducible rfl | rfl⟩) SY ?_
  (try simp only [Act.put, List.setIfInBounds_toArray, List.set_cons_zero, List.set_cons_succ])
  refine wpAnyH_done (by kernel_rfl) ?_ _
  refine NoPanic.normal ?_
  obtain ⟨u0, u1, u2, u3, u4, u5, u6, u7, u8, u9, u10, u11, u12⟩ := u
  simp only [Nat.zero_add] at u0 u1 u2 u3 u4 u5 u6 u7 u8 u9 u10 u11 u12
  clear SY
  go_wp2_with fail
  exact bodyPost_ret (v := .tuple #[(⟨6, lo, hi2, op, true⟩ : Tst).val, .bool true]) (by simp [results, Tryz.results64, go_sem, u0, u1, u2, u3, u4, u5, u6, u7, u8, u9, u10, u11, u12]) rfl ⟨j5 + 1, wr5, 0, hwX, hrX, by omega, rfl, hd6.out, rfl, rfl⟩
set_option maxRecDepth 100000 in
set_option maxHeartbeats 8000000 in
theorem uint_bad (op : Bool) (ts : List Tok) (w : World) (b : Nat) (A : Option Addr) (c i : Nat) (en wr : Int) (hT : Toks w A ts) (hr : Rdc w b A ts.length c i en wr 0) (hi : i ≤ ts.length) (hl : ts.length ≤ 65536) (hB : ∃ B, Toks B A ts ∧ Bel B w ∧ B.heap.size ≤ b) (hS : ∀ t ∈ ts, ksnd t = true) (lo hi2 : Val) (r2 r3 : List Tok) (hv : valP ordk (ts.drop i) = .ok lo r2) (hs : isS [46, 46] r2 = true) (hv2 : valP (fun k => decide (k = lo.kind)) r2.tail = .ok hi2 r3) (hs3 : isS [93] r3 = false) (h4 : isS [41] r3 = false) (h5 : isS [91] r3 = false) :
    Calls Tryz.prog 64 #[.pointer (some ⟨b, 0, none⟩), .bool op] w (TstOut ts b A c en wr (intP op (ts.drop i)) w) := by
  have HP : intP op (ts.drop i) = .bad r3 5 := by
    unfold intP
    rw [hv]
    simp only
    rw [if_pos hs, hv2]
    simp only
    rw [if_neg (by rw [hs3]; decide), if_neg (by rw [h4, h5]; decide)]
  rw [HP]
  have hbw := hr.1
  obtain ⟨B, hTB, hBw, hBb⟩ := hB
  have KV := Lib.hid fun W (hW : Bel w W) => uval_ord ts W b A c i en wr (hT.keep hW) (hr.keep hW) hi hl ⟨B, hTB, hBw.trans hW, hBb⟩ hS
  rw [hv] at KV
  have KT := Lib.hid fun W (hW : But b w W) => hTB.keep (hW.bel hBw hBb)
  have HB0 := Lib.hid (show ∀ W, But b w W → ∃ B, Toks B A ts ∧ Bel B W ∧ B.heap.size ≤ b from fun W hW => ⟨B, hTB, hW.bel hBw hBb, hBb⟩)
  have HS0 := Lib.hid hS
  clear hT hr hTB hS HP hv
  go_enter Tryz.func64, Tryz.ntmps64
  go_upto_region 2 with fail
  refine under_name (((Bel.refl w).alloc _).alloc _) fun W hcc hf hz hb => ?_
  have T1 : TFree W w.heap.size ⟨0, zv, zv, false, false⟩ := by simp [TFree, TstAt, zv, hcc, hf, hz, go_sem]
  have T2 : TFree W (w.heap.size + 1) ⟨6, zv, zv, op, false⟩ := by simp [TFree, TstAt, zv, hcc, hf, hz, go_sem]
  clear hcc hf hz
  generalize hN : w.heap.size = N at T1 T2 ⊢
  have nb : N ≠ b := by omega
  have mb : N + 1 ≠ b := by omega
  have NW := Lib.hid (show w.heap.size ≤ N from by omega)
  clear hN
  have nm : ¬ N = N + 1 := by omega
  have mn : ¬ N + 1 = N := by omega
  have x2 : ¬ b = N := fun e => nb e.symm
  have xm : ¬ b = N + 1 := fun e => mb e.symm
  have MW := Lib.hid (show w.heap.size ≤ N + 1 from by have := NW.out; omega)
  have K1 := Lib.hid T1
  have K2 := Lib.hid T2
  clear T1 T2
  go_upto_region 3 with fail
  go_upto_region 4 with (go_at_call 63; (with_reducible refine Calls.mono (KV.out _ hb) ?_); rintro ee V1 ⟨j, wr', e', hb1, hr1, hj1, hee⟩; simp only at hee; obtain ⟨hee, hdj, hw', he'⟩ := hee; subst hee hw' he'; have hq1 := Lib.hid hb1; have hq2 := Lib.hid hr1; have hqd := Lib.hid hdj; obtain ⟨tz, ⟨t0, t1, t2, t3, t4, t5, t6, t7, t8, t9, t10, t11, t12⟩, ⟨g0, g1, g2, g3, g4, g5, g6, g7, g8, g9, g10, g11, g12⟩⟩ := K2.out.but hb1 mb; simp only [zv] at t0 t1 t2 t3 t4 t5 t6 t7 t8 t9 t10 t11 t12)
  clear t0 t1 t2 t3 t4 t5 t6 t7 t8 t9 t10 t11 t12 tz g0 g1 g2 g3 g4 g5 g6 g7 g8 g9 g10 g11 g12
  have L2 := Lib.hid ((K2.out.but hq1.out mb).low lo)
  have L1 := Lib.hid ((K1.out.but hq1.out nb).far (m := N + 1) (o := 1) nm lo)
  have R2 := Lib.hid (hq2.out.stV (m := N + 1) (o := 1) xm lo)
  have B2 := Lib.hid (((But.of hb).trans hq1.out).stV (m := N + 1) (o := 1) MW.out lo)
  refine at_world (stV V1 (N + 1) 1 lo) rfl ?_
  generalize stV V1 (N + 1) 1 lo = W2 at L2 L1 R2 B2 ⊢
  have hsj : isK 5 [46, 46] (ts.drop j) = true := by rw [hqd.out]; exact hs
  have hjl : j < ts.length := (tail_at hsj).1
  have CS := Lib.hid (sign_any ts [46, 46] W2 b A c j (j + 1) en wr' 0 (KT.out W2 B2.out) R2.out hj1 hl (by rw [if_pos hsj]))
  rw [hsj, show bytesOf [46, 46] = (⟨#[46, 46]⟩ : ByteArray) from rfl] at CS
  have hdj2 : ts.drop (j + 1) = r2.tail := by rw [← hqd.out, List.tail_drop]
  go_upto_region 8 with (go_at_call 40; (with_reducible refine Calls.mono CS.out ?_); rintro ee V3 ⟨rfl, hb3, hr3⟩; have hq3 := Lib.hid hb3; have hq4 := Lib.hid hr3)
  have L4 := Lib.hid (L2.out.but hq3.out mb)
  have L3 := Lib.hid (L1.out.but hq3.out nb)
  have B4 := Lib.hid (B2.out.trans hq3.out)
  have CV := uval_same lo.kind (N + 1) ts V3 b A c (j + 1) en wr' (by have h9 := L4.out.2.1.2.1; exact h9) L4.out.1 mb (KT.out V3 B4.out) hq4.out hjl hl (HB0.out V3 B4.out) HS0.out
  rw [hdj2, hv2] at CV
  have CV := Lib.hid CV
  clear CS hdj2 hsj
  go_upto_region 9 with (go_at_call 63; (with_reducible refine Calls.mono CV.out ?_); rintro ee V5 ⟨j5, wr5, e5, hb5, hr5, hj5, hee⟩; simp only at hee; obtain ⟨hee, hd5, hw5, he5⟩ := hee; subst hee hw5 he5; have hq5 := Lib.hid hb5; have hq6 := Lib.hid hr5; have hq8 := Lib.hid hd5; obtain ⟨tz, ⟨t0, t1, t2, t3, t4, t5, t6, t7, t8, t9, t10, t11, t12⟩, ⟨g0, g1, g2, g3, g4, g5, g6, g7, g8, g9, g10, g11, g12⟩⟩ := L4.out.but hb5 mb; simp only [zv] at t0 t1 t2 t3 t4 t5 t6 t7 t8 t9 t10 t11 t12)
  clear t0 t1 t2 t3 t4 t5 t6 t7 t8 t9 t10 t11 t12 tz g0 g1 g2 g3 g4 g5 g6 g7 g8 g9 g10 g11 g12
  have L6 := Lib.hid ((L4.out.but hq5.out mb).high hi2)
  have L5 := Lib.hid ((L3.out.but hq5.out nb).far (m := N + 1) (o := 6) nm hi2)
  have R6 := Lib.hid (hq6.out.stV (m := N + 1) (o := 6) xm hi2)
  have B6 := Lib.hid ((B4.out.trans hq5.out).stV (m := N + 1) (o := 6) MW.out hi2)
  refine at_world (stV V5 (N + 1) 6 hi2) rfl ?_
  generalize stV V5 (N + 1) 6 hi2 = W6 at L6 L5 R6 B6 ⊢
  have hsj3 : isK 5 [93] (ts.drop j5) = false := by rw [hq8.out]; exact hs3
  have CS := Lib.hid (sign_any ts [93] W6 b A c j5 j5 en wr5 0 (KT.out W6 B6.out) R6.out hj5 hl (by rw [if_neg (by rw [hsj3]; decide)]))
  rw [hsj3, show bytesOf [93] = (⟨#[93]⟩ : ByteArray) from rfl] at CS
  clear hsj3
  go_upto_region 13 with (go_at_call 40; (with_reducible refine Calls.mono CS.out ?_); rintro ee V7 ⟨rfl, hb7, hr7⟩; have hq9 := Lib.hid hb7; have hq10 := Lib.hid hr7)
  obtain ⟨tz, ⟨t0, t1, t2, t3, t4, t5, t6, t7, t8, t9, t10, t11, t12⟩, ⟨g0, g1, g2, g3, g4, g5, g6, g7, g8, g9, g10, g11, g12⟩⟩ := L6.out.but hq9.out mb
  simp only [zv] at t0 t1 t2 t3 t4 t5 t6 t7 t8 t9 t10 t11 t12
  go_upto_region 14 with fail
  clear t0 t1 t2 t3 t4 t5 t6 t7 t8 t9 t10 t11 t12 tz g0 g1 g2 g3 g4 g5 g6 g7 g8 g9 g10 g11 g12
  have hM8 : But (N + 1) V7 (V7.setCell ⟨N + 1, 12, none⟩ (.bool true)) := (But.refl (N + 1) V7).setCell (p := ⟨N + 1, 12, none⟩) rfl _
  have L8 := Lib.hid ((L6.out.but hq9.out mb).oh true)
  have L7 := Lib.hid ((L5.out.but hq9.out nb).but hM8 nm)
  have R8 := Lib.hid (hq10.out.far (p := ⟨N + 1, 12, none⟩) xm (.bool true))
  have B8 := Lib.hid ((B6.out.trans hq9.out).new (p := ⟨N + 1, 12, none⟩) MW.out (.bool true))
  refine at_world (V7.setCell ⟨N + 1, 12, none⟩ (.bool true)) rfl ?_
  clear hM8
  generalize V7.setCell ⟨N + 1, 12, none⟩ (.bool true) = W8 at L8 L7 R8 B8 ⊢
  have k4 : isK 5 [41] (ts.drop j5) = false := by rw [hq8.out]; exact h4
  have CA := fun W (hW : But b W8 W) (hR : Rdc W b A ts.length c j5 en wr5 0) => sign_any ts [41] W b A c j5 j5 en wr5 0 (KT.out W (B8.out.trans hW)) hR hj5 hl (by rw [if_neg (by rw [k4]; decide)])
  rw [k4, show bytesOf [41] = (⟨#[41]⟩ : ByteArray) from rfl] at CA
  have CA := Lib.hid CA
  have k5 : isK 5 [91] (ts.drop j5) = false := by rw [hq8.out]; exact h5
  have CB := fun W (hW : But b W8 W) (hR : Rdc W b A ts.length c j5 en wr5 0) => sign_any ts [91] W b A c j5 j5 en wr5 0 (KT.out W (B8.out.trans hW)) hR hj5 hl (by rw [if_neg (by rw [k5]; decide)])
  rw [k5, show bytesOf [91] = (⟨#[91]⟩ : ByteArray) from rfl] at CB
  have CB := Lib.hid CB
  have hpl : Hid (plcT en (ts.drop j5) = plcT en r3) := Lib.hid (by rw [hq8.out])
  have CF := Lib.hid fun W (hW : But b W8 W) (hR : Rdc W b A ts.length c j5 en wr5 0) => fail_any ts W b A c j5 en wr5 0 5 (plcT en r3) 5 (KT.out W (B8.out.trans hW)) hR hj5 hl (by rw [if_pos rfl]; exact hpl.out.symm) (by rw [if_pos rfl])
  clear k4 k5
  obtain ⟨sz, ⟨s0, s1, s2, s3, s4, s5, s6, s7, s8, s9, s10, s11, s12⟩, sg⟩ := L7.out
  clear s0 s1 s2 s3 s4 s5 s6 s7 s8 s9 s10 s11 s12 sg sz
  refine wp_region_noPanic ?_
  refine wp_region_held (S := fun X => TstAt X (N + 1) 0 (⟨6, lo, hi2, op, true⟩ : Tst)) (by kernel_rfl) ?_
  have hX0 : Bel W8 { W8 with drawn := W8.drawn + 1 } := (Bel.refl W8).drew
  generalize { W8 with drawn := W8.drawn + 1 } = X0 at hX0 ⊢
  have B0 := But.of (b := b) hX0
  have R0 := R8.out.keep hX0
  clear hX0
  have S0 := (L8.out.but B0 mb).2.1
  refine wpAnyH_take (i := 0) (oi := { dst := some 45, op := Op.load 40 (Operand.tmp 6), type := 40, pos := "parse.go:96", after := #[], guard := none }) (v := .agg #[.int .i64 6, .int .i64 lo.kind, .int .i64 lo.n, .int .i64 lo.scale, .string lo.text, .int .i64 lo.num, .int .i64 hi2.kind, .int .i64 hi2.n, .int .i64 hi2.scale, .string hi2.text, .int .i64 hi2.num, .bool op, .bool true]) rfl (by kernel_rfl) (by kernel_rfl) (by kernel_rfl) (fun _ _ _ h => h) (.inl ⟨by rfl, fun X hS => by
      obtain ⟨k0, k1, k2, k3, k4, k5, k6, k7, k8, k9, k10, k11, k12⟩ := hS
      simp only [Nat.zero_add] at k0 k1 k2 k3 k4 k5 k6 k7 k8 k9 k10 k11 k12
      go_simp; first | done | with_reducible rfl | rfl⟩) S0 ?_
  (try simp only [Act.put, List.setIfInBounds_toArray, List.set_cons_zero, List.set_cons_succ])
  refine wpAnyH_take (i := 1) (oi := { dst := some 46, op := Op.move (Operand.tmp 0), type := 45, pos := "parse.go:96", after := #[], guard := none }) (v := .pointer (some ⟨b, 0, none⟩)) rfl (by kernel_rfl) (by kernel_rfl) (by kernel_rfl) (fun _ _ _ h => h) (.inl ⟨by rfl, fun X hS => by
      clear hS
      go_simp; first | done | with_reducible rfl | rfl⟩) S0 ?_
  (try simp only [Act.put, List.setIfInBounds_toArray, List.set_cons_zero, List.set_cons_succ])
  refine wpAnyH_take (i := 2) (oi := { dst := some 47, op := Op.nilCheck (Operand.tmp 46), type := 0, pos := "parse.go:96", after := #[{ on := 1, ground := Ground.data }], guard := none }) (v := .pointer (some ⟨b, 0, none⟩)) rfl (by kernel_rfl) (by kernel_rfl) (by kernel_rfl) (fun _ _ _ h => h) (.inl ⟨by rfl, fun X hS => by
      clear hS
      go_simp; first | done | with_reducible rfl | rfl⟩) S0 ?_
  (try simp only [Act.put, List.setIfInBounds_toArray, List.set_cons_zero, List.set_cons_succ])
  refine wpAnyH_take (i := 3) (oi := { dst := some 48, op := Op.fieldAddr 51 (Operand.tmp 47) 0, type := 0, pos := "parse.go:96", after := #[{ on := 2, ground := Ground.data }], guard := none }) (v := .pointer (some ⟨b, 0, none⟩)) rfl (by kernel_rfl) (by kernel_rfl) (by kernel_rfl) (fun _ _ _ h => h) (.inl ⟨by rfl, fun X hS => by
      clear hS
      go_simp; first | done | with_reducible rfl | rfl⟩) S0 ?_
  (try simp only [Act.put, List.setIfInBounds_toArray, List.set_cons_zero, List.set_cons_succ])
  refine wpAnyH_all (rs := [4]) (by kernel_rfl) (by simp) ?_
  intro i hi
  simp only [List.mem_cons, List.not_mem_nil, or_false] at hi
  subst hi
  refine wpOp_enter (o := { dst := some 49, op := Op.call { callee := Callee.value (Operand.func 40), args := #[Operand.tmp 48, Operand.const (Value.string { data := #[41] })], argTypes := #[48, 9] }, type := 4, pos := "parse.go:96", after := #[{ on := 3, ground := Ground.data }], guard := none }) (R := fun v w' => v = .bool false ∧ But b X0 w' ∧ Rdc w' b A ts.length c j5 en wr5 0) rfl (by rfl) (by go_simp; first | done | with_reducible rfl | rfl) ((CA.out X0 B0 R0).mono fun e w' ⟨h1, h2, h3⟩ => ⟨_, h1, rfl, h2, h3⟩) ?_
  rintro v X1 ⟨rfl, hb', R1⟩
  have B1 := B0.trans hb'
  have S1 := (L8.out.but B1 mb).2.1
  clear hb'
  refine ⟨S1, ?_⟩
  (try simp only [Act.put, List.setIfInBounds_toArray, List.set_cons_zero, List.set_cons_succ])
  refine wpAnyH_take (i := 5) (oi := { dst := some 50, op := Op.move (Operand.tmp 49), type := 4, pos := "parse.go:96", after := #[{ on := 4, ground := Ground.data }, { on := 4, ground := Ground.chain }], guard := none }) (v := .bool false) rfl (by kernel_rfl) (by kernel_rfl) (by kernel_rfl) (fun _ _ _ h => h) (.inl ⟨by rfl, fun X hS => by
      clear hS
      go_simp; first | done | with_reducible rfl | rfl⟩) S1 ?_
  (try simp only [Act.put, List.setIfInBounds_toArray, List.set_cons_zero, List.set_cons_succ])
  refine wpAnyH_take (i := 6) (oi := { dst := some 51, op := Op.move (Operand.tmp 0), type := 45, pos := "parse.go:96", after := #[{ on := 5, ground := Ground.guard }], guard := some (5, false) }) (v := .pointer (some ⟨b, 0, none⟩)) rfl (by kernel_rfl) (by kernel_rfl) (by kernel_rfl) (fun _ _ _ h => h) (.inl ⟨by rfl, fun X hS => by
      clear hS
      go_simp; first | done | with_reducible rfl | rfl⟩) S1 ?_
  (try simp only [Act.put, List.setIfInBounds_toArray, List.set_cons_zero, List.set_cons_succ])
  refine wpAnyH_take (i := 7) (oi := { dst := some 52, op := Op.nilCheck (Operand.tmp 51), type := 0, pos := "parse.go:96", after := #[{ on := 6, ground := Ground.data }, { on := 5, ground := Ground.guard }], guard := some (5, false) }) (v := .pointer (some ⟨b, 0, none⟩)) rfl (by kernel_rfl) (by kernel_rfl) (by kernel_rfl) (fun _ _ _ h => h) (.inl ⟨by rfl, fun X hS => by
      clear hS
      go_simp; first | done | with_reducible rfl | rfl⟩) S1 ?_
  (try simp only [Act.put, List.setIfInBounds_toArray, List.set_cons_zero, List.set_cons_succ])
  refine wpAnyH_take (i := 8) (oi := { dst := some 53, op := Op.fieldAddr 51 (Operand.tmp 52) 0, type := 0, pos := "parse.go:96", after := #[{ on := 7, ground := Ground.data }, { on := 5, ground := Ground.guard }], guard := some (5, false) }) (v := .pointer (some ⟨b, 0, none⟩)) rfl (by kernel_rfl) (by kernel_rfl) (by kernel_rfl) (fun _ _ _ h => h) (.inl ⟨by rfl, fun X hS => by
      clear hS
      go_simp; first | done | with_reducible rfl | rfl⟩) S1 ?_
  (try simp only [Act.put, List.setIfInBounds_toArray, List.set_cons_zero, List.set_cons_succ])
  refine wpAnyH_all (rs := [9]) (by kernel_rfl) (by simp) ?_
  intro i hi
  simp only [List.mem_cons, List.not_mem_nil, or_false] at hi
  subst hi
  refine wpOp_enter (o := { dst := some 54, op := Op.call { callee := Callee.value (Operand.func 40), args := #[Operand.tmp 53, Operand.const (Value.string { data := #[91] })], argTypes := #[48, 9] }, type := 4, pos := "parse.go:96", after := #[{ on := 8, ground := Ground.data }, { on := 5, ground := Ground.chain }, { on := 5, ground := Ground.guard }], guard := some (5, false) }) (R := fun v w' => v = .bool false ∧ But b X1 w' ∧ Rdc w' b A ts.length c j5 en wr5 0) rfl (by rfl) (by go_simp; first | done | with_reducible rfl | rfl) ((CB.out X1 B1 R1).mono fun e w' ⟨h1, h2, h3⟩ => ⟨_, h1, rfl, h2, h3⟩) ?_
  rintro v X2 ⟨rfl, hb', R2⟩
  have B2 := B1.trans hb'
  have S2 := (L8.out.but B2 mb).2.1
  clear hb'
  refine ⟨S2, ?_⟩
  (try simp only [Act.put, List.setIfInBounds_toArray, List.set_cons_zero, List.set_cons_succ])
  refine wpAnyH_take (i := 10) (oi := { dst := some 55, op := Op.pick (Operand.tmp 50) (Operand.const (Value.bool true)) (Operand.tmp 54), type := 4, pos := "parse.go:96", after := #[{ on := 5, ground := Ground.data }, { on := 9, ground := Ground.data }], guard := none }) (v := .bool false) rfl (by kernel_rfl) (by kernel_rfl) (by kernel_rfl) (fun _ _ _ h => h) (.inl ⟨by rfl, fun X hS => by
      clear hS
      go_simp; first | done | with_reducible rfl | rfl⟩) S2 ?_
  (try simp only [Act.put, List.setIfInBounds_toArray, List.set_cons_zero, List.set_cons_succ])
  refine wpAnyH_take (i := 11) (oi := { dst := some 56, op := Op.move (Operand.tmp 55), type := 4, pos := "parse.go:96", after := #[{ on := 10, ground := Ground.data }, { on := 9, ground := Ground.chain }], guard := none }) (v := .bool false) rfl (by kernel_rfl) (by kernel_rfl) (by kernel_rfl) (fun _ _ _ h => h) (.inl ⟨by rfl, fun X hS => by
      clear hS
      go_simp; first | done | with_reducible rfl | rfl⟩) S2 ?_
  (try simp only [Act.put, List.setIfInBounds_toArray, List.set_cons_zero, List.set_cons_succ])
  refine wpAnyH_take (i := 12) (oi := { dst := some 57, op := Op.move (Operand.tmp 0), type := 45, pos := "parse.go:96", after := #[{ on := 11, ground := Ground.guard }], guard := some (11, false) }) (v := .pointer (some ⟨b, 0, none⟩)) rfl (by kernel_rfl) (by kernel_rfl) (by kernel_rfl) (fun _ _ _ h => h) (.inl ⟨by rfl, fun X hS => by
      clear hS
      go_simp; first | done | with_reducible rfl | rfl⟩) S2 ?_
  (try simp only [Act.put, List.setIfInBounds_toArray, List.set_cons_zero, List.set_cons_succ])
  refine wpAnyH_take (i := 13) (oi := { dst := some 58, op := Op.nilCheck (Operand.tmp 57), type := 0, pos := "parse.go:96", after := #[{ on := 12, ground := Ground.data }, { on := 11, ground := Ground.guard }], guard := some (11, false) }) (v := .pointer (some ⟨b, 0, none⟩)) rfl (by kernel_rfl) (by kernel_rfl) (by kernel_rfl) (fun _ _ _ h => h) (.inl ⟨by rfl, fun X hS => by
      clear hS
      go_simp; first | done | with_reducible rfl | rfl⟩) S2 ?_
  (try simp only [Act.put, List.setIfInBounds_toArray, List.set_cons_zero, List.set_cons_succ])
  refine wpAnyH_take (i := 14) (oi := { dst := some 59, op := Op.fieldAddr 51 (Operand.tmp 58) 0, type := 0, pos := "parse.go:96", after := #[{ on := 13, ground := Ground.data }, { on := 11, ground := Ground.guard }], guard := some (11, false) }) (v := .pointer (some ⟨b, 0, none⟩)) rfl (by kernel_rfl) (by kernel_rfl) (by kernel_rfl) (fun _ _ _ h => h) (.inl ⟨by rfl, fun X hS => by
      clear hS
      go_simp; first | done | with_reducible rfl | rfl⟩) S2 ?_
  (try simp only [Act.put, List.setIfInBounds_toArray, List.set_cons_zero, List.set_cons_succ])
  refine wpAnyH_all (rs := [15]) (by kernel_rfl) (by simp) ?_
  intro i hi
  simp only [List.mem_cons, List.not_mem_nil, or_false] at hi
  subst hi
  refine wpOp_enter (o := { dst := some 60, op := Op.call { callee := Callee.value (Operand.func 41), args := #[Operand.tmp 59, Operand.const (Value.int IntKind.i64 5)], argTypes := #[48, 25] }, type := 4, pos := "parse.go:96", after := #[{ on := 14, ground := Ground.data }, { on := 11, ground := Ground.chain }, { on := 11, ground := Ground.guard }], guard := some (11, false) }) (R := fun v w' => v = .bool false ∧ But b X2 w' ∧ Rdc w' b A ts.length c j5 en (plcT en r3) 5) rfl (by rfl) (by go_simp; first | done | with_reducible rfl | rfl) ((CF.out X2 B2 R2).mono fun e w' ⟨h1, h2, h3⟩ => ⟨_, h1, rfl, h2, h3⟩) ?_
  rintro v X3 ⟨rfl, hb', R3⟩
  have B3 := B2.trans hb'
  have S3 := (L8.out.but B3 mb).2.1
  clear hb'
  refine ⟨S3, ?_⟩
  (try simp only [Act.put, List.setIfInBounds_toArray, List.set_cons_zero, List.set_cons_succ])
  refine wpAnyH_take (i := 16) (oi := { dst := some 61, op := Op.pick (Operand.tmp 56) (Operand.const (Value.bool true)) (Operand.tmp 60), type := 4, pos := "parse.go:96", after := #[{ on := 11, ground := Ground.data }, { on := 15, ground := Ground.data }, { on := 17, ground := Ground.gcOnly Departure.lateStores }], guard := none }) (v := .bool false) rfl (by kernel_rfl) (by kernel_rfl) (by kernel_rfl) (fun _ _ _ h => h) (.inl ⟨by rfl, fun X hS => by
      clear hS
      go_simp; first | done | with_reducible rfl | rfl⟩) S3 ?_
  (try simp only [Act.put, List.setIfInBounds_toArray, List.set_cons_zero, List.set_cons_succ])
  obtain ⟨sz, ⟨s0, s1, s2, s3, s4, s5, s6, s7, s8, s9, s10, s11, s12⟩, ⟨f0, f1, f2, f3, f4, f5, f6, f7, f8, f9, f10, f11, f12⟩⟩ := L7.out.but B3 nb
  simp only [zv, Nat.zero_add] at s0 s1 s2 s3 s4 s5 s6 s7 s8 s9 s10 s11 s12
  have hNX : But N X3 (((((((((((((X3.setCell ⟨N, 0, none⟩ (.int .i64 6)).setCell ⟨N, 1, none⟩ (.int .i64 lo.kind)).setCell ⟨N, 2, none⟩ (.int .i64 lo.n)).setCell ⟨N, 3, none⟩ (.int .i64 lo.scale)).setCell ⟨N, 4, none⟩ (.string lo.text)).setCell ⟨N, 5, none⟩ (.int .i64 lo.num)).setCell ⟨N, 6, none⟩ (.int .i64 hi2.kind)).setCell ⟨N, 7, none⟩ (.int .i64 hi2.n)).setCell ⟨N, 8, none⟩ (.int .i64 hi2.scale)).setCell ⟨N, 9, none⟩ (.string hi2.text)).setCell ⟨N, 10, none⟩ (.int .i64 hi2.num)).setCell ⟨N, 11, none⟩ (.bool op)).setCell ⟨N, 12, none⟩ (.bool true)) := by
    repeat (first | with_reducible exact But.refl N X3 | refine But.setCell (b := N) ?_ rfl _)
  have hwX : But b w (((((((((((((X3.setCell ⟨N, 0, none⟩ (.int .i64 6)).setCell ⟨N, 1, none⟩ (.int .i64 lo.kind)).setCell ⟨N, 2, none⟩ (.int .i64 lo.n)).setCell ⟨N, 3, none⟩ (.int .i64 lo.scale)).setCell ⟨N, 4, none⟩ (.string lo.text)).setCell ⟨N, 5, none⟩ (.int .i64 lo.num)).setCell ⟨N, 6, none⟩ (.int .i64 hi2.kind)).setCell ⟨N, 7, none⟩ (.int .i64 hi2.n)).setCell ⟨N, 8, none⟩ (.int .i64 hi2.scale)).setCell ⟨N, 9, none⟩ (.string hi2.text)).setCell ⟨N, 10, none⟩ (.int .i64 hi2.num)).setCell ⟨N, 11, none⟩ (.bool op)).setCell ⟨N, 12, none⟩ (.bool true)) := by
    repeat (first | with_reducible exact B8.out.trans B3 | refine But.new ?_ NW.out _)
  have hrX := R3.apart hNX x2
  have u : TstAt (((((((((((((X3.setCell ⟨N, 0, none⟩ (.int .i64 6)).setCell ⟨N, 1, none⟩ (.int .i64 lo.kind)).setCell ⟨N, 2, none⟩ (.int .i64 lo.n)).setCell ⟨N, 3, none⟩ (.int .i64 lo.scale)).setCell ⟨N, 4, none⟩ (.string lo.text)).setCell ⟨N, 5, none⟩ (.int .i64 lo.num)).setCell ⟨N, 6, none⟩ (.int .i64 hi2.kind)).setCell ⟨N, 7, none⟩ (.int .i64 hi2.n)).setCell ⟨N, 8, none⟩ (.int .i64 hi2.scale)).setCell ⟨N, 9, none⟩ (.string hi2.text)).setCell ⟨N, 10, none⟩ (.int .i64 hi2.num)).setCell ⟨N, 11, none⟩ (.bool op)).setCell ⟨N, 12, none⟩ (.bool true)) N 0 (⟨6, lo, hi2, op, true⟩ : Tst) := by simp [TstAt, go_sem, sz, s0, s1, s2, s3, s4, s5, s6, s7, s8, s9, s10, s11, s12]
  have SY := ((L8.out.but B3 mb).but hNX mn).2.1
  refine wpAnyH_all (rs := [17]) (by kernel_rfl) (by simp) ?_
  intro i hi
  simp only [List.mem_cons, List.not_mem_nil, or_false] at hi
  subst hi
  refine wpOp_skip (o := { dst := none, op := Op.store 40 (Operand.tmp 4) (Operand.tmp 45), type := 0, pos := "parse.go:96", after := #[{ on := 0, ground := Ground.data }, { on := 15, ground := Ground.chain }, { on := 0, ground := Ground.phase }, { on := 1, ground := Ground.textOnly Departure.lateStores }, { on := 2, ground := Ground.textOnly Departure.lateStores }, { on := 3, ground := Ground.textOnly Departure.lateStores }, { on := 4, ground := Ground.textOnly Departure.lateStoresUnsure }, { on := 5, ground := Ground.textOnly Departure.lateStores }, { on := 6, ground := Ground.textOnly Departure.lateStores }, { on := 7, ground := Ground.textOnly Departure.lateStores }, { on := 8, ground := Ground.textOnly Departure.lateStores }, { on := 9, ground := Ground.textOnly Departure.lateStoresUnsure }, { on := 10, ground := Ground.textOnly Departure.lateStores }, { on := 11, ground := Ground.textOnly Departure.lateStores }, { on := 12, ground := Ground.textOnly Departure.lateStores }, { on := 13, ground := Ground.textOnly Departure.lateStores }, { on := 14, ground := Ground.textOnly Departure.lateStores }, { on := 15, ground := Ground.textOnly Departure.lateStoresUnsure }, { on := 16, ground := Ground.textOnly Departure.lateStores }], guard := none }) (w' := (((((((((((((X3.setCell ⟨N, 0, none⟩ (.int .i64 6)).setCell ⟨N, 1, none⟩ (.int .i64 lo.kind)).setCell ⟨N, 2, none⟩ (.int .i64 lo.n)).setCell ⟨N, 3, none⟩ (.int .i64 lo.scale)).setCell ⟨N, 4, none⟩ (.string lo.text)).setCell ⟨N, 5, none⟩ (.int .i64 lo.num)).setCell ⟨N, 6, none⟩ (.int .i64 hi2.kind)).setCell ⟨N, 7, none⟩ (.int .i64 hi2.n)).setCell ⟨N, 8, none⟩ (.int .i64 hi2.scale)).setCell ⟨N, 9, none⟩ (.string hi2.text)).setCell ⟨N, 10, none⟩ (.int .i64 hi2.num)).setCell ⟨N, 11, none⟩ (.bool op)).setCell ⟨N, 12, none⟩ (.bool true))) rfl (by rfl) (by go_simp; first | done | with_reducible rfl | rfl) ?_
  refine ⟨SY, ?_⟩
  (try simp only [Act.put, List.setIfInBounds_toArray, List.set_cons_zero, List.set_cons_succ])
  generalize (((((((((((((X3.setCell ⟨N, 0, none⟩ (.int .i64 6)).setCell ⟨N, 1, none⟩ (.int .i64 lo.kind)).setCell ⟨N, 2, none⟩ (.int .i64 lo.n)).setCell ⟨N, 3, none⟩ (.int .i64 lo.scale)).setCell ⟨N, 4, none⟩ (.string lo.text)).setCell ⟨N, 5, none⟩ (.int .i64 lo.num)).setCell ⟨N, 6, none⟩ (.int .i64 hi2.kind)).setCell ⟨N, 7, none⟩ (.int .i64 hi2.n)).setCell ⟨N, 8, none⟩ (.int .i64 hi2.scale)).setCell ⟨N, 9, none⟩ (.string hi2.text)).setCell ⟨N, 10, none⟩ (.int .i64 hi2.num)).setCell ⟨N, 11, none⟩ (.bool op)).setCell ⟨N, 12, none⟩ (.bool true)) = Y at hwX hrX u SY ⊢
  clear hNX s0 s1 s2 s3 s4 s5 s6 s7 s8 s9 s10 s11 s12 f0 f1 f2 f3 f4 f5 f6 f7 f8 f9 f10 f11 f12

  refine wpAnyH_take (i := 18) (oi := { dst := some 5, op := Op.assign (Operand.tmp 61), type := 4, pos := "parse.go:96", after := #[{ on := 16, ground := Ground.data }, { on := 17, ground := Ground.chain }, { on := 0, ground := Ground.phase }, { on := 1, ground := Ground.phase }, { on := 2, ground := Ground.phase }, { on := 3, ground := Ground.phase }, { on := 4, ground := Ground.phase }, { on := 5, ground := Ground.phase }, { on := 6, ground := Ground.phase }, { on := 7, ground := Ground.phase }, { on := 8, ground := Ground.phase }, { on := 9, ground := Ground.phase }, { on := 10, ground := Ground.phase }, { on := 11, ground := Ground.phase }, { on := 12, ground := Ground.phase }, { on := 13, ground := Ground.phase }, { on := 14, ground := Ground.phase }, { on := 15, ground := Ground.phase }, { on := 16, ground := Ground.phase }, { on := 17, ground := Ground.phase }], guard := none }) (v := .bool false) rfl (by kernel_rfl) (by kernel_rfl) (by kernel_rfl) (fun _ _ _ h => h) (.inl ⟨by rfl, fun X hS => by
      clear hS
      go_simp; first | done | with_reducible rfl | rfl⟩) SY ?_
  (try simp only [Act.put, List.setIfInBounds_toArray, List.set_cons_zero, List.set_cons_succ])
  refine wpAnyH_done (by kernel_rfl) ?_ _
  refine NoPanic.normal ?_
  obtain ⟨u0, u1, u2, u3, u4, u5, u6, u7, u8, u9, u10, u11, u12⟩ := u
  simp only [Nat.zero_add] at u0 u1 u2 u3 u4 u5 u6 u7 u8 u9 u10 u11 u12
  clear SY
  go_wp2_with fail
  exact bodyPost_ret (v := .tuple #[(⟨6, lo, hi2, op, true⟩ : Tst).val, .bool false]) (by simp [results, Tryz.results64, go_sem, u0, u1, u2, u3, u4, u5, u6, u7, u8, u9, u10, u11, u12]) rfl ⟨j5, plcT en r3, 5, hwX, hrX, hj5, ⟨_, rfl⟩, rfl, rfl⟩
end Go.Proofs.YtdggbafpdjenmaaGreatDoor
