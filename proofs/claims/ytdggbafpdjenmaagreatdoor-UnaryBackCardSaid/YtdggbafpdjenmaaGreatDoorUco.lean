
import Derived.Test.YtdggbafpdjenmaaGreatDoorUcm
namespace Go.Proofs.YtdggbafpdjenmaaGreatDoor
set_option linter.unusedSimpArgs false
set_option linter.unusedVariables false
open Go.RowKit
/-! An interval: its high end is wrong. -/
set_option maxRecDepth 100000 in
set_option maxHeartbeats 8000000 in
theorem uint_high (op : Bool) (ts : List Tok) (w : World) (b : Nat) (A : Option Addr) (c i : Nat) (en wr : Int) (hT : Toks w A ts) (hr : Rdc w b A ts.length c i en wr 0) (hi : i ≤ ts.length) (hl : ts.length ≤ 65536) (hB : ∃ B, Toks B A ts ∧ Bel B w ∧ B.heap.size ≤ b) (hS : ∀ t ∈ ts, ksnd t = true) (lo : Val) (r2 q : List Tok) (e : Nat) (hv : valP ordk (ts.drop i) = .ok lo r2) (hs : isS [46, 46] r2 = true) (hv2 : valP (fun k => decide (k = lo.kind)) r2.tail = .bad q e) :
    Calls Tryz.prog 64 #[.pointer (some ⟨b, 0, none⟩), .bool op] w (TstOut ts b A c en wr (intP op (ts.drop i)) w) := by
  have HP : intP op (ts.drop i) = .bad q e := by
    unfold intP
    rw [hv]
    simp only
    rw [if_pos hs, hv2]
  rw [HP]
  have hbw := hr.1
  obtain ⟨B, hTB, hBw, hBb⟩ := hB
  have KV := Lib.hid fun W (hW : Bel w W) => uval_ord ts W b A c i en wr (hT.keep hW) (hr.keep hW) hi hl ⟨B, hTB, hBw.trans hW, hBb⟩ hS
  rw [hv] at KV
  have KT := Lib.hid fun W (hW : But b w W) => hTB.keep (hW.bel hBw hBb)
  have HB0 := Lib.hid (show ∀ W, But b w W → ∃ B, Toks B A ts ∧ Bel B W ∧ B.heap.size ≤ b from fun W hW => ⟨B, hTB, hW.bel hBw hBb, hBb⟩)
  have HS0 := Lib.hid hS
  clear hT hr hTB hS HP hv
  go_enter Tryz.func64, Tryz.ntmps64
  go_upto_region 2 with fail
  refine under_name (((Bel.refl w).alloc _).alloc _) fun W hcc hf hz hb => ?_
  have T1 : TFree W w.heap.size ⟨0, zv, zv, false, false⟩ := by simp [TFree, TstAt, zv, hcc, hf, hz, go_sem]
  have T2 : TFree W (w.heap.size + 1) ⟨6, zv, zv, op, false⟩ := by simp [TFree, TstAt, zv, hcc, hf, hz, go_sem]
  clear hcc hf hz
  generalize hN : w.heap.size = N at T1 T2 ⊢
  have nb : N ≠ b := by omega
  have mb : N + 1 ≠ b := by omega
  have NW := Lib.hid (show w.heap.size ≤ N from by omega)
  clear hN
  have nm : ¬ N = N + 1 := by omega
  have mn : ¬ N + 1 = N := by omega
  have x2 : ¬ b = N := fun e => nb e.symm
  have xm : ¬ b = N + 1 := fun e => mb e.symm
  have MW := Lib.hid (show w.heap.size ≤ N + 1 from by have := NW.out; omega)
  have K1 := Lib.hid T1
  have K2 := Lib.hid T2
  clear T1 T2
  go_upto_region 3 with fail
  go_upto_region 4 with (go_at_call 63; (with_reducible refine Calls.mono (KV.out _ hb) ?_); rintro ee V1 ⟨j, wr', e', hb1, hr1, hj1, hee⟩; simp only at hee; obtain ⟨hee, hdj, hw', he'⟩ := hee; subst hee hw' he'; have hq1 := Lib.hid hb1; have hq2 := Lib.hid hr1; have hqd := Lib.hid hdj; obtain ⟨tz, ⟨t0, t1, t2, t3, t4, t5, t6, t7, t8, t9, t10, t11, t12⟩, ⟨g0, g1, g2, g3, g4, g5, g6, g7, g8, g9, g10, g11, g12⟩⟩ := K2.out.but hb1 mb; simp only [zv] at t0 t1 t2 t3 t4 t5 t6 t7 t8 t9 t10 t11 t12)
  clear t0 t1 t2 t3 t4 t5 t6 t7 t8 t9 t10 t11 t12 tz g0 g1 g2 g3 g4 g5 g6 g7 g8 g9 g10 g11 g12
  have L2 := Lib.hid ((K2.out.but hq1.out mb).low lo)
  have L1 := Lib.hid ((K1.out.but hq1.out nb).far (m := N + 1) (o := 1) nm lo)
  have R2 := Lib.hid (hq2.out.stV (m := N + 1) (o := 1) xm lo)
  have B2 := Lib.hid (((But.of hb).trans hq1.out).stV (m := N + 1) (o := 1) MW.out lo)
  refine at_world (stV V1 (N + 1) 1 lo) rfl ?_
  generalize stV V1 (N + 1) 1 lo = W2 at L2 L1 R2 B2 ⊢
  have hsj : isK 5 [46, 46] (ts.drop j) = true := by rw [hqd.out]; exact hs
  have hjl : j < ts.length := (tail_at hsj).1
  have CS := Lib.hid (sign_any ts [46, 46] W2 b A c j (j + 1) en wr' 0 (KT.out W2 B2.out) R2.out hj1 hl (by rw [if_pos hsj]))
  rw [hsj, show bytesOf [46, 46] = (⟨#[46, 46]⟩ : ByteArray) from rfl] at CS
  have hdj2 : ts.drop (j + 1) = r2.tail := by rw [← hqd.out, List.tail_drop]
  go_upto_region 8 with (go_at_call 40; (with_reducible refine Calls.mono CS.out ?_); rintro ee V3 ⟨rfl, hb3, hr3⟩; have hq3 := Lib.hid hb3; have hq4 := Lib.hid hr3)
  have L4 := Lib.hid (L2.out.but hq3.out mb)
  have L3 := Lib.hid (L1.out.but hq3.out nb)
  have B4 := Lib.hid (B2.out.trans hq3.out)
  have CV := uval_same lo.kind (N + 1) ts V3 b A c (j + 1) en wr' (by have h9 := L4.out.2.1.2.1; exact h9) L4.out.1 mb (KT.out V3 B4.out) hq4.out hjl hl (HB0.out V3 B4.out) HS0.out
  rw [hdj2, hv2] at CV
  have CV := Lib.hid CV
  clear CS hdj2 hsj
  go_wp2_with (go_at_call 63; (with_reducible refine Calls.mono CV.out ?_); rintro ee V5 ⟨j5, wr5, e5, hb5, hr5, hj5, hee⟩; simp only at hee; obtain ⟨hee, hw5, he5⟩ := hee; subst hee; have hq5 := Lib.hid hb5; have hq6 := Lib.hid hr5; have hq7 := Lib.hid (And.intro hw5 he5); obtain ⟨sz, ⟨s0, s1, s2, s3, s4, s5, s6, s7, s8, s9, s10, s11, s12⟩, ⟨f0, f1, f2, f3, f4, f5, f6, f7, f8, f9, f10, f11, f12⟩⟩ := L3.out.but hb5 nb; obtain ⟨tz, ⟨t0, t1, t2, t3, t4, t5, t6, t7, t8, t9, t10, t11, t12⟩, ⟨g0, g1, g2, g3, g4, g5, g6, g7, g8, g9, g10, g11, g12⟩⟩ := L4.out.but hb5 mb; simp only [zv] at s0 s1 s2 s3 s4 s5 s6 s7 s8 s9 s10 s11 s12 t0 t1 t2 t3 t4 t5 t6 t7 t8 t9 t10 t11 t12)
  refine bodyPost_ret (v := .tuple #[(⟨6, lo, zv, op, false⟩ : Tst).val, .bool false]) (by simp [results, Tryz.results64, go_sem, zv, nm, mn, sz, tz, s0, s1, s2, s3, s4, s5, s6, s7, s8, s9, s10, s11, s12, t0, t1, t2, t3, t4, t5, t6, t7, t8, t9, t10, t11, t12]) rfl ⟨j5, wr5, e5, ?_, ?_, hj5, ⟨_, rfl⟩, hq7.out.1, hq7.out.2⟩
  · repeat (first | with_reducible exact B4.out.trans hq5.out | refine But.new ?_ NW.out _ | refine But.new ?_ MW.out _)
  · repeat (first | with_reducible exact hq6.out | refine Rdc.far ?_ x2 _ | refine Rdc.far ?_ xm _)
end Go.Proofs.YtdggbafpdjenmaaGreatDoor
namespace Go.Proofs.YtdggbafpdjenmaaGreatDoor
set_option linter.unusedSimpArgs false
set_option linter.unusedVariables false
open Go.RowKit
/-! An interval that ends with ]. -/
set_option maxRecDepth 100000 in
set_option maxHeartbeats 8000000 in
theorem uint_closed (op : Bool) (ts : List Tok) (w : World) (b : Nat) (A : Option Addr) (c i : Nat) (en wr : Int) (hT : Toks w A ts) (hr : Rdc w b A ts.length c i en wr 0) (hi : i ≤ ts.length) (hl : ts.length ≤ 65536) (hB : ∃ B, Toks B A ts ∧ Bel B w ∧ B.heap.size ≤ b) (hS : ∀ t ∈ ts, ksnd t = true) (lo hi2 : Val) (r2 r3 : List Tok) (hv : valP ordk (ts.drop i) = .ok lo r2) (hs : isS [46, 46] r2 = true) (hv2 : valP (fun k => decide (k = lo.kind)) r2.tail = .ok hi2 r3) (hs3 : isS [93] r3 = true) :
    Calls Tryz.prog 64 #[.pointer (some ⟨b, 0, none⟩), .bool op] w (TstOut ts b A c en wr (intP op (ts.drop i)) w) := by
  have HP : intP op (ts.drop i) = .ok ⟨6, lo, hi2, op, false⟩ r3.tail := by
    unfold intP
    rw [hv]
    simp only
    rw [if_pos hs, hv2]
    simp only
    rw [if_pos hs3]
  rw [HP]
  have hbw := hr.1
  obtain ⟨B, hTB, hBw, hBb⟩ := hB
  have KV := Lib.hid fun W (hW : Bel w W) => uval_ord ts W b A c i en wr (hT.keep hW) (hr.keep hW) hi hl ⟨B, hTB, hBw.trans hW, hBb⟩ hS
  rw [hv] at KV
  have KT := Lib.hid fun W (hW : But b w W) => hTB.keep (hW.bel hBw hBb)
  have HB0 := Lib.hid (show ∀ W, But b w W → ∃ B, Toks B A ts ∧ Bel B W ∧ B.heap.size ≤ b from fun W hW => ⟨B, hTB, hW.bel hBw hBb, hBb⟩)
  have HS0 := Lib.hid hS
  clear hT hr hTB hS HP hv
  go_enter Tryz.func64, Tryz.ntmps64
  go_upto_region 2 with fail
  refine under_name (((Bel.refl w).alloc _).alloc _) fun W hcc hf hz hb => ?_
  have T1 : TFree W w.heap.size ⟨0, zv, zv, false, false⟩ := by simp [TFree, TstAt, zv, hcc, hf, hz, go_sem]
  have T2 : TFree W (w.heap.size + 1) ⟨6, zv, zv, op, false⟩ := by simp [TFree, TstAt, zv, hcc, hf, hz, go_sem]
  clear hcc hf hz
  generalize hN : w.heap.size = N at T1 T2 ⊢
  have nb : N ≠ b := by omega
  have mb : N + 1 ≠ b := by omega
  have NW := Lib.hid (show w.heap.size ≤ N from by omega)
  clear hN
  have nm : ¬ N = N + 1 := by omega
  have mn : ¬ N + 1 = N := by omega
  have x2 : ¬ b = N := fun e => nb e.symm
  have xm : ¬ b = N + 1 := fun e => mb e.symm
  have MW := Lib.hid (show w.heap.size ≤ N + 1 from by have := NW.out; omega)
  have K1 := Lib.hid T1
  have K2 := Lib.hid T2
  clear T1 T2
  go_upto_region 3 with fail
  go_upto_region 4 with (go_at_call 63; (with_reducible refine Calls.mono (KV.out _ hb) ?_); rintro ee V1 ⟨j, wr', e', hb1, hr1, hj1, hee⟩; simp only at hee; obtain ⟨hee, hdj, hw', he'⟩ := hee; subst hee hw' he'; have hq1 := Lib.hid hb1; have hq2 := Lib.hid hr1; have hqd := Lib.hid hdj; obtain ⟨tz, ⟨t0, t1, t2, t3, t4, t5, t6, t7, t8, t9, t10, t11, t12⟩, ⟨g0, g1, g2, g3, g4, g5, g6, g7, g8, g9, g10, g11, g12⟩⟩ := K2.out.but hb1 mb; simp only [zv] at t0 t1 t2 t3 t4 t5 t6 t7 t8 t9 t10 t11 t12)
  clear t0 t1 t2 t3 t4 t5 t6 t7 t8 t9 t10 t11 t12 tz g0 g1 g2 g3 g4 g5 g6 g7 g8 g9 g10 g11 g12
  have L2 := Lib.hid ((K2.out.but hq1.out mb).low lo)
  have L1 := Lib.hid ((K1.out.but hq1.out nb).far (m := N + 1) (o := 1) nm lo)
  have R2 := Lib.hid (hq2.out.stV (m := N + 1) (o := 1) xm lo)
  have B2 := Lib.hid (((But.of hb).trans hq1.out).stV (m := N + 1) (o := 1) MW.out lo)
  refine at_world (stV V1 (N + 1) 1 lo) rfl ?_
  generalize stV V1 (N + 1) 1 lo = W2 at L2 L1 R2 B2 ⊢
  have hsj : isK 5 [46, 46] (ts.drop j) = true := by rw [hqd.out]; exact hs
  have hjl : j < ts.length := (tail_at hsj).1
  have CS := Lib.hid (sign_any ts [46, 46] W2 b A c j (j + 1) en wr' 0 (KT.out W2 B2.out) R2.out hj1 hl (by rw [if_pos hsj]))
  rw [hsj, show bytesOf [46, 46] = (⟨#[46, 46]⟩ : ByteArray) from rfl] at CS
  have hdj2 : ts.drop (j + 1) = r2.tail := by rw [← hqd.out, List.tail_drop]
  go_upto_region 8 with (go_at_call 40; (with_reducible refine Calls.mono CS.out ?_); rintro ee V3 ⟨rfl, hb3, hr3⟩; have hq3 := Lib.hid hb3; have hq4 := Lib.hid hr3)
  have L4 := Lib.hid (L2.out.but hq3.out mb)
  have L3 := Lib.hid (L1.out.but hq3.out nb)
  have B4 := Lib.hid (B2.out.trans hq3.out)
  have CV := uval_same lo.kind (N + 1) ts V3 b A c (j + 1) en wr' (by have h9 := L4.out.2.1.2.1; exact h9) L4.out.1 mb (KT.out V3 B4.out) hq4.out hjl hl (HB0.out V3 B4.out) HS0.out
  rw [hdj2, hv2] at CV
  have CV := Lib.hid CV
  clear CS hdj2 hsj
  go_upto_region 9 with (go_at_call 63; (with_reducible refine Calls.mono CV.out ?_); rintro ee V5 ⟨j5, wr5, e5, hb5, hr5, hj5, hee⟩; simp only at hee; obtain ⟨hee, hd5, hw5, he5⟩ := hee; subst hee hw5 he5; have hq5 := Lib.hid hb5; have hq6 := Lib.hid hr5; have hq8 := Lib.hid hd5; obtain ⟨tz, ⟨t0, t1, t2, t3, t4, t5, t6, t7, t8, t9, t10, t11, t12⟩, ⟨g0, g1, g2, g3, g4, g5, g6, g7, g8, g9, g10, g11, g12⟩⟩ := L4.out.but hb5 mb; simp only [zv] at t0 t1 t2 t3 t4 t5 t6 t7 t8 t9 t10 t11 t12)
  clear t0 t1 t2 t3 t4 t5 t6 t7 t8 t9 t10 t11 t12 tz g0 g1 g2 g3 g4 g5 g6 g7 g8 g9 g10 g11 g12
  have L6 := Lib.hid ((L4.out.but hq5.out mb).high hi2)
  have L5 := Lib.hid ((L3.out.but hq5.out nb).far (m := N + 1) (o := 6) nm hi2)
  have R6 := Lib.hid (hq6.out.stV (m := N + 1) (o := 6) xm hi2)
  have B6 := Lib.hid ((B4.out.trans hq5.out).stV (m := N + 1) (o := 6) MW.out hi2)
  refine at_world (stV V5 (N + 1) 6 hi2) rfl ?_
  generalize stV V5 (N + 1) 6 hi2 = W6 at L6 L5 R6 B6 ⊢
  have hsj3 : isK 5 [93] (ts.drop j5) = true := by rw [hq8.out]; exact hs3
  have hjl3 : j5 < ts.length := (tail_at hsj3).1
  have CS := Lib.hid (sign_any ts [93] W6 b A c j5 (j5 + 1) en wr5 0 (KT.out W6 B6.out) R6.out hj5 hl (by rw [if_pos hsj3]))
  rw [hsj3, show bytesOf [93] = (⟨#[93]⟩ : ByteArray) from rfl] at CS
  have hd6 := Lib.hid (show ts.drop (j5 + 1) = r3.tail from by rw [← hq8.out, List.tail_drop])
  clear hsj3
  go_wp2_with (go_at_call 40; (with_reducible refine Calls.mono CS.out ?_); rintro ee V7 ⟨rfl, hb7, hr7⟩; have hq9 := Lib.hid hb7; have hq10 := Lib.hid hr7; obtain ⟨sz, ⟨s0, s1, s2, s3, s4, s5, s6, s7, s8, s9, s10, s11, s12⟩, ⟨f0, f1, f2, f3, f4, f5, f6, f7, f8, f9, f10, f11, f12⟩⟩ := L5.out.but hb7 nb; obtain ⟨tz, ⟨t0, t1, t2, t3, t4, t5, t6, t7, t8, t9, t10, t11, t12⟩, ⟨g0, g1, g2, g3, g4, g5, g6, g7, g8, g9, g10, g11, g12⟩⟩ := L6.out.but hb7 mb; simp only [zv] at s0 s1 s2 s3 s4 s5 s6 s7 s8 s9 s10 s11 s12 t0 t1 t2 t3 t4 t5 t6 t7 t8 t9 t10 t11 t12)
  refine bodyPost_ret (v := .tuple #[(⟨6, lo, hi2, op, false⟩ : Tst).val, .bool true]) (by simp [results, Tryz.results64, go_sem, zv, nm, mn, sz, tz, s0, s1, s2, s3, s4, s5, s6, s7, s8, s9, s10, s11, s12, t0, t1, t2, t3, t4, t5, t6, t7, t8, t9, t10, t11, t12]) rfl ⟨j5 + 1, wr5, 0, ?_, ?_, by omega, rfl, hd6.out, rfl, rfl⟩
  · repeat (first | with_reducible exact B6.out.trans hq9.out | refine But.new ?_ NW.out _ | refine But.new ?_ MW.out _)
  · repeat (first | with_reducible exact hq10.out | refine Rdc.far ?_ x2 _ | refine Rdc.far ?_ xm _)
end Go.Proofs.YtdggbafpdjenmaaGreatDoor
