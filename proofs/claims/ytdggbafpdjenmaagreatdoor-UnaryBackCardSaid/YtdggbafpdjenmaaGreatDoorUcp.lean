import Derived.Test.YtdggbafpdjenmaaGreatDoorUco
namespace Go.Proofs.YtdggbafpdjenmaaGreatDoor
set_option linter.unusedSimpArgs false
set_option linter.unusedVariables false
open Go.RowKit
/-! An interval: no two points. -/
set_option maxRecDepth 100000 in
set_option maxHeartbeats 8000000 in
theorem uint_nodots (op : Bool) (ts : List Tok) (w : World) (b : Nat) (A : Option Addr) (c i : Nat) (en wr : Int) (hT : Toks w A ts) (hr : Rdc w b A ts.length c i en wr 0) (hi : i ≤ ts.length) (hl : ts.length ≤ 65536) (hB : ∃ B, Toks B A ts ∧ Bel B w ∧ B.heap.size ≤ b) (hS : ∀ t ∈ ts, ksnd t = true) (lo : Val) (r2 : List Tok) (hv : valP ordk (ts.drop i) = .ok lo r2) (hs : isS [46, 46] r2 = false) :
    Calls Tryz.prog 64 #[.pointer (some ⟨b, 0, none⟩), .bool op] w (TstOut ts b A c en wr (intP op (ts.drop i)) w) := by
  have HP : intP op (ts.drop i) = .bad r2 5 := by
    unfold intP
    rw [hv]
    simp only
    rw [if_neg (by rw [hs]; decide)]
  rw [HP]
  have hbw := hr.1
  obtain ⟨B, hTB, hBw, hBb⟩ := hB
  have KV := Lib.hid fun W (hW : Bel w W) => uval_ord ts W b A c i en wr (hT.keep hW) (hr.keep hW) hi hl ⟨B, hTB, hBw.trans hW, hBb⟩ hS
  rw [hv] at KV
  have KT := Lib.hid fun W (hW : But b w W) => hTB.keep (hW.bel hBw hBb)
  have HB0 := Lib.hid (show ∀ W, But b w W → ∃ B, Toks B A ts ∧ Bel B W ∧ B.heap.size ≤ b from fun W hW => ⟨B, hTB, hW.bel hBw hBb, hBb⟩)
  have HS0 := Lib.hid hS
  clear hT hr hTB hS HP hv
  go_enter Tryz.func64, Tryz.ntmps64
  go_upto_region 2 with fail
  refine under_name (((Bel.refl w).alloc _).alloc _) fun W hcc hf hz hb => ?_
  have T1 : TFree W w.heap.size ⟨0, zv, zv, false, false⟩ := by simp [TFree, TstAt, zv, hcc, hf, hz, go_sem]
  have T2 : TFree W (w.heap.size + 1) ⟨6, zv, zv, op, false⟩ := by simp [TFree, TstAt, zv, hcc, hf, hz, go_sem]
  clear hcc hf hz
  generalize hN : w.heap.size = N at T1 T2 ⊢
  have nb : N ≠ b := by omega
  have mb : N + 1 ≠ b := by omega
  have NW := Lib.hid (show w.heap.size ≤ N from by omega)
  clear hN
  have nm : ¬ N = N + 1 := by omega
  have mn : ¬ N + 1 = N := by omega
  have x2 : ¬ b = N := fun e => nb e.symm
  have xm : ¬ b = N + 1 := fun e => mb e.symm
  have MW := Lib.hid (show w.heap.size ≤ N + 1 from by have := NW.out; omega)
  have K1 := Lib.hid T1
  have K2 := Lib.hid T2
  clear T1 T2
  go_upto_region 3 with fail
  go_upto_region 4 with (go_at_call 63; (with_reducible refine Calls.mono (KV.out _ hb) ?_); rintro ee V1 ⟨j, wr', e', hb1, hr1, hj1, hee⟩; simp only at hee; obtain ⟨hee, hdj, hw', he'⟩ := hee; subst hee hw' he'; have hq1 := Lib.hid hb1; have hq2 := Lib.hid hr1; have hqd := Lib.hid hdj; obtain ⟨tz, ⟨t0, t1, t2, t3, t4, t5, t6, t7, t8, t9, t10, t11, t12⟩, ⟨g0, g1, g2, g3, g4, g5, g6, g7, g8, g9, g10, g11, g12⟩⟩ := K2.out.but hb1 mb; simp only [zv] at t0 t1 t2 t3 t4 t5 t6 t7 t8 t9 t10 t11 t12)
  clear t0 t1 t2 t3 t4 t5 t6 t7 t8 t9 t10 t11 t12 tz g0 g1 g2 g3 g4 g5 g6 g7 g8 g9 g10 g11 g12
  have L2 := Lib.hid ((K2.out.but hq1.out mb).low lo)
  have L1 := Lib.hid ((K1.out.but hq1.out nb).far (m := N + 1) (o := 1) nm lo)
  have R2 := Lib.hid (hq2.out.stV (m := N + 1) (o := 1) xm lo)
  have B2 := Lib.hid (((But.of hb).trans hq1.out).stV (m := N + 1) (o := 1) MW.out lo)
  refine at_world (stV V1 (N + 1) 1 lo) rfl ?_
  generalize stV V1 (N + 1) 1 lo = W2 at L2 L1 R2 B2 ⊢
  have hsj : isK 5 [46, 46] (ts.drop j) = false := by rw [hqd.out]; exact hs
  have CS := Lib.hid (sign_any ts [46, 46] W2 b A c j j en wr' 0 (KT.out W2 B2.out) R2.out hj1 hl (by rw [if_neg (by rw [hsj]; decide)]))
  rw [hsj, show bytesOf [46, 46] = (⟨#[46, 46]⟩ : ByteArray) from rfl] at CS
  go_upto_region 7 with (go_at_call 40; (with_reducible refine Calls.mono CS.out ?_); rintro ee V3 ⟨rfl, hb3, hr3⟩; have hq3 := Lib.hid hb3; have hq4 := Lib.hid hr3)
  have L4 := Lib.hid (L2.out.but hq3.out mb)
  have L3 := Lib.hid (L1.out.but hq3.out nb)
  have B4 := Lib.hid (B2.out.trans hq3.out)
  have hpl : Hid (plcT en (ts.drop j) = plcT en r2) := Lib.hid (by rw [hqd.out])
  have CF := Lib.hid fun W (hW : Bel V3 W) => fail_any ts W b A c j en wr' 0 5 (plcT en r2) 5 (KT.out W (B4.out.trans (But.of hW))) (hq4.out.keep hW) hj1 hl (by rw [if_pos rfl]; exact hpl.out.symm) (by rw [if_pos rfl])
  clear CS hsj
  obtain ⟨tz, ⟨t0, t1, t2, t3, t4, t5, t6, t7, t8, t9, t10, t11, t12⟩, tg⟩ := L4.out
  simp only [zv] at t0 t1 t2 t3 t4 t5 t6 t7 t8 t9 t10 t11 t12
  go_region_with (go_at_call 41; (with_reducible refine Calls.mono (CF.out _ (by first | exact Bel.refl _ | exact (Bel.refl _).drew | exact ((Bel.refl _).drew).drew | exact bel_drewN _ _)) ?_); rintro ee V5 ⟨rfl, hb5, hr5⟩; have hX : But b V3 V5 := (by first | exact hb5 | exact (But.of (Bel.refl _).drew).trans hb5 | exact (But.of ((Bel.refl _).drew).drew).trans hb5 | exact (But.of (bel_drewN _ _)).trans hb5); have hq5 := Lib.hid hX; have hq6 := Lib.hid hr5; clear t0 t1 t2 t3 t4 t5 t6 t7 t8 t9 t10 t11 t12; obtain ⟨sz, ⟨s0, s1, s2, s3, s4, s5, s6, s7, s8, s9, s10, s11, s12⟩, ⟨f0, f1, f2, f3, f4, f5, f6, f7, f8, f9, f10, f11, f12⟩⟩ := L3.out.but hX nb; obtain ⟨tz, ⟨t0, t1, t2, t3, t4, t5, t6, t7, t8, t9, t10, t11, t12⟩, ⟨g0, g1, g2, g3, g4, g5, g6, g7, g8, g9, g10, g11, g12⟩⟩ := L4.out.but hX mb; simp only [zv] at s0 s1 s2 s3 s4 s5 s6 s7 s8 s9 s10 s11 s12 t0 t1 t2 t3 t4 t5 t6 t7 t8 t9 t10 t11 t12)
  all_goals (go_wp2_with fail)
  all_goals (refine bodyPost_ret (v := .tuple #[(⟨6, lo, zv, op, false⟩ : Tst).val, .bool false]) (by simp [results, Tryz.results64, go_sem, zv, nm, mn, sz, tz, s0, s1, s2, s3, s4, s5, s6, s7, s8, s9, s10, s11, s12, t0, t1, t2, t3, t4, t5, t6, t7, t8, t9, t10, t11, t12]) rfl ⟨j, plcT en r2, 5, ?_, ?_, hj1, ⟨_, rfl⟩, rfl, rfl⟩)
  all_goals try (repeat (first | with_reducible exact B4.out.trans hq5.out | with_reducible exact hq6.out | refine But.new ?_ NW.out _ | refine But.new ?_ MW.out _ | refine Rdc.far ?_ x2 _ | refine Rdc.far ?_ xm _))
end Go.Proofs.YtdggbafpdjenmaaGreatDoor
