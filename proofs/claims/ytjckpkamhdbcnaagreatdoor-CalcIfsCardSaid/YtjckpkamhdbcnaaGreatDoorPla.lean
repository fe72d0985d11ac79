import Derived.Test.YtjckpkamhdbcnaaGreatDoorPci
namespace Go.Proofs.YtjckpkamhdbcnaaGreatDoor
set_option linter.unusedSimpArgs false
set_option linter.unusedVariables false
open Go.RowKit
attribute [local go_sem ↓] eql_val neq_val
/-! Of three values the second one, if the first one is true. -/
def litI : ByteArray := ⟨#[105, 102, 32, 97, 32, 116, 104, 101, 110, 32, 98, 32, 101, 108, 115, 101, 32, 99]⟩
def exI : Ex := .mk 17 zv [] [.mk 2 zv [97] [], .mk 2 zv [98] [], .mk 2 zv [99] []]
def lsI (a b c : Val) : List Bnd := [⟨⟨#[97]⟩, a⟩, ⟨⟨#[98]⟩, b⟩, ⟨⟨#[99]⟩, c⟩]
theorem par_I : parE litI = (exI, 0, 0) := by kernel_rfl
theorem ev_I (a b c : Val) : evX (lsI a b c) exI = if veq a (tval true) = true then b else c := by kernel_rfl
theorem bds_I (a b c : Val) : bdsX (lsI a b c) exI = true := by kernel_rfl
theorem all_I (a b c : Val) : (lsI a b c).all (fun b => vsnd b.v) = (vsnd a && (vsnd b && vsnd c)) := by simp [lsI]
theorem evV_I (a b c : Val) : evV (lsI a b c) exI = if (vsnd a && (vsnd b && vsnd c)) = true then (if veq a (tval true) = true then b else c, 0) else (zero, 2) := by
 unfold evV
 rw [all_I, bds_I, ev_I, (parE_ok par_I).2.1]
 simp only [true_and, if_true]
set_option maxRecDepth 100000 in
set_option maxHeartbeats 8000000 in
theorem law_Ifs (a b c : Val) (ha : a.text.size ≤ 9223372036854775807) (hb : b.text.size ≤ 9223372036854775807) (hc : c.text.size ≤ 9223372036854775807) (w : World) (hm : Mx w) :
  Calls Tryz.prog 8 #[a.val, b.val, c.val] w fun e w' => e = .returned (.bool true) ∧ Bel w w' := by
 have CP := Lib.hid (fun (w : World) hm => show Calls Tryz.prog 14 #[.string ⟨#[105, 102, 32, 97, 32, 116, 104, 101, 110, 32, 98, 32, 101, 108, 115, 101, 32, 99]⟩] w fun e w' => ∃ A c, e = .returned (.tuple #[.agg #[.int .i64 17, .int .i64 0, .int .i64 0, .int .i64 0, .string ⟨#[]⟩, .int .i64 0, .string ⟨#[]⟩, .slice A 3 c], .int .i64 0, .int .i64 0]) ∧ Lie (fun _ => True) w' A exI.ks ∧ Bel w w' from eparse_is par_I (by decide) w hm)
 have CE := fun (W : World) A cc B hL hB => calcEval_any (lsI a b c) (show (3 : Nat) ≤ 9223372036854775807 by decide) (fun x hx => by
  rcases List.mem_cons.1 hx with rfl | hx
  ·exact ha
  ·rcases List.mem_cons.1 hx with rfl | hx
   ·exact hb
   ·rw [List.mem_singleton.1 hx]; exact hc) exI A cc (some ⟨B, 0, none⟩) 3 W (par_sm par_I) hL hB
 rw [evV_I] at CE
 have SA := Lib.hid (fun w => rvsound_any a ha w)
 have SB := Lib.hid (fun w => rvsound_any b hb w)
 have SC := Lib.hid (fun w => rvsound_any c hc w)
 have HM := Lib.hid hm
 obtain ⟨qa, hqa⟩ : ∃ q, q = vsnd a := ⟨_, rfl⟩
 obtain ⟨qb, hqb⟩ : ∃ q, q = vsnd b := ⟨_, rfl⟩
 obtain ⟨qc, hqc⟩ : ∃ q, q = vsnd c := ⟨_, rfl⟩
 rw [← hqa] at SA
 rw [← hqb] at SB
 rw [← hqc] at SC
 rw [← hqa, ← hqb, ← hqc] at CE
 obtain ⟨qt, hqt⟩ : ∃ q, q = veq a (tval true) := ⟨_, rfl⟩
 rw [← hqt] at CE
 have HQT := Lib.hid hqt
 obtain ⟨z, hz0⟩ : ∃ z : Val × Int, z = if (qa && (qb && qc)) = true then (if qt = true then b else c, 0) else (zero, 2) := ⟨_, rfl⟩
 rw [← hz0] at CE
 have HZ := Lib.hid hz0
 obtain ⟨⟨zk, zn, zs, zt, zm⟩, ze⟩ := z
 clear ha hb hc hm hqa hqb hqc hqt hz0
 obtain ⟨k, n, s, t, m⟩ := a
 obtain ⟨k', n', s', t', m'⟩ := b
 obtain ⟨k2, n2, s2, t2, m2⟩ := c
 have CE := Lib.hid (show ∀ (W : World) A cc B, Lie (fun _ => True) W A exI.ks → Bnds W (some ⟨B, 0, none⟩) (lsI ⟨k, n, s, t, m⟩ ⟨k', n', s', t', m'⟩ ⟨k2, n2, s2, t2, m2⟩) → Calls Tryz.prog 12 #[.agg #[.int .i64 17, .int .i64 0, .int .i64 0, .int .i64 0, .string ⟨#[]⟩, .int .i64 0, .string ⟨#[]⟩, .slice A 3 cc], .slice (some ⟨B, 0, none⟩) 3 3] W fun e w' => e = .returned (.tuple #[.agg #[.int .i64 zk, .int .i64 zn, .int .i64 zs, .string zt, .int .i64 zm], .int .i64 ze]) ∧ Bel W w' from CE)
 go_enter Tryz.func8, Tryz.ntmps8
 go_upto_region 2 with fail
 refine under_name (w0 := w) (by (with_reducible repeat first | exact Bel.refl _ | refine Bel.setCell ?_ (by first | exact Nat.le_refl _ | (dsimp only; omega)) _ | refine Bel.alloc ?_ _ | refine Bel.drew ?_ | assumption | refine Bel.trans ?_ (by assumption))) fun W hcc hf hz hb0 => ?_
 have A0 : ValAt W w.heap.size 0 ⟨k, n, s, t, m⟩ := by simp [ValAt, hcc, hf, hz, go_sem]
 have B0 : ValAt W (w.heap.size + 1) 0 ⟨k', n', s', t', m'⟩ := by simp [ValAt, hcc, hf, hz, go_sem]
 have C0 : ValAt W (w.heap.size + 1 + 1) 0 ⟨k2, n2, s2, t2, m2⟩ := by simp [ValAt, hcc, hf, hz, go_sem]
 have hzz : W.heap.size = w.heap.size + 4 := by rw [hz]; simp
 have BL : Bnds W (some ⟨w.heap.size + 1 + 1 + 1, 0, none⟩) (lsI ⟨k, n, s, t, m⟩ ⟨k', n', s', t', m'⟩ ⟨k2, n2, s2, t2, m2⟩) := fun _ => by
  refine ⟨_, 0, rfl, by omega, fun i x hx => ?_⟩
  unfold lsI at hx
  match i, hx with
  | 0, hx =>
   simp only [List.getElem?_cons_zero, Option.some.injEq] at hx
   subst hx
   simp [BndAt, hcc, hf, hz, go_sem]
  | 1, hx =>
   simp only [List.getElem?_cons_succ, List.getElem?_cons_zero, Option.some.injEq] at hx
   subst hx
   simp [BndAt, hcc, hf, hz, go_sem]
  | 2, hx =>
   simp only [List.getElem?_cons_succ, List.getElem?_cons_zero, Option.some.injEq] at hx
   subst hx
   simp [BndAt, hcc, hf, hz, go_sem]
 clear hcc hf hz
 have HB := Lib.hid hb0
 have HBL := Lib.hid BL
 have KA := Lib.hid A0
 have KB := Lib.hid B0
 have KC := Lib.hid C0
 have G0 := Lib.hid (show w.heap.size < W.heap.size by omega)
 have G1 := Lib.hid (show w.heap.size + 1 < W.heap.size by omega)
 have G2 := Lib.hid (show w.heap.size + 1 + 1 < W.heap.size by omega)
 clear hb0 BL A0 B0 C0 hzz
 go_upto_region 3 with (go_at_call 14; (with_reducible refine Calls.mono (CP.out _ (HM.out.keep HB.out)) ?_); rintro e V1 ⟨A, cc, rfl, hT, hb1⟩; have hT := Lib.hid hT; have hb1 := Lib.hid hb1)
 refine under_name (w0 := V1) (by (with_reducible repeat first | exact Bel.refl _ | refine Bel.setCell ?_ (by first | exact Nat.le_refl _ | (dsimp only; omega)) _ | refine Bel.alloc ?_ _ | refine Bel.drew ?_ | assumption | refine Bel.trans ?_ (by assumption))) fun W1 hcc hf hz hb2 => ?_
 have T : XFree W1 V1.heap.size 17 ⟨0, 0, 0, ⟨#[]⟩, 0⟩ ⟨#[]⟩ A 3 cc := by simp [XFree, ExAt, hcc, hf, hz, go_sem]
 clear hcc hf hz
 have HB1 := Lib.hid (hb1.out.trans hb2)
 have hT2 := Lib.hid (hT.out.keep hb2)
 clear hb2 hb1 hT
 generalize V1.heap.size = Y at T
 obtain ⟨tz, ⟨t0, t1, t2', t3, t4, t5, t6, t7⟩, -⟩ := T
 simp only [Nat.zero_add] at t0 t1 t2' t3 t4 t5 t6 t7
 go_upto_region 4 with (go_at_call 12; (with_reducible refine Calls.mono (CE.out _ _ _ _ hT2.out (HBL.out.keep HB1.out)) ?_); rintro e V2 ⟨rfl, hb3⟩; have hb3 := Lib.hid hb3; clear tz t0 t1 t2' t3 t4 t5 t6 t7)
 refine under_name (w0 := V2) (by (with_reducible repeat first | exact Bel.refl _ | refine Bel.setCell ?_ (by first | exact Nat.le_refl _ | (dsimp only; omega)) _ | refine Bel.alloc ?_ _ | refine Bel.drew ?_ | assumption | refine Bel.trans ?_ (by assumption))) fun W2 hcc hf hz hb4 => ?_
 have R0 : ValAt W2 V2.heap.size 0 ⟨zk, zn, zs, zt, zm⟩ := by simp [ValAt, hcc, hf, hz, go_sem]
 have g4 : V2.heap.size < W2.heap.size := by rw [hz]; simp
 clear hcc hf hz
 have HB2 := Lib.hid ((HB1.out.trans hb3.out).trans hb4)
 clear hb3 hb4 HB1 hT2 HBL CP CE
 generalize V2.heap.size = Z at R0 g4
 have KR := Lib.hid R0
 have G4 := Lib.hid g4
 clear R0 g4
 have HX0 := Lib.hid (Bel.refl W2)
 have ka := KA.out.keep (HB2.out.trans HX0.out) G0.out
 have kb := KB.out.keep (HB2.out.trans HX0.out) G1.out
 have kc := KC.out.keep (HB2.out.trans HX0.out) G2.out
 have kr := KR.out.keep HX0.out G4.out
 simp only [ValAt, Nat.zero_add] at ka kb kc kr
 cases qa with
 | false =>
  have hz := HZ.out
  simp only [Bool.false_and, Bool.and_false, Bool.true_and, Bool.and_true, Bool.false_eq_true, if_false] at hz
  obtain ⟨hz1, rfl⟩ := Prod.mk.inj hz
  cases hz1
  have z1 : veq ⟨0, 0, 0, ⟨#[]⟩, 0⟩ ⟨0, 0, 0, ⟨#[]⟩, 0⟩ = true := veq_self _
  clear hz
  have J0 : Hid (0 = 0) := Lib.hid rfl
  go_wp2_with (first
   | (have _t := J0.out; clear _t J0; have J1 : Hid (1 = 1) := Lib.hid rfl; go_at_call 11; (with_reducible refine Calls.mono (awake_T _ (HM.out.keep ((HB.out.trans HB2.out).trans HX0.out))) ?_); rintro e V11 ⟨rfl, hb1⟩; clear ka kb kc kr; have HX1 := Lib.hid (HX0.out.trans hb1); have ka := KA.out.keep (HB2.out.trans HX1.out) G0.out; have kb := KB.out.keep (HB2.out.trans HX1.out) G1.out; have kc := KC.out.keep (HB2.out.trans HX1.out) G2.out; have kr := KR.out.keep HX1.out G4.out; simp only [ValAt, Nat.zero_add] at ka kb kc kr; clear hb1)
   | (have _t := J1.out; clear _t J1; have J2 : Hid (2 = 2) := Lib.hid rfl; go_at_call 20; (with_reducible refine Calls.mono (SA.out _) ?_); rintro e V12 ⟨rfl, hb2⟩; clear ka kb kc kr; have HX2 := Lib.hid (HX1.out.trans hb2); have ka := KA.out.keep (HB2.out.trans HX2.out) G0.out; have kb := KB.out.keep (HB2.out.trans HX2.out) G1.out; have kc := KC.out.keep (HB2.out.trans HX2.out) G2.out; have kr := KR.out.keep HX2.out G4.out; simp only [ValAt, Nat.zero_add] at ka kb kc kr; clear hb2))
  go_ret
  exact ⟨rfl, (by have h0 := HB.out; have h1 := HB2.out; have h2 := HX2.out; (with_reducible repeat first | exact Bel.refl _ | refine Bel.setCell ?_ (by first | exact Nat.le_refl _ | (dsimp only; omega)) _ | refine Bel.alloc ?_ _ | refine Bel.drew ?_ | assumption | refine Bel.trans ?_ (by assumption)))⟩
 | true =>
 cases qb with
 | false =>
  have hz := HZ.out
  simp only [Bool.false_and, Bool.and_false, Bool.true_and, Bool.and_true, Bool.false_eq_true, if_false] at hz
  obtain ⟨hz1, rfl⟩ := Prod.mk.inj hz
  cases hz1
  have z1 : veq ⟨0, 0, 0, ⟨#[]⟩, 0⟩ ⟨0, 0, 0, ⟨#[]⟩, 0⟩ = true := veq_self _
  clear hz
  have J0 : Hid (0 = 0) := Lib.hid rfl
  go_wp2_with (first
   | (have _t := J0.out; clear _t J0; have J1 : Hid (1 = 1) := Lib.hid rfl; go_at_call 11; (with_reducible refine Calls.mono (awake_T _ (HM.out.keep ((HB.out.trans HB2.out).trans HX0.out))) ?_); rintro e V11 ⟨rfl, hb1⟩; clear ka kb kc kr; have HX1 := Lib.hid (HX0.out.trans hb1); have ka := KA.out.keep (HB2.out.trans HX1.out) G0.out; have kb := KB.out.keep (HB2.out.trans HX1.out) G1.out; have kc := KC.out.keep (HB2.out.trans HX1.out) G2.out; have kr := KR.out.keep HX1.out G4.out; simp only [ValAt, Nat.zero_add] at ka kb kc kr; clear hb1)
   | (have _t := J1.out; clear _t J1; have J2 : Hid (2 = 2) := Lib.hid rfl; go_at_call 20; (with_reducible refine Calls.mono (SA.out _) ?_); rintro e V12 ⟨rfl, hb2⟩; clear ka kb kc kr; have HX2 := Lib.hid (HX1.out.trans hb2); have ka := KA.out.keep (HB2.out.trans HX2.out) G0.out; have kb := KB.out.keep (HB2.out.trans HX2.out) G1.out; have kc := KC.out.keep (HB2.out.trans HX2.out) G2.out; have kr := KR.out.keep HX2.out G4.out; simp only [ValAt, Nat.zero_add] at ka kb kc kr; clear hb2)
   | (have _t := J2.out; clear _t J2; have J3 : Hid (3 = 3) := Lib.hid rfl; go_at_call 20; (with_reducible refine Calls.mono (SB.out _) ?_); rintro e V13 ⟨rfl, hb3⟩; clear ka kb kc kr; have HX3 := Lib.hid (HX2.out.trans hb3); have ka := KA.out.keep (HB2.out.trans HX3.out) G0.out; have kb := KB.out.keep (HB2.out.trans HX3.out) G1.out; have kc := KC.out.keep (HB2.out.trans HX3.out) G2.out; have kr := KR.out.keep HX3.out G4.out; simp only [ValAt, Nat.zero_add] at ka kb kc kr; clear hb3))
  go_ret
  exact ⟨rfl, (by have h0 := HB.out; have h1 := HB2.out; have h2 := HX3.out; (with_reducible repeat first | exact Bel.refl _ | refine Bel.setCell ?_ (by first | exact Nat.le_refl _ | (dsimp only; omega)) _ | refine Bel.alloc ?_ _ | refine Bel.drew ?_ | assumption | refine Bel.trans ?_ (by assumption)))⟩
 | true =>
 cases qc with
 | false =>
  have hz := HZ.out
  simp only [Bool.false_and, Bool.and_false, Bool.true_and, Bool.and_true, Bool.false_eq_true, if_false] at hz
  obtain ⟨hz1, rfl⟩ := Prod.mk.inj hz
  cases hz1
  have z1 : veq ⟨0, 0, 0, ⟨#[]⟩, 0⟩ ⟨0, 0, 0, ⟨#[]⟩, 0⟩ = true := veq_self _
  clear hz
  have J0 : Hid (0 = 0) := Lib.hid rfl
  go_wp2_with (first
   | (have _t := J0.out; clear _t J0; have J1 : Hid (1 = 1) := Lib.hid rfl; go_at_call 11; (with_reducible refine Calls.mono (awake_T _ (HM.out.keep ((HB.out.trans HB2.out).trans HX0.out))) ?_); rintro e V11 ⟨rfl, hb1⟩; clear ka kb kc kr; have HX1 := Lib.hid (HX0.out.trans hb1); have ka := KA.out.keep (HB2.out.trans HX1.out) G0.out; have kb := KB.out.keep (HB2.out.trans HX1.out) G1.out; have kc := KC.out.keep (HB2.out.trans HX1.out) G2.out; have kr := KR.out.keep HX1.out G4.out; simp only [ValAt, Nat.zero_add] at ka kb kc kr; clear hb1)
   | (have _t := J1.out; clear _t J1; have J2 : Hid (2 = 2) := Lib.hid rfl; go_at_call 20; (with_reducible refine Calls.mono (SA.out _) ?_); rintro e V12 ⟨rfl, hb2⟩; clear ka kb kc kr; have HX2 := Lib.hid (HX1.out.trans hb2); have ka := KA.out.keep (HB2.out.trans HX2.out) G0.out; have kb := KB.out.keep (HB2.out.trans HX2.out) G1.out; have kc := KC.out.keep (HB2.out.trans HX2.out) G2.out; have kr := KR.out.keep HX2.out G4.out; simp only [ValAt, Nat.zero_add] at ka kb kc kr; clear hb2)
   | (have _t := J2.out; clear _t J2; have J3 : Hid (3 = 3) := Lib.hid rfl; go_at_call 20; (with_reducible refine Calls.mono (SB.out _) ?_); rintro e V13 ⟨rfl, hb3⟩; clear ka kb kc kr; have HX3 := Lib.hid (HX2.out.trans hb3); have ka := KA.out.keep (HB2.out.trans HX3.out) G0.out; have kb := KB.out.keep (HB2.out.trans HX3.out) G1.out; have kc := KC.out.keep (HB2.out.trans HX3.out) G2.out; have kr := KR.out.keep HX3.out G4.out; simp only [ValAt, Nat.zero_add] at ka kb kc kr; clear hb3)
   | (have _t := J3.out; clear _t J3; have J4 : Hid (4 = 4) := Lib.hid rfl; go_at_call 20; (with_reducible refine Calls.mono (SC.out _) ?_); rintro e V14 ⟨rfl, hb4⟩; clear ka kb kc kr; have HX4 := Lib.hid (HX3.out.trans hb4); have ka := KA.out.keep (HB2.out.trans HX4.out) G0.out; have kb := KB.out.keep (HB2.out.trans HX4.out) G1.out; have kc := KC.out.keep (HB2.out.trans HX4.out) G2.out; have kr := KR.out.keep HX4.out G4.out; simp only [ValAt, Nat.zero_add] at ka kb kc kr; clear hb4))
  go_ret
  exact ⟨rfl, (by have h0 := HB.out; have h1 := HB2.out; have h2 := HX4.out; (with_reducible repeat first | exact Bel.refl _ | refine Bel.setCell ?_ (by first | exact Nat.le_refl _ | (dsimp only; omega)) _ | refine Bel.alloc ?_ _ | refine Bel.drew ?_ | assumption | refine Bel.trans ?_ (by assumption)))⟩
 | true =>
 cases qt with
 | true =>
  have hz := HZ.out
  simp only [Bool.and_self, if_true, Bool.false_eq_true, if_false] at hz
  obtain ⟨hz1, rfl⟩ := Prod.mk.inj hz
  cases hz1
  have z1 : veq ⟨zk, zn, zs, zt, zm⟩ ⟨zk, zn, zs, zt, zm⟩ = true := veq_self _
  have hx := HQT.out.symm
  simp only [tval, if_true] at hx
  clear hz
  have J0 : Hid (0 = 0) := Lib.hid rfl
  go_upto_region 8 with (first
   | (have _t := J0.out; clear _t J0; have J1 : Hid (1 = 1) := Lib.hid rfl; go_at_call 11; (with_reducible refine Calls.mono (awake_T _ (HM.out.keep ((HB.out.trans HB2.out).trans HX0.out))) ?_); rintro e V11 ⟨rfl, hb1⟩; clear ka kb kc kr; have HX1 := Lib.hid (HX0.out.trans hb1); have ka := KA.out.keep (HB2.out.trans HX1.out) G0.out; have kb := KB.out.keep (HB2.out.trans HX1.out) G1.out; have kc := KC.out.keep (HB2.out.trans HX1.out) G2.out; have kr := KR.out.keep HX1.out G4.out; simp only [ValAt, Nat.zero_add] at ka kb kc kr; clear hb1)
   | (have _t := J1.out; clear _t J1; have J2 : Hid (2 = 2) := Lib.hid rfl; go_at_call 20; (with_reducible refine Calls.mono (SA.out _) ?_); rintro e V12 ⟨rfl, hb2⟩; clear ka kb kc kr; have HX2 := Lib.hid (HX1.out.trans hb2); have ka := KA.out.keep (HB2.out.trans HX2.out) G0.out; have kb := KB.out.keep (HB2.out.trans HX2.out) G1.out; have kc := KC.out.keep (HB2.out.trans HX2.out) G2.out; have kr := KR.out.keep HX2.out G4.out; simp only [ValAt, Nat.zero_add] at ka kb kc kr; clear hb2)
   | (have _t := J2.out; clear _t J2; have J3 : Hid (3 = 3) := Lib.hid rfl; go_at_call 20; (with_reducible refine Calls.mono (SB.out _) ?_); rintro e V13 ⟨rfl, hb3⟩; clear ka kb kc kr; have HX3 := Lib.hid (HX2.out.trans hb3); have ka := KA.out.keep (HB2.out.trans HX3.out) G0.out; have kb := KB.out.keep (HB2.out.trans HX3.out) G1.out; have kc := KC.out.keep (HB2.out.trans HX3.out) G2.out; have kr := KR.out.keep HX3.out G4.out; simp only [ValAt, Nat.zero_add] at ka kb kc kr; clear hb3)
   | (have _t := J3.out; clear _t J3; have J4 : Hid (4 = 4) := Lib.hid rfl; go_at_call 20; (with_reducible refine Calls.mono (SC.out _) ?_); rintro e V14 ⟨rfl, hb4⟩; clear ka kb kc kr; have HX4 := Lib.hid (HX3.out.trans hb4); have ka := KA.out.keep (HB2.out.trans HX4.out) G0.out; have kb := KB.out.keep (HB2.out.trans HX4.out) G1.out; have kc := KC.out.keep (HB2.out.trans HX4.out) G2.out; have kr := KR.out.keep HX4.out G4.out; simp only [ValAt, Nat.zero_add] at ka kb kc kr; clear hb4))
  have gz := Nat.lt_of_lt_of_le G0.out (HB2.out.trans HX4.out).size
  refine wp_region_uni (S := (fun w' => Bel V14 w' ∧ (∀ b o, b < V14.heap.size → w'.cell? ⟨b, o, none⟩ = V14.cell? ⟨b, o, none⟩))) (by kernel_rfl) (by kernel_rfl) keep0 ?_
  repeat (first | (refine wpUni_skip (by rfl) ?_; (try simp only [Act.put, List.setIfInBounds_toArray, List.set_cons_zero, List.set_cons_succ]))
                              | (refine wpUni_value (by rfl) (fun w hS => by (try dsimp only at hS); go_simp; first | done | with_reducible rfl) ?_; (try simp only [Act.put, List.setIfInBounds_toArray, List.set_cons_zero, List.set_cons_succ]))
                              | (refine wpUni_call (f := 19) (by rfl) (fun w => by go_simp; first | done | with_reducible rfl) (fun w hS => ((rtruth_t w)).mono fun e w' ⟨he, hb⟩ => ⟨he, keep1 hS hb⟩) ?_; (try simp only [Act.put, List.setIfInBounds_toArray, List.set_cons_zero, List.set_cons_succ])))
  refine wpUni_nil fun W6 hS => ?_
  have HX5 := Lib.hid (HX4.out.trans hS.1)
  clear ka kb kc kr hS gz
  have ka := KA.out.keep (HB2.out.trans HX5.out) G0.out
  have kb := KB.out.keep (HB2.out.trans HX5.out) G1.out
  have kc := KC.out.keep (HB2.out.trans HX5.out) G2.out
  have kr := KR.out.keep HX5.out G4.out
  simp only [ValAt, Nat.zero_add] at ka kb kc kr
  go_wp2_with fail
  go_ret
  exact ⟨rfl, (by have h0 := HB.out; have h1 := HB2.out; have h2 := HX5.out; (with_reducible repeat first | exact Bel.refl _ | refine Bel.setCell ?_ (by first | exact Nat.le_refl _ | (dsimp only; omega)) _ | refine Bel.alloc ?_ _ | refine Bel.drew ?_ | assumption | refine Bel.trans ?_ (by assumption)))⟩
 | false =>
  have hz := HZ.out
  simp only [Bool.and_self, if_true, Bool.false_eq_true, if_false] at hz
  obtain ⟨hz1, rfl⟩ := Prod.mk.inj hz
  cases hz1
  have z1 : veq ⟨zk, zn, zs, zt, zm⟩ ⟨zk, zn, zs, zt, zm⟩ = true := veq_self _
  have hx := HQT.out.symm
  simp only [tval, if_true] at hx
  clear hz
  have J0 : Hid (0 = 0) := Lib.hid rfl
  go_upto_region 8 with (first
   | (have _t := J0.out; clear _t J0; have J1 : Hid (1 = 1) := Lib.hid rfl; go_at_call 11; (with_reducible refine Calls.mono (awake_T _ (HM.out.keep ((HB.out.trans HB2.out).trans HX0.out))) ?_); rintro e V11 ⟨rfl, hb1⟩; clear ka kb kc kr; have HX1 := Lib.hid (HX0.out.trans hb1); have ka := KA.out.keep (HB2.out.trans HX1.out) G0.out; have kb := KB.out.keep (HB2.out.trans HX1.out) G1.out; have kc := KC.out.keep (HB2.out.trans HX1.out) G2.out; have kr := KR.out.keep HX1.out G4.out; simp only [ValAt, Nat.zero_add] at ka kb kc kr; clear hb1)
   | (have _t := J1.out; clear _t J1; have J2 : Hid (2 = 2) := Lib.hid rfl; go_at_call 20; (with_reducible refine Calls.mono (SA.out _) ?_); rintro e V12 ⟨rfl, hb2⟩; clear ka kb kc kr; have HX2 := Lib.hid (HX1.out.trans hb2); have ka := KA.out.keep (HB2.out.trans HX2.out) G0.out; have kb := KB.out.keep (HB2.out.trans HX2.out) G1.out; have kc := KC.out.keep (HB2.out.trans HX2.out) G2.out; have kr := KR.out.keep HX2.out G4.out; simp only [ValAt, Nat.zero_add] at ka kb kc kr; clear hb2)
   | (have _t := J2.out; clear _t J2; have J3 : Hid (3 = 3) := Lib.hid rfl; go_at_call 20; (with_reducible refine Calls.mono (SB.out _) ?_); rintro e V13 ⟨rfl, hb3⟩; clear ka kb kc kr; have HX3 := Lib.hid (HX2.out.trans hb3); have ka := KA.out.keep (HB2.out.trans HX3.out) G0.out; have kb := KB.out.keep (HB2.out.trans HX3.out) G1.out; have kc := KC.out.keep (HB2.out.trans HX3.out) G2.out; have kr := KR.out.keep HX3.out G4.out; simp only [ValAt, Nat.zero_add] at ka kb kc kr; clear hb3)
   | (have _t := J3.out; clear _t J3; have J4 : Hid (4 = 4) := Lib.hid rfl; go_at_call 20; (with_reducible refine Calls.mono (SC.out _) ?_); rintro e V14 ⟨rfl, hb4⟩; clear ka kb kc kr; have HX4 := Lib.hid (HX3.out.trans hb4); have ka := KA.out.keep (HB2.out.trans HX4.out) G0.out; have kb := KB.out.keep (HB2.out.trans HX4.out) G1.out; have kc := KC.out.keep (HB2.out.trans HX4.out) G2.out; have kr := KR.out.keep HX4.out G4.out; simp only [ValAt, Nat.zero_add] at ka kb kc kr; clear hb4))
  have gz := Nat.lt_of_lt_of_le G0.out (HB2.out.trans HX4.out).size
  refine wp_region_uni (S := (fun w' => Bel V14 w' ∧ (∀ b o, b < V14.heap.size → w'.cell? ⟨b, o, none⟩ = V14.cell? ⟨b, o, none⟩))) (by kernel_rfl) (by kernel_rfl) keep0 ?_
  repeat (first | (refine wpUni_skip (by rfl) ?_; (try simp only [Act.put, List.setIfInBounds_toArray, List.set_cons_zero, List.set_cons_succ]))
                              | (refine wpUni_value (by rfl) (fun w hS => by (try dsimp only at hS); go_simp; first | done | with_reducible rfl) ?_; (try simp only [Act.put, List.setIfInBounds_toArray, List.set_cons_zero, List.set_cons_succ]))
                              | (refine wpUni_call (f := 19) (by rfl) (fun w => by go_simp; first | done | with_reducible rfl) (fun w hS => ((rtruth_t w)).mono fun e w' ⟨he, hb⟩ => ⟨he, keep1 hS hb⟩) ?_; (try simp only [Act.put, List.setIfInBounds_toArray, List.set_cons_zero, List.set_cons_succ])))
  refine wpUni_nil fun W6 hS => ?_
  have HX5 := Lib.hid (HX4.out.trans hS.1)
  clear ka kb kc kr hS gz
  have ka := KA.out.keep (HB2.out.trans HX5.out) G0.out
  have kb := KB.out.keep (HB2.out.trans HX5.out) G1.out
  have kc := KC.out.keep (HB2.out.trans HX5.out) G2.out
  have kr := KR.out.keep HX5.out G4.out
  simp only [ValAt, Nat.zero_add] at ka kb kc kr
  go_wp2_with fail
  go_ret
  exact ⟨rfl, (by have h0 := HB.out; have h1 := HB2.out; have h2 := HX5.out; (with_reducible repeat first | exact Bel.refl _ | refine Bel.setCell ?_ (by first | exact Nat.le_refl _ | (dsimp only; omega)) _ | refine Bel.alloc ?_ _ | refine Bel.drew ?_ | assumption | refine Bel.trans ?_ (by assumption)))⟩
end Go.Proofs.YtjckpkamhdbcnaaGreatDoor
