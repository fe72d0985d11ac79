import Derived.Test.YtjckpkamhdbcnaaGreatDoorPci
namespace Go.Proofs.YtjckpkamhdbcnaaGreatDoor
set_option linter.unusedSimpArgs false
set_option linter.unusedVariables false
open Go.RowKit
/-! Six pairs of texts that come to the same. -/
def lsS (a b : Val) : List Bnd := [⟨⟨#[97]⟩, a⟩, ⟨⟨#[98]⟩, b⟩]
def xA : Ex := .mk 2 zv [97] []
def xB : Ex := .mk 2 zv [98] []
def cx (o : Int) (x y : Ex) : Ex := .mk o zv [] [x, y]
def nx (x : Ex) : Ex := .mk 16 zv [] [x]
theorem eqV_sym (a b : Val) : eqV a b = eqV b a := by
 unfold eqV
 by_cases h : vsnd a = true ∧ vsnd b = true ∧ (a.kind = 0 ∨ b.kind = 0 ∨ a.kind = b.kind)
 ·rw [if_pos h, if_pos ⟨h.2.1, h.1, by rcases h.2.2 with h | h | h; exact .inr (.inl h); exact .inl h; exact .inr (.inr h.symm)⟩]
  have : veq a b = veq b a := by
   unfold veq
   exact decide_eq_decide.2 ⟨fun h => h.symm, fun h => h.symm⟩
  rw [this]
 ·rw [if_neg h, if_neg fun k => h ⟨k.2.1, k.1, by rcases k.2.2 with h | h | h; exact .inr (.inl h); exact .inl h; exact .inr (.inr h.symm)⟩]
theorem nt_tval (q : Bool) : nt (nt (tval q)) = tval q := by cases q <;> decide
theorem nt_zero : nt (nt zero) = zero := by decide
theorem ltV_nt (a b : Val) : nt (nt (ltV a b)) = ltV a b := by
 unfold ltV
 split
 ·exact nt_tval _
 ·exact nt_zero
def litS00 : ByteArray := ⟨#[97, 32, 60, 32, 98]⟩
def exS00 : Ex := cx 10 xA xB
theorem par_S00 : parE litS00 = (exS00, 0, 0) := by kernel_rfl
theorem ev_S00 (a b : Val) : evX (lsS a b) exS00 = ltV a b := by kernel_rfl
theorem bds_S00 (a b : Val) : bdsX (lsS a b) exS00 = true := by kernel_rfl
def litS01 : ByteArray := ⟨#[98, 32, 62, 32, 97]⟩
def exS01 : Ex := cx 12 xB xA
theorem par_S01 : parE litS01 = (exS01, 0, 0) := by kernel_rfl
theorem ev_S01 (a b : Val) : evX (lsS a b) exS01 = ltV a b := by kernel_rfl
theorem bds_S01 (a b : Val) : bdsX (lsS a b) exS01 = true := by kernel_rfl
theorem evV_S0 (a b : Val) : evV (lsS a b) exS00 = evV (lsS a b) exS01 := by
 unfold evV
 rw [(parE_ok par_S00).2.1, (parE_ok par_S01).2.1, bds_S00, bds_S01, ev_S00, ev_S01, show ltV a b = ltV a b from rfl]
def litS10 : ByteArray := ⟨#[97, 32, 60, 61, 32, 98]⟩
def exS10 : Ex := cx 11 xA xB
theorem par_S10 : parE litS10 = (exS10, 0, 0) := by kernel_rfl
theorem ev_S10 (a b : Val) : evX (lsS a b) exS10 = nt (ltV b a) := by kernel_rfl
theorem bds_S10 (a b : Val) : bdsX (lsS a b) exS10 = true := by kernel_rfl
def litS11 : ByteArray := ⟨#[110, 111, 116, 40, 98, 32, 60, 32, 97, 41]⟩
def exS11 : Ex := nx (cx 10 xB xA)
theorem par_S11 : parE litS11 = (exS11, 0, 0) := by kernel_rfl
theorem ev_S11 (a b : Val) : evX (lsS a b) exS11 = nt (ltV b a) := by kernel_rfl
theorem bds_S11 (a b : Val) : bdsX (lsS a b) exS11 = true := by kernel_rfl
theorem evV_S1 (a b : Val) : evV (lsS a b) exS10 = evV (lsS a b) exS11 := by
 unfold evV
 rw [(parE_ok par_S10).2.1, (parE_ok par_S11).2.1, bds_S10, bds_S11, ev_S10, ev_S11, show nt (ltV b a) = nt (ltV b a) from rfl]
def litS20 : ByteArray := ⟨#[97, 32, 62, 61, 32, 98]⟩
def exS20 : Ex := cx 13 xA xB
theorem par_S20 : parE litS20 = (exS20, 0, 0) := by kernel_rfl
theorem ev_S20 (a b : Val) : evX (lsS a b) exS20 = nt (ltV a b) := by kernel_rfl
theorem bds_S20 (a b : Val) : bdsX (lsS a b) exS20 = true := by kernel_rfl
def litS21 : ByteArray := ⟨#[98, 32, 60, 61, 32, 97]⟩
def exS21 : Ex := cx 11 xB xA
theorem par_S21 : parE litS21 = (exS21, 0, 0) := by kernel_rfl
theorem ev_S21 (a b : Val) : evX (lsS a b) exS21 = nt (ltV a b) := by kernel_rfl
theorem bds_S21 (a b : Val) : bdsX (lsS a b) exS21 = true := by kernel_rfl
theorem evV_S2 (a b : Val) : evV (lsS a b) exS20 = evV (lsS a b) exS21 := by
 unfold evV
 rw [(parE_ok par_S20).2.1, (parE_ok par_S21).2.1, bds_S20, bds_S21, ev_S20, ev_S21, show nt (ltV a b) = nt (ltV a b) from rfl]
def litS30 : ByteArray := ⟨#[97, 32, 33, 61, 32, 98]⟩
def exS30 : Ex := cx 9 xA xB
theorem par_S30 : parE litS30 = (exS30, 0, 0) := by kernel_rfl
theorem ev_S30 (a b : Val) : evX (lsS a b) exS30 = nt (eqV a b) := by kernel_rfl
theorem bds_S30 (a b : Val) : bdsX (lsS a b) exS30 = true := by kernel_rfl
def litS31 : ByteArray := ⟨#[110, 111, 116, 40, 97, 32, 61, 32, 98, 41]⟩
def exS31 : Ex := nx (cx 8 xA xB)
theorem par_S31 : parE litS31 = (exS31, 0, 0) := by kernel_rfl
theorem ev_S31 (a b : Val) : evX (lsS a b) exS31 = nt (eqV a b) := by kernel_rfl
theorem bds_S31 (a b : Val) : bdsX (lsS a b) exS31 = true := by kernel_rfl
theorem evV_S3 (a b : Val) : evV (lsS a b) exS30 = evV (lsS a b) exS31 := by
 unfold evV
 rw [(parE_ok par_S30).2.1, (parE_ok par_S31).2.1, bds_S30, bds_S31, ev_S30, ev_S31, show nt (eqV a b) = nt (eqV a b) from rfl]
def litS40 : ByteArray := ⟨#[97, 32, 61, 32, 98]⟩
def exS40 : Ex := cx 8 xA xB
theorem par_S40 : parE litS40 = (exS40, 0, 0) := by kernel_rfl
theorem ev_S40 (a b : Val) : evX (lsS a b) exS40 = eqV a b := by kernel_rfl
theorem bds_S40 (a b : Val) : bdsX (lsS a b) exS40 = true := by kernel_rfl
def litS41 : ByteArray := ⟨#[98, 32, 61, 32, 97]⟩
def exS41 : Ex := cx 8 xB xA
theorem par_S41 : parE litS41 = (exS41, 0, 0) := by kernel_rfl
theorem ev_S41 (a b : Val) : evX (lsS a b) exS41 = eqV b a := by kernel_rfl
theorem bds_S41 (a b : Val) : bdsX (lsS a b) exS41 = true := by kernel_rfl
theorem evV_S4 (a b : Val) : evV (lsS a b) exS40 = evV (lsS a b) exS41 := by
 unfold evV
 rw [(parE_ok par_S40).2.1, (parE_ok par_S41).2.1, bds_S40, bds_S41, ev_S40, ev_S41, show eqV a b = eqV b a from eqV_sym a b]
def litS50 : ByteArray := ⟨#[97, 32, 60, 32, 98]⟩
def exS50 : Ex := cx 10 xA xB
theorem par_S50 : parE litS50 = (exS50, 0, 0) := by kernel_rfl
theorem ev_S50 (a b : Val) : evX (lsS a b) exS50 = ltV a b := by kernel_rfl
theorem bds_S50 (a b : Val) : bdsX (lsS a b) exS50 = true := by kernel_rfl
def litS51 : ByteArray := ⟨#[110, 111, 116, 40, 110, 111, 116, 40, 97, 32, 60, 32, 98, 41, 41]⟩
def exS51 : Ex := nx (nx (cx 10 xA xB))
theorem par_S51 : parE litS51 = (exS51, 0, 0) := by kernel_rfl
theorem ev_S51 (a b : Val) : evX (lsS a b) exS51 = nt (nt (ltV a b)) := by kernel_rfl
theorem bds_S51 (a b : Val) : bdsX (lsS a b) exS51 = true := by kernel_rfl
theorem evV_S5 (a b : Val) : evV (lsS a b) exS50 = evV (lsS a b) exS51 := by
 unfold evV
 rw [(parE_ok par_S50).2.1, (parE_ok par_S51).2.1, bds_S50, bds_S51, ev_S50, ev_S51, ltV_nt a b]
end Go.Proofs.YtjckpkamhdbcnaaGreatDoor
namespace Go.Proofs.YtjckpkamhdbcnaaGreatDoor
set_option linter.unusedSimpArgs false
set_option linter.unusedVariables false
open Go.RowKit
attribute [local go_sem ↓] eql_val neq_val
/-! The law of the six pairs. -/
def pS0 (q : Nat) : ByteArray := if q = 0 then litS00 else if q = 1 then litS10 else if q = 2 then litS20 else if q = 3 then litS30 else if q = 4 then litS40 else litS50
def pS1 (q : Nat) : ByteArray := if q = 0 then litS01 else if q = 1 then litS11 else if q = 2 then litS21 else if q = 3 then litS31 else if q = 4 then litS41 else litS51
def xS0 (q : Nat) : Ex := if q = 0 then exS00 else if q = 1 then exS10 else if q = 2 then exS20 else if q = 3 then exS30 else if q = 4 then exS40 else exS50
def xS1 (q : Nat) : Ex := if q = 0 then exS01 else if q = 1 then exS11 else if q = 2 then exS21 else if q = 3 then exS31 else if q = 4 then exS41 else exS51
theorem parS0 {q : Nat} (hq : q < 6) : parE (pS0 q) = (xS0 q, 0, 0) := by
 rcases (by omega : q = 0 ∨ q = 1 ∨ q = 2 ∨ q = 3 ∨ q = 4 ∨ q = 5) with rfl | rfl | rfl | rfl | rfl | rfl
 ·exact par_S00
 ·exact par_S10
 ·exact par_S20
 ·exact par_S30
 ·exact par_S40
 ·exact par_S50
theorem parS1 {q : Nat} (hq : q < 6) : parE (pS1 q) = (xS1 q, 0, 0) := by
 rcases (by omega : q = 0 ∨ q = 1 ∨ q = 2 ∨ q = 3 ∨ q = 4 ∨ q = 5) with rfl | rfl | rfl | rfl | rfl | rfl
 ·exact par_S01
 ·exact par_S11
 ·exact par_S21
 ·exact par_S31
 ·exact par_S41
 ·exact par_S51
theorem evVS (a b : Val) {q : Nat} (hq : q < 6) : evV (lsS a b) (xS0 q) = evV (lsS a b) (xS1 q) := by
 rcases (by omega : q = 0 ∨ q = 1 ∨ q = 2 ∨ q = 3 ∨ q = 4 ∨ q = 5) with rfl | rfl | rfl | rfl | rfl | rfl
 ·exact evV_S0 a b
 ·exact evV_S1 a b
 ·exact evV_S2 a b
 ·exact evV_S3 a b
 ·exact evV_S4 a b
 ·exact evV_S5 a b
theorem szS0 {q : Nat} (hq : q < 6) : (pS0 q).size ≤ 9223372036854775807 := by
 rcases (by omega : q = 0 ∨ q = 1 ∨ q = 2 ∨ q = 3 ∨ q = 4 ∨ q = 5) with rfl | rfl | rfl | rfl | rfl | rfl
 ·exact (by decide : litS00.size ≤ 9223372036854775807)
 ·exact (by decide : litS10.size ≤ 9223372036854775807)
 ·exact (by decide : litS20.size ≤ 9223372036854775807)
 ·exact (by decide : litS30.size ≤ 9223372036854775807)
 ·exact (by decide : litS40.size ≤ 9223372036854775807)
 ·exact (by decide : litS50.size ≤ 9223372036854775807)
theorem szS1 {q : Nat} (hq : q < 6) : (pS1 q).size ≤ 9223372036854775807 := by
 rcases (by omega : q = 0 ∨ q = 1 ∨ q = 2 ∨ q = 3 ∨ q = 4 ∨ q = 5) with rfl | rfl | rfl | rfl | rfl | rfl
 ·exact (by decide : litS01.size ≤ 9223372036854775807)
 ·exact (by decide : litS11.size ≤ 9223372036854775807)
 ·exact (by decide : litS21.size ≤ 9223372036854775807)
 ·exact (by decide : litS31.size ≤ 9223372036854775807)
 ·exact (by decide : litS41.size ≤ 9223372036854775807)
 ·exact (by decide : litS51.size ≤ 9223372036854775807)
/-- The pairs in memory. -/
def PairsAt (w : World) (T : Nat) : Prop := ∀ q, q < 6 → ∃ P, (P < w.heap.size ∧ w.cell? ⟨P, 0, none⟩ = some (.string (pS0 q)) ∧ w.cell? ⟨P, 1, none⟩ = some (.string (pS1 q))) ∧ T < w.heap.size ∧ w.cell? ⟨T, q, none⟩ = some (.slice (some ⟨P, 0, none⟩) 2 2)
theorem PairsAt.keep {w w' : World} {T : Nat} (h : PairsAt w T) (hb : Bel w w') : PairsAt w' T := fun q hq => by
 obtain ⟨P, ⟨h1, h2, h3⟩, h4, h5⟩ := h q hq
 exact ⟨P, ⟨Nat.lt_of_lt_of_le h1 hb.size, (hb.cells _ _ h1).trans h2, (hb.cells _ _ h1).trans h3⟩, Nat.lt_of_lt_of_le h4 hb.size, (hb.cells _ _ h4).trans h5⟩
set_option maxRecDepth 100000 in
set_option maxHeartbeats 8000000 in
theorem law_Sides (a b : Val) (ha : a.text.size ≤ 9223372036854775807) (hb : b.text.size ≤ 9223372036854775807) (w : World) (hm : Mx w) :
  Calls Tryz.prog 9 #[a.val, b.val] w fun e w' => e = .returned (.bool true) ∧ Bel w w' := by
 have CE := Lib.hid fun (x : Ex) (W : World) A cc B hsm hL hB => calcEval_any (lsS a b) (show (2 : Nat) ≤ 9223372036854775807 by decide) (fun x hx => by
  rcases List.mem_cons.1 hx with rfl | hx
  ·exact ha
  ·rw [List.mem_singleton.1 hx]; exact hb) x A cc (some ⟨B, 0, none⟩) 2 W hsm hL hB
 have HS := Lib.hid (fun q (hq : q < 6) => evVS a b hq)
 have HM := Lib.hid hm
 clear ha hb hm
 obtain ⟨k, n, s, t, m⟩ := a
 obtain ⟨k', n', s', t', m'⟩ := b
 go_enter Tryz.func9, Tryz.ntmps9
 go_upto_region 3 with fail
 refine under_name (w0 := w) (by (with_reducible repeat first | exact Bel.refl _ | refine Bel.setCell ?_ (by first | exact Nat.le_refl _ | (dsimp only; omega)) _ | refine Bel.alloc ?_ _ | refine Bel.drew ?_ | assumption | refine Bel.trans ?_ (by assumption))) fun W hcc hf hz hb0 => ?_
 have hzz : W.heap.size = w.heap.size + 10 := by rw [hz]; simp
 have HPr : PairsAt W (w.heap.size + 1 + 1 + 1 + 1 + 1 + 1 + 1 + 1 + 1) := fun q hq => by
  rcases (by omega : q = 0 ∨ q = 1 ∨ q = 2 ∨ q = 3 ∨ q = 4 ∨ q = 5) with rfl | rfl | rfl | rfl | rfl | rfl
  ·exact ⟨w.heap.size + 1 + 1 + 1, ⟨by omega, by simp [hcc, go_sem, pS0, litS00], by simp [hcc, go_sem, pS1, litS01]⟩, by omega, by simp [hcc, go_sem]⟩
  ·exact ⟨w.heap.size + 1 + 1 + 1 + 1, ⟨by omega, by simp [hcc, go_sem, pS0, litS10], by simp [hcc, go_sem, pS1, litS11]⟩, by omega, by simp [hcc, go_sem]⟩
  ·exact ⟨w.heap.size + 1 + 1 + 1 + 1 + 1, ⟨by omega, by simp [hcc, go_sem, pS0, litS20], by simp [hcc, go_sem, pS1, litS21]⟩, by omega, by simp [hcc, go_sem]⟩
  ·exact ⟨w.heap.size + 1 + 1 + 1 + 1 + 1 + 1, ⟨by omega, by simp [hcc, go_sem, pS0, litS30], by simp [hcc, go_sem, pS1, litS31]⟩, by omega, by simp [hcc, go_sem]⟩
  ·exact ⟨w.heap.size + 1 + 1 + 1 + 1 + 1 + 1 + 1, ⟨by omega, by simp [hcc, go_sem, pS0, litS40], by simp [hcc, go_sem, pS1, litS41]⟩, by omega, by simp [hcc, go_sem]⟩
  ·exact ⟨w.heap.size + 1 + 1 + 1 + 1 + 1 + 1 + 1 + 1, ⟨by omega, by simp [hcc, go_sem, pS0, litS50], by simp [hcc, go_sem, pS1, litS51]⟩, by omega, by simp [hcc, go_sem]⟩
 have BL : Bnds W (some ⟨w.heap.size + 1 + 1, 0, none⟩) (lsS ⟨k, n, s, t, m⟩ ⟨k', n', s', t', m'⟩) := fun _ => by
  refine ⟨_, 0, rfl, by omega, fun i x hx => ?_⟩
  unfold lsS at hx
  match i, hx with
  | 0, hx =>
   simp only [List.getElem?_cons_zero, Option.some.injEq] at hx
   subst hx
   simp [BndAt, hcc, hf, hz, go_sem]
  | 1, hx =>
   simp only [List.getElem?_cons_succ, List.getElem?_cons_zero, Option.some.injEq] at hx
   subst hx
   simp [BndAt, hcc, hf, hz, go_sem]
 clear hcc hf hz hzz
 have HB := Lib.hid hb0
 have HBL := Lib.hid BL
 have HPR := Lib.hid HPr
 clear hb0 BL HPr
 generalize w.heap.size + 1 + 1 + 1 + 1 + 1 + 1 + 1 + 1 + 1 = T at HPR
 generalize w.heap.size + 1 + 1 = L at HBL
 go_wp2_with fail
 go_loopw [7, 8, 9, 10, 11, 12, 13, 14, 15, 16, 17] (fun s7 _ _ _ _ _ _ _ _ _ _ wr => ∃ q : Nat, q ≤ 6 ∧ s7 = .int .i64 q ∧ Hid (Bel W wr)) (fun s7 _ _ _ _ _ _ _ _ _ _ _ => 6 - (intOf s7).toNat)
 case atStart => exact ⟨0, by omega, rfl, Lib.hid (Bel.refl _)⟩
 case round =>
  obtain ⟨q, hq, rfl, hb⟩ := hrel
  by_cases hlt : q < 6
  ·have P0 := parS0 hlt
   have P1 := parS1 hlt
   have hev := HS.out q hlt
   have z0 := szS0 hlt
   have z1 := szS1 hlt
   obtain ⟨P, ⟨hP, c0, c1⟩, hT, e0⟩ := (HPR.out.keep hb.out) q hlt
   generalize xS0 q = x0 at P0 hev
   generalize xS1 q = x1 at P1 hev
   generalize pS0 q = s0 at P0 z0 c0
   generalize pS1 q = s1 at P1 z1 c1
   have CP0 := fun (w : World) hm => eparse_is P0 z0 w hm
   have CP1 := fun (w : World) hm => eparse_is P1 z1 w hm
   have CE0 := fun W A cc hL hB => CE.out x0 W A cc L (par_sm P0) hL hB
   have CE1 := fun W A cc hL hB => CE.out x1 W A cc L (par_sm P1) hL hB
   rw [← hev] at CE1
   generalize evV (lsS ⟨k, n, s, t, m⟩ ⟨k', n', s', t', m'⟩) x0 = z at CE0 CE1
   have hzz := veq_self z.1
   obtain ⟨⟨zk, zn, zs, zt, zm⟩, ze⟩ := z
   obtain ⟨o0, ⟨v00, v01, v02, v03, v04⟩, nm0, ks0⟩ := x0
   obtain ⟨o1, ⟨v10, v11, v12, v13, v14⟩, nm1, ks1⟩ := x1
   simp only [Ex.op, Ex.v, Ex.nm, Ex.ks] at CP0 CP1 CE0 CE1
   generalize bytesOf nm0 = b0 at CP0 CE0
   generalize bytesOf nm1 = b1 at CP1 CE1
   have l0 : (q : Int) < 6 := by omega
   have CP0 := Lib.hid CP0
   have CP1 := Lib.hid CP1
   have CE0 := Lib.hid CE0
   have CE1 := Lib.hid CE1
   have KQ := Lib.hid (And.intro hP (And.intro c1 (And.intro hT e0)))
   clear P0 P1 hev z0 z1 hP c1 hT
   go_upto_region 7 with (go_at_call 14; (with_reducible refine Calls.mono (CP0.out _ (HM.out.keep (HB.out.trans hb.out))) ?_); rintro e V1 ⟨A, cc, rfl, hT, hb1⟩; have hT1 := Lib.hid hT; have hb1 := Lib.hid hb1; clear hT c0 e0)
   refine under_name (w0 := V1) (by (with_reducible repeat first | exact Bel.refl _ | refine Bel.setCell ?_ (by first | exact Nat.le_refl _ | (dsimp only; omega)) _ | refine Bel.alloc ?_ _ | refine Bel.drew ?_ | assumption | refine Bel.trans ?_ (by assumption))) fun W1 hcc hf hz hb2 => ?_
   have T : XFree W1 V1.heap.size o0 ⟨v00, v01, v02, v03, v04⟩ b0 A ks0.length cc := by simp [XFree, ExAt, hcc, hf, hz, go_sem]
   clear hcc hf hz
   have HB1 := Lib.hid (hb1.out.trans hb2)
   have L0 := Lib.hid (hT1.out.keep hb2)
   clear hb2 hb1 hT1
   generalize V1.heap.size = Y at T
   have KX := Lib.hid T
   clear T
   have c1 := (HB1.out.cells _ _ KQ.out.1).trans KQ.out.2.1
   have e0 := (HB1.out.cells _ _ KQ.out.2.2.1).trans KQ.out.2.2.2
   go_upto_region 8 with (go_at_call 14; (with_reducible refine Calls.mono (CP1.out _ (HM.out.keep ((HB.out.trans hb.out).trans HB1.out))) ?_); rintro e V2 ⟨A2, cc2, rfl, hT, hb1⟩; have hT1 := Lib.hid hT; have hb1 := Lib.hid hb1; clear hT c1 e0)
   refine under_name (w0 := V2) (by (with_reducible repeat first | exact Bel.refl _ | refine Bel.setCell ?_ (by first | exact Nat.le_refl _ | (dsimp only; omega)) _ | refine Bel.alloc ?_ _ | refine Bel.drew ?_ | assumption | refine Bel.trans ?_ (by assumption))) fun W2 hcc hf hz hb2 => ?_
   have T : XFree W2 V2.heap.size o1 ⟨v10, v11, v12, v13, v14⟩ b1 A2 ks1.length cc2 := by simp [XFree, ExAt, hcc, hf, hz, go_sem]
   clear hcc hf hz
   have HB2 := Lib.hid (hb1.out.trans hb2)
   have L1 := Lib.hid (hT1.out.keep hb2)
   clear hb2 hb1 hT1
   generalize V2.heap.size = Y2 at T
   have KX2 := Lib.hid T
   have KX0 := Lib.hid (KX.out.keep HB2.out)
   have LL0 := Lib.hid (L0.out.keep HB2.out)
   clear T KX L0
   obtain ⟨tza, ⟨ta0, ta1, ta2, ta3, ta4, ta5, ta6, ta7⟩, -⟩ := KX0.out; simp only [Nat.zero_add] at ta0 ta1 ta2 ta3 ta4 ta5 ta6 ta7
   go_upto_region 9 with (go_at_call 12; (with_reducible refine Calls.mono (CE0.out _ _ _ LL0.out (HBL.out.keep ((hb.out.trans HB1.out).trans HB2.out))) ?_); rintro e V3 ⟨rfl, hb3⟩; have hb3 := Lib.hid hb3; clear tza ta0 ta1 ta2 ta3 ta4 ta5 ta6 ta7)
   refine under_name (w0 := V3) (by (with_reducible repeat first | exact Bel.refl _ | refine Bel.setCell ?_ (by first | exact Nat.le_refl _ | (dsimp only; omega)) _ | refine Bel.alloc ?_ _ | refine Bel.drew ?_ | assumption | refine Bel.trans ?_ (by assumption))) fun W3 hcc hf hz hb4 => ?_
   have R0 : Slot W3 V3.heap.size ⟨zk, zn, zs, zt, zm⟩ := by simp [Slot, ValAt, FreeAt, hcc, hf, hz, go_sem]
   clear hcc hf hz
   have HB3 := Lib.hid (hb3.out.trans hb4)
   clear hb3 hb4
   generalize V3.heap.size = Z at R0
   have KR0 := Lib.hid R0
   clear R0
   have KX3 := Lib.hid (KX2.out.keep HB3.out)
   have LL1 := Lib.hid (L1.out.keep HB3.out)
   obtain ⟨tzb, ⟨tb0, tb1, tb2, tb3, tb4, tb5, tb6, tb7⟩, -⟩ := KX3.out; simp only [Nat.zero_add] at tb0 tb1 tb2 tb3 tb4 tb5 tb6 tb7
   go_upto_region 10 with (go_at_call 12; (with_reducible refine Calls.mono (CE1.out _ _ _ LL1.out (HBL.out.keep (((hb.out.trans HB1.out).trans HB2.out).trans HB3.out))) ?_); rintro e V4 ⟨rfl, hb3⟩; have hb3 := Lib.hid hb3; clear tzb tb0 tb1 tb2 tb3 tb4 tb5 tb6 tb7)
   refine under_name (w0 := V4) (by (with_reducible repeat first | exact Bel.refl _ | refine Bel.setCell ?_ (by first | exact Nat.le_refl _ | (dsimp only; omega)) _ | refine Bel.alloc ?_ _ | refine Bel.drew ?_ | assumption | refine Bel.trans ?_ (by assumption))) fun W4 hcc hf hz hb4 => ?_
   have R1 : Slot W4 V4.heap.size ⟨zk, zn, zs, zt, zm⟩ := by simp [Slot, ValAt, FreeAt, hcc, hf, hz, go_sem]
   clear hcc hf hz
   have HB4 := Lib.hid (hb3.out.trans hb4)
   clear hb3 hb4
   generalize V4.heap.size = Z2 at R1
   have R0 := KR0.out.keep HB4.out
   go_wp2_with fail
   go_roundw
   case rel => exact ⟨q + 1, by omega, by go_num, Lib.hid ((((hb.out.trans HB1.out).trans HB2.out).trans HB3.out).trans HB4.out)⟩
   case measure => simp [intOf]; omega
  ·obtain rfl : q = 6 := by omega
   go_wp2_with (go_at_call 11; (with_reducible refine Calls.mono (awake_T _ (HM.out.keep (HB.out.trans hb.out))) ?_); rintro e V5 ⟨rfl, hb5⟩)
   go_ret
   exact ⟨rfl, (HB.out.trans hb.out).trans hb5⟩
end Go.Proofs.YtjckpkamhdbcnaaGreatDoor
