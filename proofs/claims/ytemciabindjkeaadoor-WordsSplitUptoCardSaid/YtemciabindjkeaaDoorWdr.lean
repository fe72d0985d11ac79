import Derived.Test.YtemciabindjkeaaDoorWdq
namespace Go.Proofs.YtemciabindjkeaaDoor
set_option linter.unusedSimpArgs false
set_option linter.unusedVariables false
open Go.RowKit Go.Lib

/-! Words: the law on what is turned round. -/
def WAt (W : World) (B : Nat) (all : Bool) (A : Option Addr) (n c : Nat) : Prop := B < W.heap.size ∧ W.cell? ⟨B, 0, none⟩ = some (.bool all) ∧ W.cell? ⟨B, 1, none⟩ = some (.slice A n c)
theorem WAt.keep {W W' : World} {B : Nat} {all : Bool} {A : Option Addr} {n c : Nat} (h : WAt W B all A n c) (hb : Bel W W') : WAt W' B all A n c := ⟨Nat.lt_of_lt_of_le h.1 hb.size, (hb.cells _ _ h.1).trans h.2.1, (hb.cells _ _ h.1).trans h.2.2⟩
theorem meet_none (all : Bool) (l : List ByteArray) : meetl all l (!all) (keptl okw l) = [] := by
  refine srt_empty fun s hs => ?_
  cases all with
  | true =>
    rw [show (!true) = false from rfl, meetl2, keptl_mem, keptl_mem] at hs
    have hm := (inl_iff l s).2 hs.1.1
    rw [hm] at hs
    simp at hs
  | false =>
    rw [meetl3, keptl_mem] at hs
    have ho : okw s = true := by have := hs.2; rw [Bool.and_eq_true] at this; exact this.1
    rw [(inl_iff (keptl okw l) s).2 ((keptl_mem okw l s).2 ⟨hs.1, ho⟩), ho] at hs
    simp at hs
theorem kept_twice (l : List ByteArray) : keptl okw (keptl okw l) = keptl okw l := keptl_self (keptl_srt _ _) fun s hs => ((keptl_mem okw l s).1 hs).2
set_option maxRecDepth 100000 in
set_option maxHeartbeats 4000000 in
theorem law_Turns_false (l : List ByteArray) (A : Option Addr) (c : Nat) (w : World) (ht : Tab w) (hl : Strs w A l) (hA : A = none → c = 0) (hn : l.length * 16 ≤ 140737488355328) (hs : ∀ s ∈ l, Fits s) :
    Calls Tryd.prog 6 #[wset false A l.length c] w fun e w' => e = .returned (.bool true) ∧ Bel w w' := by
  have HT := Lib.hid ht
  have HL := Lib.hid hl
  have OT := Lib.hid fun W (hW : Bel w W) => other_any false l A c W (hl.keep hW) hn hs
  have MK := Lib.hid fun W (hW : Bel w W) => make_any false l A c W (hl.keep hW) hn hs
  have KL := Lib.hid (keptl_len okw l)
  have KF := Lib.hid (kept_fits (p := okw) hs)
  have KT := Lib.hid (kept_twice l)
  have OT2 := Lib.hid fun W A' c' (h : Strs W A' (keptl okw l)) => other_any true (keptl okw l) A' c' W h (by have := KL.out; omega) KF.out
  rw [KT.out] at OT2
  have ME := Lib.hid fun W A' c' (hW : Bel w W) (h : Strs W A' (keptl okw l)) (h2 : A' = none → c' = 0) => meet_any false l A c true (keptl okw l) A' c' W (hl.keep hW) h hA h2 hn (by have := KL.out; omega) (by intro a b; cases a; try cases b) hs KF.out
  rw [show meetl false l true (keptl okw l) = [] from meet_none false l] at ME
  have EM := Lib.hid fun W A' c' => empty_any false [] A' c' W Strs.nil (by simp) (by simp)
  have e1 : emptyw false [] = true := rfl
  rw [e1] at EM
  unfold wset at OT OT2 ME EM
  have HN := Lib.hid (show (keptl okw l).length ≤ 9223372036854775807 from by have := KL.out; omega)
  clear ht hl hA hs KT KF e1
  generalize keptl okw l = r at OT MK OT2 ME KL HN
  have hri : (r.length : Int) ≤ 9223372036854775807 := by have := HN.out; omega
  unfold wset
  go_enter Tryd.func6, Tryd.ntmps6
  go_upto_region 1 with fail
  refine under_name ((Bel.refl w).alloc _) fun W0 hc hf hz hb => ?_
  have K0 := Lib.hid (show WAt W0 w.heap.size false A l.length c from ⟨by simp [hz], by simp [hc, go_sem], by simp [hc, go_sem]⟩)
  clear hc hf hz
  obtain ⟨z0, a0, a1⟩ := K0.out
  go_upto_region 2 with (go_at_call 16; (with_reducible refine Calls.mono (OT.out _ hb) ?_); rintro e V1 ⟨A1, c1, rfl, h1, h2, h3, hbv⟩; have S1 := Lib.hid (And.intro h1 h2); have hbY := hbv; clear h1 h2 h3 hbv)
  refine under_name (w0 := V1) (by (repeat (first | with_reducible exact Bel.refl _ | with_reducible refine Bel.setCell ?_ (by first | exact Nat.le_refl _ | (dsimp only; omega)) _ | with_reducible refine Bel.alloc ?_ _ | with_reducible refine Bel.drew ?_ | with_reducible assumption | with_reducible refine Bel.trans ?_ (by assumption)))) fun W1 hc hf hz hb2 => ?_
  have K1 := Lib.hid (show WAt W1 V1.heap.size true A1 r.length c1 from ⟨by simp [hz], by simp [hc, go_sem], by simp [hc, go_sem]⟩)
  clear hc hf hz
  have hb := hb.trans (hbY.trans hb2)
  have K0 := Lib.hid (K0.out.keep (hbY.trans hb2))
  have N1 := Lib.hid S1.out.2
  have S1 := Lib.hid (S1.out.1.keep hb2)
  clear z0 a0 a1 hbY hb2
  obtain ⟨z0, a0, a1⟩ := K1.out
  go_upto_region 3 with (go_at_call 16; (with_reducible refine Calls.mono (OT2.out _ _ _ S1.out) ?_); rintro e V2 ⟨A2, c2, rfl, h1, h2, h3, hbv⟩; have S2 := Lib.hid (And.intro h1 h2); have hbY := hbv; clear h1 h2 h3 hbv)
  refine under_name (w0 := V2) (by (repeat (first | with_reducible exact Bel.refl _ | with_reducible refine Bel.setCell ?_ (by first | exact Nat.le_refl _ | (dsimp only; omega)) _ | with_reducible refine Bel.alloc ?_ _ | with_reducible refine Bel.drew ?_ | with_reducible assumption | with_reducible refine Bel.trans ?_ (by assumption)))) fun W2 hc hf hz hb2 => ?_
  have K2 := Lib.hid (show WAt W2 V2.heap.size (!true) A2 r.length c2 from ⟨by simp [hz], by simp [hc, go_sem], by simp [hc, go_sem]⟩)
  clear hc hf hz
  have hb := hb.trans (hbY.trans hb2)
  have K0 := Lib.hid (K0.out.keep (hbY.trans hb2))
  have K1 := Lib.hid (K1.out.keep (hbY.trans hb2))
  have S1 := Lib.hid (S1.out.keep (hbY.trans hb2))
  have S2 := Lib.hid (S2.out.1.keep hb2)
  clear z0 a0 a1 hbY hb2
  obtain ⟨z0, a0, a1⟩ := K0.out
  go_upto_region 4 with (go_at_call 8; (with_reducible refine Calls.mono (MK.out _ hb) ?_); rintro e V3 ⟨A3, c3, rfl, h1, h2, h3, hbv⟩; have S3 := Lib.hid (And.intro h1 h2); have hbY := hbv; clear h1 h2 h3 hbv)
  refine under_name (w0 := V3) (by (repeat (first | with_reducible exact Bel.refl _ | with_reducible refine Bel.setCell ?_ (by first | exact Nat.le_refl _ | (dsimp only; omega)) _ | with_reducible refine Bel.alloc ?_ _ | with_reducible refine Bel.drew ?_ | with_reducible assumption | with_reducible refine Bel.trans ?_ (by assumption)))) fun W3 hc hf hz hb2 => ?_
  have K3 := Lib.hid (show WAt W3 V3.heap.size false A3 r.length c3 from ⟨by simp [hz], by simp [hc, go_sem], by simp [hc, go_sem]⟩)
  clear hc hf hz
  have hb := hb.trans (hbY.trans hb2)
  have K0 := Lib.hid (K0.out.keep (hbY.trans hb2))
  have K1 := Lib.hid (K1.out.keep (hbY.trans hb2))
  have K2 := Lib.hid (K2.out.keep (hbY.trans hb2))
  have S1 := Lib.hid (S1.out.keep (hbY.trans hb2))
  have S2 := Lib.hid (S2.out.keep (hbY.trans hb2))
  have S3 := Lib.hid (S3.out.1.keep hb2)
  clear z0 a0 a1 hbY hb2
  obtain ⟨z0, a0, a1⟩ := K0.out
  obtain ⟨z1, b0, b1⟩ := K1.out
  go_upto_region 5 with (go_at_call 15; (with_reducible refine Calls.mono (ME.out _ _ _ hb S1.out N1.out) ?_); rintro e V4 ⟨A4, c4, rfl, h1, h2, h3, hbv⟩; have S4 := Lib.hid (And.intro h1 h2); have hbY := hbv; clear h1 h2 h3 hbv)
  refine under_name (w0 := V4) (by (repeat (first | with_reducible exact Bel.refl _ | with_reducible refine Bel.setCell ?_ (by first | exact Nat.le_refl _ | (dsimp only; omega)) _ | with_reducible refine Bel.alloc ?_ _ | with_reducible refine Bel.drew ?_ | with_reducible assumption | with_reducible refine Bel.trans ?_ (by assumption)))) fun W4 hc hf hz hb2 => ?_
  have K4 := Lib.hid (show WAt W4 V4.heap.size false A4 ([] : List ByteArray).length c4 from ⟨by simp [hz], by simp [hc, go_sem], by simp [hc, go_sem]⟩)
  clear hc hf hz
  have hb := hb.trans (hbY.trans hb2)
  have K2 := Lib.hid (K2.out.keep (hbY.trans hb2))
  have K3 := Lib.hid (K3.out.keep (hbY.trans hb2))
  have S2 := Lib.hid (S2.out.keep (hbY.trans hb2))
  have S3 := Lib.hid (S3.out.keep (hbY.trans hb2))
  clear z0 a0 a1 z1 b0 b1 hbY hb2 K0 K1 S1 N1 S4 OT OT2 MK ME
  generalize w.heap.size = B0 at *
  generalize V2.heap.size = B2 at *
  generalize V3.heap.size = B3 at *
  generalize V4.heap.size = B4 at *
  obtain ⟨z2, a0, a1⟩ := K2.out
  obtain ⟨z3, b0, b1⟩ := K3.out
  obtain ⟨z4, d0, d1⟩ := K4.out
  simp only [Bool.not_true, Bool.not_false, List.length_nil] at a0 b0 d0 d1
  go_upto_region 7 with (first
    | (go_at_call 9; (with_reducible refine Calls.mono (awake_any _ (HT.out.keep (by assumption))) ?_); rintro e W5 ⟨rfl, hb5⟩; have a0 := (hb5.cells _ _ z2).trans a0; have a1 := (hb5.cells _ _ z2).trans a1; have b0 := (hb5.cells _ _ z3).trans b0; have b1 := (hb5.cells _ _ z3).trans b1; have d0 := (hb5.cells _ _ z4).trans d0; have d1 := (hb5.cells _ _ z4).trans d1; have z2 := Nat.lt_of_lt_of_le z2 hb5.size; have z3 := Nat.lt_of_lt_of_le z3 hb5.size; have S2 := Lib.hid (S2.out.keep hb5); have S3 := Lib.hid (S3.out.keep hb5); have hb := hb.trans hb5; clear hb5)
    | (go_at_call 11; (with_reducible refine Calls.mono (EM.out _ _ _) ?_); rintro e W6 ⟨rfl, hb6⟩; have a1 := (hb6.cells _ _ z2).trans a1; have b1 := (hb6.cells _ _ z3).trans b1; have z2 := Nat.lt_of_lt_of_le z2 hb6.size; have z3 := Nat.lt_of_lt_of_le z3 hb6.size; have S2 := Lib.hid (S2.out.keep hb6); have S3 := Lib.hid (S3.out.keep hb6); have hb := hb.trans hb6; clear hb6))
  have HB := Lib.hid hb
  clear hb EM KL
  go_wp2
  go_loopg [7] r.length (fun g i wr => ∃ k : Nat, i = .int .i64 k ∧ k ≤ r.length ∧ Hid (g = r.length - k) ∧ Bel W6 wr)
  case atStart => exact ⟨0, rfl, Nat.zero_le _, rfl, Bel.refl _⟩
  case round =>
    obtain ⟨k, rfl, hk, hh, hb3⟩ := hrel
    have a1 := (hb3.cells _ _ z2).trans a1
    have b1 := (hb3.cells _ _ z3).trans b1
    have z2 := Nat.lt_of_lt_of_le z2 hb3.size
    have z3 := Nat.lt_of_lt_of_le z3 hb3.size
    by_cases hlt : k < r.length
    · obtain ⟨x, hxk⟩ : ∃ x, r[k]? = some x := ⟨_, List.getElem?_eq_getElem hlt⟩
      obtain ⟨b2, o2, rfl, hl2, hat2⟩ := (S2.out.keep hb3).blk (by omega)
      obtain ⟨b3, o3, rfl, hl3, hat3⟩ := (S3.out.keep hb3).blk (by omega)
      have q2 := hat2 k x hxk
      have q3 := hat3 k x hxk
      have i1 : (k : Int) < r.length := by omega
      have i2 : (0 : Int) ≤ (k : Int) := by omega
      clear hat2 hat3 hxk S2 S3
      go_wp2_with fail
      refine wp_region_uni (S := (fun w' => Bel wr w' ∧ (∀ b o, b < wr.heap.size → w'.cell? ⟨b, o, none⟩ = wr.cell? ⟨b, o, none⟩))) (by kernel_rfl) (by kernel_rfl) keep0 ?_
      repeat (first | (refine wpUni_skip (by rfl) ?_; (try simp only [Act.put, List.setIfInBounds_toArray, List.set_cons_zero, List.set_cons_succ]))
                                                            | (refine wpUni_value (by rfl) (fun w hS => by (try dsimp only at hS); go_simp; first | done | with_reducible rfl) ?_; (try simp only [Act.put, List.setIfInBounds_toArray, List.set_cons_zero, List.set_cons_succ])))
      refine wpUni_nil fun W9 hS => ?_
      have hb9 := hb3.trans hS.1
      clear hS
      go_wp2_with fail
      go_roundg (r.length - (k + 1))
      case measure => have := hh.out; omega
      case rel => exact ⟨k + 1, by go_num, by omega, rfl, hb9⟩
    · obtain rfl : k = r.length := by omega
      go_wp2_with fail
      go_ret
      exact ⟨rfl, HB.out.trans hb3⟩
set_option maxRecDepth 100000 in
set_option maxHeartbeats 4000000 in
theorem law_Turns_true (l : List ByteArray) (A : Option Addr) (c : Nat) (w : World) (ht : Tab w) (hl : Strs w A l) (hA : A = none → c = 0) (hn : l.length * 16 ≤ 140737488355328) (hs : ∀ s ∈ l, Fits s) :
    Calls Tryd.prog 6 #[wset true A l.length c] w fun e w' => e = .returned (.bool true) ∧ Bel w w' := by
  have HT := Lib.hid ht
  have HL := Lib.hid hl
  have OT := Lib.hid fun W (hW : Bel w W) => other_any true l A c W (hl.keep hW) hn hs
  have MK := Lib.hid fun W (hW : Bel w W) => make_any true l A c W (hl.keep hW) hn hs
  have KL := Lib.hid (keptl_len okw l)
  have KF := Lib.hid (kept_fits (p := okw) hs)
  have KT := Lib.hid (kept_twice l)
  have OT2 := Lib.hid fun W A' c' (h : Strs W A' (keptl okw l)) => other_any false (keptl okw l) A' c' W h (by have := KL.out; omega) KF.out
  rw [KT.out] at OT2
  have ME := Lib.hid fun W A' c' (hW : Bel w W) (h : Strs W A' (keptl okw l)) (h2 : A' = none → c' = 0) => meet_any true l A c false (keptl okw l) A' c' W (hl.keep hW) h hA h2 hn (by have := KL.out; omega) (by intro a b; cases a; try cases b) hs KF.out
  rw [show meetl true l false (keptl okw l) = [] from meet_none true l] at ME
  have EM := Lib.hid fun W A' c' => empty_any false [] A' c' W Strs.nil (by simp) (by simp)
  have e1 : emptyw false [] = true := rfl
  rw [e1] at EM
  unfold wset at OT OT2 ME EM
  have HN := Lib.hid (show (keptl okw l).length ≤ 9223372036854775807 from by have := KL.out; omega)
  clear ht hl hA hs KT KF e1
  generalize keptl okw l = r at OT MK OT2 ME KL HN
  have hri : (r.length : Int) ≤ 9223372036854775807 := by have := HN.out; omega
  unfold wset
  go_enter Tryd.func6, Tryd.ntmps6
  go_upto_region 1 with fail
  refine under_name ((Bel.refl w).alloc _) fun W0 hc hf hz hb => ?_
  have K0 := Lib.hid (show WAt W0 w.heap.size true A l.length c from ⟨by simp [hz], by simp [hc, go_sem], by simp [hc, go_sem]⟩)
  clear hc hf hz
  obtain ⟨z0, a0, a1⟩ := K0.out
  go_upto_region 2 with (go_at_call 16; (with_reducible refine Calls.mono (OT.out _ hb) ?_); rintro e V1 ⟨A1, c1, rfl, h1, h2, h3, hbv⟩; have S1 := Lib.hid (And.intro h1 h2); have hbY := hbv; clear h1 h2 h3 hbv)
  refine under_name (w0 := V1) (by (repeat (first | with_reducible exact Bel.refl _ | with_reducible refine Bel.setCell ?_ (by first | exact Nat.le_refl _ | (dsimp only; omega)) _ | with_reducible refine Bel.alloc ?_ _ | with_reducible refine Bel.drew ?_ | with_reducible assumption | with_reducible refine Bel.trans ?_ (by assumption)))) fun W1 hc hf hz hb2 => ?_
  have K1 := Lib.hid (show WAt W1 V1.heap.size false A1 r.length c1 from ⟨by simp [hz], by simp [hc, go_sem], by simp [hc, go_sem]⟩)
  clear hc hf hz
  have hb := hb.trans (hbY.trans hb2)
  have K0 := Lib.hid (K0.out.keep (hbY.trans hb2))
  have N1 := Lib.hid S1.out.2
  have S1 := Lib.hid (S1.out.1.keep hb2)
  clear z0 a0 a1 hbY hb2
  obtain ⟨z0, a0, a1⟩ := K1.out
  go_upto_region 3 with (go_at_call 16; (with_reducible refine Calls.mono (OT2.out _ _ _ S1.out) ?_); rintro e V2 ⟨A2, c2, rfl, h1, h2, h3, hbv⟩; have S2 := Lib.hid (And.intro h1 h2); have hbY := hbv; clear h1 h2 h3 hbv)
  refine under_name (w0 := V2) (by (repeat (first | with_reducible exact Bel.refl _ | with_reducible refine Bel.setCell ?_ (by first | exact Nat.le_refl _ | (dsimp only; omega)) _ | with_reducible refine Bel.alloc ?_ _ | with_reducible refine Bel.drew ?_ | with_reducible assumption | with_reducible refine Bel.trans ?_ (by assumption)))) fun W2 hc hf hz hb2 => ?_
  have K2 := Lib.hid (show WAt W2 V2.heap.size (!false) A2 r.length c2 from ⟨by simp [hz], by simp [hc, go_sem], by simp [hc, go_sem]⟩)
  clear hc hf hz
  have hb := hb.trans (hbY.trans hb2)
  have K0 := Lib.hid (K0.out.keep (hbY.trans hb2))
  have K1 := Lib.hid (K1.out.keep (hbY.trans hb2))
  have S1 := Lib.hid (S1.out.keep (hbY.trans hb2))
  have S2 := Lib.hid (S2.out.1.keep hb2)
  clear z0 a0 a1 hbY hb2
  obtain ⟨z0, a0, a1⟩ := K0.out
  go_upto_region 4 with (go_at_call 8; (with_reducible refine Calls.mono (MK.out _ hb) ?_); rintro e V3 ⟨A3, c3, rfl, h1, h2, h3, hbv⟩; have S3 := Lib.hid (And.intro h1 h2); have hbY := hbv; clear h1 h2 h3 hbv)
  refine under_name (w0 := V3) (by (repeat (first | with_reducible exact Bel.refl _ | with_reducible refine Bel.setCell ?_ (by first | exact Nat.le_refl _ | (dsimp only; omega)) _ | with_reducible refine Bel.alloc ?_ _ | with_reducible refine Bel.drew ?_ | with_reducible assumption | with_reducible refine Bel.trans ?_ (by assumption)))) fun W3 hc hf hz hb2 => ?_
  have K3 := Lib.hid (show WAt W3 V3.heap.size true A3 r.length c3 from ⟨by simp [hz], by simp [hc, go_sem], by simp [hc, go_sem]⟩)
  clear hc hf hz
  have hb := hb.trans (hbY.trans hb2)
  have K0 := Lib.hid (K0.out.keep (hbY.trans hb2))
  have K1 := Lib.hid (K1.out.keep (hbY.trans hb2))
  have K2 := Lib.hid (K2.out.keep (hbY.trans hb2))
  have S1 := Lib.hid (S1.out.keep (hbY.trans hb2))
  have S2 := Lib.hid (S2.out.keep (hbY.trans hb2))
  have S3 := Lib.hid (S3.out.1.keep hb2)
  clear z0 a0 a1 hbY hb2
  obtain ⟨z0, a0, a1⟩ := K0.out
  obtain ⟨z1, b0, b1⟩ := K1.out
  go_upto_region 5 with (go_at_call 15; (with_reducible refine Calls.mono (ME.out _ _ _ hb S1.out N1.out) ?_); rintro e V4 ⟨A4, c4, rfl, h1, h2, h3, hbv⟩; have S4 := Lib.hid (And.intro h1 h2); have hbY := hbv; clear h1 h2 h3 hbv)
  refine under_name (w0 := V4) (by (repeat (first | with_reducible exact Bel.refl _ | with_reducible refine Bel.setCell ?_ (by first | exact Nat.le_refl _ | (dsimp only; omega)) _ | with_reducible refine Bel.alloc ?_ _ | with_reducible refine Bel.drew ?_ | with_reducible assumption | with_reducible refine Bel.trans ?_ (by assumption)))) fun W4 hc hf hz hb2 => ?_
  have K4 := Lib.hid (show WAt W4 V4.heap.size false A4 ([] : List ByteArray).length c4 from ⟨by simp [hz], by simp [hc, go_sem], by simp [hc, go_sem]⟩)
  clear hc hf hz
  have hb := hb.trans (hbY.trans hb2)
  have K2 := Lib.hid (K2.out.keep (hbY.trans hb2))
  have K3 := Lib.hid (K3.out.keep (hbY.trans hb2))
  have S2 := Lib.hid (S2.out.keep (hbY.trans hb2))
  have S3 := Lib.hid (S3.out.keep (hbY.trans hb2))
  clear z0 a0 a1 z1 b0 b1 hbY hb2 K0 K1 S1 N1 S4 OT OT2 MK ME
  generalize w.heap.size = B0 at *
  generalize V2.heap.size = B2 at *
  generalize V3.heap.size = B3 at *
  generalize V4.heap.size = B4 at *
  obtain ⟨z2, a0, a1⟩ := K2.out
  obtain ⟨z3, b0, b1⟩ := K3.out
  obtain ⟨z4, d0, d1⟩ := K4.out
  simp only [Bool.not_true, Bool.not_false, List.length_nil] at a0 b0 d0 d1
  go_upto_region 7 with (first
    | (go_at_call 9; (with_reducible refine Calls.mono (awake_any _ (HT.out.keep (by assumption))) ?_); rintro e W5 ⟨rfl, hb5⟩; have a0 := (hb5.cells _ _ z2).trans a0; have a1 := (hb5.cells _ _ z2).trans a1; have b0 := (hb5.cells _ _ z3).trans b0; have b1 := (hb5.cells _ _ z3).trans b1; have d0 := (hb5.cells _ _ z4).trans d0; have d1 := (hb5.cells _ _ z4).trans d1; have z2 := Nat.lt_of_lt_of_le z2 hb5.size; have z3 := Nat.lt_of_lt_of_le z3 hb5.size; have S2 := Lib.hid (S2.out.keep hb5); have S3 := Lib.hid (S3.out.keep hb5); have hb := hb.trans hb5; clear hb5)
    | (go_at_call 11; (with_reducible refine Calls.mono (EM.out _ _ _) ?_); rintro e W6 ⟨rfl, hb6⟩; have a1 := (hb6.cells _ _ z2).trans a1; have b1 := (hb6.cells _ _ z3).trans b1; have z2 := Nat.lt_of_lt_of_le z2 hb6.size; have z3 := Nat.lt_of_lt_of_le z3 hb6.size; have S2 := Lib.hid (S2.out.keep hb6); have S3 := Lib.hid (S3.out.keep hb6); have hb := hb.trans hb6; clear hb6))
  have HB := Lib.hid hb
  clear hb EM KL
  go_wp2
  go_loopg [7] r.length (fun g i wr => ∃ k : Nat, i = .int .i64 k ∧ k ≤ r.length ∧ Hid (g = r.length - k) ∧ Bel W6 wr)
  case atStart => exact ⟨0, rfl, Nat.zero_le _, rfl, Bel.refl _⟩
  case round =>
    obtain ⟨k, rfl, hk, hh, hb3⟩ := hrel
    have a1 := (hb3.cells _ _ z2).trans a1
    have b1 := (hb3.cells _ _ z3).trans b1
    have z2 := Nat.lt_of_lt_of_le z2 hb3.size
    have z3 := Nat.lt_of_lt_of_le z3 hb3.size
    by_cases hlt : k < r.length
    · obtain ⟨x, hxk⟩ : ∃ x, r[k]? = some x := ⟨_, List.getElem?_eq_getElem hlt⟩
      obtain ⟨b2, o2, rfl, hl2, hat2⟩ := (S2.out.keep hb3).blk (by omega)
      obtain ⟨b3, o3, rfl, hl3, hat3⟩ := (S3.out.keep hb3).blk (by omega)
      have q2 := hat2 k x hxk
      have q3 := hat3 k x hxk
      have i1 : (k : Int) < r.length := by omega
      have i2 : (0 : Int) ≤ (k : Int) := by omega
      clear hat2 hat3 hxk S2 S3
      go_wp2_with fail
      refine wp_region_uni (S := (fun w' => Bel wr w' ∧ (∀ b o, b < wr.heap.size → w'.cell? ⟨b, o, none⟩ = wr.cell? ⟨b, o, none⟩))) (by kernel_rfl) (by kernel_rfl) keep0 ?_
      repeat (first | (refine wpUni_skip (by rfl) ?_; (try simp only [Act.put, List.setIfInBounds_toArray, List.set_cons_zero, List.set_cons_succ]))
                                                            | (refine wpUni_value (by rfl) (fun w hS => by (try dsimp only at hS); go_simp; first | done | with_reducible rfl) ?_; (try simp only [Act.put, List.setIfInBounds_toArray, List.set_cons_zero, List.set_cons_succ])))
      refine wpUni_nil fun W9 hS => ?_
      have hb9 := hb3.trans hS.1
      clear hS
      go_wp2_with fail
      go_roundg (r.length - (k + 1))
      case measure => have := hh.out; omega
      case rel => exact ⟨k + 1, by go_num, by omega, rfl, hb9⟩
    · obtain rfl : k = r.length := by omega
      go_wp2_with fail
      go_ret
      exact ⟨rfl, HB.out.trans hb3⟩
theorem law_Turns (all : Bool) (l : List ByteArray) (A : Option Addr) (c : Nat) (w : World) (ht : Tab w) (hl : Strs w A l) (hA : A = none → c = 0) (hn : l.length * 16 ≤ 140737488355328) (hs : ∀ s ∈ l, Fits s) :
    Calls Tryd.prog 6 #[.agg #[.bool all, .slice A l.length c]] w fun e w' => e = .returned (.bool true) ∧ Bel w w' := by
  cases all with
  | false => exact law_Turns_false l A c w ht hl hA hn hs
  | true => exact law_Turns_true l A c w ht hl hA hn hs
end Go.Proofs.YtemciabindjkeaaDoor
