import Derived.Test.YtjckpkamhdbcnaaGreatDoorZd
namespace Go.Proofs.YtjckpkamhdbcnaaGreatDoor
set_option linter.unusedSimpArgs false
set_option linter.unusedVariables false
open Go.RowKit
attribute [local go_sem ↓] Qas Qau
def tval (b : Bool) : Val := ⟨3, 0, 0, ⟨#[]⟩, if b then 1 else 0⟩
set_option maxHeartbeats 400000 in
theorem Qcz (w : World) : Calls Tryz.prog 36 #[.bool true] w fun e w' => e = .returned (Val.val ⟨3, 0, 0, ⟨#[]⟩, 1⟩) /\ Bel w w' := by
 go_enter Tryz.func36, Tryz.ntmps36
 go_wp2
 exact pR (by simp [results, Tryz.results36, go_sem]) rfl ⟨rfl, (Bel.refl _).alloc _⟩
set_option maxHeartbeats 400000 in
theorem Qep (w : World) : Calls Tryz.prog 36 #[.bool false] w fun e w' => e = .returned (Val.val ⟨3, 0, 0, ⟨#[]⟩, 0⟩) /\ Bel w w' := by
 go_enter Tryz.func36, Tryz.ntmps36
 go_wp2
 exact pR (by simp [results, Tryz.results36, go_sem]) rfl ⟨rfl, (Bel.refl _).alloc _⟩
set_option maxHeartbeats 400000 in
theorem Qsx (v : Val) (w : World) : Calls Tryz.prog 54 #[v.val] w fun e w' => e = .returned (.bool (veq v (tval true))) /\ Bel w w' := by
 obtain ⟨k, n, s, t, m⟩ := v
 go_enter Tryz.func54, Tryz.ntmps54
 go_wp2_with fail
 refine uN ((Bel.refl w).alloc _) fun W hc hf hz hb => ?_
 go_region_held3 (fun w' => Bel W w' /\ (∀ b o, b < W.heap.size -> w'.cell? ⟨b, o, none⟩ = W.cell? ⟨b, o, none⟩)) (first | exact keep0 | exact keep1 ‹_› ‹_›) ((go_at_call 36; refine (Qcz _).mono ?_; rintro e w' ⟨rfl, hb1⟩))
 go_wp2
 go_ret
 exact ⟨rfl, hb.trans (And.left ‹Bel W w' /\ _›)⟩
theorem three (v : Val) : (veq v (tval true) = true /\ veq v (tval false) = false) \/ (veq v (tval true) = false /\ veq v (tval false) = true) \/ (veq v (tval true) = false /\ veq v (tval false) = false) := by
 unfold veq
 by_cases h : v = tval true
 ·left; subst h; decide
 by_cases h' : v = tval false
 ·right; left; subst h'; decide
 right; right; simp [h, h']
def zero : Val := ⟨0, 0, 0, ⟨#[]⟩, 0⟩
def allAre (d : Bool) (vs : List Val) : Bool := vs.all fun v => veq v (tval d)
def noneIs (d : Bool) (vs : List Val) : Bool := vs.all fun v => !veq v (tval d)
def jr (d : Bool) (vs : List Val) : Val := if allAre (!d) vs then tval (!d) else zero
def jn (d : Bool) (vs : List Val) : Val := if noneIs d vs then jr d vs else tval d
theorem Qge {α : Type} (l : List α) (k : Nat) (v : α) (h : l[k]? = some v) : l.take (k + 1) = l.take k ++ [v] := by
 rw [List.take_add_one, h]; rfl
theorem Qcg (d : Bool) (vs : List Val) (k : Nat) (v : Val) (h : vs[k]? = some v) : noneIs d (vs.take (k + 1)) = (noneIs d (vs.take k) && !veq v (tval d)) := by
 rw [Qge vs k v h]; simp [noneIs]
theorem Qch (d : Bool) (vs : List Val) (k : Nat) (v : Val) (h : vs[k]? = some v) : allAre d (vs.take (k + 1)) = (allAre d (vs.take k) && veq v (tval d)) := by
 rw [Qge vs k v h]; simp [allAre]
theorem three' (v : Val) : (veq v (tval false) = true /\ veq v (tval true) = false) \/ (veq v (tval false) = false /\ veq v (tval true) = true) \/ (veq v (tval false) = false /\ veq v (tval true) = false) := by
 rcases three v with ⟨a, b⟩ | ⟨a, b⟩ | ⟨a, b⟩ <;> simp [a, b]
theorem Qsy (d : Bool) (vs : List Val) (k : Nat) (v : Val) (h : vs[k]? = some v) (hv : veq v (tval d) = true) : jn d vs = tval d := by
 unfold jn
 rw [iN]
 intro hn
 unfold noneIs at hn
 rw [List.all_eq_true] at hn
 have := hn v (List.mem_of_getElem? h)
 simp [hv] at this
set_option maxHeartbeats 1000000 in
theorem Qrk (vs : List Val) (A : Option Addr) (c : Nat) (w : World) (hv : Vals w A vs) (hl : vs.length <= maxLen) :
  Calls Tryz.prog 82 #[.bool false, .slice A vs.length c] w fun e w' => e = .returned (jn false vs).val /\ Bel w w' := by
 unfold maxLen at hl
 go_enter Tryz.func82, Tryz.ntmps82
 go_wp2_with (go_at_call 36; refine (Qcz _).mono ?_; rintro e w1 ⟨rfl, hb1⟩)
 have hv0 : Qal w1 w.heap.size 0 zero := Qal.keep (w := w.alloc _) (v := zero) (by simp [Qal, go_sem, zero]) hb1 (by simp)
 have hf0 : Qah w1 w.heap.size := Qah.keep (w := w.alloc _) (by simp [Qah, go_sem]) hb1 (by simp)
 have hs1 : w.heap.size < w1.heap.size := by have := hb1.size; simp at this; omega
 replace hb1 : Bel w w1 := ((Bel.refl w).alloc _).trans hb1
 go_loopw [13] (fun i wr => ∃ k : Nat, k <= vs.length /\ i = .int .i64 k /\ noneIs false (vs.take k) = true /\ Bel w wr /\ w1.heap.size < wr.heap.size /\ Qal wr w1.heap.size 0 (jr false (vs.take k)) /\ Qah wr w1.heap.size /\ Qal wr w.heap.size 0 zero /\ Qah wr w.heap.size)
  (fun i _ => vs.length - (intOf i).toNat)
 case atStart => exact ⟨0, by omega, rfl, rfl, hb1.alloc _, by simp, by simp [Qal, go_sem, jr, allAre, tval], by simp [Qah, go_sem], hv0.keep ((Bel.refl _).alloc _) hs1, hf0.keep ((Bel.refl _).alloc _) hs1⟩
 case round =>
  obtain ⟨k, hk, rfl, hnone, hb, hsz, hr, hfr, h4, hf4⟩ := hrel
  by_cases hlt : k < vs.length
  ·obtain ⟨b, off, rfl, hbl, hcell⟩ := hv (by omega)
   obtain ⟨⟨k0, n0, s0, t0, m0⟩, hv0⟩ : ∃ v, vs[k]? = some v := ⟨_, gE hlt⟩
   have hbw := lL hbl hb.size
   have hV := (hcell k _ hv0).keep hb hbl
   clear hcell
   have Hn := Hd hnone
   clear hnone
   have H3 := three ⟨k0, n0, s0, t0, m0⟩
   have Hv := Hd hv0
   clear hv0
   rcases H3 with ⟨e1, e2⟩ | ⟨e1, e2⟩ | ⟨e1, e2⟩
   all_goals
    have E1 := Hd e1
    have E2 := Hd e2
    simp only [tval, if_true, Bool.false_eq_true, if_false] at e1 e2
    go_wp2_with fail
    refine uN ((Bel.refl wr).alloc _) fun W hc hf hz hbW => ?_
    go_region_held3 (fun w' => Bel W w' /\ (∀ b o, b < W.heap.size -> w'.cell? ⟨b, o, none⟩ = W.cell? ⟨b, o, none⟩)) (first | exact keep0 | exact keep1 ‹_› ‹_›) ((go_at_call 36; refine (Qep _).mono ?_; rintro e w2 ⟨rfl, hb2⟩))
    rename_i hH
    have hbw2 : Bel wr w2 := hbW.trans hH.1
    have hF0 := (hf4.keep hbw2 (by omega))
    have hF5 := (hfr.keep hbw2 hsz)
    have hV0 := (h4.keep hbw2 (by omega))
    have hV5 := (hr.keep hbw2 hsz)
    have hV7 : Qal w2 wr.heap.size 0 ⟨k0, n0, s0, t0, m0⟩ := Qal.keep (w := W) (by simp [Qal, hc, go_sem]) hH.1 (by simp [hz])
    have hs2 : wr.heap.size < w2.heap.size := by have := hH.1.size; simp [hz] at this; omega
    have hs5 : w1.heap.size < w2.heap.size := by omega
    have hs4 : w.heap.size < w2.heap.size := by omega
    clear hH hc hf hz h4 hr hf4 hfr hbW hV
   ·go_wp2_with fail
    go_region_held3 (fun w' => Bel w2 w' /\ (∀ b o, b < w2.heap.size -> w'.cell? ⟨b, o, none⟩ = w2.cell? ⟨b, o, none⟩)) (first | exact keep0 | exact keep1 ‹_› ‹_›) ((go_at_call 36; refine (Qcz _).mono ?_; rintro e w3 ⟨rfl, hb3⟩))
    rename_i hH
    have hbw3 := hbw2.trans hH.1
    have K1 := hF0.keep hH.1 hs4
    have K2 := hF5.keep hH.1 hs5
    have K3 := hV0.keep hH.1 hs4
    have K4 := hV5.keep hH.1 hs5
    have hs6 := lL hs5 hH.1.size
    clear hH hF0 hF5 hV0 hV5 hV7
    have Hr : Hid (jr false (vs.take (k + 1)) = jr false (vs.take k)) := by
     unfold Hid jr; rw [Qch _ _ _ _ Hv.out]; simp [E1.out]
    have Hn' : Hid (noneIs false (vs.take (k + 1)) = true) := by
     unfold Hid; rw [Qcg _ _ _ _ Hv.out, Hn.out, E2.out]; rfl
    go_wp2_with fail
    go_roundw
    case rel => exact ⟨k + 1, by omega, by go_num, Hn'.out, hb.trans hbw3, hs6, by rw [Hr.out]; exact K4, K2, K3, K1⟩
    case measure => simp [intOf]; omega
   ·have Hj : Hid (jn false vs = tval false) := Qsy _ _ _ _ Hv.out E2.out
    go_wp2_with fail
    refine pR (by simp [results, Tryz.results82, go_sem, hV0]; rfl) rfl ⟨?_, ?_⟩
    ·rw [Hj.out, ← (Qa8 _ _).1 E2.out]
    repeat (first | exact hb.trans hbw2 | refine Bel.setCell ?_ (Nat.le_refl _) _)
   go_wp2_with fail
   go_region_held3 (fun w' => Bel w2 w' /\ (∀ b o, b < w2.heap.size -> w'.cell? ⟨b, o, none⟩ = w2.cell? ⟨b, o, none⟩)) (first | exact keep0 | exact keep1 ‹_› ‹_›) ((go_at_call 36; refine (Qcz _).mono ?_; rintro e w3 ⟨rfl, hb3⟩))
   rename_i hH
   have hbw3 := hbw2.trans hH.1
   have K1 := hF0.keep hH.1 hs4
   have K2 := hF5.keep hH.1 hs5
   have K3 := hV0.keep hH.1 hs4
   have K4 := hV5.keep hH.1 hs5
   have hs6 := lL hs5 hH.1.size
   clear hH hF0 hF5 hV0 hV5 hV7
   have Hr : Hid (jr false (vs.take (k + 1)) = zero) := by
    unfold Hid jr; rw [Qch _ _ _ _ Hv.out]; simp [E1.out]
   have Hn' : Hid (noneIs false (vs.take (k + 1)) = true) := by
    unfold Hid; rw [Qcg _ _ _ _ Hv.out, Hn.out, E2.out]; rfl
   go_wp2_with fail
   go_roundw
   case rel =>
    have hne : w.heap.size ≠ w1.heap.size := by omega
    refine ⟨k + 1, by omega, by go_num, Hn'.out, ?_, by simpa [go_sem] using hs6, by rw [Hr.out]; simp [Qal, zero, go_sem, K4], by simp [Qah, K2], by simp [Qal, K3, go_sem, hne, hne.symm], by simp [Qah, K1]⟩
    repeat (first | exact hb.trans hbw3 | refine Bel.setCell ?_ (Nat.le_of_lt hs1) _)
   case measure => simp [intOf]; omega
  go_wp2_with fail
  obtain rfl : k = vs.length := by omega
  refine pR (by simp [results, Tryz.results82, go_sem, h4]; rfl) rfl ⟨?_, ?_⟩
  ·simp at hnone ⊢
   simp [jn, hnone]
  repeat (first | exact hb | refine Bel.setCell ?_ (Nat.le_refl _) _)
set_option maxHeartbeats 1000000 in
theorem Qrl (vs : List Val) (A : Option Addr) (c : Nat) (w : World) (hv : Vals w A vs) (hl : vs.length <= maxLen) :
  Calls Tryz.prog 82 #[.bool true, .slice A vs.length c] w fun e w' => e = .returned (jn true vs).val /\ Bel w w' := by
 unfold maxLen at hl
 go_enter Tryz.func82, Tryz.ntmps82
 go_wp2_with (go_at_call 36; refine (Qep _).mono ?_; rintro e w1 ⟨rfl, hb1⟩)
 have hv0 : Qal w1 w.heap.size 0 zero := Qal.keep (w := w.alloc _) (v := zero) (by simp [Qal, go_sem, zero]) hb1 (by simp)
 have hf0 : Qah w1 w.heap.size := Qah.keep (w := w.alloc _) (by simp [Qah, go_sem]) hb1 (by simp)
 have hs1 : w.heap.size < w1.heap.size := by have := hb1.size; simp at this; omega
 replace hb1 : Bel w w1 := ((Bel.refl w).alloc _).trans hb1
 go_loopw [13] (fun i wr => ∃ k : Nat, k <= vs.length /\ i = .int .i64 k /\ noneIs true (vs.take k) = true /\ Bel w wr /\ w1.heap.size < wr.heap.size /\ Qal wr w1.heap.size 0 (jr true (vs.take k)) /\ Qah wr w1.heap.size /\ Qal wr w.heap.size 0 zero /\ Qah wr w.heap.size)
  (fun i _ => vs.length - (intOf i).toNat)
 case atStart => exact ⟨0, by omega, rfl, rfl, hb1.alloc _, by simp, by simp [Qal, go_sem, jr, allAre, tval], by simp [Qah, go_sem], hv0.keep ((Bel.refl _).alloc _) hs1, hf0.keep ((Bel.refl _).alloc _) hs1⟩
 case round =>
  obtain ⟨k, hk, rfl, hnone, hb, hsz, hr, hfr, h4, hf4⟩ := hrel
  by_cases hlt : k < vs.length
  ·obtain ⟨b, off, rfl, hbl, hcell⟩ := hv (by omega)
   obtain ⟨⟨k0, n0, s0, t0, m0⟩, hv0⟩ : ∃ v, vs[k]? = some v := ⟨_, gE hlt⟩
   have hbw := lL hbl hb.size
   have hV := (hcell k _ hv0).keep hb hbl
   clear hcell
   have Hn := Hd hnone
   clear hnone
   have H3 := three' ⟨k0, n0, s0, t0, m0⟩
   have Hv := Hd hv0
   clear hv0
   rcases H3 with ⟨e1, e2⟩ | ⟨e1, e2⟩ | ⟨e1, e2⟩
   all_goals
    have E1 := Hd e1
    have E2 := Hd e2
    simp only [tval, if_true, Bool.false_eq_true, if_false] at e1 e2
    go_wp2_with fail
    refine uN ((Bel.refl wr).alloc _) fun W hc hf hz hbW => ?_
    go_region_held3 (fun w' => Bel W w' /\ (∀ b o, b < W.heap.size -> w'.cell? ⟨b, o, none⟩ = W.cell? ⟨b, o, none⟩)) (first | exact keep0 | exact keep1 ‹_› ‹_›) ((go_at_call 36; refine (Qcz _).mono ?_; rintro e w2 ⟨rfl, hb2⟩))
    rename_i hH
    have hbw2 : Bel wr w2 := hbW.trans hH.1
    have hF0 := (hf4.keep hbw2 (by omega))
    have hF5 := (hfr.keep hbw2 hsz)
    have hV0 := (h4.keep hbw2 (by omega))
    have hV5 := (hr.keep hbw2 hsz)
    have hV7 : Qal w2 wr.heap.size 0 ⟨k0, n0, s0, t0, m0⟩ := Qal.keep (w := W) (by simp [Qal, hc, go_sem]) hH.1 (by simp [hz])
    have hs2 : wr.heap.size < w2.heap.size := by have := hH.1.size; simp [hz] at this; omega
    have hs5 : w1.heap.size < w2.heap.size := by omega
    have hs4 : w.heap.size < w2.heap.size := by omega
    clear hH hc hf hz h4 hr hf4 hfr hbW hV
   ·go_wp2_with fail
    go_region_held3 (fun w' => Bel w2 w' /\ (∀ b o, b < w2.heap.size -> w'.cell? ⟨b, o, none⟩ = w2.cell? ⟨b, o, none⟩)) (first | exact keep0 | exact keep1 ‹_› ‹_›) ((go_at_call 36; refine (Qep _).mono ?_; rintro e w3 ⟨rfl, hb3⟩))
    rename_i hH
    have hbw3 := hbw2.trans hH.1
    have K1 := hF0.keep hH.1 hs4
    have K2 := hF5.keep hH.1 hs5
    have K3 := hV0.keep hH.1 hs4
    have K4 := hV5.keep hH.1 hs5
    have hs6 := lL hs5 hH.1.size
    clear hH hF0 hF5 hV0 hV5 hV7
    have Hr : Hid (jr true (vs.take (k + 1)) = jr true (vs.take k)) := by
     unfold Hid jr; rw [Qch _ _ _ _ Hv.out]; simp [E1.out]
    have Hn' : Hid (noneIs true (vs.take (k + 1)) = true) := by
     unfold Hid; rw [Qcg _ _ _ _ Hv.out, Hn.out, E2.out]; rfl
    go_wp2_with fail
    go_roundw
    case rel => exact ⟨k + 1, by omega, by go_num, Hn'.out, hb.trans hbw3, hs6, by rw [Hr.out]; exact K4, K2, K3, K1⟩
    case measure => simp [intOf]; omega
   ·have Hj : Hid (jn true vs = tval true) := Qsy _ _ _ _ Hv.out E2.out
    go_wp2_with fail
    refine pR (by simp [results, Tryz.results82, go_sem, hV0]; rfl) rfl ⟨?_, ?_⟩
    ·rw [Hj.out, ← (Qa8 _ _).1 E2.out]
    repeat (first | exact hb.trans hbw2 | refine Bel.setCell ?_ (Nat.le_refl _) _)
   go_wp2_with fail
   go_region_held3 (fun w' => Bel w2 w' /\ (∀ b o, b < w2.heap.size -> w'.cell? ⟨b, o, none⟩ = w2.cell? ⟨b, o, none⟩)) (first | exact keep0 | exact keep1 ‹_› ‹_›) ((go_at_call 36; refine (Qep _).mono ?_; rintro e w3 ⟨rfl, hb3⟩))
   rename_i hH
   have hbw3 := hbw2.trans hH.1
   have K1 := hF0.keep hH.1 hs4
   have K2 := hF5.keep hH.1 hs5
   have K3 := hV0.keep hH.1 hs4
   have K4 := hV5.keep hH.1 hs5
   have hs6 := lL hs5 hH.1.size
   clear hH hF0 hF5 hV0 hV5 hV7
   have Hr : Hid (jr true (vs.take (k + 1)) = zero) := by
    unfold Hid jr; rw [Qch _ _ _ _ Hv.out]; simp [E1.out]
   have Hn' : Hid (noneIs true (vs.take (k + 1)) = true) := by
    unfold Hid; rw [Qcg _ _ _ _ Hv.out, Hn.out, E2.out]; rfl
   go_wp2_with fail
   go_roundw
   case rel =>
    have hne : w.heap.size ≠ w1.heap.size := by omega
    refine ⟨k + 1, by omega, by go_num, Hn'.out, ?_, by simpa [go_sem] using hs6, by rw [Hr.out]; simp [Qal, zero, go_sem, K4], by simp [Qah, K2], by simp [Qal, K3, go_sem, hne, hne.symm], by simp [Qah, K1]⟩
    repeat (first | exact hb.trans hbw3 | refine Bel.setCell ?_ (Nat.le_of_lt hs1) _)
   case measure => simp [intOf]; omega
  go_wp2_with fail
  obtain rfl : k = vs.length := by omega
  refine pR (by simp [results, Tryz.results82, go_sem, h4]; rfl) rfl ⟨?_, ?_⟩
  ·simp at hnone ⊢
   simp [jn, hnone]
  repeat (first | exact hb | refine Bel.setCell ?_ (Nat.le_refl _) _)
theorem Quu (vs : List Val) (A : Option Addr) (c : Nat) (w : World) (hv : Vals w A vs) (hl : vs.length <= maxLen) :
  Calls Tryz.prog 52 #[.slice A vs.length c] w fun e w' => e = .returned (jn false vs).val /\ Bel w w' := by
 go_enter Tryz.func52, Tryz.ntmps52
 go_wp2_with (go_at_call 82; refine (Qrk vs A c _ (hv.keep ((Bel.refl w).alloc _)) hl).mono ?_; rintro e w1 ⟨rfl, hb1⟩; have hc1 := hb1.cells; have hf1 := hb1.frozens)
 refine pR (by simp [results, Tryz.results52, go_sem, hc1]) rfl ⟨rfl, ?_⟩
 exact Bel.y
theorem Qwh (vs : List Val) (A : Option Addr) (c : Nat) (w : World) (hv : Vals w A vs) (hl : vs.length <= maxLen) :
  Calls Tryz.prog 53 #[.slice A vs.length c] w fun e w' => e = .returned (jn true vs).val /\ Bel w w' := by
 go_enter Tryz.func53, Tryz.ntmps53
 go_wp2_with (go_at_call 82; refine (Qrl vs A c _ (hv.keep ((Bel.refl w).alloc _)) hl).mono ?_; rintro e w1 ⟨rfl, hb1⟩; have hc1 := hb1.cells; have hf1 := hb1.frozens)
 refine pR (by simp [results, Tryz.results53, go_sem, hc1]) rfl ⟨rfl, ?_⟩
 exact Bel.y
def nt (v : Val) : Val := if veq v (tval true) then tval false else if veq v (tval false) then tval true else zero
set_option maxHeartbeats 400000 in
theorem Qha (v : Val) (w : World) : Calls Tryz.prog 51 #[v.val] w fun e w' => e = .returned (nt v).val /\ Bel w w' := by
 have H3 := three v
 have HN : Hid (nt v = if veq v (tval true) then tval false else if veq v (tval false) then tval true else zero) := rfl
 obtain ⟨k0, n0, s0, t0, m0⟩ := v
 rcases H3 with ⟨e1, e2⟩ | ⟨e1, e2⟩ | ⟨e1, e2⟩
 all_goals
  rw [e1, e2] at HN
  simp only [tval, zero, if_true, Bool.false_eq_true, if_false] at e1 e2 HN
  go_enter Tryz.func51, Tryz.ntmps51
  go_wp2_with fail
  refine (Qcz _).mono ?_
  rintro e w1 ⟨rfl, hb1⟩
  have s1 := (Qna w _ zero).keep hb1
  go_wp2_with fail
  refine (Qep _).mono ?_
  rintro e w2 ⟨rfl, hb2⟩
  have s2 := s1.keep hb2
  clear s1
  go_wp2_with (go_at_call 36; refine (Qcz _).mono ?_; rintro e w3 ⟨rfl, hb3⟩; have s3 := s2.keep hb3)
  refine pR (by first | (simp [results, Tryz.results51, go_sem, s3]; rfl) | (simp [results, Tryz.results51, go_sem, s2]; rfl)) rfl ⟨by rw [HN.out], ?_⟩
  exact Bel.y
theorem Qku (w : World) (v : Val) {n : Nat} (hn : n = w.heap.size) : Vals (w.alloc (.cells #[.int .i64 v.kind, .int .i64 v.n, .int .i64 v.scale, .string v.text, .int .i64 v.num] 25)) (some ⟨n, 0, none⟩) [v] := fun _ => by
 subst hn
 refine ⟨_, 0, rfl, by simp, fun i u hu => ?_⟩
 match i, hu with
 | 0, hu =>
  simp only [List.getElem?_cons_zero, Option.some.injEq] at hu
  subst hu
  simp [Qal, go_sem]
theorem Qkv (w : World) (v u : Val) : Vals (w.alloc (.cells #[.int .i64 v.kind, .int .i64 v.n, .int .i64 v.scale, .string v.text, .int .i64 v.num, .int .i64 u.kind, .int .i64 u.n, .int .i64 u.scale, .string u.text, .int .i64 u.num] 25)) (some ⟨w.heap.size, 0, none⟩) [v, u] := fun _ => by
 refine ⟨_, 0, rfl, by simp, fun i x hx => ?_⟩
 match i, hx with
 | 0, hx =>
  simp only [List.getElem?_cons_zero, Option.some.injEq] at hx
  subst hx
  simp [Qal, go_sem]
 | 1, hx =>
  simp only [List.getElem?_cons_succ, List.getElem?_cons_zero, Option.some.injEq] at hx
  subst hx
  simp [Qal, go_sem]
theorem Qhb (v : Val) : veq v v = true := by simp [veq]
theorem Qd8 (b : Bool) (w : World) : Calls Tryz.prog 36 #[.bool b] w fun e w' => e = .returned (tval b).val /\ Bel w w' := by
 cases b
 ·exact Qep w
 exact Qcz w
end Go.Proofs.YtjckpkamhdbcnaaGreatDoor
