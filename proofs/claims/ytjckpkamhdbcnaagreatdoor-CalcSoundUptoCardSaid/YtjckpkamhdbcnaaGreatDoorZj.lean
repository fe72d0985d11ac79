import Derived.Test.YtjckpkamhdbcnaaGreatDoorZi
namespace Go.Proofs.YtjckpkamhdbcnaaGreatDoor
set_option maxRecDepth 100000
set_option maxHeartbeats 64000000
set_option linter.unusedSimpArgs false
set_option linter.unusedVariables false
open Go.RowKit
attribute [local go_sem ↓] Qne Qtn
def ksnd (t : Tok) : Bool :=
 if t.kind = 1 then teqv 1 t.pos (Qaa t.text) t.dn t.ds t.day 1 t.pos ⟨#[]⟩ t.dn t.ds 0 && (sndB t.dn t.ds && decide (0 <= t.dn))
 else if t.kind = 2 then teqv 2 t.pos (Qaa t.text) t.dn t.ds t.day 2 t.pos (Qaa t.text) 0 0 0 && strOk t.text
 else if t.kind = 3 then teqv 3 t.pos (Qaa t.text) t.dn t.ds t.day 3 t.pos ⟨#[]⟩ 0 0 t.day && decide (0 <= t.day /\ t.day <= 3652058)
 else if t.kind = 4 then teqv 4 t.pos (Qaa t.text) t.dn t.ds t.day 4 t.pos (Qaa t.text) 0 0 0 && nmOk t.text
 else if t.kind = 5 then teqv 5 t.pos (Qaa t.text) t.dn t.ds t.day 5 t.pos (Qaa t.text) 0 0 0 && signsL.contains t.text
 else false
theorem tsnd1 (p : Int) (x : List UInt8) (a b d : Int) : ksnd ⟨1, p, x, a, b, d⟩ = (teqv 1 p (Qaa x) a b d 1 p ⟨#[]⟩ a b 0 && (sndB a b && decide (0 <= a))) := rfl
theorem tsnd2 (p : Int) (x : List UInt8) (a b d : Int) : ksnd ⟨2, p, x, a, b, d⟩ = (teqv 2 p (Qaa x) a b d 2 p (Qaa x) 0 0 0 && strOk x) := rfl
theorem tsnd3 (p : Int) (x : List UInt8) (a b d : Int) : ksnd ⟨3, p, x, a, b, d⟩ = (teqv 3 p (Qaa x) a b d 3 p ⟨#[]⟩ 0 0 d && decide (0 <= d /\ d <= 3652058)) := rfl
theorem tsnd4 (p : Int) (x : List UInt8) (a b d : Int) : ksnd ⟨4, p, x, a, b, d⟩ = (teqv 4 p (Qaa x) a b d 4 p (Qaa x) 0 0 0 && nmOk x) := rfl
theorem tsnd5 (p : Int) (x : List UInt8) (a b d : Int) : ksnd ⟨5, p, x, a, b, d⟩ = (teqv 5 p (Qaa x) a b d 5 p (Qaa x) 0 0 0 && signsL.contains x) := rfl
theorem tsnd6 (k p : Int) (x : List UInt8) (a b d : Int) (h : k ≠ 1 /\ k ≠ 2 /\ k ≠ 3 /\ k ≠ 4 /\ k ≠ 5) : ksnd ⟨k, p, x, a, b, d⟩ = false := by
 unfold ksnd
 rw [iN h.1, iN h.2.1, iN h.2.2.1, iN h.2.2.2.1, iN h.2.2.2.2]
theorem kinds6 (k : Int) : k = 1 \/ k = 2 \/ k = 3 \/ k = 4 \/ k = 5 \/ (k ≠ 1 /\ k ≠ 2 /\ k ≠ 3 /\ k ≠ 4 /\ k ≠ 5) := by omega
theorem Qv7 (x : List UInt8) (hx : x.length <= 9223372036854775807) (w : World) : Calls Tryz.prog 22 #[.agg #[.int .i64 2, .int .i64 0, .int .i64 0, .string (Qaa x), .int .i64 0]] w fun e w' => e = .returned (.bool (strOk x)) /\ Bel w w' := by
 have h := Qbs ⟨2, 0, 0, Qaa x, 0⟩ (by rw [Qae]; exact hx) w
 have e : vsnd ⟨2, 0, 0, Qaa x, 0⟩ = strOk x := by
  rw [vsnd2, (Qa8 _ _).2 rfl, Qae]
  rfl
 rw [e] at h
 exact h
theorem Qv8 (d : Int) (w : World) : Calls Tryz.prog 22 #[.agg #[.int .i64 4, .int .i64 0, .int .i64 0, .string ⟨#[]⟩, .int .i64 d]] w fun e w' => e = .returned (.bool (decide (0 <= d /\ d <= 3652058))) /\ Bel w w' := by
 have h := Qbs ⟨4, 0, 0, ⟨#[]⟩, d⟩ (by show (⟨#[]⟩ : ByteArray).size <= _; decide) w
 have e : vsnd ⟨4, 0, 0, ⟨#[]⟩, d⟩ = decide (0 <= d /\ d <= 3652058) := by
  rw [vsnd4, (Qa8 _ _).2 rfl, Bool.true_and, Bool.decide_and]
 rw [e] at h
 exact h
theorem Qqm (x y : List UInt8) : ((Qaa x).toList == (Qaa y).toList) = decide (x = y) := by
 rw [ByteArray.toList_eq, ByteArray.toList_eq, Qam, Qam, Bool.eq_iff_iff]
 simp
theorem Qlh (t : Tok) (hx : t.text.length <= 9223372036854775807) (w : World) : Calls Tryz.prog 168 #[.agg #[.int .i64 t.kind, .int .i64 t.pos, .string (Qaa t.text), .int .i64 t.dn, .int .i64 t.ds, .int .i64 t.day]] w fun e w' => e = .returned (.bool (ksnd t)) /\ Bel w w' := by
 obtain ⟨k, p, x, a, b, d⟩ := t
 simp only at hx ⊢
 rcases kinds6 k with rfl | rfl | rfl | rfl | rfl | hk
 ·have L0 := tsnd1 p x a b d
  cases hq : teqv 1 p (Qaa x) a b d 1 p ⟨#[]⟩ a b 0 with
  | false =>
   have L := Hd (show ksnd ⟨1, p, x, a, b, d⟩ = false by rw [L0, hq]; rfl)
   clear L0
   go_enter Tryz.func168, Tryz.ntmps168
   go_wp2_with fail
   go_ret
   exact ⟨by (rw [L.out]) <;> rfl, (Bel.refl _).alloc _⟩
  | true =>
   have L := Hd (show ksnd ⟨1, p, x, a, b, d⟩ = (sndB a b && decide (0 <= a)) by rw [L0, hq]; rfl)
   clear L0
   cases hs : sndB a b with
   | false =>
    have S := Hd fun W => Qdx a b W
    rw [hs] at S L
    clear hs
    go_enter Tryz.func168, Tryz.ntmps168
    go_wp2_with (go_at_call 41; refine (S.out _).mono ?_; rintro e W1 ⟨rfl, hb1⟩)
    go_ret
    exact ⟨by (rw [L.out]) <;> rfl, ((Bel.refl _).alloc _).trans hb1⟩
   | true =>
    have S := Hd fun W => Qdx a b W
    rw [hs, Bool.true_and] at L
    rw [hs] at S
    clear hs
    go_enter Tryz.func168, Tryz.ntmps168
    go_upto_region 1 with fail
    refine uN ((Bel.refl w).alloc _) fun W hc hf hz hb => ?_
    have T : Qan W w.heap.size ⟨1, p, x, a, b, d⟩ := by simp [Qan, hc, hf, hz, go_sem]
    clear hc hf hz
    generalize w.heap.size = N at T ⊢
    have TT := Hd T
    obtain ⟨s0, ⟨s1, s2, s3, s4, s5, s6⟩, _⟩ := T
    simp only at s1 s2 s3 s4 s5 s6
    go_wp2_with (go_at_call 41; refine (S.out _).mono ?_; rintro e W1 ⟨rfl, hb1⟩; obtain ⟨t0, ⟨t1, t2, t3, t4, t5, t6⟩, _⟩ := TT.out.keep hb1; simp only at t1 t2 t3 t4 t5 t6)
    go_ret
    exact ⟨by (rw [L.out]) <;> rfl, hb.trans hb1⟩
 ·have L0 := tsnd2 p x a b d
  cases hq : teqv 2 p (Qaa x) a b d 2 p (Qaa x) 0 0 0 with
  | false =>
   have L := Hd (show ksnd ⟨2, p, x, a, b, d⟩ = false by rw [L0, hq]; rfl)
   clear L0
   go_enter Tryz.func168, Tryz.ntmps168
   go_wp2_with fail
   go_ret
   exact ⟨by (rw [L.out]) <;> rfl, (Bel.refl _).alloc _⟩
  | true =>
   have L := Hd (show ksnd ⟨2, p, x, a, b, d⟩ = strOk x by rw [L0, hq]; rfl)
   clear L0
   have S := Hd fun W => Qv7 x hx W
   generalize strOk x = z at S L
   go_enter Tryz.func168, Tryz.ntmps168
   go_wp2_with (go_at_call 22; refine (S.out _).mono ?_; rintro e W1 ⟨rfl, hb1⟩)
   go_ret
   exact ⟨by (rw [L.out]) <;> rfl, ((Bel.refl _).alloc _).trans hb1⟩
 ·have L0 := tsnd3 p x a b d
  cases hq : teqv 3 p (Qaa x) a b d 3 p ⟨#[]⟩ 0 0 d with
  | false =>
   have L := Hd (show ksnd ⟨3, p, x, a, b, d⟩ = false by rw [L0, hq]; rfl)
   clear L0
   go_enter Tryz.func168, Tryz.ntmps168
   go_wp2_with fail
   go_ret
   exact ⟨by (rw [L.out]) <;> rfl, (Bel.refl _).alloc _⟩
  | true =>
   have L := Hd (show ksnd ⟨3, p, x, a, b, d⟩ = decide (0 <= d /\ d <= 3652058) by rw [L0, hq]; rfl)
   clear L0
   have S := Hd fun W => Qv8 d W
   generalize decide (0 <= d /\ d <= 3652058) = z at S L
   go_enter Tryz.func168, Tryz.ntmps168
   go_wp2_with (go_at_call 22; refine (S.out _).mono ?_; rintro e W1 ⟨rfl, hb1⟩)
   go_ret
   exact ⟨by (rw [L.out]) <;> rfl, ((Bel.refl _).alloc _).trans hb1⟩
 ·have L0 := tsnd4 p x a b d
  cases hq : teqv 4 p (Qaa x) a b d 4 p (Qaa x) 0 0 0 with
  | false =>
   have L := Hd (show ksnd ⟨4, p, x, a, b, d⟩ = false by rw [L0, hq]; rfl)
   clear L0
   go_enter Tryz.func168, Tryz.ntmps168
   go_wp2_with fail
   go_ret
   exact ⟨by (rw [L.out]) <;> rfl, (Bel.refl _).alloc _⟩
  | true =>
   have L := Hd (show ksnd ⟨4, p, x, a, b, d⟩ = nmOk x by rw [L0, hq]; rfl)
   clear L0
   have S := Hd fun W => (show Calls Tryz.prog 102 #[.string (Qaa x)] W fun e w' => e = .returned (.bool (nmOk x)) /\ Bel W w' from Qgp (Qaa x) (by rw [Qae]; exact hx) W)
   generalize nmOk x = z at S L
   go_enter Tryz.func168, Tryz.ntmps168
   go_wp2_with (go_at_call 102; refine (S.out _).mono ?_; rintro e W1 ⟨rfl, hb1⟩)
   go_ret
   exact ⟨by (rw [L.out]) <;> rfl, ((Bel.refl _).alloc _).trans hb1⟩
 ·have L0 := tsnd5 p x a b d
  cases hq : teqv 5 p (Qaa x) a b d 5 p (Qaa x) 0 0 0 with
  | false =>
   have L := Hd (show ksnd ⟨5, p, x, a, b, d⟩ = false by rw [L0, hq]; rfl)
   clear L0
   go_enter Tryz.func168, Tryz.ntmps168
   go_upto_region 1 with fail
   refine uN ((Bel.refl w).alloc _) fun W hc hf hz hb => ?_
   have T : Qan W w.heap.size ⟨5, p, x, a, b, d⟩ := by simp [Qan, hc, hf, hz, go_sem]
   clear hc hf hz
   generalize w.heap.size = N at T ⊢
   obtain ⟨s0, ⟨s1, s2, s3, s4, s5, s6⟩, _⟩ := T
   simp only at s1 s2 s3 s4 s5 s6
   go_wp2
   refine Qaw (S := (fun w' => Bel W w' /\ (∀ b o, b < W.heap.size -> w'.cell? ⟨b, o, none⟩ = W.cell? ⟨b, o, none⟩))) (by kernel_rfl) (by kernel_rfl) keep0 ?_
   repeat (first | (refine Qbg (by rfl) ?_; (try simp only [Act.put, List.setIfInBounds_toArray, List.set_cons_zero, List.set_cons_succ]))
                              | (refine Qa7 (by rfl) (fun w hS => by (try dsimp only at hS); go_simp; first | done | with_reducible rfl) ?_; (try simp only [Act.put, List.setIfInBounds_toArray, List.set_cons_zero, List.set_cons_succ])))
   refine Qbp fun W1 hS => ?_
   have hb1 := hS.1
   clear hS
   go_wp2
   go_ret
   exact ⟨by (rw [L.out]) <;> rfl, hb.trans hb1⟩
  | true =>
   have L := Hd (show ksnd ⟨5, p, x, a, b, d⟩ = signsL.contains x by rw [L0, hq]; rfl)
   clear L0
   have S := Hd fun W => Qho (Qaa x) (by rw [Qae]; exact hx) W
   rw [Qam] at S
   have SM := Qtq x
   by_cases h0 : x = []
   ·have L := Hd (show ksnd ⟨5, p, x, a, b, d⟩ = false by rw [L.out, Bool.eq_false_iff]; exact fun h => (SM.2 (List.contains_iff_mem.1 h)).1 h0)
    have e0 : (Qaa x).toList.isEmpty = true := by rw [ByteArray.toList_eq, Qam, h0]; rfl
    have e1 : (Qaa x).toList = [] := by rw [ByteArray.toList_eq, Qam, h0]
    clear h0 SM S
    go_enter Tryz.func168, Tryz.ntmps168
    go_upto_region 1 with fail
    refine uN ((Bel.refl w).alloc _) fun W hc hf hz hb => ?_
    have T : Qan W w.heap.size ⟨5, p, x, a, b, d⟩ := by simp [Qan, hc, hf, hz, go_sem]
    clear hc hf hz
    generalize w.heap.size = N at T ⊢
    obtain ⟨s0, ⟨s1, s2, s3, s4, s5, s6⟩, _⟩ := T
    simp only at s1 s2 s3 s4 s5 s6
    go_wp2
    refine Qaw (S := (fun w' => Bel W w' /\ (∀ b o, b < W.heap.size -> w'.cell? ⟨b, o, none⟩ = W.cell? ⟨b, o, none⟩))) (by kernel_rfl) (by kernel_rfl) keep0 ?_
    repeat (first | (refine Qbg (by rfl) ?_; (try simp only [Act.put, List.setIfInBounds_toArray, List.set_cons_zero, List.set_cons_succ]))
                              | (refine Qa7 (by rfl) (fun w hS => by (try dsimp only at hS); go_simp; first | done | with_reducible rfl) ?_; (try simp only [Act.put, List.setIfInBounds_toArray, List.set_cons_zero, List.set_cons_succ])))
    refine Qbp fun W1 hS => ?_
    have hb1 := hS.1
    clear hS
    go_wp2
    go_ret
    exact ⟨by (rw [L.out]) <;> rfl, hb.trans hb1⟩
   have e0 : (Qaa x).toList.isEmpty = false := by
    rw [ByteArray.toList_eq, Qam]
    cases x with
    | nil => exact absurd rfl h0
    | cons _ _ => rfl
   have e2 : signsL.contains x = decide (sigL x = x) := by
    rw [Bool.eq_iff_iff, List.contains_iff_mem, ← SM, decide_eq_true_eq]
    exact ⟨fun h => h.2, fun h => ⟨h0, h⟩⟩
   have L := Hd (show ksnd ⟨5, p, x, a, b, d⟩ = decide (sigL x = x) by rw [L.out, e2])
   have E := Hd (Qqm (sigL x) x)
   clear h0 SM e2
   go_enter Tryz.func168, Tryz.ntmps168
   go_upto_region 1 with fail
   refine uN ((Bel.refl w).alloc _) fun W hc hf hz hb => ?_
   have T : Qan W w.heap.size ⟨5, p, x, a, b, d⟩ := by simp [Qan, hc, hf, hz, go_sem]
   clear hc hf hz
   generalize w.heap.size = N at T ⊢
   have TT := Hd T
   obtain ⟨s0, ⟨s1, s2, s3, s4, s5, s6⟩, _⟩ := T
   simp only at s1 s2 s3 s4 s5 s6
   go_wp2
   refine Qaw (S := (fun w' => Bel W w' /\ (∀ b o, b < W.heap.size -> w'.cell? ⟨b, o, none⟩ = W.cell? ⟨b, o, none⟩))) (by kernel_rfl) (by kernel_rfl) keep0 ?_
   repeat (first | (refine Qbg (by rfl) ?_; (try simp only [Act.put, List.setIfInBounds_toArray, List.set_cons_zero, List.set_cons_succ]))
                             | (refine Qa7 (by rfl) (fun w hS => by (try dsimp only at hS); go_simp; first | done | with_reducible rfl) ?_; (try simp only [Act.put, List.setIfInBounds_toArray, List.set_cons_zero, List.set_cons_succ]))
                             | (refine Qbo (f := 136) (by rfl) (fun w => by go_simp; first | done | with_reducible rfl) (fun w hS => (S.out w).mono fun e w' ⟨he, hb⟩ => ⟨he, keep1 hS hb⟩) ?_; (try simp only [Act.put, List.setIfInBounds_toArray, List.set_cons_zero, List.set_cons_succ])))
   refine Qbp fun W1 hS => ?_
   have hb1 := hS.1
   clear hS
   go_wp2
   go_ret
   exact ⟨by (rw [L.out, ← E.out]) <;> rfl, hb.trans hb1⟩
 have L := Hd (tsnd6 k p x a b d hk)
 obtain ⟨h1, h2, h3, h4, h5⟩ := hk
 have e1 : (k == 1) = false := beq_eq_false_iff_ne.2 h1
 have e2 : (k == 2) = false := beq_eq_false_iff_ne.2 h2
 have e3 : (k == 3) = false := beq_eq_false_iff_ne.2 h3
 have e4 : (k == 4) = false := beq_eq_false_iff_ne.2 h4
 have e5 : (k == 5) = false := beq_eq_false_iff_ne.2 h5
 clear h1 h2 h3 h4 h5
 go_enter Tryz.func168, Tryz.ntmps168
 go_wp2_with fail
 go_ret
 exact ⟨by (rw [L.out]) <;> rfl, (Bel.refl _).alloc _⟩
end Go.Proofs.YtjckpkamhdbcnaaGreatDoor
