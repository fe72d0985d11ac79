import Derived.Test.YtjckpkamhdbcnaaGreatDoorZc
import Derived.Test.YtjckpkamhdbcnaaGreatDoorZd
import Derived.Lib.CountLaws
import Derived.Lib.SplitLaws
import Derived.Lib.IndexBytes
import Derived.Lib.Replace
import Derived.Deep.LoopGhost
import Derived.Deep.CutBlock
import Derived.Deep.DeepCutAuto
import Derived.Deep.OwnRows
import Derived.Deep.RegionHeld3
import Derived.Shelf.Abstract
import Derived.Laws.Cover1
namespace Go.Proofs.YtjckpkamhdbcnaaGreatDoor
set_option maxRecDepth 100000
set_option maxHeartbeats 64000000
set_option linter.unusedSimpArgs false
set_option linter.unusedVariables false
section
open Go.RowKit
attribute [local go_sem ↓] Qas Qau
def vsnd (v : Val) : Bool :=
 if v.kind = 0 then veq v ⟨0, 0, 0, ⟨#[]⟩, 0⟩
 else if v.kind = 1 then veq v ⟨1, v.n, v.scale, ⟨#[]⟩, 0⟩ && sndB v.n v.scale
 else if v.kind = 2 then veq v ⟨2, 0, 0, v.text, 0⟩ && (decide (v.text.size <= 256) && goodB v.text)
 else if v.kind = 3 then veq v ⟨3, 0, 0, ⟨#[]⟩, v.num⟩ && (decide (v.num = 0) || decide (v.num = 1))
 else if v.kind = 4 then veq v ⟨4, 0, 0, ⟨#[]⟩, v.num⟩ && (decide (0 <= v.num) && decide (v.num <= 3652058))
 else false
theorem vsnd0 (n s m : Int) (t : ByteArray) : vsnd ⟨0, n, s, t, m⟩ = veq ⟨0, n, s, t, m⟩ ⟨0, 0, 0, ⟨#[]⟩, 0⟩ := rfl
theorem vsnd1 (n s m : Int) (t : ByteArray) : vsnd ⟨1, n, s, t, m⟩ = (veq ⟨1, n, s, t, m⟩ ⟨1, n, s, ⟨#[]⟩, 0⟩ && sndB n s) := rfl
theorem vsnd2 (n s m : Int) (t : ByteArray) : vsnd ⟨2, n, s, t, m⟩ = (veq ⟨2, n, s, t, m⟩ ⟨2, 0, 0, t, 0⟩ && (decide (t.size <= 256) && goodB t)) := rfl
theorem vsnd3 (n s m : Int) (t : ByteArray) : vsnd ⟨3, n, s, t, m⟩ = (veq ⟨3, n, s, t, m⟩ ⟨3, 0, 0, ⟨#[]⟩, m⟩ && (decide (m = 0) || decide (m = 1))) := rfl
theorem vsnd4 (n s m : Int) (t : ByteArray) : vsnd ⟨4, n, s, t, m⟩ = (veq ⟨4, n, s, t, m⟩ ⟨4, 0, 0, ⟨#[]⟩, m⟩ && (decide (0 <= m) && decide (m <= 3652058))) := rfl
theorem vsnd5 (k n s m : Int) (t : ByteArray) (h : k ≠ 0 /\ k ≠ 1 /\ k ≠ 2 /\ k ≠ 3 /\ k ≠ 4) : vsnd ⟨k, n, s, t, m⟩ = false := by
 unfold vsnd
 rw [iN h.1, iN h.2.1, iN h.2.2.1, iN h.2.2.2.1, iN h.2.2.2.2]
theorem kinds (k : Int) : k = 0 \/ k = 1 \/ k = 2 \/ k = 3 \/ k = 4 \/ (k ≠ 0 /\ k ≠ 1 /\ k ≠ 2 /\ k ≠ 3 /\ k ≠ 4) := by omega
theorem Qbs (v : Val) (hv : v.text.size <= 9223372036854775807) (w : World) : Calls Tryz.prog 22 #[v.val] w fun e w' => e = .returned (.bool (vsnd v)) /\ Bel w w' := by
 obtain ⟨k, n, s, t, m⟩ := v
 have hv : t.size <= 9223372036854775807 := hv
 rcases kinds k with rfl | rfl | rfl | rfl | rfl | hk
 ·have L := Hd (vsnd0 n s m t)
  go_enter Tryz.func22, Tryz.ntmps22
  go_wp2_with fail
  go_ret
  exact ⟨by (rw [L.out]) <;> rfl, (Bel.refl _).alloc _⟩
 ·have L0 := vsnd1 n s m t
  cases hq : veq ⟨1, n, s, t, m⟩ ⟨1, n, s, ⟨#[]⟩, 0⟩ with
  | false =>
   have L := Hd (show vsnd ⟨1, n, s, t, m⟩ = false by rw [L0, hq]; rfl)
   clear L0
   go_enter Tryz.func22, Tryz.ntmps22
   go_wp2_with fail
   go_ret
   exact ⟨by (rw [L.out]) <;> rfl, (Bel.refl _).alloc _⟩
  | true =>
   have L := Hd (show vsnd ⟨1, n, s, t, m⟩ = sndB n s by rw [L0, hq]; rfl)
   clear L0
   go_enter Tryz.func22, Tryz.ntmps22
   go_wp2_with (go_at_call 41; refine (Qdx n s _).mono ?_; rintro e W1 ⟨rfl, hb1⟩)
   go_ret
   exact ⟨by (rw [L.out]) <;> rfl, ((Bel.refl _).alloc _).trans hb1⟩
 ·have L0 := vsnd2 n s m t
  cases hq : veq ⟨2, n, s, t, m⟩ ⟨2, 0, 0, t, 0⟩ with
  | false =>
   have L := Hd (show vsnd ⟨2, n, s, t, m⟩ = false by rw [L0, hq]; rfl)
   clear L0
   go_enter Tryz.func22, Tryz.ntmps22
   go_wp2_with fail
   go_ret
   exact ⟨by (rw [L.out]) <;> rfl, (Bel.refl _).alloc _⟩
  | true =>
   by_cases hz : t.size <= 256
   ·have L := Hd (show vsnd ⟨2, n, s, t, m⟩ = goodB t by rw [L0, hq, dT hz]; rfl)
    have gz : decide ((t.size : Int) <= 256) = true := by exact dT (by omega)
    clear L0
    go_enter Tryz.func22, Tryz.ntmps22
    go_wp2_with (go_at_call 42; refine (Qp7 t hv _).mono ?_; rintro e W1 ⟨rfl, hb1⟩)
    go_ret
    exact ⟨by (rw [L.out]) <;> rfl, ((Bel.refl _).alloc _).trans hb1⟩
   have L := Hd (show vsnd ⟨2, n, s, t, m⟩ = false by rw [L0, hq, dF hz]; rfl)
   have gz : decide ((t.size : Int) <= 256) = false := by exact dF (by omega)
   clear L0
   go_enter Tryz.func22, Tryz.ntmps22
   go_wp2_with fail
   go_ret
   exact ⟨by (rw [L.out]) <;> rfl, (Bel.refl _).alloc _⟩
 ·have L0 := vsnd3 n s m t
  cases hq : veq ⟨3, n, s, t, m⟩ ⟨3, 0, 0, ⟨#[]⟩, m⟩ with
  | false =>
   have L := Hd (show vsnd ⟨3, n, s, t, m⟩ = false by rw [L0, hq]; rfl)
   clear L0
   go_enter Tryz.func22, Tryz.ntmps22
   go_wp2_with fail
   go_ret
   exact ⟨by (rw [L.out]) <;> rfl, (Bel.refl _).alloc _⟩
  | true =>
   by_cases h0 : m = 0
   ·have L := Hd (show vsnd ⟨3, n, s, t, m⟩ = true by rw [L0, hq, dT h0]; rfl)
    have g0 : (m == 0) = true := by rw [beq_iff_eq]; exact h0
    clear L0 h0
    go_enter Tryz.func22, Tryz.ntmps22
    go_wp2_with fail
    go_ret
    exact ⟨by (rw [L.out]) <;> rfl, (Bel.refl _).alloc _⟩
   have g0 : (m == 0) = false := by rw [bN]; exact h0
   by_cases h1 : m = 1
   ·have L := Hd (show vsnd ⟨3, n, s, t, m⟩ = true by rw [L0, hq, dT h1]; simp)
    have g1 : (m == 1) = true := by rw [beq_iff_eq]; exact h1
    clear L0 h0 h1
    go_enter Tryz.func22, Tryz.ntmps22
    go_wp2_with fail
    go_ret
    exact ⟨by (rw [L.out]) <;> rfl, (Bel.refl _).alloc _⟩
   have L := Hd (show vsnd ⟨3, n, s, t, m⟩ = false by rw [L0, hq, dF h0, dF h1]; rfl)
   have g1 : (m == 1) = false := by rw [bN]; exact h1
   clear L0 h0 h1
   go_enter Tryz.func22, Tryz.ntmps22
   go_wp2_with fail
   go_ret
   exact ⟨by (rw [L.out]) <;> rfl, (Bel.refl _).alloc _⟩
 ·have L0 := vsnd4 n s m t
  cases hq : veq ⟨4, n, s, t, m⟩ ⟨4, 0, 0, ⟨#[]⟩, m⟩ with
  | false =>
   have L := Hd (show vsnd ⟨4, n, s, t, m⟩ = false by rw [L0, hq]; rfl)
   clear L0
   go_enter Tryz.func22, Tryz.ntmps22
   go_wp2_with fail
   go_ret
   exact ⟨by (rw [L.out]) <;> rfl, (Bel.refl _).alloc _⟩
  | true =>
   by_cases h0 : 0 <= m
   ·have g0 : decide (0 <= m) = true := by exact dT h0
    by_cases h1 : m <= 3652058
    ·have g1 : decide (m <= 3652058) = true := by exact dT h1
     have L := Hd (show vsnd ⟨4, n, s, t, m⟩ = true by rw [L0, hq, g0, g1]; rfl)
     clear L0
     go_enter Tryz.func22, Tryz.ntmps22
     go_wp2_with fail
     go_ret
     exact ⟨by (rw [L.out]) <;> rfl, (Bel.refl _).alloc _⟩
    have g1 : decide (m <= 3652058) = false := by exact dF h1
    have L := Hd (show vsnd ⟨4, n, s, t, m⟩ = false by rw [L0, hq, g0, g1]; rfl)
    clear L0
    go_enter Tryz.func22, Tryz.ntmps22
    go_wp2_with fail
    go_ret
    exact ⟨by (rw [L.out]) <;> rfl, (Bel.refl _).alloc _⟩
   have g0 : decide (0 <= m) = false := by exact dF h0
   have L := Hd (show vsnd ⟨4, n, s, t, m⟩ = false by rw [L0, hq, g0]; rfl)
   clear L0
   go_enter Tryz.func22, Tryz.ntmps22
   go_wp2_with fail
   go_ret
   exact ⟨by (rw [L.out]) <;> rfl, (Bel.refl _).alloc _⟩
 have L := Hd (vsnd5 k n s m t hk)
 have k0 : (k == 0) = false := by rw [bN]; exact hk.1
 have k1 : (k == 1) = false := by rw [bN]; exact hk.2.1
 have k2 : (k == 2) = false := by rw [bN]; exact hk.2.2.1
 have k3 : (k == 3) = false := by rw [bN]; exact hk.2.2.2.1
 have k4 : (k == 4) = false := by rw [bN]; exact hk.2.2.2.2
 clear hk
 go_enter Tryz.func22, Tryz.ntmps22
 go_wp2_with fail
 go_ret
 exact ⟨by (rw [L.out]) <;> rfl, (Bel.refl _).alloc _⟩
theorem bcell {W w1 : World} (hb : Bel W w1) : (∀ b o, b < W.heap.size -> w1.cell? ⟨b, o, none⟩ = W.cell? ⟨b, o, none⟩) /\ (∀ b o, b < W.heap.size -> w1.frozen? ⟨b, o, none⟩ = W.frozen? ⟨b, o, none⟩) :=
 ⟨hb.cells, hb.frozens⟩
theorem Qa5 (t : ByteArray) : t.toList.isEmpty = true ↔ t = ⟨#[]⟩ := by
 rw [List.isEmpty_iff, ByteArray.toList_eq]
 constructor
 ·intro h
  obtain ⟨⟨l⟩⟩ := t
  simp at h
  rw [h]
 rintro rfl; rfl
theorem veq0 (k n s m : Int) (t : ByteArray) : veq ⟨k, n, s, t, m⟩ ⟨k, 0, 0, ⟨#[]⟩, 0⟩ = ((n == 0) && ((s == 0) && (t.toList.isEmpty && (m == 0)))) := by
 rw [Bool.eq_iff_iff, Qa8]
 simp only [Val.mk.injEq, bA, beq_iff_eq, Qa5, true_and]
theorem veq1 (k n s m : Int) (t : ByteArray) : veq ⟨k, n, s, t, m⟩ ⟨k, n, s, ⟨#[]⟩, 0⟩ = (t.toList.isEmpty && (m == 0)) := by
 rw [Bool.eq_iff_iff, Qa8]
 simp only [Val.mk.injEq, bA, beq_iff_eq, Qa5, true_and]
theorem veq2 (k n s m : Int) (t : ByteArray) : veq ⟨k, n, s, t, m⟩ ⟨k, 0, 0, t, 0⟩ = ((n == 0) && ((s == 0) && (m == 0))) := by
 rw [Bool.eq_iff_iff, Qa8]
 simp only [Val.mk.injEq, bA, beq_iff_eq, true_and]
theorem veq3 (k n s m : Int) (t : ByteArray) : veq ⟨k, n, s, t, m⟩ ⟨k, 0, 0, ⟨#[]⟩, m⟩ = ((n == 0) && ((s == 0) && t.toList.isEmpty)) := by
 rw [Bool.eq_iff_iff, Qa8]
 simp only [Val.mk.injEq, bA, beq_iff_eq, Qa5, true_and, and_true]
theorem vs0 (n s m : Int) (t : ByteArray) : vsnd ⟨0, n, s, t, m⟩ = ((n == 0) && ((s == 0) && (t.toList.isEmpty && (m == 0)))) := by rw [vsnd0, veq0]
theorem vs1 (n s m : Int) (t : ByteArray) : vsnd ⟨1, n, s, t, m⟩ = (sndB n s && (t.toList.isEmpty && (m == 0))) := by rw [vsnd1, veq1, Bool.and_comm]
theorem vs2 (n s m : Int) (t : ByteArray) : vsnd ⟨2, n, s, t, m⟩ = ((n == 0) && ((s == 0) && ((m == 0) && (decide ((t.size : Int) <= 256) && goodB t)))) := by
 rw [vsnd2, veq2, show decide ((t.size : Int) <= 256) = decide (t.size <= 256) from decide_eq_decide.2 (by omega)]
 simp only [Bool.and_assoc]
theorem vs3 (n s m : Int) (t : ByteArray) : vsnd ⟨3, n, s, t, m⟩ = ((n == 0) && ((s == 0) && (t.toList.isEmpty && ((m == 0) || (m == 1))))) := by
 rw [vsnd3, veq3]
 simp only [Bool.and_assoc]
 rfl
theorem vs4 (n s m : Int) (t : ByteArray) : vsnd ⟨4, n, s, t, m⟩ = ((n == 0) && ((s == 0) && (t.toList.isEmpty && (decide (0 <= m) && decide (m <= 3652058))))) := by
 rw [vsnd4, veq3]
 simp only [Bool.and_assoc]
theorem Qfh {n s m : Int} {t : ByteArray} (h : vsnd ⟨1, n, s, t, m⟩ = true) : SndD n s := by
 rw [vs1] at h
 have := (Bool.and_eq_true_iff.1 h).1
 exact of_decide_eq_true this
theorem Qfi {n s m : Int} {t : ByteArray} (h : vsnd ⟨2, n, s, t, m⟩ = true) : m = 0 /\ n = 0 /\ s = 0 /\ t.size <= 256 /\ goodB t = true := by
 rw [vs2] at h
 simp only [bA, beq_iff_eq, decide_eq_true_eq] at h
 exact ⟨h.2.2.1, h.1, h.2.1, by omega, h.2.2.2.2⟩
def qtB (c : UInt8) : List UInt8 := if c = 34 \/ c = 92 then [92, c] else [c]
def qtL (l : List UInt8) : List UInt8 := l.flatMap qtB
def Mx (w : World) : Prop := ∃ m, w.cell? ⟨0, 0, none⟩ = some (.int .i64 m)
theorem Mx.keep {w w' : World} (h : Mx w) (hb : Bel w w') : Mx w' := by
 obtain ⟨m, hm⟩ := h
 exact ⟨m, by rw [hb.cells _ _ (World.block_lt_of_cell? _ _ hm)]; exact hm⟩
def quoL (l : List UInt8) : List UInt8 := [34] ++ qtL l ++ [34]
theorem Qv2 (l : List UInt8) : (qtL l).length <= 2 * l.length := by
 induction l with
 | nil => exact Nat.le_refl _
 | cons x l ih =>
  show (qtB x ++ qtL l).length <= _
  have : (qtB x).length <= 2 := by unfold qtB; split <;> simp
  rw [lA, List.length_cons]; omega
theorem Qnc : ∀ l : List UInt8, (∀ c ∈ l, c ≠ 34 /\ c ≠ 92) -> qtL l = l
 | [], _ => rfl
 | c :: l, h => by
  show qtB c ++ qtL l = c :: l
  have h1 := h c (by simp)
  rw [Qnc l (fun x hx => h x (by simp [hx]))]
  unfold qtB
  rw [iN (by rintro (e | e); exact h1.1 e; exact h1.2 e)]
  rfl
theorem Qv3 (n k : Nat) : Qbb n k ≠ 34 /\ Qbb n k ≠ 92 := by
 have h : (Qbb n k).toNat = 48 + n / k % 10 := by
  unfold Qbb
  rw [UInt8.toNat_ofNat']
  omega
 refine ⟨fun e => ?_, fun e => ?_⟩
 ·rw [e] at h
  have : (34 : UInt8).toNat = 34 := rfl
  omega
 rw [e] at h
 have : (92 : UInt8).toNat = 92 := rfl
 omega
theorem Qtl (n : Int) : quoL (dtx n).data.toList = [34] ++ (dtx n).data.toList ++ [34] := by
 unfold quoL
 rw [Qnc]
 intro c hc
 have hc' : c ∈ [Qbb (dY n).toNat 1000, Qbb (dY n).toNat 100, Qbb (dY n).toNat 10, Qbb (dY n).toNat 1, 45, Qbb (dM n).toNat 10, Qbb (dM n).toNat 1, 45, Qbb (dD n).toNat 10, Qbb (dD n).toNat 1] := hc
 simp only [List.mem_cons, List.not_mem_nil, or_false] at hc'
 rcases hc' with rfl | rfl | rfl | rfl | rfl | rfl | rfl | rfl | rfl | rfl
 all_goals first | exact Qv3 _ _ | decide
end
section
open Go.RowKit
theorem Qae (l : List UInt8) : (Qaa l).size = l.length := List.size_toArray
theorem Qew (s : ByteArray) : Qaa s.data.toList = s := by
 unfold Qaa
 exact ByteArray.ext (by simp)
theorem Qam (l : List UInt8) : (Qaa l).data.toList = l := by simp [Qaa]
theorem Qcf {a b : List UInt8} (h : Qaa a = Qaa b) : a = b := by
 have := congrArg (fun s => s.data.toList) h
 simpa [Qaa] using this
theorem Qcr (s : ByteArray) (a b : Nat) : s.extract a b = Qaa ((s.data.toList.drop a).take (b - a)) := by
 rw [← Qew (s.extract a b)]
 congr 1
 simp [ByteArray.data_extract, List.drop_take, List.extract_eq_take_drop]
theorem Qdq (q : UInt8 -> Bool) : ∀ l : List UInt8, l = l.takeWhile q ++ l.dropWhile q /\ (∀ c ∈ l.takeWhile q, q c = true) /\ (l.dropWhile q = [] \/ ∃ c t, l.dropWhile q = c :: t /\ q c = false)
 | [] => ⟨rfl, by simp, .inl rfl⟩
 | c :: l => by
  obtain ⟨h1, h2, h3⟩ := Qdq q l
  by_cases hc : q c = true
  ·simp only [List.takeWhile, List.dropWhile, hc]
   refine ⟨by rw [List.cons_append, ← h1], ?_, h3⟩
   intro x hx
   rcases List.mem_cons.1 hx with rfl | hx
   ·exact hc
   exact h2 x hx
  have hc' : q c = false := by simpa using hc
  simp only [List.takeWhile, List.dropWhile, hc']
  exact ⟨by simp, by simp, .inr ⟨c, l, rfl, hc'⟩⟩
theorem Qtm (f : UInt8 -> Bool) (l : List UInt8) : l.take (l.takeWhile f).length = l.takeWhile f := by
 obtain ⟨h1, _, _⟩ := Qdq f l
 generalize l.takeWhile f = x at *
 generalize l.dropWhile f = y at *
 subst h1
 simp
theorem Qnd (f : UInt8 -> Bool) (l : List UInt8) : l.drop (l.takeWhile f).length = l.dropWhile f := by
 obtain ⟨h1, _, _⟩ := Qdq f l
 generalize l.takeWhile f = x at *
 generalize l.dropWhile f = y at *
 subst h1
 simp
theorem Qbz (f : UInt8 -> Bool) (l : List UInt8) : (l.takeWhile f).length + (l.dropWhile f).length = l.length := by
 have := congrArg List.length (Qdq f l).1
 rw [lA] at this
 exact this.symm
theorem Qsj (f : UInt8 -> Bool) (l : List UInt8) (k : Nat) : (k < (l.takeWhile f).length -> ∃ c, l[k]? = some c /\ f c = true) /\ (k = (l.takeWhile f).length -> l.length = k \/ ∃ c, l[k]? = some c /\ f c = false) := by
 obtain ⟨h1, h2, h3⟩ := Qdq f l
 generalize l.takeWhile f = x at *
 generalize l.dropWhile f = y at *
 subst h1
 constructor
 ·intro hk
  exact ⟨x[k], by rw [List.getElem?_append_left hk]; exact gE hk, h2 _ (List.getElem_mem hk)⟩
 rintro rfl
 rcases h3 with rfl | ⟨c, t, rfl, hc⟩
 ·left; simp
 right
 exact ⟨c, by rw [List.getElem?_append_right (Nat.le_refl _)]; simp, hc⟩
def teqv (a b : Int) (t : ByteArray) (c d e a' b' : Int) (t' : ByteArray) (c' d' e' : Int) : Bool := decide (a = a' /\ b = b' /\ t = t' /\ c = c' /\ d = d' /\ e = e')
theorem Qbl {a b : Int} {t : ByteArray} {c d e a' b' : Int} {t' : ByteArray} {c' d' e' : Int} : teqv a b t c d e a' b' t' c' d' e' = true ↔ a = a' /\ b = b' /\ t = t' /\ c = c' /\ d = d' /\ e = e' := by simp [teqv]
theorem ite6 {w : World} {p1 p2 p3 p4 p5 p6 : Prop} [Decidable p1] [Decidable p2] [Decidable p3] [Decidable p4] [Decidable p5] [Decidable p6] {b : Bool} (h : b = true ↔ p1 /\ p2 /\ p3 /\ p4 /\ p5 /\ p6) :
  (if p1 then if p2 then if p3 then if p4 then if p5 then if p6 then Result.ok (Value.bool true) w else Result.ok (Value.bool false) w else Result.ok (Value.bool false) w else Result.ok (Value.bool false) w else Result.ok (Value.bool false) w else Result.ok (Value.bool false) w else Result.ok (Value.bool false) w) = Result.ok (Value.bool b) w := by
 cases b
 ·simp only [Bool.false_eq_true, false_iff] at h
  repeat' split
  all_goals first | rfl | exact absurd ⟨‹_›, ‹_›, ‹_›, ‹_›, ‹_›, ‹_›⟩ h
 have := h.1 rfl
 simp [this]
theorem Qne (a b c d e a' b' c' d' e' : Int) (t t' : ByteArray) (w : World) :
  (binOp .eql 111 (.agg #[.int .i64 a, .int .i64 b, .string t, .int .i64 c, .int .i64 d, .int .i64 e]) (.agg #[.int .i64 a', .int .i64 b', .string t', .int .i64 c', .int .i64 d', .int .i64 e'])).run Tryz.prog w = .ok (.bool (teqv a b t c d e a' b' t' c' d' e')) w := by
 go_simp
 exact ite6 (by rw [Qbl, Qba])
theorem Qtn (a b c d e a' b' c' d' e' : Int) (t t' : ByteArray) (w : World) :
  (binOp .neq 111 (.agg #[.int .i64 a, .int .i64 b, .string t, .int .i64 c, .int .i64 d, .int .i64 e]) (.agg #[.int .i64 a', .int .i64 b', .string t', .int .i64 c', .int .i64 d', .int .i64 e'])).run Tryz.prog w = .ok (.bool (!teqv a b t c d e a' b' t' c' d' e')) w := by
 have h := Qne a b c d e a' b' c' d' e' t t' w
 rw [run_eql_struct] at h
 rw [run_neq_struct]
 generalize (Op.equalIn 10000 111 _ _).run Tryz.prog w = r at h ⊢
 cases r with
 | ok x w1 =>
  simp only [Result.andThen_ok, Result.ok.injEq, Value.bool.injEq] at h ⊢
  simp [h]
 | halt x w1 => simp [Result.andThen] at h
def Tok.val (t : Tok) : Value := .agg #[.int .i64 t.kind, .int .i64 t.pos, .string (Qaa t.text), .int .i64 t.dn, .int .i64 t.ds, .int .i64 t.day]
def tkCells (t : Tok) : List Value := [.int .i64 t.kind, .int .i64 t.pos, .string (Qaa t.text), .int .i64 t.dn, .int .i64 t.ds, .int .i64 t.day]
def tsCells (l : List Tok) : List Value := l.flatMap tkCells
theorem Qiv (l : List Tok) : (tsCells l).length = 6 * l.length := by
 induction l with
 | nil => rfl
 | cons a l ih => unfold tsCells at ih ⊢; rw [List.flatMap_cons, lA, ih]; simp [tkCells]; omega
theorem Qfj (a b : List Tok) : tsCells (a ++ b) = tsCells a ++ tsCells b := by simp [tsCells]
theorem Qsk : ∀ (l : List Tok) (j i : Nat) (x : Tok) (u : Value), l[j]? = some x -> (tkCells x)[i]? = some u -> (tsCells l)[j * 6 + i]? = some u
 | [], j, i, x, u, h, _ => by simp at h
 | y :: l, 0, i, x, u, h, hu => by
  obtain rfl : y = x := by simpa using h
  unfold tsCells
  rw [List.flatMap_cons, Nat.zero_mul, Nat.zero_add, List.getElem?_append_left (List.getElem?_eq_some_iff.1 hu).1]
  exact hu
 | y :: l, j + 1, i, x, u, h, hu => by
  unfold tsCells
  rw [List.flatMap_cons, List.getElem?_append_right (by simp [tkCells]; omega)]
  rw [show (j + 1) * 6 + i - (tkCells y).length = j * 6 + i by simp [tkCells]; omega]
  exact Qsk l j i x u h hu
def TokAt (w : World) (b o : Nat) (t : Tok) : Prop :=
 w.cell? ⟨b, o, none⟩ = some (.int .i64 t.kind) /\ w.cell? ⟨b, o + 1, none⟩ = some (.int .i64 t.pos) /\ w.cell? ⟨b, o + 2, none⟩ = some (.string (Qaa t.text)) /\
  w.cell? ⟨b, o + 3, none⟩ = some (.int .i64 t.dn) /\ w.cell? ⟨b, o + 4, none⟩ = some (.int .i64 t.ds) /\ w.cell? ⟨b, o + 5, none⟩ = some (.int .i64 t.day)
theorem TokAt.keep {w w' : World} {b o : Nat} {t : Tok} (h : TokAt w b o t) (hb : Bel w w') (hlt : b < w.heap.size) : TokAt w' b o t := by
 simp only [TokAt, hb.cells _ _ hlt]
 exact h
def Toks (w : World) (A : Option Addr) (l : List Tok) : Prop := Row w A (tsCells l)
theorem Toks.keep {w w' : World} {A : Option Addr} {l : List Tok} (h : Toks w A l) (hb : Bel w w') : Toks w' A l := Row.keep h hb
theorem Toks.at {w : World} {A : Option Addr} {l : List Tok} (h : Toks w A l) (h0 : 0 < l.length) : ∃ b off, A = some ⟨b, off, none⟩ /\ b < w.heap.size /\ ∀ i t, l[i]? = some t -> TokAt w b (off + i * 6) t := by
 obtain ⟨b, off, hA, hlt, hc⟩ := h (by rw [Qiv]; omega)
 refine ⟨b, off, hA, hlt, fun i t ht => ?_⟩
 have g := fun k u hu => hc _ u (Qsk l i k t u ht hu)
 refine ⟨?_, ?_, ?_, ?_, ?_, ?_⟩
 ·exact g 0 _ rfl
 ·exact g 1 _ rfl
 ·exact g 2 _ rfl
 ·exact g 3 _ rfl
 ·exact g 4 _ rfl
 exact g 5 _ rfl
theorem Toks.take {w : World} {A : Option Addr} {l : List Tok} (h : Toks w A l) (n : Nat) : Toks w A (l.take n) := fun h0 => by
 have hs : tsCells l = tsCells (l.take n) ++ tsCells (l.drop n) := by rw [← Qfj, List.take_append_drop]
 obtain ⟨b, off, hA, hlt, hc⟩ := h (by rw [hs, lA]; omega)
 refine ⟨b, off, hA, hlt, fun j u hu => hc j u ?_⟩
 rw [hs, List.getElem?_append_left (List.getElem?_eq_some_iff.1 hu).1]
 exact hu
def TkRows (w : World) (B : Nat) (v : Value) (l : List Tok) : Prop := w.ownsRow B 111 6 v l.length (tsCells l)
theorem TkRows.keep {w w' : World} {B : Nat} {v : Value} {l : List Tok} (h : TkRows w B v l) (hb : Bel w w') : TkRows w' B v l := Qe0 h hb
theorem TkRows.nil (w : World) (B : Nat) : TkRows w B (.slice none 0 0) [] := World.ownsRow_nil w B _ _
theorem TkRows.val {w : World} {B : Nat} {v : Value} {l : List Tok} (h : TkRows w B v l) : ∃ A c, v = .slice A l.length c /\ Toks w A l /\ (A = none -> c = 0) := by
 obtain ⟨A, c, e, h2, h3, _⟩ := Qef h
 exact ⟨A, c, e, h2, h3⟩
theorem infoTk : (Tryz.prog.info? 111).map (fun i => (i.zero, i.size, i.bytes)) = some (some (.agg #[.int .i64 0, .int .i64 0, .string ⟨#[]⟩, .int .i64 0, .int .i64 0, .int .i64 0]), 6, 56) := by kernel_rfl
theorem infoTk' : ∃ i0, Tryz.prog.info? 111 = some i0 /\ i0.zero = some (.agg #[.int .i64 0, .int .i64 0, .string ⟨#[]⟩, .int .i64 0, .int .i64 0, .int .i64 0]) /\ i0.size = 6 /\ i0.bytes = 56 := by
 obtain ⟨i0, h1, h2⟩ := Option.map_eq_some_iff.1 infoTk
 simp only [Prod.mk.injEq] at h2
 exact ⟨i0, h1, h2.1, h2.2.1, h2.2.2⟩
theorem Qiw (t : Tok) : ∀ u ∈ tkCells t, u.oneCell' = true := by
 intro u hu
 simp only [tkCells, List.mem_cons, List.not_mem_nil, or_false] at hu
 rcases hu with rfl | rfl | rfl | rfl | rfl | rfl <;> rfl
theorem Qto (w : World) (xs : List Value) (t : TypeId) : Row (w.alloc (.cells xs.toArray t)) (some ⟨w.heap.size, 0, none⟩) xs := fun _ => by
 refine ⟨w.heap.size, 0, rfl, by simp, fun j u hu => ?_⟩
 have hadd : (0 + j) = j := by omega
 rw [hadd, Lib.cell_of_heap (heap_alloc_new w _)]
 simpa using hu
theorem Qtp {w : World} {B : Nat} {v : Value} {l : List Tok} (h : TkRows w B v l) (hB : B <= w.heap.size) (hlen : l.length <= 1000000) (t : Tok) (ty : TypeId) :
  ∃ v' w', (Builtin.append_ #[58, 58] ty #[v, .slice (some ⟨w.heap.size, 0, none⟩) 1 1]).run Tryz.prog (w.alloc (.cells #[.int .i64 t.kind, .int .i64 t.pos, .string (Qaa t.text), .int .i64 t.dn, .int .i64 t.ds, .int .i64 t.day] 111)) = .ok v' w' /\
   (TkRows w' B v' (l ++ [t]) /\ BelBut w w' v.ownBlock) := by
 obtain ⟨i0, hi, hz0, hz1, hz2⟩ := infoTk'
 have ho := Qe0 h ((Bel.refl w).alloc (.cells (tkCells t).toArray 111))
 obtain ⟨v', w', hr, k1, k2, k3⟩ := Qik (P := Tryz.prog) _ B 58 ty 111 i0 _ 6 56 Tryz.underlying58 hi hz0 hz1 hz2 rfl (by omega) ho (m := 1) (c := 1) (Qto w (tkCells t) _) rfl (by simp) (Qiw t) (by simp only [maxLen]; omega) (by omega) (by simp; omega)
 refine ⟨v', w', hr, ?_, World.grownBy.trans ⟨((Bel.refl w).alloc _).os, ((Bel.refl w).alloc _).tape, ((Bel.refl w).alloc _).output, Below.size ((Bel.refl w).alloc _), fun k hk _ => ((Bel.refl w).alloc _).block k hk⟩ k2⟩
 unfold TkRows
 rw [lA, Qfj]
 exact k1
theorem Qqd {w0 w1 w2 : World} {v : Value} {l : List Tok} (h0 : Bel w0 w1) (hM : TkRows w1 w0.heap.size v l) (h : BelBut w1 w2 v.ownBlock) : Bel w0 w2 :=
 BelBut.bel h0 h fun k hk => (World.ownsRow.lt hM k hk).1
end
section
open Go.RowKit
theorem Qqe {l : List UInt8} (h : (dayP l).2 = 0) : l.length = 10 /\ ∀ c ∈ l, c ≠ 34 /\ c ≠ 92 := by
 have hd := Qm8 l
 rw [h] at hd
 have bad : ∀ n : Int, badV = .tuple #[.int .i64 n, .int .i64 ((0 : Nat) : Int)] -> False := by
  intro n e
  simp [badV] at e
 generalize (dayP l).1 = n at hd
 clear h
 by_cases hlen : l.length = 10
 ·refine ⟨hlen, ?_⟩
  unfold Qax at hd
  rw [Qam] at hd
  match l, hlen, hd with
  | [a, b, c, d, e, f, g, i, j, k], _, hd =>
   simp only at hd
   split at hd
   ·rename_i h45
    obtain ⟨rfl, rfl⟩ := h45
    unfold parseL at hd
    split at hd
    ·rename_i hk
     obtain ⟨k1, k2, k3⟩ := hk
     simp only [Qbr, List.all_cons, List.all_nil, Bool.and_true, bA] at k1 k2 k3
     have q : ∀ c, dB_Y c = true -> c ≠ 34 /\ c ≠ 92 := by
      intro c hc
      constructor <;> (rintro rfl; revert hc; decide)
     intro x hx
     simp only [List.mem_cons, List.not_mem_nil, or_false] at hx
     rcases hx with h | h | h | h | h | h | h | h | h | h <;> rw [h]
     ·exact q _ k1.1
     ·exact q _ k1.2.1
     ·exact q _ k1.2.2.1
     ·exact q _ k1.2.2.2
     ·decide
     ·exact q _ k2.1
     ·exact q _ k2.2
     ·decide
     ·exact q _ k3.1
     exact q _ k3.2
    exact absurd hd (bad _)
   exact absurd hd (bad _)
 rw [Qhl _ (by rw [Qae]; exact hlen)] at hd
 exact absurd hd (bad _)
theorem Qqf {l : List UInt8} (h : [64, 34].isPrefixOf l = false) : dayT l = .bad 5 := by
 unfold dayT
 rw [iN (by rw [h]; simp)]
def signsL : List (List UInt8) := sg2 ++ sg1.map fun c => [c]
theorem Qgt (k : Nat) (l : List UInt8) : ∀ L : List (List UInt8), (∀ g ∈ L, g.length = k) -> L.find? (fun g => g.isPrefixOf l) = if L.contains (l.take k) = true then some (l.take k) else none
 | [], _ => rfl
 | g :: L, h => by
  have ih := Qgt k l L (fun x hx => h x (by simp [hx]))
  have hg := h g (by simp)
  have hp : g.isPrefixOf l = true ↔ l.take k = g := by
   rw [List.isPrefixOf_iff_prefix, List.prefix_iff_eq_take, hg]
   exact eq_comm
  by_cases hq : l.take k = g
  ·have hp' := hp.2 hq
   simp only [List.find?_cons, hp']
   rw [hq]
   simp
  have hp' : g.isPrefixOf l = false := by
   rw [Bool.eq_false_iff]
   exact fun e => hq (hp.1 e)
  simp only [List.find?_cons, hp']
  rw [ih]
  have : (g :: L).contains (l.take k) = L.contains (l.take k) := by
   rw [List.contains_cons, beq_eq_false_iff_ne.2 hq, Bool.false_or]
  rw [this]
theorem Qka (l : List UInt8) : sigL l = (signsL.find? (fun g => g.isPrefixOf l)).getD [] := by
 unfold sigL signsL
 rw [List.find?_append, Qgt 2 l sg2 (by decide), Qgt 1 l (sg1.map fun c => [c]) (by decide)]
 have e : (sg1.map fun c => [c]).contains (l.take 1) = true ↔ ∃ c ∈ sg1, l.take 1 = [c] := by
  rw [List.contains_iff_mem, List.mem_map]
  constructor
  ·rintro ⟨c, hc, h⟩; exact ⟨c, hc, h.symm⟩
  rintro ⟨c, hc, h⟩; exact ⟨c, hc, h.symm⟩
 by_cases h2 : sg2.contains (l.take 2) = true
 ·rw [iP h2, iP h2]; rfl
 rw [iN h2, iN h2]
 by_cases h1 : ∃ c ∈ sg1, l.take 1 = [c]
 ·rw [iP h1, iP (e.2 h1)]; rfl
 rw [iN h1, iN (fun h => h1 (e.1 h))]; rfl
theorem Qtq (l : List UInt8) : (l ≠ [] /\ sigL l = l) ↔ l ∈ signsL := by
 constructor
 ·rintro ⟨h0, h⟩
  rw [Qka] at h
  cases hf : signsL.find? (fun g => g.isPrefixOf l) with
  | none => rw [hf] at h; exact absurd h.symm h0
  | some g =>
   rw [hf] at h
   have : g = l := h
   subst this
   exact List.mem_of_find?_eq_some hf
 intro h
 revert l
 decide
theorem Qsl (l : List UInt8) (i : Nat) : gOf (Qaa l) 0 i = (l.getD i 0).toNat := by
 rw [Qd2, Qam, List.drop_zero]
theorem Qsm (i : Nat) (c : UInt8) : okN i c.toNat = if i = 0 then ltB c else nbB c := by
 have e1 : letB c.toNat = ltB c := rfl
 have e2 : dgB c.toNat = fgB c := rfl
 unfold okN
 rw [e1, e2]
 by_cases h : i = 0
 ·rw [iP h, h]; simp
 rw [iN h, dT h, Bool.true_and]; rfl
theorem Qw8 (l : List UInt8) : nmOk l = true ↔ (0 < l.length /\ l.length <= 32) /\ ∀ i c, l[i]? = some c -> (if i = 0 then ltB c else nbB c) = true := by
 unfold nmOk nameB
 rw [Qae, bA, decide_eq_true_eq, List.all_eq_true]
 refine and_congr Iff.rfl ⟨fun h i c hc => ?_, fun h i hi => ?_⟩
 ·have hlt := (List.getElem?_eq_some_iff.1 hc).1
  have := h i (List.mem_range.2 hlt)
  rw [Qsl, Qsm, List.getD_eq_getElem?_getD, hc] at this
  exact this
 have hlt := List.mem_range.1 hi
 have := h i l[i] (gE hlt)
 rw [Qsl, Qsm, List.getD_eq_getElem?_getD, gE hlt]
 exact this
theorem Qtr {l : List UInt8} (h : nmOk l = true) : l.length <= 32 /\ ∃ c t, l = c :: t /\ ltB c = true /\ ∀ b ∈ l, nbB b = true := by
 rw [Qw8] at h
 obtain ⟨⟨h0, h1⟩, h2⟩ := h
 refine ⟨h1, ?_⟩
 cases l with
 | nil => simp at h0
 | cons c t =>
  have hc := h2 0 c rfl
  simp only [if_true] at hc
  refine ⟨c, t, rfl, hc, fun b hb => ?_⟩
  obtain ⟨i, hi⟩ := List.mem_iff_getElem?.1 hb
  have := h2 i b hi
  split at this
  ·unfold nbB; rw [this]; rfl
  exact this
end
end Go.Proofs.YtjckpkamhdbcnaaGreatDoor
