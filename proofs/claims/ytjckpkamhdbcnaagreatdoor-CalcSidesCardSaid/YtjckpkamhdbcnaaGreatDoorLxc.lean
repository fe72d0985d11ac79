import Derived.Test.YtjckpkamhdbcnaaGreatDoorLxb
import Derived.Test.YtjckpkamhdbcnaaGreatDoorVal
import Derived.Lib.CountLaws
import Derived.Lib.SplitLaws
import Derived.Lib.IndexBytes
import Derived.Lib.Replace
namespace Go.Proofs.YtjckpkamhdbcnaaGreatDoor
set_option linter.unusedSimpArgs false
set_option linter.unusedVariables false
open Go.RowKit
attribute [local go_sem ↓] eql_val neq_val
/-! Values: whether one is sound. -/
def vsnd (v : Val) : Bool :=
 if v.kind = 0 then veq v ⟨0, 0, 0, ⟨#[]⟩, 0⟩
 else if v.kind = 1 then veq v ⟨1, v.n, v.scale, ⟨#[]⟩, 0⟩ && sndB v.n v.scale
 else if v.kind = 2 then veq v ⟨2, 0, 0, v.text, 0⟩ && (decide (v.text.size ≤ 256) && goodB v.text)
 else if v.kind = 3 then veq v ⟨3, 0, 0, ⟨#[]⟩, v.num⟩ && (decide (v.num = 0) || decide (v.num = 1))
 else if v.kind = 4 then veq v ⟨4, 0, 0, ⟨#[]⟩, v.num⟩ && (decide (0 ≤ v.num) && decide (v.num ≤ 3652058))
 else false
theorem vsnd0 (n s m : Int) (t : ByteArray) : vsnd ⟨0, n, s, t, m⟩ = veq ⟨0, n, s, t, m⟩ ⟨0, 0, 0, ⟨#[]⟩, 0⟩ := rfl
theorem vsnd1 (n s m : Int) (t : ByteArray) : vsnd ⟨1, n, s, t, m⟩ = (veq ⟨1, n, s, t, m⟩ ⟨1, n, s, ⟨#[]⟩, 0⟩ && sndB n s) := rfl
theorem vsnd2 (n s m : Int) (t : ByteArray) : vsnd ⟨2, n, s, t, m⟩ = (veq ⟨2, n, s, t, m⟩ ⟨2, 0, 0, t, 0⟩ && (decide (t.size ≤ 256) && goodB t)) := rfl
theorem vsnd3 (n s m : Int) (t : ByteArray) : vsnd ⟨3, n, s, t, m⟩ = (veq ⟨3, n, s, t, m⟩ ⟨3, 0, 0, ⟨#[]⟩, m⟩ && (decide (m = 0) || decide (m = 1))) := rfl
theorem vsnd4 (n s m : Int) (t : ByteArray) : vsnd ⟨4, n, s, t, m⟩ = (veq ⟨4, n, s, t, m⟩ ⟨4, 0, 0, ⟨#[]⟩, m⟩ && (decide (0 ≤ m) && decide (m ≤ 3652058))) := rfl
theorem vsnd5 (k n s m : Int) (t : ByteArray) (h : k ≠ 0 ∧ k ≠ 1 ∧ k ≠ 2 ∧ k ≠ 3 ∧ k ≠ 4) : vsnd ⟨k, n, s, t, m⟩ = false := by
 unfold vsnd
 rw [if_neg h.1, if_neg h.2.1, if_neg h.2.2.1, if_neg h.2.2.2.1, if_neg h.2.2.2.2]
theorem kinds (k : Int) : k = 0 ∨ k = 1 ∨ k = 2 ∨ k = 3 ∨ k = 4 ∨ (k ≠ 0 ∧ k ≠ 1 ∧ k ≠ 2 ∧ k ≠ 3 ∧ k ≠ 4) := by omega
set_option maxRecDepth 100000 in
set_option maxHeartbeats 4000000 in
theorem vsound_any (v : Val) (hv : v.text.size ≤ 9223372036854775807) (w : World) : Calls Tryz.prog 22 #[v.val] w fun e w' => e = .returned (.bool (vsnd v)) ∧ Bel w w' := by
 obtain ⟨k, n, s, t, m⟩ := v
 have hv : t.size ≤ 9223372036854775807 := hv
 rcases kinds k with rfl | rfl | rfl | rfl | rfl | hk
 ·have L := Lib.hid (vsnd0 n s m t)
  go_enter Tryz.func22, Tryz.ntmps22
  go_wp2_with fail
  go_ret
  exact ⟨by (rw [L.out]) <;> rfl, (Bel.refl _).alloc _⟩
 ·have L0 := vsnd1 n s m t
  cases hq : veq ⟨1, n, s, t, m⟩ ⟨1, n, s, ⟨#[]⟩, 0⟩ with
  | false =>
   have L := Lib.hid (show vsnd ⟨1, n, s, t, m⟩ = false by rw [L0, hq]; rfl)
   clear L0
   go_enter Tryz.func22, Tryz.ntmps22
   go_wp2_with fail
   go_ret
   exact ⟨by (rw [L.out]) <;> rfl, (Bel.refl _).alloc _⟩
  | true =>
   have L := Lib.hid (show vsnd ⟨1, n, s, t, m⟩ = sndB n s by rw [L0, hq]; rfl)
   clear L0
   go_enter Tryz.func22, Tryz.ntmps22
   go_wp2_with (go_at_call 41; refine (sound_any n s _).mono ?_; rintro e W1 ⟨rfl, hb1⟩)
   go_ret
   exact ⟨by (rw [L.out]) <;> rfl, ((Bel.refl _).alloc _).trans hb1⟩
 ·have L0 := vsnd2 n s m t
  cases hq : veq ⟨2, n, s, t, m⟩ ⟨2, 0, 0, t, 0⟩ with
  | false =>
   have L := Lib.hid (show vsnd ⟨2, n, s, t, m⟩ = false by rw [L0, hq]; rfl)
   clear L0
   go_enter Tryz.func22, Tryz.ntmps22
   go_wp2_with fail
   go_ret
   exact ⟨by (rw [L.out]) <;> rfl, (Bel.refl _).alloc _⟩
  | true =>
   by_cases hz : t.size ≤ 256
   ·have L := Lib.hid (show vsnd ⟨2, n, s, t, m⟩ = goodB t by rw [L0, hq, decide_eq_true hz]; rfl)
    have gz : decide ((t.size : Int) ≤ 256) = true := by exact decide_eq_true (by omega)
    clear L0
    go_enter Tryz.func22, Tryz.ntmps22
    go_wp2_with (go_at_call 42; refine (good_any t hv _).mono ?_; rintro e W1 ⟨rfl, hb1⟩)
    go_ret
    exact ⟨by (rw [L.out]) <;> rfl, ((Bel.refl _).alloc _).trans hb1⟩
   ·have L := Lib.hid (show vsnd ⟨2, n, s, t, m⟩ = false by rw [L0, hq, decide_eq_false hz]; rfl)
    have gz : decide ((t.size : Int) ≤ 256) = false := by exact decide_eq_false (by omega)
    clear L0
    go_enter Tryz.func22, Tryz.ntmps22
    go_wp2_with fail
    go_ret
    exact ⟨by (rw [L.out]) <;> rfl, (Bel.refl _).alloc _⟩
 ·have L0 := vsnd3 n s m t
  cases hq : veq ⟨3, n, s, t, m⟩ ⟨3, 0, 0, ⟨#[]⟩, m⟩ with
  | false =>
   have L := Lib.hid (show vsnd ⟨3, n, s, t, m⟩ = false by rw [L0, hq]; rfl)
   clear L0
   go_enter Tryz.func22, Tryz.ntmps22
   go_wp2_with fail
   go_ret
   exact ⟨by (rw [L.out]) <;> rfl, (Bel.refl _).alloc _⟩
  | true =>
   by_cases h0 : m = 0
   ·have L := Lib.hid (show vsnd ⟨3, n, s, t, m⟩ = true by rw [L0, hq, decide_eq_true h0]; rfl)
    have g0 : (m == 0) = true := by rw [beq_iff_eq]; exact h0
    clear L0 h0
    go_enter Tryz.func22, Tryz.ntmps22
    go_wp2_with fail
    go_ret
    exact ⟨by (rw [L.out]) <;> rfl, (Bel.refl _).alloc _⟩
   ·have g0 : (m == 0) = false := by rw [beq_eq_false_iff_ne]; exact h0
    by_cases h1 : m = 1
    ·have L := Lib.hid (show vsnd ⟨3, n, s, t, m⟩ = true by rw [L0, hq, decide_eq_true h1]; simp)
     have g1 : (m == 1) = true := by rw [beq_iff_eq]; exact h1
     clear L0 h0 h1
     go_enter Tryz.func22, Tryz.ntmps22
     go_wp2_with fail
     go_ret
     exact ⟨by (rw [L.out]) <;> rfl, (Bel.refl _).alloc _⟩
    ·have L := Lib.hid (show vsnd ⟨3, n, s, t, m⟩ = false by rw [L0, hq, decide_eq_false h0, decide_eq_false h1]; rfl)
     have g1 : (m == 1) = false := by rw [beq_eq_false_iff_ne]; exact h1
     clear L0 h0 h1
     go_enter Tryz.func22, Tryz.ntmps22
     go_wp2_with fail
     go_ret
     exact ⟨by (rw [L.out]) <;> rfl, (Bel.refl _).alloc _⟩
 ·have L0 := vsnd4 n s m t
  cases hq : veq ⟨4, n, s, t, m⟩ ⟨4, 0, 0, ⟨#[]⟩, m⟩ with
  | false =>
   have L := Lib.hid (show vsnd ⟨4, n, s, t, m⟩ = false by rw [L0, hq]; rfl)
   clear L0
   go_enter Tryz.func22, Tryz.ntmps22
   go_wp2_with fail
   go_ret
   exact ⟨by (rw [L.out]) <;> rfl, (Bel.refl _).alloc _⟩
  | true =>
   by_cases h0 : 0 ≤ m
   ·have g0 : decide (0 ≤ m) = true := by exact decide_eq_true h0
    by_cases h1 : m ≤ 3652058
    ·have g1 : decide (m ≤ 3652058) = true := by exact decide_eq_true h1
     have L := Lib.hid (show vsnd ⟨4, n, s, t, m⟩ = true by rw [L0, hq, g0, g1]; rfl)
     clear L0
     go_enter Tryz.func22, Tryz.ntmps22
     go_wp2_with fail
     go_ret
     exact ⟨by (rw [L.out]) <;> rfl, (Bel.refl _).alloc _⟩
    ·have g1 : decide (m ≤ 3652058) = false := by exact decide_eq_false h1
     have L := Lib.hid (show vsnd ⟨4, n, s, t, m⟩ = false by rw [L0, hq, g0, g1]; rfl)
     clear L0
     go_enter Tryz.func22, Tryz.ntmps22
     go_wp2_with fail
     go_ret
     exact ⟨by (rw [L.out]) <;> rfl, (Bel.refl _).alloc _⟩
   ·have g0 : decide (0 ≤ m) = false := by exact decide_eq_false h0
    have L := Lib.hid (show vsnd ⟨4, n, s, t, m⟩ = false by rw [L0, hq, g0]; rfl)
    clear L0
    go_enter Tryz.func22, Tryz.ntmps22
    go_wp2_with fail
    go_ret
    exact ⟨by (rw [L.out]) <;> rfl, (Bel.refl _).alloc _⟩
 ·have L := Lib.hid (vsnd5 k n s m t hk)
  have k0 : (k == 0) = false := by rw [beq_eq_false_iff_ne]; exact hk.1
  have k1 : (k == 1) = false := by rw [beq_eq_false_iff_ne]; exact hk.2.1
  have k2 : (k == 2) = false := by rw [beq_eq_false_iff_ne]; exact hk.2.2.1
  have k3 : (k == 3) = false := by rw [beq_eq_false_iff_ne]; exact hk.2.2.2.1
  have k4 : (k == 4) = false := by rw [beq_eq_false_iff_ne]; exact hk.2.2.2.2
  clear hk
  go_enter Tryz.func22, Tryz.ntmps22
  go_wp2_with fail
  go_ret
  exact ⟨by (rw [L.out]) <;> rfl, (Bel.refl _).alloc _⟩
/-! Values: the document's sound ones; whether one fits. -/
theorem bcell {W w1 : World} (hb : Bel W w1) : (∀ b o, b < W.heap.size → w1.cell? ⟨b, o, none⟩ = W.cell? ⟨b, o, none⟩) ∧ (∀ b o, b < W.heap.size → w1.frozen? ⟨b, o, none⟩ = W.frozen? ⟨b, o, none⟩) :=
 ⟨hb.cells, hb.frozens⟩
theorem empty_iff (t : ByteArray) : t.toList.isEmpty = true ↔ t = ⟨#[]⟩ := by
 rw [List.isEmpty_iff, ByteArray.toList_eq]
 constructor
 ·intro h
  obtain ⟨⟨l⟩⟩ := t
  simp at h
  rw [h]
 ·rintro rfl; rfl
theorem veq0 (k n s m : Int) (t : ByteArray) : veq ⟨k, n, s, t, m⟩ ⟨k, 0, 0, ⟨#[]⟩, 0⟩ = ((n == 0) && ((s == 0) && (t.toList.isEmpty && (m == 0)))) := by
 rw [Bool.eq_iff_iff, veq_iff]
 simp only [Val.mk.injEq, Bool.and_eq_true, beq_iff_eq, empty_iff, true_and]
theorem veq1 (k n s m : Int) (t : ByteArray) : veq ⟨k, n, s, t, m⟩ ⟨k, n, s, ⟨#[]⟩, 0⟩ = (t.toList.isEmpty && (m == 0)) := by
 rw [Bool.eq_iff_iff, veq_iff]
 simp only [Val.mk.injEq, Bool.and_eq_true, beq_iff_eq, empty_iff, true_and]
theorem veq2 (k n s m : Int) (t : ByteArray) : veq ⟨k, n, s, t, m⟩ ⟨k, 0, 0, t, 0⟩ = ((n == 0) && ((s == 0) && (m == 0))) := by
 rw [Bool.eq_iff_iff, veq_iff]
 simp only [Val.mk.injEq, Bool.and_eq_true, beq_iff_eq, true_and]
theorem veq3 (k n s m : Int) (t : ByteArray) : veq ⟨k, n, s, t, m⟩ ⟨k, 0, 0, ⟨#[]⟩, m⟩ = ((n == 0) && ((s == 0) && t.toList.isEmpty)) := by
 rw [Bool.eq_iff_iff, veq_iff]
 simp only [Val.mk.injEq, Bool.and_eq_true, beq_iff_eq, empty_iff, true_and, and_true]
theorem vs0 (n s m : Int) (t : ByteArray) : vsnd ⟨0, n, s, t, m⟩ = ((n == 0) && ((s == 0) && (t.toList.isEmpty && (m == 0)))) := by rw [vsnd0, veq0]
theorem vs1 (n s m : Int) (t : ByteArray) : vsnd ⟨1, n, s, t, m⟩ = (sndB n s && (t.toList.isEmpty && (m == 0))) := by rw [vsnd1, veq1, Bool.and_comm]
theorem vs2 (n s m : Int) (t : ByteArray) : vsnd ⟨2, n, s, t, m⟩ = ((n == 0) && ((s == 0) && ((m == 0) && (decide ((t.size : Int) ≤ 256) && goodB t)))) := by
 rw [vsnd2, veq2, show decide ((t.size : Int) ≤ 256) = decide (t.size ≤ 256) from decide_eq_decide.2 (by omega)]
 simp only [Bool.and_assoc]
theorem vs3 (n s m : Int) (t : ByteArray) : vsnd ⟨3, n, s, t, m⟩ = ((n == 0) && ((s == 0) && (t.toList.isEmpty && ((m == 0) || (m == 1))))) := by
 rw [vsnd3, veq3]
 simp only [Bool.and_assoc]
 rfl
theorem vs4 (n s m : Int) (t : ByteArray) : vsnd ⟨4, n, s, t, m⟩ = ((n == 0) && ((s == 0) && (t.toList.isEmpty && (decide (0 ≤ m) && decide (m ≤ 3652058))))) := by
 rw [vsnd4, veq3]
 simp only [Bool.and_assoc]
theorem vs_dec {n s m : Int} {t : ByteArray} (h : vsnd ⟨1, n, s, t, m⟩ = true) : SndD n s := by
 rw [vs1] at h
 have := (Bool.and_eq_true_iff.1 h).1
 exact of_decide_eq_true this
theorem vs_text {n s m : Int} {t : ByteArray} (h : vsnd ⟨2, n, s, t, m⟩ = true) : m = 0 ∧ n = 0 ∧ s = 0 ∧ t.size ≤ 256 ∧ goodB t = true := by
 rw [vs2] at h
 simp only [Bool.and_eq_true, beq_iff_eq, decide_eq_true_eq] at h
 exact ⟨h.2.2.1, h.1, h.2.1, by omega, h.2.2.2.2⟩
/-! Values: texts between quotes. -/
def qtB (c : UInt8) : List UInt8 := if c = 34 ∨ c = 92 then [92, c] else [c]
def qtL (l : List UInt8) : List UInt8 := l.flatMap qtB
/-- The library's bound of a short search lies somewhere. -/
def Mx (w : World) : Prop := ∃ m, w.cell? ⟨0, 0, none⟩ = some (.int .i64 m)
theorem Mx.keep {w w' : World} (h : Mx w) (hb : Bel w w') : Mx w' := by
 obtain ⟨m, hm⟩ := h
 exact ⟨m, by rw [hb.cells _ _ (World.block_lt_of_cell? _ _ hm)]; exact hm⟩
def quoL (l : List UInt8) : List UInt8 := [34] ++ qtL l ++ [34]
theorem qt_len (l : List UInt8) : (qtL l).length ≤ 2 * l.length := by
 induction l with
 | nil => exact Nat.le_refl _
 | cons x l ih =>
  show (qtB x ++ qtL l).length ≤ _
  have : (qtB x).length ≤ 2 := by unfold qtB; split <;> simp
  rw [List.length_append, List.length_cons]; omega
/-! Values as texts. -/
theorem qt_same : ∀ l : List UInt8, (∀ c ∈ l, c ≠ 34 ∧ c ≠ 92) → qtL l = l
 | [], _ => rfl
 | c :: l, h => by
  show qtB c ++ qtL l = c :: l
  have h1 := h c (by simp)
  rw [qt_same l (fun x hx => h x (by simp [hx]))]
  unfold qtB
  rw [if_neg (by rintro (e | e); exact h1.1 e; exact h1.2 e)]
  rfl
theorem dgt_ne (n k : Nat) : dgt_Y n k ≠ 34 ∧ dgt_Y n k ≠ 92 := by
 have h : (dgt_Y n k).toNat = 48 + n / k % 10 := by
  unfold dgt_Y
  rw [UInt8.toNat_ofNat']
  omega
 refine ⟨fun e => ?_, fun e => ?_⟩
 ·rw [e] at h
  have : (34 : UInt8).toNat = 34 := rfl
  omega
 ·rw [e] at h
  have : (92 : UInt8).toNat = 92 := rfl
  omega
theorem dtx_quo (n : Int) : quoL (dtx n).data.toList = [34] ++ (dtx n).data.toList ++ [34] := by
 unfold quoL
 rw [qt_same]
 intro c hc
 have hc' : c ∈ [dgt_Y (dY n).toNat 1000, dgt_Y (dY n).toNat 100, dgt_Y (dY n).toNat 10, dgt_Y (dY n).toNat 1, 45, dgt_Y (dM n).toNat 10, dgt_Y (dM n).toNat 1, 45, dgt_Y (dD n).toNat 10, dgt_Y (dD n).toNat 1] := hc
 simp only [List.mem_cons, List.not_mem_nil, or_false] at hc'
 rcases hc' with rfl | rfl | rfl | rfl | rfl | rfl | rfl | rfl | rfl | rfl
 all_goals first | exact dgt_ne _ _ | decide
end Go.Proofs.YtjckpkamhdbcnaaGreatDoor
