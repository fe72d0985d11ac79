import Derived.Test.YtjckpkamhdbcnaaGreatDoorZs
import Derived.Laws.EntriesVeiled
namespace Go.Proofs.YtjckpkamhdbcnaaGreatDoor
set_option maxRecDepth 100000
set_option maxHeartbeats 64000000
set_option linter.unusedSimpArgs false
set_option linter.unusedVariables false
section
open Go.RowKit
attribute [local go_sem ↓] Qas Qau
def kidI (o : Int) : Int := if o = 1 then 0 else if o = 2 then 0 else if o = 3 then 1 else if o = 16 then 1 else if o = 17 then 3 else if 3 < o /\ o < 16 then 2 else -1
theorem kids7 (o : Int) : o = 1 \/ o = 2 \/ o = 3 \/ o = 16 \/ o = 17 \/ (3 < o /\ o < 16) \/ (¬ o = 1 /\ ¬ o = 2 /\ ¬ o = 3 /\ ¬ o = 16 /\ ¬ o = 17 /\ (o < 3 \/ 17 < o)) := by omega
theorem Qe6 (o : Int) (w : World) : Calls Tryz.prog 73 #[.int .i64 o] w fun r w' => r = .returned (.int .i64 (kidI o)) /\ w' = w := by
 rcases kids7 o with rfl | rfl | rfl | rfl | rfl | ⟨h1, h2⟩ | ⟨h1, h2, h3, h4, h5, h6⟩
 ·go_enter Tryz.func73, Tryz.ntmps73
  go_wp2_with fail
  go_ret
  exact ⟨rfl, rfl⟩
 ·go_enter Tryz.func73, Tryz.ntmps73
  go_wp2_with fail
  go_ret
  exact ⟨rfl, rfl⟩
 ·go_enter Tryz.func73, Tryz.ntmps73
  go_wp2_with fail
  go_ret
  exact ⟨rfl, rfl⟩
 ·go_enter Tryz.func73, Tryz.ntmps73
  go_wp2_with fail
  go_ret
  exact ⟨rfl, rfl⟩
 ·go_enter Tryz.func73, Tryz.ntmps73
  go_wp2_with fail
  go_ret
  exact ⟨rfl, rfl⟩
 ·have e := Hd (show kidI o = 2 from by unfold kidI; rw [iN (by omega), iN (by omega), iN (by omega), iN (by omega), iN (by omega), iP ⟨h1, h2⟩])
  have g1 : ¬ o = 1 := by omega
  have g2 : ¬ o = 2 := by omega
  have g3 : ¬ o = 3 := by omega
  have g4 : ¬ o = 16 := by omega
  have g5 : ¬ o = 17 := by omega
  go_enter Tryz.func73, Tryz.ntmps73
  go_wp2_with fail
  go_ret
  exact ⟨by (rw [e.out]) <;> rfl, rfl⟩
 have e := Hd (show kidI o = -1 from by unfold kidI; rw [iN h1, iN h2, iN h3, iN h4, iN h5, iN (by omega)])
 rcases h6 with h6 | h6
 ·have g1 : ¬ 3 < o := by omega
  go_enter Tryz.func73, Tryz.ntmps73
  go_wp2_with fail
  go_ret
  exact ⟨by (rw [e.out]) <;> rfl, rfl⟩
 have g1 : 3 < o := by omega
 have g2 : ¬ o < 16 := by omega
 go_enter Tryz.func73, Tryz.ntmps73
 go_wp2_with fail
 go_ret
 exact ⟨by (rw [e.out]) <;> rfl, rfl⟩
def prtV (o : Int) (v : Val) (bn : ByteArray) (n : Nat) : Bool := decide ((n : Int) = kidI o) && (if o = 1 then decide (bn = ⟨#[]⟩) && (vsnd v && decide (0 <= v.n)) else if o = 2 then veq v zv && wordB bn else veq v zv && decide (bn = ⟨#[]⟩))
theorem Que (o : Int) (vk vn vs : Int) (vt : ByteArray) (vm : Int) (bn : ByteArray) (A : Option Addr) (n c : Nat) (w : World) (h : ¬ (n : Int) = kidI o) :
  Calls Tryz.prog 44 #[.agg #[.int .i64 o, .int .i64 vk, .int .i64 vn, .int .i64 vs, .string vt, .int .i64 vm, .string bn, .slice A n c]] w fun r w' => r = .returned (.bool (prtV o ⟨vk, vn, vs, vt, vm⟩ bn n)) /\ Bel w w' := by
 have CK := Hd fun W => Qe6 o W
 have L := Hd (show prtV o ⟨vk, vn, vs, vt, vm⟩ bn n = false from by unfold prtV; rw [dF h]; rfl)
 go_enter Tryz.func44, Tryz.ntmps44
 go_upto_region 1 with fail
 refine uN ((Bel.refl w).alloc _) fun W hcc hf hz hb => ?_
 have k0 : W.cell? ⟨w.heap.size, 0, none⟩ = some (.int .i64 o) := by simp [hcc, go_sem]
 have k1 : W.cell? ⟨w.heap.size, 1, none⟩ = some (.int .i64 vk) := by simp [hcc, go_sem]
 have k2 : W.cell? ⟨w.heap.size, 2, none⟩ = some (.int .i64 vn) := by simp [hcc, go_sem]
 have k3 : W.cell? ⟨w.heap.size, 3, none⟩ = some (.int .i64 vs) := by simp [hcc, go_sem]
 have k4 : W.cell? ⟨w.heap.size, 4, none⟩ = some (.string vt) := by simp [hcc, go_sem]
 have k5 : W.cell? ⟨w.heap.size, 5, none⟩ = some (.int .i64 vm) := by simp [hcc, go_sem]
 have k6 : W.cell? ⟨w.heap.size, 6, none⟩ = some (.string bn) := by simp [hcc, go_sem]
 have k7 : W.cell? ⟨w.heap.size, 7, none⟩ = some (.slice A n c) := by simp [hcc, go_sem]
 have hNW : w.heap.size < W.heap.size := by rw [hz]; simp
 clear hcc hf hz
 have HB := Hd hb
 clear hb
 generalize w.heap.size = N at k0 k1 k2 k3 k4 k5 k6 k7 hNW ⊢
 go_quiet ((go_at_call 73; refine Calls.quiet_of_same (CK.out _)))
 go_wp2_with fail
 go_ret
 exact ⟨by (rw [L.out]) <;> first | rfl | (simp [*]; done), HB.out.drewN _⟩
theorem Qq4 (o : Int) (vk vn vs : Int) (vt : ByteArray) (vm : Int) (bn : ByteArray) (A : Option Addr) (n c : Nat) (w : World) (hv : vt.size <= 9223372036854775807) (h : (n : Int) = kidI o) (h1 : o = 1) :
  Calls Tryz.prog 44 #[.agg #[.int .i64 o, .int .i64 vk, .int .i64 vn, .int .i64 vs, .string vt, .int .i64 vm, .string bn, .slice A n c]] w fun r w' => r = .returned (.bool (prtV o ⟨vk, vn, vs, vt, vm⟩ bn n)) /\ Bel w w' := by
 have CK := Hd (show ∀ W, Calls Tryz.prog 73 #[.int .i64 o] W fun r w' => r = .returned (.int .i64 (n : Int)) /\ w' = W from fun W => by rw [h]; exact Qe6 o W)
 have hE : prtV o ⟨vk, vn, vs, vt, vm⟩ bn n = (decide (bn = ⟨#[]⟩) && (vsnd ⟨vk, vn, vs, vt, vm⟩ && decide (0 <= vn))) := by unfold prtV; rw [dT h, iP h1]; rfl
 subst h1
 clear h
 by_cases hb0 : bn = ⟨#[]⟩
 ·subst hb0
  have CV := Hd fun W => Qbs ⟨vk, vn, vs, vt, vm⟩ hv W
  simp only [Val.val] at CV
  cases hs : vsnd ⟨vk, vn, vs, vt, vm⟩ with
  | false =>
   replace CV := Hd (show ∀ W, Calls Tryz.prog 22 #[.agg #[.int .i64 vk, .int .i64 vn, .int .i64 vs, .string vt, .int .i64 vm]] W fun e w' => e = .returned (.bool false) /\ Bel W w' from fun W => by have h := CV.out W; rw [hs] at h; exact h)
   have L := Hd (show prtV 1 ⟨vk, vn, vs, vt, vm⟩ ⟨#[]⟩ n = false from by rw [hE, hs]; simp)
   go_enter Tryz.func44, Tryz.ntmps44
   go_upto_region 1 with fail
   refine uN ((Bel.refl w).alloc _) fun W hcc hf hz hb => ?_
   have k0 : W.cell? ⟨w.heap.size, 0, none⟩ = some (.int .i64 1) := by simp [hcc, go_sem]
   have k1 : W.cell? ⟨w.heap.size, 1, none⟩ = some (.int .i64 vk) := by simp [hcc, go_sem]
   have k2 : W.cell? ⟨w.heap.size, 2, none⟩ = some (.int .i64 vn) := by simp [hcc, go_sem]
   have k3 : W.cell? ⟨w.heap.size, 3, none⟩ = some (.int .i64 vs) := by simp [hcc, go_sem]
   have k4 : W.cell? ⟨w.heap.size, 4, none⟩ = some (.string vt) := by simp [hcc, go_sem]
   have k5 : W.cell? ⟨w.heap.size, 5, none⟩ = some (.int .i64 vm) := by simp [hcc, go_sem]
   have k6 : W.cell? ⟨w.heap.size, 6, none⟩ = some (.string ⟨#[]⟩) := by simp [hcc, go_sem]
   have k7 : W.cell? ⟨w.heap.size, 7, none⟩ = some (.slice A n c) := by simp [hcc, go_sem]
   have hNW : w.heap.size < W.heap.size := by rw [hz]; simp
   clear hcc hf hz
   have HB := Hd hb
   clear hb
   generalize w.heap.size = N at k0 k1 k2 k3 k4 k5 k6 k7 hNW ⊢
   go_quiet ((go_at_call 73; refine Calls.quiet_of_same (CK.out _)))
   go_wp2_with (go_at_call 22; refine (CV.out _).mono ?_; rintro e W1 ⟨rfl, hb1⟩; have k2' : W1.cell? ⟨N, 2, none⟩ = some (.int .i64 vn) := by (rw [(Bag.of (b := N + 1) (((Bel.refl W).drewN _).trans hb1)).cell (p := ⟨N, 2, none⟩) hNW (by show N ≠ N + 1; omega)]; exact k2))
   go_ret
   exact ⟨by (rw [L.out]) <;> first | rfl | (simp [*]; done), (HB.out.drewN _).trans hb1⟩
  | true =>
   by_cases h0 : 0 <= vn
   ·replace CV := Hd (show ∀ W, Calls Tryz.prog 22 #[.agg #[.int .i64 vk, .int .i64 vn, .int .i64 vs, .string vt, .int .i64 vm]] W fun e w' => e = .returned (.bool true) /\ Bel W w' from fun W => by have h := CV.out W; rw [hs] at h; exact h)
    have L := Hd (show prtV 1 ⟨vk, vn, vs, vt, vm⟩ ⟨#[]⟩ n = true from by rw [hE, hs, dT h0]; simp)
    go_enter Tryz.func44, Tryz.ntmps44
    go_upto_region 1 with fail
    refine uN ((Bel.refl w).alloc _) fun W hcc hf hz hb => ?_
    have k0 : W.cell? ⟨w.heap.size, 0, none⟩ = some (.int .i64 1) := by simp [hcc, go_sem]
    have k1 : W.cell? ⟨w.heap.size, 1, none⟩ = some (.int .i64 vk) := by simp [hcc, go_sem]
    have k2 : W.cell? ⟨w.heap.size, 2, none⟩ = some (.int .i64 vn) := by simp [hcc, go_sem]
    have k3 : W.cell? ⟨w.heap.size, 3, none⟩ = some (.int .i64 vs) := by simp [hcc, go_sem]
    have k4 : W.cell? ⟨w.heap.size, 4, none⟩ = some (.string vt) := by simp [hcc, go_sem]
    have k5 : W.cell? ⟨w.heap.size, 5, none⟩ = some (.int .i64 vm) := by simp [hcc, go_sem]
    have k6 : W.cell? ⟨w.heap.size, 6, none⟩ = some (.string ⟨#[]⟩) := by simp [hcc, go_sem]
    have k7 : W.cell? ⟨w.heap.size, 7, none⟩ = some (.slice A n c) := by simp [hcc, go_sem]
    have hNW : w.heap.size < W.heap.size := by rw [hz]; simp
    clear hcc hf hz
    have HB := Hd hb
    clear hb
    generalize w.heap.size = N at k0 k1 k2 k3 k4 k5 k6 k7 hNW ⊢
    go_quiet ((go_at_call 73; refine Calls.quiet_of_same (CK.out _)))
    go_wp2_with (go_at_call 22; refine (CV.out _).mono ?_; rintro e W1 ⟨rfl, hb1⟩; have k2' : W1.cell? ⟨N, 2, none⟩ = some (.int .i64 vn) := by (rw [(Bag.of (b := N + 1) (((Bel.refl W).drewN _).trans hb1)).cell (p := ⟨N, 2, none⟩) hNW (by show N ≠ N + 1; omega)]; exact k2))
    go_ret
    exact ⟨by (rw [L.out]) <;> first | rfl | (simp [*]; done), (HB.out.drewN _).trans hb1⟩
   replace CV := Hd (show ∀ W, Calls Tryz.prog 22 #[.agg #[.int .i64 vk, .int .i64 vn, .int .i64 vs, .string vt, .int .i64 vm]] W fun e w' => e = .returned (.bool true) /\ Bel W w' from fun W => by have h := CV.out W; rw [hs] at h; exact h)
   have L := Hd (show prtV 1 ⟨vk, vn, vs, vt, vm⟩ ⟨#[]⟩ n = false from by rw [hE, hs, dF h0]; simp)
   go_enter Tryz.func44, Tryz.ntmps44
   go_upto_region 1 with fail
   refine uN ((Bel.refl w).alloc _) fun W hcc hf hz hb => ?_
   have k0 : W.cell? ⟨w.heap.size, 0, none⟩ = some (.int .i64 1) := by simp [hcc, go_sem]
   have k1 : W.cell? ⟨w.heap.size, 1, none⟩ = some (.int .i64 vk) := by simp [hcc, go_sem]
   have k2 : W.cell? ⟨w.heap.size, 2, none⟩ = some (.int .i64 vn) := by simp [hcc, go_sem]
   have k3 : W.cell? ⟨w.heap.size, 3, none⟩ = some (.int .i64 vs) := by simp [hcc, go_sem]
   have k4 : W.cell? ⟨w.heap.size, 4, none⟩ = some (.string vt) := by simp [hcc, go_sem]
   have k5 : W.cell? ⟨w.heap.size, 5, none⟩ = some (.int .i64 vm) := by simp [hcc, go_sem]
   have k6 : W.cell? ⟨w.heap.size, 6, none⟩ = some (.string ⟨#[]⟩) := by simp [hcc, go_sem]
   have k7 : W.cell? ⟨w.heap.size, 7, none⟩ = some (.slice A n c) := by simp [hcc, go_sem]
   have hNW : w.heap.size < W.heap.size := by rw [hz]; simp
   clear hcc hf hz
   have HB := Hd hb
   clear hb
   generalize w.heap.size = N at k0 k1 k2 k3 k4 k5 k6 k7 hNW ⊢
   go_quiet ((go_at_call 73; refine Calls.quiet_of_same (CK.out _)))
   go_wp2_with (go_at_call 22; refine (CV.out _).mono ?_; rintro e W1 ⟨rfl, hb1⟩; have k2' : W1.cell? ⟨N, 2, none⟩ = some (.int .i64 vn) := by (rw [(Bag.of (b := N + 1) (((Bel.refl W).drewN _).trans hb1)).cell (p := ⟨N, 2, none⟩) hNW (by show N ≠ N + 1; omega)]; exact k2))
   go_ret
   exact ⟨by (rw [L.out]) <;> first | rfl | (simp [*]; done), (HB.out.drewN _).trans hb1⟩
 have hb1 : ¬ bn.toList = [] := fun e => hb0 ((Qba _ _).1 (e.trans (by rw [ByteArray.toList_eq])))
 have L := Hd (show prtV 1 ⟨vk, vn, vs, vt, vm⟩ bn n = false from by rw [hE, dF hb0]; rfl)
 go_enter Tryz.func44, Tryz.ntmps44
 go_upto_region 1 with fail
 refine uN ((Bel.refl w).alloc _) fun W hcc hf hz hb => ?_
 have k0 : W.cell? ⟨w.heap.size, 0, none⟩ = some (.int .i64 1) := by simp [hcc, go_sem]
 have k1 : W.cell? ⟨w.heap.size, 1, none⟩ = some (.int .i64 vk) := by simp [hcc, go_sem]
 have k2 : W.cell? ⟨w.heap.size, 2, none⟩ = some (.int .i64 vn) := by simp [hcc, go_sem]
 have k3 : W.cell? ⟨w.heap.size, 3, none⟩ = some (.int .i64 vs) := by simp [hcc, go_sem]
 have k4 : W.cell? ⟨w.heap.size, 4, none⟩ = some (.string vt) := by simp [hcc, go_sem]
 have k5 : W.cell? ⟨w.heap.size, 5, none⟩ = some (.int .i64 vm) := by simp [hcc, go_sem]
 have k6 : W.cell? ⟨w.heap.size, 6, none⟩ = some (.string bn) := by simp [hcc, go_sem]
 have k7 : W.cell? ⟨w.heap.size, 7, none⟩ = some (.slice A n c) := by simp [hcc, go_sem]
 have hNW : w.heap.size < W.heap.size := by rw [hz]; simp
 clear hcc hf hz
 have HB := Hd hb
 clear hb
 generalize w.heap.size = N at k0 k1 k2 k3 k4 k5 k6 k7 hNW ⊢
 go_quiet ((go_at_call 73; refine Calls.quiet_of_same (CK.out _)))
 go_wp2_with fail
 go_ret
 exact ⟨by (rw [L.out]) <;> first | rfl | (simp [*]; done), HB.out.drewN _⟩
theorem Qob (o : Int) (vk vn vs : Int) (vt : ByteArray) (vm : Int) (bn : ByteArray) (A : Option Addr) (n c : Nat) (w : World) (hb : bn.size <= 9223372036854775807) (h : (n : Int) = kidI o) (h1 : o = 2) :
  Calls Tryz.prog 44 #[.agg #[.int .i64 o, .int .i64 vk, .int .i64 vn, .int .i64 vs, .string vt, .int .i64 vm, .string bn, .slice A n c]] w fun r w' => r = .returned (.bool (prtV o ⟨vk, vn, vs, vt, vm⟩ bn n)) /\ Bel w w' := by
 have CK := Hd (show ∀ W, Calls Tryz.prog 73 #[.int .i64 o] W fun r w' => r = .returned (.int .i64 (n : Int)) /\ w' = W from fun W => by rw [h]; exact Qe6 o W)
 have hE : prtV o ⟨vk, vn, vs, vt, vm⟩ bn n = (veq ⟨vk, vn, vs, vt, vm⟩ ⟨0, 0, 0, ⟨#[]⟩, 0⟩ && wordB bn) := by unfold prtV; rw [dT h, iN (by omega), iP h1]; rfl
 have CW := Hd fun W => Qfl bn hb W
 subst h1
 clear h hb
 cases hq : veq ⟨vk, vn, vs, vt, vm⟩ ⟨0, 0, 0, ⟨#[]⟩, 0⟩ with
 | false =>
  have L := Hd (show prtV 2 ⟨vk, vn, vs, vt, vm⟩ bn n = false from by rw [hE, hq]; rfl)
  go_enter Tryz.func44, Tryz.ntmps44
  go_upto_region 1 with fail
  refine uN ((Bel.refl w).alloc _) fun W hcc hf hz hb => ?_
  have k0 : W.cell? ⟨w.heap.size, 0, none⟩ = some (.int .i64 2) := by simp [hcc, go_sem]
  have k1 : W.cell? ⟨w.heap.size, 1, none⟩ = some (.int .i64 vk) := by simp [hcc, go_sem]
  have k2 : W.cell? ⟨w.heap.size, 2, none⟩ = some (.int .i64 vn) := by simp [hcc, go_sem]
  have k3 : W.cell? ⟨w.heap.size, 3, none⟩ = some (.int .i64 vs) := by simp [hcc, go_sem]
  have k4 : W.cell? ⟨w.heap.size, 4, none⟩ = some (.string vt) := by simp [hcc, go_sem]
  have k5 : W.cell? ⟨w.heap.size, 5, none⟩ = some (.int .i64 vm) := by simp [hcc, go_sem]
  have k6 : W.cell? ⟨w.heap.size, 6, none⟩ = some (.string bn) := by simp [hcc, go_sem]
  have k7 : W.cell? ⟨w.heap.size, 7, none⟩ = some (.slice A n c) := by simp [hcc, go_sem]
  have hNW : w.heap.size < W.heap.size := by rw [hz]; simp
  clear hcc hf hz
  have HB := Hd hb
  clear hb
  generalize w.heap.size = N at k0 k1 k2 k3 k4 k5 k6 k7 hNW ⊢
  go_quiet ((go_at_call 73; refine Calls.quiet_of_same (CK.out _)))
  go_wp2_with fail
  go_ret
  exact ⟨by (rw [L.out]) <;> first | rfl | (simp [*]; done), HB.out.drewN _⟩
 | true =>
  have L := Hd (show prtV 2 ⟨vk, vn, vs, vt, vm⟩ bn n = wordB bn from by rw [hE, hq]; rfl)
  go_enter Tryz.func44, Tryz.ntmps44
  go_upto_region 1 with fail
  refine uN ((Bel.refl w).alloc _) fun W hcc hf hz hb => ?_
  have k0 : W.cell? ⟨w.heap.size, 0, none⟩ = some (.int .i64 2) := by simp [hcc, go_sem]
  have k1 : W.cell? ⟨w.heap.size, 1, none⟩ = some (.int .i64 vk) := by simp [hcc, go_sem]
  have k2 : W.cell? ⟨w.heap.size, 2, none⟩ = some (.int .i64 vn) := by simp [hcc, go_sem]
  have k3 : W.cell? ⟨w.heap.size, 3, none⟩ = some (.int .i64 vs) := by simp [hcc, go_sem]
  have k4 : W.cell? ⟨w.heap.size, 4, none⟩ = some (.string vt) := by simp [hcc, go_sem]
  have k5 : W.cell? ⟨w.heap.size, 5, none⟩ = some (.int .i64 vm) := by simp [hcc, go_sem]
  have k6 : W.cell? ⟨w.heap.size, 6, none⟩ = some (.string bn) := by simp [hcc, go_sem]
  have k7 : W.cell? ⟨w.heap.size, 7, none⟩ = some (.slice A n c) := by simp [hcc, go_sem]
  have hNW : w.heap.size < W.heap.size := by rw [hz]; simp
  clear hcc hf hz
  have HB := Hd hb
  clear hb
  generalize w.heap.size = N at k0 k1 k2 k3 k4 k5 k6 k7 hNW ⊢
  go_quiet ((go_at_call 73; refine Calls.quiet_of_same (CK.out _)))
  go_wp2_with (go_at_call 74; refine (CW.out _).mono ?_; rintro e W1 ⟨rfl, hb1⟩)
  go_ret
  exact ⟨by (rw [L.out]) <;> first | rfl | (simp [*]; done), (HB.out.drewN _).trans hb1⟩
theorem Quf (o : Int) (vk vn vs : Int) (vt : ByteArray) (vm : Int) (bn : ByteArray) (A : Option Addr) (n c : Nat) (w : World) (h : (n : Int) = kidI o) (h1 : ¬ o = 1) (h2 : ¬ o = 2) :
  Calls Tryz.prog 44 #[.agg #[.int .i64 o, .int .i64 vk, .int .i64 vn, .int .i64 vs, .string vt, .int .i64 vm, .string bn, .slice A n c]] w fun r w' => r = .returned (.bool (prtV o ⟨vk, vn, vs, vt, vm⟩ bn n)) /\ Bel w w' := by
 have CK := Hd (show ∀ W, Calls Tryz.prog 73 #[.int .i64 o] W fun r w' => r = .returned (.int .i64 (n : Int)) /\ w' = W from fun W => by rw [h]; exact Qe6 o W)
 have hE : prtV o ⟨vk, vn, vs, vt, vm⟩ bn n = (veq ⟨vk, vn, vs, vt, vm⟩ ⟨0, 0, 0, ⟨#[]⟩, 0⟩ && decide (bn = ⟨#[]⟩)) := by unfold prtV; rw [dT h, iN h1, iN h2]; rfl
 clear h
 cases hq : veq ⟨vk, vn, vs, vt, vm⟩ ⟨0, 0, 0, ⟨#[]⟩, 0⟩ with
 | false =>
  have L := Hd (show prtV o ⟨vk, vn, vs, vt, vm⟩ bn n = false from by rw [hE, hq]; rfl)
  go_enter Tryz.func44, Tryz.ntmps44
  go_upto_region 1 with fail
  refine uN ((Bel.refl w).alloc _) fun W hcc hf hz hb => ?_
  have k0 : W.cell? ⟨w.heap.size, 0, none⟩ = some (.int .i64 o) := by simp [hcc, go_sem]
  have k1 : W.cell? ⟨w.heap.size, 1, none⟩ = some (.int .i64 vk) := by simp [hcc, go_sem]
  have k2 : W.cell? ⟨w.heap.size, 2, none⟩ = some (.int .i64 vn) := by simp [hcc, go_sem]
  have k3 : W.cell? ⟨w.heap.size, 3, none⟩ = some (.int .i64 vs) := by simp [hcc, go_sem]
  have k4 : W.cell? ⟨w.heap.size, 4, none⟩ = some (.string vt) := by simp [hcc, go_sem]
  have k5 : W.cell? ⟨w.heap.size, 5, none⟩ = some (.int .i64 vm) := by simp [hcc, go_sem]
  have k6 : W.cell? ⟨w.heap.size, 6, none⟩ = some (.string bn) := by simp [hcc, go_sem]
  have k7 : W.cell? ⟨w.heap.size, 7, none⟩ = some (.slice A n c) := by simp [hcc, go_sem]
  have hNW : w.heap.size < W.heap.size := by rw [hz]; simp
  clear hcc hf hz
  have HB := Hd hb
  clear hb
  generalize w.heap.size = N at k0 k1 k2 k3 k4 k5 k6 k7 hNW ⊢
  go_quiet ((go_at_call 73; refine Calls.quiet_of_same (CK.out _)))
  go_wp2_with fail
  go_ret
  exact ⟨by (rw [L.out]) <;> first | rfl | (simp [*]; done), HB.out.drewN _⟩
 | true =>
  by_cases hb0 : bn = ⟨#[]⟩
  ·have hb1 : bn.toList = [] := by rw [hb0, ByteArray.toList_eq]
   have L := Hd (show prtV o ⟨vk, vn, vs, vt, vm⟩ bn n = true from by rw [hE, hq, dT hb0]; rfl)
   clear hb0
   go_enter Tryz.func44, Tryz.ntmps44
   go_upto_region 1 with fail
   refine uN ((Bel.refl w).alloc _) fun W hcc hf hz hb => ?_
   have k0 : W.cell? ⟨w.heap.size, 0, none⟩ = some (.int .i64 o) := by simp [hcc, go_sem]
   have k1 : W.cell? ⟨w.heap.size, 1, none⟩ = some (.int .i64 vk) := by simp [hcc, go_sem]
   have k2 : W.cell? ⟨w.heap.size, 2, none⟩ = some (.int .i64 vn) := by simp [hcc, go_sem]
   have k3 : W.cell? ⟨w.heap.size, 3, none⟩ = some (.int .i64 vs) := by simp [hcc, go_sem]
   have k4 : W.cell? ⟨w.heap.size, 4, none⟩ = some (.string vt) := by simp [hcc, go_sem]
   have k5 : W.cell? ⟨w.heap.size, 5, none⟩ = some (.int .i64 vm) := by simp [hcc, go_sem]
   have k6 : W.cell? ⟨w.heap.size, 6, none⟩ = some (.string bn) := by simp [hcc, go_sem]
   have k7 : W.cell? ⟨w.heap.size, 7, none⟩ = some (.slice A n c) := by simp [hcc, go_sem]
   have hNW : w.heap.size < W.heap.size := by rw [hz]; simp
   clear hcc hf hz
   have HB := Hd hb
   clear hb
   generalize w.heap.size = N at k0 k1 k2 k3 k4 k5 k6 k7 hNW ⊢
   go_quiet ((go_at_call 73; refine Calls.quiet_of_same (CK.out _)))
   go_wp2_with fail
   go_ret
   exact ⟨by (rw [L.out]) <;> first | rfl | (simp [*]; done), HB.out.drewN _⟩
  have hb1 : ¬ bn.toList = [] := fun e => hb0 ((Qba _ _).1 (e.trans (by rw [ByteArray.toList_eq])))
  have L := Hd (show prtV o ⟨vk, vn, vs, vt, vm⟩ bn n = false from by rw [hE, hq, dF hb0]; rfl)
  go_enter Tryz.func44, Tryz.ntmps44
  go_upto_region 1 with fail
  refine uN ((Bel.refl w).alloc _) fun W hcc hf hz hb => ?_
  have k0 : W.cell? ⟨w.heap.size, 0, none⟩ = some (.int .i64 o) := by simp [hcc, go_sem]
  have k1 : W.cell? ⟨w.heap.size, 1, none⟩ = some (.int .i64 vk) := by simp [hcc, go_sem]
  have k2 : W.cell? ⟨w.heap.size, 2, none⟩ = some (.int .i64 vn) := by simp [hcc, go_sem]
  have k3 : W.cell? ⟨w.heap.size, 3, none⟩ = some (.int .i64 vs) := by simp [hcc, go_sem]
  have k4 : W.cell? ⟨w.heap.size, 4, none⟩ = some (.string vt) := by simp [hcc, go_sem]
  have k5 : W.cell? ⟨w.heap.size, 5, none⟩ = some (.int .i64 vm) := by simp [hcc, go_sem]
  have k6 : W.cell? ⟨w.heap.size, 6, none⟩ = some (.string bn) := by simp [hcc, go_sem]
  have k7 : W.cell? ⟨w.heap.size, 7, none⟩ = some (.slice A n c) := by simp [hcc, go_sem]
  have hNW : w.heap.size < W.heap.size := by rw [hz]; simp
  clear hcc hf hz
  have HB := Hd hb
  clear hb
  generalize w.heap.size = N at k0 k1 k2 k3 k4 k5 k6 k7 hNW ⊢
  go_quiet ((go_at_call 73; refine Calls.quiet_of_same (CK.out _)))
  go_wp2_with fail
  go_ret
  exact ⟨by (rw [L.out]) <;> first | rfl | (simp [*]; done), HB.out.drewN _⟩
theorem Qq5 (o : Int) (n : Nat) : (n : Int) = kidI o ↔ 1 <= o /\ o <= 17 /\ n = kidN o := by
 rcases kids7 o with rfl | rfl | rfl | rfl | rfl | ⟨h1, h2⟩ | ⟨h1, h2, h3, h4, h5, h6⟩
 ·rw [show kidI 1 = 0 from rfl, show kidN 1 = 0 from rfl]; omega
 ·rw [show kidI 2 = 0 from rfl, show kidN 2 = 0 from rfl]; omega
 ·rw [show kidI 3 = 1 from rfl, show kidN 3 = 1 from rfl]; omega
 ·rw [show kidI 16 = 1 from rfl, show kidN 16 = 1 from rfl]; omega
 ·rw [show kidI 17 = 3 from rfl, show kidN 17 = 3 from rfl]; omega
 ·unfold kidI kidN
  rw [iN (by omega), iN (by omega), iN (by omega), iN (by omega), iN (by omega), iP ⟨h1, h2⟩, iN (by omega), iN (by omega), iN (by omega)]
  omega
 unfold kidI
 rw [iN h1, iN h2, iN h3, iN h4, iN h5, iN (by omega)]
 omega
theorem Qds (o : Int) (v : Val) (nm : List UInt8) (n : Nat) : prtV o v (Qaa nm) n = prtB o v nm n := by
 have e : decide (Qaa nm = (⟨#[]⟩ : ByteArray)) = decide (nm = []) := by
  rw [decide_eq_decide]
  exact ⟨fun h => Qcf (b := []) h, fun h => by rw [h]; rfl⟩
 have e2 : decide ((n : Int) = kidI o) = decide (1 <= o /\ o <= 17 /\ n = kidN o) := by
  rw [decide_eq_decide]
  exact Qq5 o n
 unfold prtV prtB
 rw [e, e2]
theorem Qg4 (x : Ex) (A : Option Addr) (c : Nat) (w : World) (hv : x.v.text.size <= 9223372036854775807) (hb : (Qaa x.nm).size <= 9223372036854775807) :
  Calls Tryz.prog 44 #[exV x.op x.v (Qaa x.nm) A x.ks.length c] w fun r w' => r = .returned (.bool (prtB x.op x.v x.nm x.ks.length)) /\ Bel w w' := by
 obtain ⟨o, ⟨vk, vn, vs, vt, vm⟩, nm, ks⟩ := x
 simp only [Ex.op, Ex.v, Ex.nm, Ex.ks] at hv hb ⊢
 rw [← Qds]
 by_cases h : (ks.length : Int) = kidI o
 ·by_cases h1 : o = 1
  ·exact Qq4 o vk vn vs vt vm (Qaa nm) A ks.length c w hv h h1
  by_cases h2 : o = 2
  ·exact Qob o vk vn vs vt vm (Qaa nm) A ks.length c w hb h h2
  exact Quf o vk vn vs vt vm (Qaa nm) A ks.length c w h h1 h2
 exact Que o vk vn vs vt vm (Qaa nm) A ks.length c w h
end
section
open Go.RowKit
mutual
def smX : Ex -> Prop
 | .mk _ v nm ks => v.text.size <= 9223372036854775807 /\ nm.length <= 9223372036854775807 /\ smL ks
def smL : List Ex -> Prop
 | [] => True
 | x :: t => smX x /\ smL t
end
theorem Qje : ∀ {l : List Ex} {q : Nat} {x : Ex}, smL l -> l[q]? = some x -> smX x
 | y :: l, 0, x, h, hx => by
  obtain rfl : y = x := by simpa using hx
  exact h.1
 | y :: l, q + 1, x, h, hx => Qje (q := q) h.2 (by simpa using hx)
def sT (d k : Nat) (x : Ex) : Bool := okX x && (decide (d + dpX x <= 64) && decide (k + szX x <= 4096))
theorem Qg5 : ∀ (l : List Ex) (q : Nat) (x : Ex), l[q]? = some x -> dpX x <= dpL l /\ szL (l.take q) + szX x <= szL l /\ szL (l.take (q + 1)) = szL (l.take q) + szX x /\ (okL l = true -> okX x = true)
 | [], q, x, h => by simp at h
 | y :: l, 0, x, h => by
  obtain rfl : y = x := by simpa using h
  simp only [dpL, szL, okL, List.take_zero, List.take_succ_cons, bA]
  exact ⟨Nat.le_max_left _ _, by omega, by omega, fun h => h.1⟩
 | y :: l, q + 1, x, h => by
  obtain ⟨h1, h2, h3, h4⟩ := Qg5 l q x (by simpa using h)
  simp only [dpL, szL, okL, List.take_succ_cons, bA]
  exact ⟨Nat.le_trans h1 (Nat.le_max_right _ _), by omega, by omega, fun h => h4 h.2⟩
theorem Qoc : ∀ (l : List Ex), (∀ (q : Nat) (x : Ex), l[q]? = some x -> okX x = true) -> okL l = true
 | [], h => rfl
 | y :: l, h => by
  simp only [okL, bA]
  exact ⟨h 0 y rfl, Qoc l fun q x hx => h (q + 1) x (by simpa using hx)⟩
theorem Qod : ∀ (l : List Ex) (m : Nat), (∀ (q : Nat) (x : Ex), l[q]? = some x -> dpX x <= m) -> dpL l <= m
 | [], m, h => Nat.zero_le _
 | y :: l, m, h => by
  simp only [dpL]
  exact Nat.max_le.2 ⟨h 0 y rfl, Qod l m fun q x hx => h (q + 1) x (by simpa using hx)⟩
theorem Lie.get {P : Nat -> Prop} {w : World} {A : Option Addr} {l : List Ex} {q : Nat} {x : Ex} (h : Lie P w A l) (hx : l[q]? = some x) : ∃ b off, A = some ⟨b, off, none⟩ /\ P b /\ b < w.heap.size /\ ∃ A' c', Qap w b (off + q * 8) x.op x.v (Qaa x.nm) A' x.ks.length c' /\ Lie P w A' x.ks := by
 obtain ⟨n, h⟩ := h
 have h0 : 0 < l.length := Nat.lt_of_le_of_lt (Nat.zero_le _) (List.getElem?_eq_some_iff.1 hx).1
 cases n with
 | zero =>
  have h : l = [] := h
  rw [h] at h0
  exact absurd h0 (Nat.lt_irrefl _)
 | succ n =>
  obtain ⟨b, off, h1, h2, h3, h4⟩ := h h0
  obtain ⟨A', c', h5, h6⟩ := h4 q x hx
  exact ⟨b, off, h1, h2, h3, A', c', h5, n, h6⟩
def CntAt (w : World) (C F : Nat) (kv : Int) : Prop := C < w.heap.size /\ F < w.heap.size /\ C ≠ F /\ w.cell? ⟨C, 0, none⟩ = some (.int .i64 kv) /\ w.frozen? ⟨C, 0, none⟩ = false /\ w.cell? ⟨F, 0, none⟩ = some (.func (.func 43) #[] #[.pointer (some ⟨C, 0, none⟩), .pointer (some ⟨F, 0, none⟩)])
theorem CntAt.keep {w w' : World} {C F : Nat} {kv : Int} (h : CntAt w C F kv) (hb : Bel w w') : CntAt w' C F kv := by
 obtain ⟨h1, h2, h3, h4, h5, h6⟩ := h
 refine ⟨lL h1 hb.size, lL h2 hb.size, h3, ?_, ?_, ?_⟩
 ·rw [(Bag.of (b := C + 1) hb).cell (p := ⟨C, 0, none⟩) h1 (by show C ≠ C + 1; omega)]
  exact h4
 ·rw [(Bag.of (b := C + 1) hb).frozen (p := ⟨C, 0, none⟩) h1 (by show C ≠ C + 1; omega)]
  exact h5
 rw [(Bag.of (b := F + 1) hb).cell (p := ⟨F, 0, none⟩) h2 (by show F ≠ F + 1; omega)]
 exact h6
theorem CntAt.set {w : World} {C F : Nat} {kv : Int} (h : CntAt w C F kv) (k' : Int) : CntAt (w.setCell ⟨C, 0, none⟩ (.int .i64 k')) C F k' := by
 obtain ⟨h1, h2, h3, h4, h5, h6⟩ := h
 have h3' : ¬ F = C := fun e => h3 e.symm
 simp [CntAt, go_sem, h1, h2, h3, h3', h4, h5, h6]
def SndC (x : Ex) : Prop := ∀ (P : Nat -> Prop) (w : World) (C F : Nat) (d k : Nat) (dv kv : Int) (A : Option Addr) (c : Nat), dv = d + 1 -> kv = k -> d <= 64 -> k <= 4096 -> smX x -> CntAt w C F kv -> Lie P w A x.ks -> ¬ P C ->
 Calls Tryz.prog 43 #[exV x.op x.v (Qaa x.nm) A x.ks.length c, .int .i64 dv, .pointer (some ⟨C, 0, none⟩), .pointer (some ⟨F, 0, none⟩)] w fun r w' => r = .returned (.bool (sT d k x)) /\ Bag C w w' /\ ∃ k' : Int, CntAt w' C F k' /\ (sT d k x = true -> k' = k + szX x)
theorem Qga : ∀ args w, (callFunc 43 args).run Tryz.prog w = .ok (.enter 43 args) w := enters_of Tryz.func43 (by kernel_rfl) rfl
theorem Qq6 (x : Ex) (IH : ∀ y ∈ x.ks, SndC y) : SndC x := by
 intro P w C F d k dv kv A c hdv hkv hd hk hsm hcn hL hP
 subst hkv
 subst hdv
 obtain ⟨o, v, nm, ks⟩ := x
 obtain ⟨vk, vn, vs, vt, vm⟩ := v
 obtain ⟨hs1, hs2, hs3⟩ := hsm
 have hkn : ∀ (q : Nat) (y : Ex), ks[q]? = some y -> SndC y := fun q y hy => IH y (List.mem_of_getElem? hy)
 have CP := Hd fun W => Qg4 (.mk o ⟨vk, vn, vs, vt, vm⟩ nm ks) A c W hs1 (by rw [Qae]; exact hs2)
 have hT : sT d k (.mk o ⟨vk, vn, vs, vt, vm⟩ nm ks) = ((prtB o ⟨vk, vn, vs, vt, vm⟩ nm ks.length && okL ks) && (decide (d + (1 + dpL ks) <= 64) && decide (k + (1 + szL ks) <= 4096))) := by
  simp only [sT, okX, dpX, szX]
  rfl
 have hZ : szX (.mk o ⟨vk, vn, vs, vt, vm⟩ nm ks) = 1 + szL ks := by simp only [szX]
 simp only [Ex.op, Ex.v, Ex.nm, Ex.ks] at CP hL ⊢
 rw [hZ]
 generalize hbn : Qaa nm = bn at CP ⊢
 clear hbn hs1 hs2 IH hZ
 have HKN := Hd hkn
 have HT := Hd hT
 have HL := Hd hL
 have HC := Hd hcn
 have HSM := Hd hs3
 clear hkn hT hL hcn hs3
 have w1 : IntKind.i64.wrap ((k : Int) + 1) = (k : Int) + 1 := by rw [IntKind.wrap_i64]; omega
 have w2 : IntKind.i64.wrap ((d : Int) + 1 + 1) = (d : Int) + 1 + 1 := by rw [IntKind.wrap_i64]; omega
 go_enter Tryz.func43, Tryz.ntmps43
 go_upto_region 1 with fail
 refine uN ((Bel.refl w).alloc _) fun W hcc hf hz hb => ?_
 have T1 : Qab W w.heap.size o ⟨vk, vn, vs, vt, vm⟩ bn A ks.length c := by simp [Qab, Qap, hcc, hf, hz, go_sem]
 clear hcc hf hz
 have hCN : C ≠ w.heap.size := by have := HC.out.1; omega
 generalize w.heap.size = N at T1 hCN ⊢
 have hNC : N ≠ C := fun e => hCN e.symm
 have HC1 := Hd (HC.out.keep hb)
 have B1 := Hd (Bag.of (b := C) hb)
 have L1 := Hd T1
 have HL1 := Hd (HL.out.keep hb)
 clear hb T1
 obtain ⟨z1, z2, z3, z4, z5, z6⟩ := HC1.out
 go_upto_region 2 with fail
 clear z1 z2 z3 z4 z5 z6
 have hB2 : Bag C W (W.setCell ⟨C, 0, none⟩ (.int .i64 ((k : Int) + 1))) := (Bag.refl C W).setCell (p := ⟨C, 0, none⟩) rfl _
 have HC2 := Hd (HC1.out.set ((k : Int) + 1))
 have L2 := Hd (L1.out.bag hB2 hNC)
 have HL2 := Hd (HL1.out.bag hB2 hP)
 have B2 := Hd (B1.out.trans hB2)
 refine Qdb (W.setCell ⟨C, 0, none⟩ (.int .i64 ((k : Int) + 1))) rfl ?_
 clear hB2
 generalize W.setCell ⟨C, 0, none⟩ (.int .i64 ((k : Int) + 1)) = W2 at HC2 L2 HL2 B2 ⊢
 obtain ⟨z1, z2, z3, z4, z5, z6⟩ := HC2.out
 obtain ⟨tz, ⟨t0, t1, t2, t3, t4, t5, t6, t7⟩, ⟨tf0, tf1, tf2, tf3, tf4, tf5, tf6, tf7⟩⟩ := L2.out
 simp only [Nat.zero_add] at t0 t1 t2 t3 t4 t5 t6 t7
 by_cases hd2 : d + 1 <= 64
 ·by_cases hk2 : k + 1 <= 4096
  ·have g1 : ¬ 64 < (d : Int) + 1 := by omega
   have g2 : ¬ 4096 < (k : Int) + 1 := by omega
   cases hp : prtB o ⟨vk, vn, vs, vt, vm⟩ nm ks.length with
   | false =>
    rw [hp] at CP
    have hF := Hd (show sT d k (.mk o ⟨vk, vn, vs, vt, vm⟩ nm ks) = false from by rw [HT.out, hp]; simp)
    go_wp2_with (go_at_call 44; (with_reducible refine Calls.mono (CP.out _) ?_); rintro ee V1 ⟨rfl, hb1⟩; have HB1 := Hd hb1; clear hb1)
    go_ret
    rw [hF.out]
    exact ⟨rfl, B2.out.trans (Bag.of HB1.out), _, HC2.out.keep HB1.out, fun h => by cases h⟩
   | true =>
    rw [hp] at CP
    have hT2 := Hd (show sT d k (.mk o ⟨vk, vn, vs, vt, vm⟩ nm ks) = (okL ks && (decide (d + (1 + dpL ks) <= 64) && decide (k + (1 + szL ks) <= 4096))) from by rw [HT.out, hp]; rfl)
    clear HT
    have hk3 : ks.length <= 3 := by
     have h := (Qbt hp).2.2.1
     rw [h]
     unfold kidN
     repeat' split
     all_goals omega
    go_wp2_with (go_at_call 44; (with_reducible refine Calls.mono (CP.out _) ?_); rintro ee V1 ⟨rfl, hb1⟩; have HB1 := Hd hb1; obtain ⟨uz, ⟨u0, u1, u2, u3, u4, u5, u6, u7⟩, ⟨uf0, uf1, uf2, uf3, uf4, uf5, uf6, uf7⟩⟩ := L2.out.keep hb1; simp only [Nat.zero_add] at u0 u1 u2 u3 u4 u5 u6 u7; clear hb1)
    have K0 := Hd (show Bag C w V1 /\ CntAt V1 C F ((k + 1 + szL (ks.take 0) : Nat) : Int) /\ Lie P V1 A ks /\ k + 1 + szL (ks.take 0) <= 4096 from ⟨B2.out.trans (Bag.of HB1.out), by have h := HC2.out.keep HB1.out; simpa [szL] using h, HL2.out.keep HB1.out, by simpa [szL] using hk2⟩)
    clear uz u0 u1 u2 u3 u4 u5 u6 u7 uf0 uf1 uf2 uf3 uf4 uf5 uf6 uf7 z1 z2 z3 z4 z5 z6 tz t0 t1 t2 t3 t4 t5 t6 t7 tf0 tf1 tf2 tf3 tf4 tf5 tf6 tf7 HC2 L2 HL2 B2 CP HC1 L1 HL1 B1 HL HC HB1 hNC hCN g1 g2 w1
    go_loopg [25] ks.length (fun g sv wq => ∃ q : Nat, sv = .int .i64 q /\ q <= ks.length /\ Hid (g = ks.length - q) /\ Hid (∀ (i : Nat) (y : Ex), i < q -> ks[i]? = some y -> okX y = true /\ d + 1 + dpX y <= 64) /\ Hid (Bag C w wq /\ CntAt wq C F ((k + 1 + szL (ks.take q) : Nat) : Int) /\ Lie P wq A ks /\ k + 1 + szL (ks.take q) <= 4096))
    case atStart => exact ⟨0, rfl, Nat.zero_le _, Hd rfl, Hd (fun i y h => absurd h (Nat.not_lt_zero _)), K0⟩
    case round =>
     obtain ⟨q, rfl, hq, hg, hA, hI⟩ := hrel
     clear K0
     rcases Nat.lt_or_ge q ks.length with hlt | hge
     ·have hlti : (q : Int) < (ks.length : Int) := by omega
      obtain ⟨y, hy⟩ : ∃ y, ks[q]? = some y := ⟨ks[q], gE hlt⟩
      obtain ⟨B, off, hAA, hPB, hBlt, A', c', hE, hLy⟩ := hI.out.2.2.1.get hy
      subst hAA
      obtain ⟨e0, e1, e2, e3, e4, e5, e6, e7⟩ := hE
      have hYC : wr.heap.size ≠ C := by have := hI.out.2.1.1; omega
      have wq : ks.length < 9223372036854775807 -> IntKind.i64.wrap ((q : Int) + 1) = ((q + 1 : Nat) : Int) := fun _ => by rw [IntKind.wrap_i64]; omega
      have hlk : ks.length < 9223372036854775807 := by omega
      replace wq := wq hlk
      have HY := Hd hy
      have HLy := Hd hLy
      clear hy hLy hPB hBlt
      go_upto_region 7 with fail
      refine uN (w0 := wr) (by exact Bel.y) fun W5 hcc hf hz hb5 => ?_
      have T5 : Qab W5 wr.heap.size y.op ⟨y.v.kind, y.v.n, y.v.scale, y.v.text, y.v.num⟩ (Qaa y.nm) A' y.ks.length c' := by simp [Qab, Qap, hcc, hf, hz, go_sem]
      clear hcc hf hz e0 e1 e2 e3 e4 e5 e6 e7
      have HC5 := Hd (hI.out.2.1.keep hb5)
      have HB5 := Hd (hI.out.1.trans (Bag.of hb5))
      have HL5 := Hd (hI.out.2.2.1.keep hb5)
      have CK := HKN.out q y HY.out P W5 C F (d + 1) (k + 1 + szL (ks.take q)) ((d : Int) + 1 + 1) ((k + 1 + szL (ks.take q) : Nat) : Int) A' c' (by omega) rfl hd2 hI.out.2.2.2 (Qje HSM.out HY.out) HC5.out (HLy.out.keep hb5) hP
      clear hb5
      generalize wr.heap.size = Y at T5 hYC
      obtain ⟨z1, z2, z3, z4, z5, z6⟩ := HC5.out
      obtain ⟨tz, ⟨t0, t1, t2, t3, t4, t5, t6, t7⟩, ⟨tf0, tf1, tf2, tf3, tf4, tf5, tf6, tf7⟩⟩ := T5
      simp only [Nat.zero_add] at t0 t1 t2 t3 t4 t5 t6 t7
      have hgt := Qg5 ks q y HY.out
      have HGT := Hd hgt
      clear hgt
      have eg := Qga
      cases hs : sT (d + 1) (k + 1 + szL (ks.take q)) y with
      | true =>
       rw [hs] at CK
       replace CK := Hd CK
       have hs2 := hs
       unfold sT at hs2
       rw [bA, bA, decide_eq_true_eq, decide_eq_true_eq] at hs2
       have HS := Hd hs2
       clear hs hs2
       go_wp2_with (go_at_fn 43; (with_reducible refine Calls.mono CK.out ?_); rintro ee V6 ⟨rfl, hb6, kk, hc6, hk6⟩; have hq6 := Hd (And.intro hb6 (And.intro hc6 (hk6 rfl))); clear hb6 hc6 hk6)
       go_roundg (ks.length - (q + 1))
       case measure => have := hg.out; omega
       case rel =>
        refine ⟨q + 1, rfl, hlt, Hd rfl, Hd fun i z hi hz => ?_, Hd ⟨HB5.out.trans hq6.out.1, ?_, HL5.out.bag hq6.out.1 hP, ?_⟩⟩
        ·rcases Nat.lt_or_ge i q with h | h
         ·exact hA.out i z h hz
         obtain rfl : i = q := by omega
         rw [HY.out] at hz
         obtain rfl := Option.some.inj hz
         exact ⟨HS.out.1, HS.out.2.1⟩
        ·have h := hq6.out.2.1
         rw [hq6.out.2.2] at h
         rw [show ((k + 1 + szL (ks.take (q + 1)) : Nat) : Int) = ((k + 1 + szL (ks.take q) : Nat) : Int) + (szX y : Int) from by rw [HGT.out.2.2.1]; omega]
         exact h
        ·rw [HGT.out.2.2.1]
         have := HS.out.2.2
         omega
      | false =>
       rw [hs] at CK
       replace CK := Hd CK
       have hF := Hd (show sT d k (.mk o ⟨vk, vn, vs, vt, vm⟩ nm ks) = false from by
        rw [hT2.out]
        cases h : (okL ks && (decide (d + (1 + dpL ks) <= 64) && decide (k + (1 + szL ks) <= 4096))) with
        | false => rfl
        | true =>
         rw [bA, bA, decide_eq_true_eq, decide_eq_true_eq] at h
         have := HGT.out
         unfold sT at hs
         rw [this.2.2.2 h.1, dT (show d + 1 + dpX y <= 64 from by omega), dT (show k + 1 + szL (ks.take q) + szX y <= 4096 from by omega)] at hs
         cases hs)
       clear hs
       go_wp2_with (go_at_fn 43; (with_reducible refine Calls.mono CK.out ?_); rintro ee V6 ⟨rfl, hb6, kk, hc6, hk6⟩; have hq6 := Hd (And.intro hb6 hc6); clear hb6 hc6 hk6)
       go_ret
       rw [hF.out]
       exact ⟨rfl, HB5.out.trans hq6.out.1, _, hq6.out.2, fun h => by cases h⟩
     obtain rfl : q = ks.length := by omega
     have hF := Hd (show sT d k (.mk o ⟨vk, vn, vs, vt, vm⟩ nm ks) = true from by
      have h4 := hI.out.2.2.2
      rw [List.take_length] at h4
      have h1 : okL ks = true := Qoc ks fun i y hy => (hA.out i y (List.getElem?_eq_some_iff.1 hy).1 hy).1
      have h2 : dpL ks <= 64 - (d + 1) := Qod ks _ fun i y hy => by have := (hA.out i y (List.getElem?_eq_some_iff.1 hy).1 hy).2; omega
      rw [hT2.out, h1, dT (show d + (1 + dpL ks) <= 64 from by omega), dT (show k + (1 + szL ks) <= 4096 from by omega)]
      rfl)
     go_wp2_with fail
     go_ret
     rw [hF.out]
     refine ⟨rfl, hI.out.1, _, hI.out.2.1, fun _ => ?_⟩
     rw [List.take_length]
     omega
  have g1 : ¬ 64 < (d : Int) + 1 := by omega
  have g2 : 4096 < (k : Int) + 1 := by omega
  have hF := Hd (show sT d k (.mk o ⟨vk, vn, vs, vt, vm⟩ nm ks) = false from by rw [HT.out, dF (show ¬ k + (1 + szL ks) <= 4096 from by omega)]; simp)
  go_wp2_with fail
  go_ret
  rw [hF.out]
  exact ⟨rfl, B2.out, _, HC2.out, fun h => by cases h⟩
 have g1 : 64 < (d : Int) + 1 := by omega
 have hF := Hd (show sT d k (.mk o ⟨vk, vn, vs, vt, vm⟩ nm ks) = false from by rw [HT.out, dF (show ¬ d + (1 + dpL ks) <= 64 from by omega)]; simp)
 go_wp2_with fail
 go_ret
 rw [hF.out]
 exact ⟨rfl, B2.out, _, HC2.out, fun h => by cases h⟩
end
section
open Go.RowKit
theorem Qug : ∀ x, SndC x := fun x => Ex.ind (P := SndC) (fun o v nm ks IH => Qq6 (.mk o v nm ks) IH) x
theorem Quh (x : Ex) : sT 0 0 x = sndX x := by
 unfold sT sndX
 rw [Nat.zero_add, Nat.zero_add]
theorem Qdc (x : Ex) (P : Nat -> Prop) (A : Option Addr) (c : Nat) (w : World) (hsm : smX x) (hL : Lie P w A x.ks) :
  Calls Tryz.prog 23 #[exV x.op x.v (Qaa x.nm) A x.ks.length c] w fun r w' => r = .returned (.bool (sndX x)) /\ Bel w w' := by
 have CS := Hd fun W (hW : Bel w W) (C F : Nat) (hC : w.heap.size <= C) (hcn : CntAt W C F 0) => Qug x (fun k => P k /\ k < w.heap.size) W C F 0 0 1 0 A c rfl rfl (by decide) (by decide) hsm hcn ((hL.weak (Q := fun k => P k /\ k < w.heap.size) fun b h1 h2 => ⟨h1, h2⟩).keep hW) (fun h => absurd h.2 (by omega))
 rw [Quh] at CS
 generalize sndX x = res at CS ⊢
 obtain ⟨xo, ⟨vk, vn, vs, vt, vm⟩, nm, ks⟩ := x
 simp only [Ex.op, Ex.v, Ex.nm, Ex.ks] at CS ⊢
 generalize Qaa nm = bn at CS ⊢
 generalize ks.length = nk at CS ⊢
 clear hsm hL
 have eg := Qga
 go_enter Tryz.func23, Tryz.ntmps23
 go_upto_region 4 with fail
 refine uN (w0 := w) (by exact Bel.y) fun W hcc hf hz hb => ?_
 have T1 : Qab W w.heap.size xo ⟨vk, vn, vs, vt, vm⟩ bn A nk c := by simp [Qab, Qap, hcc, hf, hz, go_sem]
 have T2 : CntAt W (w.heap.size + 1) (w.heap.size + 1 + 1) 0 := by simp [CntAt, hcc, hf, hz, go_sem]
 have CK := Hd (CS.out W hb (w.heap.size + 1) (w.heap.size + 1 + 1) (by omega) T2)
 have HB := Hd hb
 have hN1 := Hd (show w.heap.size <= w.heap.size + 1 from by omega)
 clear hcc hf hz hb CS
 generalize hN : w.heap.size = N at T1 T2 CK ⊢
 have hN2 := Hd (show w.heap.size <= N + 1 from by omega)
 clear hN hN1
 obtain ⟨z1, z2, z3, z4, z5, z6⟩ := T2
 obtain ⟨tz, ⟨t0, t1, t2, t3, t4, t5, t6, t7⟩, ⟨tf0, tf1, tf2, tf3, tf4, tf5, tf6, tf7⟩⟩ := T1
 simp only [Nat.zero_add] at t0 t1 t2 t3 t4 t5 t6 t7
 go_wp2_with (go_at_fn 43; (with_reducible refine Calls.mono CK.out ?_); rintro ee V6 ⟨rfl, hb6, -⟩; have HB6 := Hd hb6; clear hb6)
 go_ret
 exact ⟨rfl, HB6.out.bel HB.out hN2.out⟩
end
section
open Go.RowKit
attribute [local go_sem ↓] Qas Qau
theorem Qoe : ∀ (l : List Ex), okL l = true -> ∀ x ∈ l, okX x = true
 | [], _, x, h => by cases h
 | y :: l, h, x, hx => by
  rw [okL, bA] at h
  rcases List.mem_cons.1 hx with rfl | hx
  ·exact h.1
  exact Qoe l h.2 x hx
theorem Qq7 {o : Int} {v : Val} {nm : List UInt8} {ks : List Ex} (h : okX (.mk o v nm ks) = true) : ks.length <= 3 /\ ∀ y ∈ ks, okX y = true := by
 rw [okX, bA] at h
 refine ⟨?_, Qoe ks h.2⟩
 rw [(Qbt h.1).2.2.1]
 unfold kidN
 repeat' split
 all_goals omega
end
end Go.Proofs.YtjckpkamhdbcnaaGreatDoor
