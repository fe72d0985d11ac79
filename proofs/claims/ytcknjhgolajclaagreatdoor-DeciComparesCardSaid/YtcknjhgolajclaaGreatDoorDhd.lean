import Derived.Test.YtcknjhgolajclaaGreatDoorDhb
import Derived.Test.YtcknjhgolajclaaGreatDoorDes
namespace Go.Proofs.YtcknjhgolajclaaGreatDoor
set_option linter.unusedSimpArgs false
set_option linter.unusedVariables false
open Go.RowKit

theorem cmpV_sh (n s m t : Int) : ∃ a e, cmpV n s m t = .tuple #[.int .i64 a, .int .i64 e] := by
  unfold cmpV
  split
  · exact ⟨_, _, rfl⟩
  · exact ⟨_, _, rfl⟩
set_option maxRecDepth 100000 in
set_option maxHeartbeats 4000000 in
/-- Any two numbers compared. -/
theorem law_Compares (n s m t : Int) (w : World) (ht : Tab w) : Calls Tryz.prog 3 #[decA n s, decA m t] w fun e w' => e = .returned (.bool true) ∧ Bel w w' := by
  obtain ⟨x, e, hx⟩ := cmpV_sh n s m t
  have c1 := fun w => cmp_any n s m t w
  have c2 := fun w => rcmp_any n s m t w
  have c3 := fun w => neg_any n s w
  rw [hx] at c1 c2
  have C1 := Lib.hid c1
  have C2 := Lib.hid c2
  clear c1 c2 hx
  by_cases h : SndD n s
  · rw [show negV n s = _ from if_pos h] at c3
    have b1 := h.2.2.1.1
    have b2 := h.2.2.1.2
    have hs := Lib.hid (sndB_t h)
    have C3 := Lib.hid c3
    clear c3 h
    go_enter Tryz.func3, Tryz.ntmps3
    go_wp2_with fail
    refine under_call (((Bel.refl w).alloc _).alloc _) fun W hc hf hz hb => ?_
    have hA : Arr2 W w.heap.size n s := by simp [Arr2, hz, hc, hf, go_sem]
    have hB : Arr2 W (w.heap.size + 1) m t := by simp [Arr2, hz, hc, hf, go_sem]
    have htW : Tab W := ht.keep hb
    clear hc hf hz
    go_wp2_with (first
      | (go_at_call 5; with_reducible refine (C1.out _).mono ?_; rintro e W1 ⟨rfl, hb1⟩; replace hA := hA.keep hb1; replace hB := hB.keep hb1; replace htW := htW.keep hb1; replace hb := hb.trans hb1; clear hb1)
      | (go_at_call 6; with_reducible refine (C2.out _).mono ?_; rintro e W2 ⟨rfl, hb1⟩; replace hA := hA.keep hb1; replace hB := hB.keep hb1; replace htW := htW.keep hb1; replace hb := hb.trans hb1; clear hb1)
      | (go_at_call 7; with_reducible refine (C3.out _).mono ?_; rintro e W3 ⟨rfl, hb1⟩; replace hA := hA.keep hb1; replace htW := htW.keep hb1; replace hb := hb.trans hb1; have l1 := hA.1; clear hb1 hB)
      | (go_at_call 8; refine (rsound_any n s _).mono ?_; rintro e W4 ⟨rfl, hb1⟩; rw [hs.out]
         have hX : Arr2 W4 W3.heap.size (-n) s := Arr2.keep (w := W3.alloc (.cells #[.int .i64 (-n), .int .i64 s] 23)) (by simp [Arr2, go_sem]) hb1
         have hk := Bel.trans ((Bel.refl W3).alloc _) hb1
         replace hA := hA.keep hk; replace htW := htW.keep hk; replace hb := hb.trans hk; have l2 := hA.1; have l3 := hX.1; clear hb1 hk)
      | (go_at_call 9; refine (awake_any _ htW).mono ?_; rintro e W5 ⟨rfl, hb1⟩; replace hA := hA.keep hb1; replace hX := hX.keep hb1; replace hb := hb.trans hb1; have l4 := hA.1; have l5 := hX.1; clear hb1))
    go_ret
    exact ⟨rfl, hb⟩
  · rw [show negV n s = _ from if_neg h] at c3
    have hs := Lib.hid (sndB_f h)
    have C3 := Lib.hid c3
    clear c3 h
    go_enter Tryz.func3, Tryz.ntmps3
    go_wp2_with fail
    refine under_call (((Bel.refl w).alloc _).alloc _) fun W hc hf hz hb => ?_
    have hA : Arr2 W w.heap.size n s := by simp [Arr2, hz, hc, hf, go_sem]
    have hB : Arr2 W (w.heap.size + 1) m t := by simp [Arr2, hz, hc, hf, go_sem]
    have htW : Tab W := ht.keep hb
    clear hc hf hz
    go_wp2_with (first
      | (go_at_call 5; with_reducible refine (C1.out _).mono ?_; rintro e W1 ⟨rfl, hb1⟩; replace hA := hA.keep hb1; replace hB := hB.keep hb1; replace htW := htW.keep hb1; replace hb := hb.trans hb1; clear hb1)
      | (go_at_call 6; with_reducible refine (C2.out _).mono ?_; rintro e W2 ⟨rfl, hb1⟩; replace hA := hA.keep hb1; replace hB := hB.keep hb1; replace htW := htW.keep hb1; replace hb := hb.trans hb1; clear hb1)
      | (go_at_call 7; with_reducible refine (C3.out _).mono ?_; rintro e W3 ⟨rfl, hb1⟩; replace hA := hA.keep hb1; replace htW := htW.keep hb1; replace hb := hb.trans hb1; have l1 := hA.1; clear hb1 hB)
      | (go_at_call 8; refine (rsound_any n s _).mono ?_; rintro e W4 ⟨rfl, hb1⟩; rw [hs.out]
         have hX : Arr2 W4 W3.heap.size 0 0 := Arr2.keep (w := W3.alloc (.cells #[.int .i64 0, .int .i64 0] 23)) (by simp [Arr2, go_sem]) hb1
         have hk := Bel.trans ((Bel.refl W3).alloc _) hb1
         replace hA := hA.keep hk; replace htW := htW.keep hk; replace hb := hb.trans hk; have l2 := hA.1; have l3 := hX.1; clear hb1 hk)
      | (go_at_call 9; refine (awake_any _ htW).mono ?_; rintro e W5 ⟨rfl, hb1⟩; replace hX := hX.keep hb1; replace hb := hb.trans hb1; have l5 := hX.1; clear hb1 hA))
    go_ret
    exact ⟨rfl, hb⟩
end Go.Proofs.YtcknjhgolajclaaGreatDoor
