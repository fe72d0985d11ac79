import Derived.Test.YtcknjhgolajclaaDoorDgi
import Derived.Test.YtcknjhgolajclaaDoorDes
namespace Go.Proofs.YtcknjhgolajclaaDoor
set_option linter.unusedSimpArgs false
set_option linter.unusedVariables false
open Go.RowKit

set_option maxRecDepth 100000 in
set_option maxHeartbeats 4000000 in
/-- The product of any two numbers, rounded. -/
theorem law_Multiplies (n s m t : Int) (w : World) (ht : Tab w) : Calls Tryd.prog 4 #[decA n s, decA m t] w fun e w' => e = .returned (.bool true) ∧ Bel w w' := by
  obtain ⟨a, b, e, hx⟩ := mulV_shp n s m t
  have c1 := fun w => mul_any n s m t w
  have c2 := fun w => rmul_any n s m t w
  rw [hx] at c1 c2
  have C1 := Lib.hid c1
  have C2 := Lib.hid c2
  clear c1 c2 hx
  go_enter Tryd.func4, Tryd.ntmps4
  go_wp2_with fail
  refine under_call (((Bel.refl w).alloc _).alloc _) fun W hc hf hz hb => ?_
  have hA : Arr2 W w.heap.size n s := by simp [Arr2, hz, hc, hf, go_sem]
  have hB : Arr2 W (w.heap.size + 1) m t := by simp [Arr2, hz, hc, hf, go_sem]
  have htW : Tab W := ht.keep hb
  clear hc hf hz
  go_wp2_with (first
    | (go_at_call 15; with_reducible refine (C1.out _).mono ?_; rintro e W1 ⟨rfl, hb1⟩; replace hA := hA.keep hb1; replace hB := hB.keep hb1; replace htW := htW.keep hb1; replace hb := hb.trans hb1; have l1 := hA.1; have l2 := hB.1; clear hb1)
    | (go_at_call 16; with_reducible refine (C2.out _).mono ?_; rintro e W2 ⟨rfl, hb1⟩
       have hX : Arr2 W2 W1.heap.size a b := Arr2.keep (w := W1.alloc (.cells #[.int .i64 a, .int .i64 b] 23)) (by simp [Arr2, go_sem]) hb1
       have hk := Bel.trans ((Bel.refl W1).alloc _) hb1
       replace htW := htW.keep hk; replace hb := hb.trans hk; have l3 := hX.1; clear hb1 hk hA hB)
    | (go_at_call 12; refine (awake_any _ (htW.keep ((Bel.refl W2).alloc _))).mono ?_; rintro e W3 ⟨rfl, hb1⟩
       have hY : Arr2 W3 W2.heap.size a b := Arr2.keep (w := W2.alloc (.cells #[.int .i64 a, .int .i64 b] 23)) (by simp [Arr2, go_sem]) hb1
       have hk := Bel.trans ((Bel.refl W2).alloc _) hb1
       replace hX := hX.keep hk; replace hb := hb.trans hk; have l4 := hX.1; have l5 := hY.1; clear hb1 hk))
  go_ret
  exact ⟨rfl, hb⟩
set_option maxRecDepth 100000 in
set_option maxHeartbeats 4000000 in
/-- The quotient of any two numbers, rounded. -/
theorem law_Divides (n s m t : Int) (w : World) (ht : Tab w) : Calls Tryd.prog 5 #[decA n s, decA m t] w fun e w' => e = .returned (.bool true) ∧ Bel w w' := by
  obtain ⟨a, b, e, hx⟩ := divV_shp n s m t
  have c1 := fun w => div_any n s m t w
  have c2 := fun w => rdiv_any n s m t w
  rw [hx] at c1 c2
  have C1 := Lib.hid c1
  have C2 := Lib.hid c2
  clear c1 c2 hx
  go_enter Tryd.func5, Tryd.ntmps5
  go_wp2_with fail
  refine under_call (((Bel.refl w).alloc _).alloc _) fun W hc hf hz hb => ?_
  have hA : Arr2 W w.heap.size n s := by simp [Arr2, hz, hc, hf, go_sem]
  have hB : Arr2 W (w.heap.size + 1) m t := by simp [Arr2, hz, hc, hf, go_sem]
  have htW : Tab W := ht.keep hb
  clear hc hf hz
  go_wp2_with (first
    | (go_at_call 17; with_reducible refine (C1.out _).mono ?_; rintro e W1 ⟨rfl, hb1⟩; replace hA := hA.keep hb1; replace hB := hB.keep hb1; replace htW := htW.keep hb1; replace hb := hb.trans hb1; have l1 := hA.1; have l2 := hB.1; clear hb1)
    | (go_at_call 18; with_reducible refine (C2.out _).mono ?_; rintro e W2 ⟨rfl, hb1⟩
       have hX : Arr2 W2 W1.heap.size a b := Arr2.keep (w := W1.alloc (.cells #[.int .i64 a, .int .i64 b] 23)) (by simp [Arr2, go_sem]) hb1
       have hk := Bel.trans ((Bel.refl W1).alloc _) hb1
       replace htW := htW.keep hk; replace hb := hb.trans hk; have l3 := hX.1; clear hb1 hk hA hB)
    | (go_at_call 12; refine (awake_any _ (htW.keep ((Bel.refl W2).alloc _))).mono ?_; rintro e W3 ⟨rfl, hb1⟩
       have hY : Arr2 W3 W2.heap.size a b := Arr2.keep (w := W2.alloc (.cells #[.int .i64 a, .int .i64 b] 23)) (by simp [Arr2, go_sem]) hb1
       have hk := Bel.trans ((Bel.refl W2).alloc _) hb1
       replace hX := hX.keep hk; replace hb := hb.trans hk; have l4 := hX.1; have l5 := hY.1; clear hb1 hk))
  go_ret
  exact ⟨rfl, hb⟩
end Go.Proofs.YtcknjhgolajclaaDoor
