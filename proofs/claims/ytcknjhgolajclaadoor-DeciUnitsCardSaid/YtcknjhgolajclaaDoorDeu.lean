import Derived.Test.YtcknjhgolajclaaDoorDes
import Derived.Test.YtcknjhgolajclaaDoorDet
namespace Go.Proofs.YtcknjhgolajclaaDoor
set_option linter.unusedSimpArgs false
set_option linter.unusedVariables false
open Go.RowKit

set_option maxRecDepth 100000 in
set_option maxHeartbeats 4000000 in
/-- Any number in its shortest form, and whether any is in it. -/
theorem law_Makes (n s : Int) (w : World) (ht : Tab w) : Calls Tryd.prog 3 #[.int .i64 n, .int .i64 s] w fun e w' => e = .returned (.bool true) ∧ Bel w w' := by
  have c1 := fun w => make_any n s w
  have c2 := fun w => rmake_any n s w
  obtain ⟨a, b, e, hm⟩ := makeV_sh n s
  rw [hm] at c1 c2
  have C1 := Lib.hid c1
  have C2 := Lib.hid c2
  clear c1 c2 hm
  go_enter Tryd.func3, Tryd.ntmps3
  go_wp2_with (first
    | (go_at_call 10; refine (C1.out _).mono ?_; rintro e w1 ⟨rfl, hb1⟩)
    | (go_at_call 11; refine (C2.out _).mono ?_; rintro e w2 ⟨rfl, hb2⟩
       have hA : Arr2 w2 w1.heap.size a b := Arr2.keep (w := w1.alloc (.cells #[.int .i64 a, .int .i64 b] 23)) (by simp [Arr2, go_sem]) hb2
       replace hb2 := (hb1.alloc _).trans hb2; clear hb1))
  have hlt := hA.1
  refine under_name ((hb2.alloc _).alloc _) fun W hc hf hz hb => ?_
  have hA' : Arr2 W w1.heap.size a b := by
    have h0 : ¬ w1.heap.size = w2.heap.size := by omega
    have h1 : ¬ w1.heap.size = w2.heap.size + 1 := by omega
    have h2 : ¬ w2.heap.size = w1.heap.size := by omega
    have h3 : ¬ w2.heap.size + 1 = w1.heap.size := by omega
    simp [Arr2, hz, hc, go_sem, hA, h0, h1, h2, h3] <;> omega
  have hB : Arr2 W w2.heap.size a b := by simp [Arr2, hz, hc, go_sem]
  have hC : Arr2 W (w2.heap.size + 1) n s := by simp [Arr2, hz, hc, go_sem]
  have htW : Tab W := ht.keep hb
  clear hc hf hz hA hlt hb2
  refine wp_region_uni (S := (fun w' => Bel W w' ∧ (∀ b o, b < W.heap.size → w'.cell? ⟨b, o, none⟩ = W.cell? ⟨b, o, none⟩))) (by kernel_rfl) (by kernel_rfl) keep0 ?_
  repeat (first | (refine wpUni_skip (by rfl) ?_; (try simp only [Act.put, List.setIfInBounds_toArray, List.set_cons_zero, List.set_cons_succ]))
                                                            | (refine wpUni_value (by rfl) (fun w hS => by (try dsimp only at hS); go_simp; first | done | with_reducible rfl) ?_; (try simp only [Act.put, List.setIfInBounds_toArray, List.set_cons_zero, List.set_cons_succ]))
                                                            | (refine wpUni_call (f := 12) (by rfl) (fun w => by go_simp; first | done | with_reducible rfl) (fun w hS => (awake_any w (htW.keep hS.1)).mono fun e w' ⟨he, hb⟩ => ⟨he, keep1 hS hb⟩) ?_; (try simp only [Act.put, List.setIfInBounds_toArray, List.set_cons_zero, List.set_cons_succ]))
                                                            | (refine wpUni_call (f := 13) (by rfl) (fun w => by go_simp; first | done | with_reducible rfl) (fun w hS => (sound_any n s w).mono fun e w' ⟨he, hb⟩ => ⟨he, keep1 hS hb⟩) ?_; (try simp only [Act.put, List.setIfInBounds_toArray, List.set_cons_zero, List.set_cons_succ]))
                                                            | (refine wpUni_call (f := 14) (by rfl) (fun w => by go_simp; first | done | with_reducible rfl) (fun w hS => (rsound_any n s w).mono fun e w' ⟨he, hb⟩ => ⟨he, keep1 hS hb⟩) ?_; (try simp only [Act.put, List.setIfInBounds_toArray, List.set_cons_zero, List.set_cons_succ])))
  refine wpUni_nil fun W1 hS => ?_
  have hb1 := hb.trans hS.1
  clear hS
  go_wp2
  go_ret
  exact ⟨rfl, hb1⟩
end Go.Proofs.YtcknjhgolajclaaDoor
