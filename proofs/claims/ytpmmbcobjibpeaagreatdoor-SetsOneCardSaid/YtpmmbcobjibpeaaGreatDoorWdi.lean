
import Derived.Test.YtpmmbcobjibpeaaGreatDoorWdh
namespace Go.Proofs.YtpmmbcobjibpeaaGreatDoor
set_option linter.unusedSimpArgs false
set_option linter.unusedVariables false
open Go.RowKit Go.Lib

/-! Words: the function values of Meet and Pick; Meet. -/
def ptr (B : Nat) : Value := .pointer (some ⟨B, 0, none⟩)
set_option maxRecDepth 100000 in
theorem pred24 (r : List ByteArray) (A : Option Addr) (c B : Nat) (w : World) (hB : B < w.heap.size) (hc : w.cell? ⟨B, 0, none⟩ = some (.slice A r.length c)) (hS : Strs w A r) (hg : Srt r) (hn : r.length * 16 ≤ 140737488355328) :
    PredT 95 #[.pointer (some ⟨B, 0, none⟩)] (inl r) w := fun W s hb hs => by
  have c0 := (hb.cells _ 0 hB).trans hc
  have C := Lib.hid (bs_any r A c s W hg (hS.keep hb) (by omega))
  clear hS hc
  show Calls Tryz.prog 95 #[.string s, .pointer (some ⟨B, 0, none⟩)] W _
  generalize inl r s = q at C ⊢
  go_enter Tryz.func95, Tryz.ntmps95
  go_wp2_with (go_at_call 96; refine C.out.mono ?_; rintro e W1 ⟨⟨I, rfl⟩, hb1⟩)
  go_ret
  exact ⟨rfl, hb1⟩
set_option maxRecDepth 100000 in
theorem pred28 (r : List ByteArray) (A : Option Addr) (c B : Nat) (w : World) (hB : B < w.heap.size) (hc : w.cell? ⟨B, 1, none⟩ = some (.slice A r.length c)) (hS : Strs w A r) (hg : Srt r) (hn : r.length * 16 ≤ 140737488355328) :
    PredT 107 #[.pointer (some ⟨B, 0, none⟩)] (fun s => !inl r s) w := fun W s hb hs => by
  have c0 := (hb.cells _ 1 hB).trans hc
  have C := Lib.hid (bs_any r A c s W hg (hS.keep hb) (by omega))
  clear hS hc
  show Calls Tryz.prog 107 #[.string s, .pointer (some ⟨B, 0, none⟩)] W _
  simp only []
  generalize inl r s = q at C ⊢
  go_enter Tryz.func107, Tryz.ntmps107
  go_wp2_with (go_at_call 96; refine C.out.mono ?_; rintro e W1 ⟨⟨I, rfl⟩, hb1⟩)
  go_ret
  exact ⟨rfl, hb1⟩
set_option maxRecDepth 100000 in
set_option maxHeartbeats 4000000 in
theorem pred26 (r : List ByteArray) (A : Option Addr) (ball : Bool) (c B5 B6 B3 : Nat) (w : World) (hB5 : B5 < w.heap.size) (hB6 : B6 < w.heap.size) (hB3 : B3 < w.heap.size) (hc5 : w.cell? ⟨B5, 0, none⟩ = some (.slice A r.length c))
    (hc6 : w.cell? ⟨B6, 0, none⟩ = some (.func (.func 95) #[] #[.pointer (some ⟨B5, 0, none⟩)])) (hc3 : w.cell? ⟨B3, 0, none⟩ = some (.bool ball)) (hS : Strs w A r) (hg : Srt r) (hn : r.length * 16 ≤ 140737488355328) :
    PredT 98 #[.pointer (some ⟨B6, 0, none⟩), .pointer (some ⟨B3, 0, none⟩)] (fun s => okw s && !(inl r s == ball)) w := fun W s hb hs => by
  have c6 := (hb.cells _ 0 hB6).trans hc6
  have c3 := (hb.cells _ 0 hB3).trans hc3
  have H := Lib.hid fun w => may_any s hs w
  have C := Lib.hid fun w' (hW : Bel W w') => pred24 r A c B5 w hB5 hc5 hS hg hn w' s (hb.trans hW) hs
  have z6 := Nat.lt_of_lt_of_le hB6 hb.size
  have z3 := Nat.lt_of_lt_of_le hB3 hb.size
  clear hS hc5 hc6 hc3 hB5 hB6 hB3
  show Calls Tryz.prog 98 #[.string s, .pointer (some ⟨B6, 0, none⟩), .pointer (some ⟨B3, 0, none⟩)] W _
  simp only []
  generalize okw s = q at H ⊢
  generalize inl r s = p at C ⊢
  have C1 := Lib.hid fun w' (hS : Bel W w' ∧ (∀ b o, b < W.heap.size → w'.cell? ⟨b, o, none⟩ = W.cell? ⟨b, o, none⟩)) => C.out w' hS.1
  clear C
  go_enter Tryz.func98, Tryz.ntmps98
  go_upto_region 1 with fail
  cases q with
  | false =>
    refine wp_region_uni (S := (fun w' => Bel W w' ∧ (∀ b o, b < W.heap.size → w'.cell? ⟨b, o, none⟩ = W.cell? ⟨b, o, none⟩))) (by kernel_rfl) (by kernel_rfl) keep0 ?_
    repeat (first | (refine wpUni_skip (by rfl) ?_; (try simp only [Act.put, List.setIfInBounds_toArray, List.set_cons_zero, List.set_cons_succ]))
                                                            | (refine wpUni_value (by rfl) (fun w hS => by (try dsimp only at hS); go_simp; first | done | with_reducible rfl) ?_; (try simp only [Act.put, List.setIfInBounds_toArray, List.set_cons_zero, List.set_cons_succ]))
                                                            | (refine wpUni_call (f := 80) (by rfl) (fun w => by go_simp; first | done | with_reducible rfl) (fun w hS => (H.out w).mono fun e w' ⟨he, hb⟩ => ⟨he, keep1 hS hb⟩) ?_; (try simp only [Act.put, List.setIfInBounds_toArray, List.set_cons_zero, List.set_cons_succ])))
    refine wpUni_nil fun W1 hS => ?_
    have hb1 := hS.1
    clear hS
    go_wp2_with fail
    go_ret
    exact ⟨rfl, hb1⟩
  | true =>
    refine wp_region_uni (S := (fun w' => Bel W w' ∧ (∀ b o, b < W.heap.size → w'.cell? ⟨b, o, none⟩ = W.cell? ⟨b, o, none⟩))) (by kernel_rfl) (by kernel_rfl) keep0 ?_
    repeat (first | (refine wpUni_skip (by rfl) ?_; (try simp only [Act.put, List.setIfInBounds_toArray, List.set_cons_zero, List.set_cons_succ]))
                                                            | (refine wpUni_value (by rfl) (fun w hS => by (try dsimp only at hS); go_simp; first | done | with_reducible rfl) ?_; (try simp only [Act.put, List.setIfInBounds_toArray, List.set_cons_zero, List.set_cons_succ]))
                                                            | (refine wpUni_call (f := 80) (by rfl) (fun w => by go_simp; first | done | with_reducible rfl) (fun w hS => (H.out w).mono fun e w' ⟨he, hb⟩ => ⟨he, keep1 hS hb⟩) ?_; (try simp only [Act.put, List.setIfInBounds_toArray, List.set_cons_zero, List.set_cons_succ]))
                                                            | (refine wpUni_call (f := 95) (by rfl) (fun w => by go_simp; first | done | with_reducible rfl) (fun w hS => (C1.out w hS).mono fun e w' ⟨he, hb⟩ => ⟨he, keep1 hS hb⟩) ?_; (try simp only [Act.put, List.setIfInBounds_toArray, List.set_cons_zero, List.set_cons_succ])))
    refine wpUni_nil fun W1 hS => ?_
    have hb1 := hS.1
    clear hS
    go_wp2_with fail
    go_ret
    exact ⟨rfl, hb1⟩
end Go.Proofs.YtpmmbcobjibpeaaGreatDoor
