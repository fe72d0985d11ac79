
import Derived.Test.YtpmmbcobjibpeaaGreatDoorWdf
namespace Go.Proofs.YtpmmbcobjibpeaaGreatDoor
set_option linter.unusedSimpArgs false
set_option linter.unusedVariables false
open Go.RowKit Go.Lib

/-! Words: Make, Other, Has, Empty. -/
theorem Made.mono {w0 w1 w' : World} {e : Ending} {f : Value → Value} {r : List ByteArray} (h : Made w1 w' e f r) (hb : Bel w0 w1) : Made w0 w' e f r := by
  obtain ⟨A, c, h1, h2, h3, h4, h5⟩ := h
  refine ⟨A, c, h1, h2, h3, ?_, hb.trans h5⟩
  rcases h4 with h4 | ⟨g, h4, h6⟩
  · exact .inl h4
  · exact .inr ⟨g, h4, Nat.le_trans hb.size h6⟩
theorem Strs.other {W W' : World} {A : Option Addr} {r : List ByteArray} {B : Nat} (h : Strs W A r) (hz : W'.heap.size = W.heap.size) (hk : ∀ k o, B < k → W'.cell? ⟨k, o, none⟩ = W.cell? ⟨k, o, none⟩) (hA : r = [] ∨ ∃ g, A = some ⟨g, 0, none⟩ ∧ B < g) : Strs W' A r := by
  rcases hA with rfl | ⟨g, rfl, hg⟩
  · exact Strs.nil
  · intro h0
    obtain ⟨b, off, e, h1, h2⟩ := h h0
    cases e
    exact ⟨g, 0, rfl, by rw [hz]; exact h1, fun j u hu => (hk g _ hg).trans (h2 j u hu)⟩
set_option maxRecDepth 100000 in
set_option maxHeartbeats 4000000 in
theorem wmake_any (all : Bool) (l : List ByteArray) (A : Option Addr) (c : Nat) (w : World) (hl : Strs w A l) (hn : l.length * 16 ≤ 140737488355328) (hs : ∀ s ∈ l, Fits s) :
    Calls Tryz.prog 70 #[.bool all, .slice A l.length c] w fun e w' => Made w w' e (fun v => .agg #[.bool all, v]) (keptl okw l) := by
  have C := Lib.hid fun W (hW : Bel w W) => kept_any okw 80 #[] l A c eg_may W (predMay W) (hl.keep hW) hn hs
  clear hl hs
  go_enter Tryz.func70, Tryz.ntmps70
  go_wp2_with (go_at_call 97; refine (C.out _ ((Bel.refl w).alloc _)).mono ?_; rintro e W1 ⟨A', c', rfl, h1, h2, h3, hb1⟩; have hz := hb1.size; simp at hz; have c0 := hb1.cells w.heap.size 0 (by simp); have c1 := hb1.cells w.heap.size 1 (by simp); have f0 := hb1.frozens w.heap.size 0 (by simp); have f1 := hb1.frozens w.heap.size 1 (by simp); simp [go_sem] at c0 c1 f0 f1)
  have hf : (keptl okw l) = [] ∨ ∃ g, A' = some ⟨g, 0, none⟩ ∧ w.heap.size < g := by
    rcases h3 with h3 | ⟨g, h3, h4⟩
    · exact .inl h3
    · exact .inr ⟨g, h3, by have := h4; simp at this; omega⟩
  refine bodyPost_ret (by simp [results, Tryz.results70, go_sem, c0, c1, f0, f1]; try rfl) rfl ⟨A', c', rfl, ?_, h2, ?_, ?_⟩
  · refine h1.other (B := w.heap.size) (by simp) (fun k o hk => ?_) hf
    have ne : ¬ k = w.heap.size := by omega
    have ne' : ¬ w.heap.size = k := by omega
    simp [go_sem, ne, ne']
  · rcases hf with hf | ⟨g, hf, hg⟩
    · exact .inl hf
    · exact .inr ⟨g, hf, by omega⟩
  · have hw := ((Bel.refl w).alloc (.cells #[.bool false, .slice none 0 0] 37)).trans hb1
    (repeat (first | with_reducible exact Bel.refl _ | with_reducible refine Bel.setCell ?_ (by first | exact Nat.le_refl _ | (dsimp only; omega)) _ | with_reducible refine Bel.alloc ?_ _ | with_reducible refine Bel.drew ?_ | with_reducible assumption | with_reducible refine Bel.trans ?_ (by assumption)))
set_option maxRecDepth 100000 in
set_option maxHeartbeats 4000000 in
theorem other_any (all : Bool) (l : List ByteArray) (A : Option Addr) (c : Nat) (w : World) (hl : Strs w A l) (hn : l.length * 16 ≤ 140737488355328) (hs : ∀ s ∈ l, Fits s) :
    Calls Tryz.prog 82 #[wset all A l.length c] w fun e w' => Made w w' e (fun v => .agg #[.bool !all, v]) (keptl okw l) := by
  have C := Lib.hid fun W (hW : Bel w W) => wmake_any (!all) l A c W (hl.keep hW) hn hs
  clear hl hs
  unfold wset
  go_enter Tryz.func82, Tryz.ntmps82
  go_upto_region 1 with fail
  refine under_name (((Bel.refl w).alloc _).alloc _) fun W hc hf hz hb => ?_
  have m0 : W.cell? ⟨w.heap.size, 0, none⟩ = some (.bool all) := by simp [hc, go_sem]
  have m1 : W.cell? ⟨w.heap.size, 1, none⟩ = some (.slice A l.length c) := by simp [hc, go_sem]
  have n0 : W.cell? ⟨w.heap.size + 1, 0, none⟩ = some (.bool false) := by simp [hc, go_sem]
  have n1 : W.cell? ⟨w.heap.size + 1, 1, none⟩ = some (.slice none 0 0) := by simp [hc, go_sem]
  have g0 : W.frozen? ⟨w.heap.size + 1, 0, none⟩ = false := by simp [hf, go_sem]
  have g1 : W.frozen? ⟨w.heap.size + 1, 1, none⟩ = false := by simp [hf, go_sem]
  have z0 : w.heap.size + 2 ≤ W.heap.size := by simp [hz]
  clear hc hf hz
  go_wp2_with (go_at_call 70; refine (C.out _ hb).mono ?_; rintro e W1 ⟨A', c', rfl, h1, h2, h3, hb1⟩; have c0 := (hb1.cells (w.heap.size + 1) 0 (by omega)).trans n0; have c1 := (hb1.cells (w.heap.size + 1) 1 (by omega)).trans n1; have f0 := (hb1.frozens (w.heap.size + 1) 0 (by omega)).trans g0; have f1 := (hb1.frozens (w.heap.size + 1) 1 (by omega)).trans g1; have hbX := hb.trans hb1; have hz1 := hb1.size)
  have hf : (keptl okw l) = [] ∨ ∃ g, A' = some ⟨g, 0, none⟩ ∧ w.heap.size + 1 < g := by
    rcases h3 with h3 | ⟨g, h3, h4⟩
    · exact .inl h3
    · exact .inr ⟨g, h3, by omega⟩
  refine bodyPost_ret (by simp [results, Tryz.results82, go_sem, c0, c1, f0, f1]; try rfl) rfl ⟨A', c', rfl, ?_, h2, ?_, ?_⟩
  · refine h1.other (B := w.heap.size + 1) (by simp) (fun k o hk => ?_) hf
    have ne : ¬ k = w.heap.size + 1 := by omega
    have ne' : ¬ w.heap.size + 1 = k := by omega
    simp [go_sem, ne, ne']
  · rcases hf with hf | ⟨g, hf, hg⟩
    · exact .inl hf
    · exact .inr ⟨g, hf, by omega⟩
  · (repeat (first | with_reducible exact Bel.refl _ | with_reducible refine Bel.setCell ?_ (by first | exact Nat.le_refl _ | (dsimp only; omega)) _ | with_reducible refine Bel.alloc ?_ _ | with_reducible refine Bel.drew ?_ | with_reducible assumption | with_reducible refine Bel.trans ?_ (by assumption)))
set_option maxRecDepth 100000 in
set_option maxHeartbeats 4000000 in
theorem whas_any (all : Bool) (l : List ByteArray) (A : Option Addr) (c : Nat) (s : ByteArray) (w : World) (hl : Strs w A l) (hn : l.length ≤ 9223372036854775807) (hs : Fits s) :
    Calls Tryz.prog 52 #[wset all A l.length c, .string s] w fun e w' => e = .returned (.bool (hasw all l s)) ∧ Bel w w' := by
  have H := Lib.hid fun w => may_any s hs w
  have C := Lib.hid fun W (hW : Bel w W) => wcont_any l A c s W (hl.keep hW) hn
  have hR : hasw all l s = (okw s && !(inl l s == all)) := by unfold hasw; cases inl l s <;> cases all <;> rfl
  rw [hR]
  generalize okw s = q at H ⊢
  generalize inl l s = p at C ⊢
  clear hl hR
  unfold wset
  go_enter Tryz.func52, Tryz.ntmps52
  go_upto_region 1 with fail
  refine under_name ((Bel.refl w).alloc _) fun W hc hf hz hb => ?_
  have m0 : W.cell? ⟨w.heap.size, 0, none⟩ = some (.bool all) := by simp [hc, go_sem]
  have m1 : W.cell? ⟨w.heap.size, 1, none⟩ = some (.slice A l.length c) := by simp [hc, go_sem]
  have z0 : w.heap.size < W.heap.size := by simp [hz]
  clear hc hf hz
  have C1 := Lib.hid fun w' (hS : Bel W w' ∧ (∀ b o, b < W.heap.size → w'.cell? ⟨b, o, none⟩ = W.cell? ⟨b, o, none⟩)) => C.out w' (hb.trans hS.1)
  generalize w.heap.size = B at m0 m1 z0 ⊢
  cases q with
  | false =>
    refine wp_region_uni (S := (fun w' => Bel W w' ∧ (∀ b o, b < W.heap.size → w'.cell? ⟨b, o, none⟩ = W.cell? ⟨b, o, none⟩))) (by kernel_rfl) (by kernel_rfl) keep0 ?_
    repeat (first | (refine wpUni_skip (by rfl) ?_; (try simp only [Act.put, List.setIfInBounds_toArray, List.set_cons_zero, List.set_cons_succ]))
                                                            | (refine wpUni_value (by rfl) (fun w hS => by (try dsimp only at hS); go_simp; first | done | with_reducible rfl) ?_; (try simp only [Act.put, List.setIfInBounds_toArray, List.set_cons_zero, List.set_cons_succ]))
                                                            | (refine wpUni_call (f := 80) (by rfl) (fun w => by go_simp; first | done | with_reducible rfl) (fun w hS => (H.out w).mono fun e w' ⟨he, hb⟩ => ⟨he, keep1 hS hb⟩) ?_; (try simp only [Act.put, List.setIfInBounds_toArray, List.set_cons_zero, List.set_cons_succ])))
    refine wpUni_nil fun W1 hS => ?_
    have hb1 := hb.trans hS.1
    clear hS
    go_wp2_with fail
    go_ret
    exact ⟨rfl, hb1⟩
  | true =>
    refine wp_region_uni (S := (fun w' => Bel W w' ∧ (∀ b o, b < W.heap.size → w'.cell? ⟨b, o, none⟩ = W.cell? ⟨b, o, none⟩))) (by kernel_rfl) (by kernel_rfl) keep0 ?_
    repeat (first | (refine wpUni_skip (by rfl) ?_; (try simp only [Act.put, List.setIfInBounds_toArray, List.set_cons_zero, List.set_cons_succ]))
                                                            | (refine wpUni_value (by rfl) (fun w hS => by (try dsimp only at hS); go_simp; first | done | with_reducible rfl) ?_; (try simp only [Act.put, List.setIfInBounds_toArray, List.set_cons_zero, List.set_cons_succ]))
                                                            | (refine wpUni_call (f := 80) (by rfl) (fun w => by go_simp; first | done | with_reducible rfl) (fun w hS => (H.out w).mono fun e w' ⟨he, hb⟩ => ⟨he, keep1 hS hb⟩) ?_; (try simp only [Act.put, List.setIfInBounds_toArray, List.set_cons_zero, List.set_cons_succ]))
                                                            | (refine wpUni_call (f := 86) (by rfl) (fun w => by go_simp; first | done | with_reducible rfl) (fun w hS => (C1.out w hS).mono fun e w' ⟨he, hb⟩ => ⟨he, keep1 hS hb⟩) ?_; (try simp only [Act.put, List.setIfInBounds_toArray, List.set_cons_zero, List.set_cons_succ])))
    refine wpUni_nil fun W1 hS => ?_
    have hb1 := hb.trans hS.1
    clear hS
    go_wp2_with fail
    go_ret
    exact ⟨rfl, hb1⟩
/-- Is nothing in a set? -/
def emptyw (all : Bool) (l : List ByteArray) : Bool := !all && !l.any okw
set_option maxRecDepth 100000 in
set_option maxHeartbeats 4000000 in
theorem empty_any (all : Bool) (l : List ByteArray) (A : Option Addr) (c : Nat) (w : World) (hl : Strs w A l) (hn : l.length ≤ 9223372036854775807) (hs : ∀ s ∈ l, Fits s) :
    Calls Tryz.prog 48 #[wset all A l.length c] w fun e w' => e = .returned (.bool (emptyw all l)) ∧ Bel w w' := by
  have C := Lib.hid fun W (hW : Bel w W) => containsF_any l A c 80 #[] okw eg_may W (predMay W) (hl.keep hW) hn hs
  have hR : emptyw all l = (!all && !l.any okw) := rfl
  rw [hR]
  generalize l.any okw = p at C ⊢
  clear hl hR hs
  unfold wset
  go_enter Tryz.func48, Tryz.ntmps48
  go_upto_region 1 with fail
  refine under_name ((Bel.refl w).alloc _) fun W hc hf hz hb => ?_
  have m0 : W.cell? ⟨w.heap.size, 0, none⟩ = some (.bool all) := by simp [hc, go_sem]
  have m1 : W.cell? ⟨w.heap.size, 1, none⟩ = some (.slice A l.length c) := by simp [hc, go_sem]
  clear hc hf hz
  cases all
  all_goals
    go_wp2_with (go_at_call 79; refine (C.out _ hb).mono ?_; rintro e W1 ⟨rfl, hb1⟩; have hb := hb.trans hb1)
    go_ret
    exact ⟨rfl, hb⟩
end Go.Proofs.YtpmmbcobjibpeaaGreatDoor
