
import Derived.Test.YtpmmbcobjibpeaaGreatDoorWdk
namespace Go.Proofs.YtpmmbcobjibpeaaGreatDoor
set_option linter.unusedSimpArgs false
set_option linter.unusedVariables false
open Go.RowKit Go.Lib
attribute [local go_sem] field_words
set_option maxRecDepth 100000 in
set_option maxHeartbeats 1000000 in
theorem meet_swap (l : List ByteArray) (A : Option Addr) (c : Nat)  (m : List ByteArray) (A2 : Option Addr) (c2 : Nat) (w : World) (hl : Strs w A l) (hm : Strs w A2 m) (hA : A = none → c = 0) (hA2 : A2 = none → c2 = 0)
    (hn : l.length * 16 ≤ 140737488355328) (hn2 : m.length * 16 ≤ 140737488355328)  (hs : ∀ s ∈ l, Fits s) (hs2 : ∀ s ∈ m, Fits s) :
    Calls Tryz.prog 64 #[wset true A l.length c, wset false A2 m.length c2] w fun e w' => Made w w' e (fun v => .agg #[.bool (true && false), v]) (meetl true l false m) := by
  unfold wset
  go_enter Tryz.func64, Tryz.ntmps64
  go_upto_region 1 with fail
  refine under_name ((((Bel.refl w).alloc _).alloc _).alloc _) fun W hc hf hz hb => ?_
  have m0 : W.cell? ⟨w.heap.size, 0, none⟩ = some (.bool true) := by simp [hc, go_sem]
  have m1 : W.cell? ⟨w.heap.size, 1, none⟩ = some (.slice A l.length c) := by simp [hc, go_sem]
  have n0 : W.cell? ⟨w.heap.size + 1, 0, none⟩ = some (.bool false) := by simp [hc, go_sem]
  have n1 : W.cell? ⟨w.heap.size + 1, 1, none⟩ = some (.slice A2 m.length c2) := by simp [hc, go_sem]
  have e0 : W.cell? ⟨w.heap.size + 1 + 1, 0, none⟩ = some (.bool false) := by simp [hc, go_sem]
  have e1 : W.cell? ⟨w.heap.size + 1 + 1, 1, none⟩ = some (.slice none 0 0) := by simp [hc, go_sem]
  have g0 : W.frozen? ⟨w.heap.size + 1 + 1, 0, none⟩ = false := by simp [hf, go_sem]
  have g1 : W.frozen? ⟨w.heap.size + 1 + 1, 1, none⟩ = false := by simp [hf, go_sem]
  have r0 : W.frozen? ⟨w.heap.size, 0, none⟩ = false := by simp [hf, go_sem]
  have r1 : W.frozen? ⟨w.heap.size, 1, none⟩ = false := by simp [hf, go_sem]
  have s0 : W.frozen? ⟨w.heap.size + 1, 0, none⟩ = false := by simp [hf, go_sem]
  have s1 : W.frozen? ⟨w.heap.size + 1, 1, none⟩ = false := by simp [hf, go_sem]
  have z0 : w.heap.size + 3 ≤ W.heap.size := by simp [hz]
  clear hc hf hz
  go_upto_region 5 with fail
  refine under_name (w0 := w) (by (repeat (first | with_reducible exact Bel.refl _ | with_reducible refine Bel.setCell ?_ (by first | exact Nat.le_refl _ | (dsimp only; omega)) _ | with_reducible refine Bel.alloc ?_ _ | with_reducible refine Bel.drew ?_ | with_reducible assumption | with_reducible refine Bel.trans ?_ (by assumption)))) fun W hc hf hz hb => ?_
  have m0 : W.cell? ⟨w.heap.size, 0, none⟩ = some (.bool false) := by simp [hc, go_sem, m0, m1, n0, n1]
  have m1' : W.cell? ⟨w.heap.size, 1, none⟩ = some (.slice A2 m.length c2) := by simp [hc, go_sem, m1, n1]
  have n0 : W.cell? ⟨w.heap.size + 1, 0, none⟩ = some (.bool true) := by simp [hc, go_sem, n0]
  have e0 : W.cell? ⟨w.heap.size + 1 + 1, 0, none⟩ = some (.bool false) := by simp [hc, go_sem, e0]
  have n1' : W.cell? ⟨w.heap.size + 1, 1, none⟩ = some (.slice A l.length c) := by simp [hc, go_sem, n1, m1]
  have e1 : W.cell? ⟨w.heap.size + 1 + 1, 1, none⟩ = some (.slice none 0 0) := by simp [hc, go_sem, e1]
  have g0 : W.frozen? ⟨w.heap.size + 1 + 1, 0, none⟩ = false := by simp [hf, go_sem, g0]
  have g1 : W.frozen? ⟨w.heap.size + 1 + 1, 1, none⟩ = false := by simp [hf, go_sem, g1]
  have z0 : w.heap.size + 3 ≤ W.heap.size := by simp [hz]; omega
  clear hc hf hz r0 r1 s0 s1
  have m1 := m1'
  have n1 := n1'
  clear m1' n1'
  have MK := Lib.hid (wmake_any false l A c W (hl.keep hb) hn hs)
  have EQ := Lib.hid (show keptl (fun s => okw s && !(inl (keptl okw l) s == true)) m = (meetl true l false m) from by (rw [meet_eq, meetl2]; simp))
  have KL := Lib.hid (keptl_len okw l)
  have KS := Lib.hid (keptl_srt okw l)
  generalize keptl okw l = r at MK EQ KL KS
  have hsf := fun (a : Addr) (cs : Array Value) (w : World) => run_store Tryz.prog w a (.func (.func 95) #[] cs) .plain rfl
  go_upto_region 7 with (first
    | (go_at_call 70; refine MK.out.mono ?_; rintro e W1 ⟨A1, c1, rfl, h1, h2, h3, hb1⟩; have HS1 := Lib.hid h1; have hz1 := hb1.size; have u0 := (hb1.cells (w.heap.size + 1) 0 (by omega)).trans n0; have x1 := (hb1.cells (w.heap.size) 1 (by omega)).trans m1; have ne5 : w.heap.size + 1 < W1.heap.size := (by omega); have ne6 : w.heap.size < W1.heap.size := (by omega); clear h1 h2 h3))
  refine under_name (w0 := W1) (by (repeat (first | with_reducible exact Bel.refl _ | with_reducible refine Bel.setCell ?_ (by first | exact Nat.le_refl _ | (dsimp only; omega)) _ | with_reducible refine Bel.alloc ?_ _ | with_reducible refine Bel.drew ?_ | with_reducible assumption | with_reducible refine Bel.trans ?_ (by assumption)))) fun W2 hc hf hz hb12 => ?_
  have k5 : W2.cell? ⟨W1.heap.size, 0, none⟩ = some (.slice A1 r.length c1) := by simp [hc, go_sem]
  have k6 : W2.cell? ⟨W1.heap.size + 1, 0, none⟩ = some (.func (.func 95) #[] #[.pointer (some ⟨W1.heap.size, 0, none⟩)]) := by simp [hc, go_sem]
  have z2 : W1.heap.size + 2 ≤ W2.heap.size := by simp [hz]
  clear hc hf hz
  have k3 : W2.cell? ⟨w.heap.size + 1, 0, none⟩ = some (.bool true) := (hb12.cells _ 0 ne5).trans u0
  have k1 := (hb12.cells _ 1 ne6).trans x1
  clear u0 x1 m0 m1 n0 n1
  go_wp2_with (first
    | (go_at_call 97
       refine (kept_any (fun s => okw s && !(inl r s == true)) 98 #[.pointer (some ⟨W1.heap.size + 1, 0, none⟩), .pointer (some ⟨w.heap.size + 1, 0, none⟩)] m A2 c2 eg26 W2 (pred26 r A1 true c1 W1.heap.size (W1.heap.size + 1) (w.heap.size + 1) W2 (by omega) (by omega) (by omega) k5 k6 k3 (HS1.out.keep hb12) KS.out (by have := KL.out; omega)) (hm.keep (hb.trans (hb1.trans hb12))) hn2 hs2).mono ?_
       rintro e W3 ⟨A9, c9, rfl, h91, h92, h93, hb3⟩
       rw [EQ.out] at h91 h93 ⊢
       have hbX := hb1.trans (hb12.trans hb3)
       have hz3 := hb3.size; have hz2 := hb12.size
       have c0 := (hbX.cells (w.heap.size + 1 + 1) 0 (by omega)).trans e0; have c1 := (hbX.cells (w.heap.size + 1 + 1) 1 (by omega)).trans e1; have f0 := (hbX.frozens (w.heap.size + 1 + 1) 0 (by omega)).trans g0; have f1 := (hbX.frozens (w.heap.size + 1 + 1) 1 (by omega)).trans g1))
  have hf : (meetl true l false m) = [] ∨ ∃ g, A9 = some ⟨g, 0, none⟩ ∧ w.heap.size + 1 + 1 < g := by
    rcases h93 with h93 | ⟨g, h93, h94⟩
    · exact .inl h93
    · exact .inr ⟨g, h93, by omega⟩
  refine bodyPost_ret (by simp [results, Tryz.results64, go_sem, c0, c1, f0, f1]; try rfl) rfl ⟨A9, c9, rfl, ?_, h92, ?_, ?_⟩
  · refine h91.other (B := w.heap.size + 1 + 1) (by simp) (fun k o hk => ?_) hf
    have ne : ¬ k = w.heap.size + 1 + 1 := by omega
    have ne' : ¬ w.heap.size + 1 + 1 = k := by omega
    simp [go_sem, ne, ne']
  · rcases hf with hf | ⟨g, hf, hg⟩
    · exact .inl hf
    · exact .inr ⟨g, hf, by omega⟩
  · have hx := hb.trans hbX
    (repeat (first | with_reducible exact Bel.refl _ | with_reducible refine Bel.setCell ?_ (by first | exact Nat.le_refl _ | (dsimp only; omega)) _ | with_reducible refine Bel.alloc ?_ _ | with_reducible refine Bel.drew ?_ | with_reducible assumption | with_reducible refine Bel.trans ?_ (by assumption)))
end Go.Proofs.YtpmmbcobjibpeaaGreatDoor
