
import Derived.Test.YtpmmbcobjibpeaaGreatDoorWdi
namespace Go.Proofs.YtpmmbcobjibpeaaGreatDoor
set_option linter.unusedSimpArgs false
set_option linter.unusedVariables false
open Go.RowKit Go.Lib

/-! Words: Meet. -/
theorem eg26 : ∀ args w, (callFunc 98 args).run Tryz.prog w = .ok (.enter 98 args) w := enters_of Tryz.func98 (by kernel_rfl) rfl
theorem field_words (x : Bool) (A : Option Addr) (n c : Nat) (w : World) : (Instr.field 37 (.agg #[.bool x, .slice A n c]) 1).run Tryz.prog w = .ok (.slice A n c) w := by kernel_rfl
/-- What is in both of two sets. -/
def meetl (a : Bool) (l : List ByteArray) (b : Bool) (m : List ByteArray) : List ByteArray :=
  if a = true ∧ b = true then keptl okw (l ++ m) else if a = true then keptl (fun s => okw s && !inl l s) m else keptl (fun s => okw s && !(inl m s == b)) l
theorem inl_kept (l : List ByteArray) (s : ByteArray) (h : okw s = true) : inl (keptl okw l) s = inl l s := by
  rw [Bool.eq_iff_iff, inl_iff, inl_iff, keptl_mem]
  exact ⟨fun g => g.1, fun g => ⟨g, h⟩⟩
theorem meet_eq (b : Bool) (l m : List ByteArray) : keptl (fun s => okw s && !(inl (keptl okw m) s == b)) l = keptl (fun s => okw s && !(inl m s == b)) l := by
  refine keptl_eq fun s => ?_
  cases h : okw s with
  | false => simp
  | true => simp only [Bool.true_and]; rw [inl_kept m s h]
theorem meetl1 (l m : List ByteArray) : meetl true l true m = keptl okw (l ++ m) := rfl
theorem meetl2 (l m : List ByteArray) : meetl true l false m = keptl (fun s => okw s && !inl l s) m := rfl
theorem meetl3 (b : Bool) (l m : List ByteArray) : meetl false l b m = keptl (fun s => okw s && !(inl m s == b)) l := by unfold meetl; simp
set_option maxRecDepth 100000 in
set_option maxHeartbeats 1000000 in
theorem meet_both (l : List ByteArray) (A : Option Addr) (c : Nat)  (m : List ByteArray) (A2 : Option Addr) (c2 : Nat) (w : World) (hl : Strs w A l) (hm : Strs w A2 m) (hA : A = none → c = 0) (hA2 : A2 = none → c2 = 0)
    (hn : l.length * 16 ≤ 140737488355328) (hn2 : m.length * 16 ≤ 140737488355328) (hnn : (l.length + m.length) * 16 ≤ 140737488355328) (hs : ∀ s ∈ l, Fits s) (hs2 : ∀ s ∈ m, Fits s) :
    Calls Tryz.prog 64 #[wset true A l.length c, wset true A2 m.length c2] w fun e w' => Made w w' e (fun v => .agg #[.bool (true && true), v]) (meetl true l true m) := by
  unfold wset
  go_enter Tryz.func64, Tryz.ntmps64
  go_upto_region 1 with fail
  refine under_name ((((Bel.refl w).alloc _).alloc _).alloc _) fun W hc hf hz hb => ?_
  have m0 : W.cell? ⟨w.heap.size, 0, none⟩ = some (.bool true) := by simp [hc, go_sem]
  have m1 : W.cell? ⟨w.heap.size, 1, none⟩ = some (.slice A l.length c) := by simp [hc, go_sem]
  have n0 : W.cell? ⟨w.heap.size + 1, 0, none⟩ = some (.bool true) := by simp [hc, go_sem]
  have n1 : W.cell? ⟨w.heap.size + 1, 1, none⟩ = some (.slice A2 m.length c2) := by simp [hc, go_sem]
  have e0 : W.cell? ⟨w.heap.size + 1 + 1, 0, none⟩ = some (.bool false) := by simp [hc, go_sem]
  have e1 : W.cell? ⟨w.heap.size + 1 + 1, 1, none⟩ = some (.slice none 0 0) := by simp [hc, go_sem]
  have g0 : W.frozen? ⟨w.heap.size + 1 + 1, 0, none⟩ = false := by simp [hf, go_sem]
  have g1 : W.frozen? ⟨w.heap.size + 1 + 1, 1, none⟩ = false := by simp [hf, go_sem]
  have r0 : W.frozen? ⟨w.heap.size, 0, none⟩ = false := by simp [hf, go_sem]
  have r1 : W.frozen? ⟨w.heap.size, 1, none⟩ = false := by simp [hf, go_sem]
  have s0 : W.frozen? ⟨w.heap.size + 1, 0, none⟩ = false := by simp [hf, go_sem]
  have s1 : W.frozen? ⟨w.heap.size + 1, 1, none⟩ = false := by simp [hf, go_sem]
  have z0 : w.heap.size + 3 ≤ W.heap.size := by simp [hz]
  clear hc hf hz
  have CC := Lib.hid fun W' B' hB q0 q1 (hW : Bel W W') => concat_any l m A A2 c c2 B' 2 W' hB q0 q1 (hl.keep (hb.trans hW)) (hm.keep (hb.trans hW)) hA hA2 (hnn)
  have MK := Lib.hid fun W' A' c' n (hx : n = (l ++ m).length) (h : Strs W' A' (l ++ m)) => (show Calls Tryz.prog 70 #[.bool true, .slice A' n c'] W' fun e w' => Made W' w' e (fun v => .agg #[.bool true, v]) (keptl okw (l ++ m)) from by rw [hx]; exact wmake_any true (l ++ m) A' c' W' h (by have := hnn; rw [List.length_append]; exact this) (fun s h => by rcases List.mem_append.1 h with h | h; exact hs s h; exact hs2 s h))
  clear hl hm hA hA2 hnn hs hs2 r0 r1 s0 s1
  go_wp2_with (first
    | (go_at_call 94; refine (CC.out _ W.heap.size (by simp) (by simp [go_sem]) (by simp [go_sem]) ((Bel.refl _).alloc _)).mono ?_; rintro e W1 ⟨A1, c1, rfl, h1, h2, hb1⟩; have HS1 := Lib.hid h1; have hb1 := (Bel.alloc (Bel.refl W) _).trans hb1; clear h1)
    | (go_at_call 70; refine (MK.out _ _ _ _ (by simp) HS1.out).mono ?_; rintro e W3 ⟨A9, c9, rfl, h91, h92, h93, hb3⟩
       rw [← meetl1] at h91 h93 ⊢
       have hbX := hb1.trans hb3
       have hz3 := hb3.size; have hz2 := hb1.size
       have c0 := (hbX.cells (w.heap.size + 1 + 1) 0 (by omega)).trans e0; have c1 := (hbX.cells (w.heap.size + 1 + 1) 1 (by omega)).trans e1; have f0 := (hbX.frozens (w.heap.size + 1 + 1) 0 (by omega)).trans g0; have f1 := (hbX.frozens (w.heap.size + 1 + 1) 1 (by omega)).trans g1))
  have hf : meetl true l true m = [] ∨ ∃ g, A9 = some ⟨g, 0, none⟩ ∧ w.heap.size + 1 + 1 < g := by
    rcases h93 with h93 | ⟨g, h93, h94⟩
    · exact .inl h93
    · exact .inr ⟨g, h93, by omega⟩
  refine bodyPost_ret (by simp [results, Tryz.results64, go_sem, c0, c1, f0, f1]; try rfl) rfl ⟨A9, c9, rfl, ?_, h92, ?_, ?_⟩
  · refine h91.other (B := w.heap.size + 1 + 1) (by simp) (fun k o hk => ?_) hf
    have ne : ¬ k = w.heap.size + 1 + 1 := by omega
    have ne' : ¬ w.heap.size + 1 + 1 = k := by omega
    simp [go_sem, ne, ne']
  · rcases hf with hf | ⟨g, hf, hg⟩
    · exact .inl hf
    · exact .inr ⟨g, hf, by omega⟩
  · have hx := hb.trans hbX
    (repeat (first | with_reducible exact Bel.refl _ | with_reducible refine Bel.setCell ?_ (by first | exact Nat.le_refl _ | (dsimp only; omega)) _ | with_reducible refine Bel.alloc ?_ _ | with_reducible refine Bel.drew ?_ | with_reducible assumption | with_reducible refine Bel.trans ?_ (by assumption)))
end Go.Proofs.YtpmmbcobjibpeaaGreatDoor
