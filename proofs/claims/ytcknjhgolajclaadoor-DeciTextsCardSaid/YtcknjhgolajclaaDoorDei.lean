import Derived.Test.YtcknjhgolajclaaDoorDeh
namespace Go.Proofs.YtcknjhgolajclaaDoor
set_option linter.unusedSimpArgs false
set_option linter.unusedVariables false
open Go.RowKit

/-! Deci: products and quotients of wide numbers. -/
theorem size_q (n : Int) (hn : In64 n) (w : World) : Calls Tryd.prog 48 #[.int .i64 n] w fun e w' => e = .returned (.int .u64 (n.natAbs : Int)) ∧ w' = w := by
  obtain ⟨h0, h1⟩ := hn
  by_cases h : n < 0
  · go_enter Tryd.func48, Tryd.ntmps48
    go_wp2
    go_ret
    exact ⟨ret_u64 (by rw [conv_u64, conv_u64]; omega), rfl⟩
  · go_enter Tryd.func48, Tryd.ntmps48
    go_wp2
    go_ret
    exact ⟨ret_u64 (by omega), rfl⟩
set_option maxRecDepth 100000 in
set_option maxHeartbeats 4000000 in
theorem times_any (x : Bool) (m : Nat) (s n t : Int) (hm : m < 18446744073709551616) (hn : In64 n) (hs : -1000 ≤ s ∧ s ≤ 1000) (ht : -1000 ≤ t ∧ t ≤ 1000) (w : World) :
    Calls Tryd.prog 32 #[wideM x m 0 1 s, .int .i64 n, .int .i64 t] w fun e w' => e = .returned (wideM (x != decide (n < 0)) (m * n.natAbs) 0 1 (s + t)) ∧ Bel w w' := by
  have e0 := whi_small hm
  have e1 := wlo_small hm
  have hN : n.natAbs < 18446744073709551616 := by have := hn.1; have := hn.2; omega
  have c2 := fun w => Tryd.bits_Mul64 m n.natAbs hm hN w
  have c1 := fun w => size_q n hn w
  obtain ⟨N, hN'⟩ : ∃ N, N = n.natAbs := ⟨_, rfl⟩
  rw [← hN'] at c1 c2
  obtain ⟨p, hp⟩ : ∃ p, p = m * N := ⟨_, rfl⟩
  rw [← hp] at c2
  change ∀ w, Calls _ _ _ w fun e w' => e = .returned (.tuple #[.int .u64 ((whi p : Nat) : Int), .int .u64 ((wlo p : Nat) : Int)]) ∧ w' = w at c2
  have hv : Hid (m * n.natAbs = p) := by rw [Hid, hp, hN']
  have C1 := Lib.hid c1
  have C2 := Lib.hid c2
  obtain ⟨s1, s2⟩ := hs
  obtain ⟨t1, t2⟩ := ht
  show Calls Tryd.prog 32 #[wideV x (whi m) (wlo m) 0 1 s, .int .i64 n, .int .i64 t] w _
  rw [e0, e1]
  clear hm hn hN hN' hp c1 c2 e0 e1
  have ends : ∀ y, (x != decide (n < 0)) = y → Calls Tryd.prog 32 #[wideV x 0 m 0 1 s, .int .i64 n, .int .i64 t] w fun e w' => e = .returned (wideV y (whi p) (wlo p) 0 1 (s + t)) ∧ Bel w w' := by
    intro y hy
    have hy1 : (!(x == decide (n < 0))) = y := hy
    go_enter Tryd.func32, Tryd.ntmps32
    go_wp2_with fail
    refine under_name (((Bel.refl w).alloc _).alloc _) fun W hc hf hz hb => ?_
    have hA : Sl6 W w.heap.size x 0 m 0 1 s := by simp [Sl6, Ar6, Fr6, hz, hc, hf, go_sem]
    have hB : Sl6 W (w.heap.size + 1) false 0 0 0 0 0 := by simp [Sl6, Ar6, Fr6, hz, hc, hf, go_sem]
    clear hc hf hz
    go_region_with (first
      | (go_at_call 48; refine (C1.out _).mono ?_; rintro e W1 ⟨rfl, rfl⟩)
      | (go_at_call 50; refine (C2.out _).mono ?_; rintro e W1 ⟨rfl, rfl⟩))
    all_goals
      replace hA : Sl6 ((W.setCell ⟨w.heap.size, 1, none⟩ (.int .u64 (whi p))).setCell ⟨w.heap.size, 2, none⟩ (.int .u64 (wlo p))).drew w.heap.size x (whi p) (wlo p) 0 1 s := by
        simp (maxDischargeDepth := 20) [Sl6, Ar6, Fr6, go_sem, hA]
      replace hB : Sl6 ((W.setCell ⟨w.heap.size, 1, none⟩ (.int .u64 (whi p))).setCell ⟨w.heap.size, 2, none⟩ (.int .u64 (wlo p))).drew (w.heap.size + 1) false 0 0 0 0 0 := by
        simp (maxDischargeDepth := 20) [Sl6, Ar6, Fr6, go_sem, hB]
      replace hb : Bel w ((W.setCell ⟨w.heap.size, 1, none⟩ (.int .u64 (whi p))).setCell ⟨w.heap.size, 2, none⟩ (.int .u64 (wlo p))).drew := by (repeat (first | with_reducible exact Bel.refl _ | with_reducible refine Bel.setCell ?_ (by first | exact Nat.le_refl _ | (dsimp only; omega)) _ | with_reducible refine Bel.alloc ?_ _ | with_reducible refine Bel.drew ?_ | with_reducible assumption | with_reducible refine Bel.trans ?_ (by assumption)))
      generalize ((W.setCell ⟨w.heap.size, 1, none⟩ (.int .u64 (whi p))).setCell ⟨w.heap.size, 2, none⟩ (.int .u64 (wlo p))).drew = W2 at *
      clear W
      go_wp2
      refine bodyPost_ret (by simp [results, Tryd.results32, go_sem, hA, hB]; try rfl) rfl ⟨rfl, ?_⟩
      (repeat (first | with_reducible exact Bel.refl _ | with_reducible refine Bel.setCell ?_ (by first | exact Nat.le_refl _ | (dsimp only; omega)) _ | with_reducible refine Bel.alloc ?_ _ | with_reducible refine Bel.drew ?_ | with_reducible assumption | with_reducible refine Bel.trans ?_ (by assumption)))
  have := ends _ rfl
  rw [hv.out]
  exact this

set_option maxRecDepth 100000 in
set_option maxHeartbeats 4000000 in
theorem over_any (x : Bool) (m : Nat) (s n : Int) (hm : m < big128) (hn : In64 n) (hn0 : n ≠ 0) (w : World) :
    Calls Tryd.prog 38 #[wideM x m 0 1 s, .int .i64 n] w fun e w' => e = .returned (wideM (x != decide (n < 0)) (m / n.natAbs) (m % n.natAbs) n.natAbs s) ∧ Bel w w' := by
  have hN : n.natAbs < 18446744073709551616 := by have := hn.1; have := hn.2; omega
  have c2 := fun y w => divided_any y m 0 1 n.natAbs s hm (by omega) hN w
  have c1 := fun w => size_q n hn w
  have C1 := Lib.hid c1
  have C2 := Lib.hid c2
  clear hm hn hn0 hN c1 c2
  generalize hxy : (x != decide (n < 0)) = y
  have hy1 : (!(x == decide (n < 0))) = y := hxy
  go_enter Tryd.func38, Tryd.ntmps38
  go_wp2_with fail
  refine under_name (((Bel.refl w).alloc _).alloc _) fun W hc hf hz hb => ?_
  have hA : Sl6 W w.heap.size y (whi m) (wlo m) 0 1 s := by simp [Sl6, Ar6, Fr6, hz, hc, hf, go_sem]
  have hB : Sl6 W (w.heap.size + 1) false 0 0 0 0 0 := by simp [Sl6, Ar6, Fr6, hz, hc, hf, go_sem]
  clear hc hf hz
  have hz : w.heap.size + 1 < W.heap.size := hB.1.1
  go_region_with (first
    | (go_at_call 48; refine (C1.out _).mono ?_; rintro e W1 ⟨rfl, rfl⟩)
    | (go_at_call 51; refine (C2.out _ _).mono ?_; rintro e W1 ⟨rfl, hb1⟩; replace hb1 := (Bel.refl W).drew.trans hb1; replace hA := hA.keep hb1; replace hB := hB.keep hb1; replace hb := hb.trans hb1))
  all_goals
    go_wp2
    refine bodyPost_ret (by simp [results, Tryd.results38, go_sem, hA, hB]; try rfl) rfl ⟨rfl, ?_⟩
    (repeat (first | with_reducible exact Bel.refl _ | with_reducible refine Bel.setCell ?_ (by first | exact Nat.le_refl _ | (dsimp only; omega)) _ | with_reducible refine Bel.alloc ?_ _ | with_reducible refine Bel.drew ?_ | with_reducible assumption | with_reducible refine Bel.trans ?_ (by assumption)))
end Go.Proofs.YtcknjhgolajclaaDoor
