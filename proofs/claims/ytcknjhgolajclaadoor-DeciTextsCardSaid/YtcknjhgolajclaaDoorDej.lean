import Derived.Test.YtcknjhgolajclaaDoorDei
namespace Go.Proofs.YtcknjhgolajclaaDoor
set_option linter.unusedSimpArgs false
set_option linter.unusedVariables false
open Go.RowKit

theorem rounded_no (x : Bool) (m : Nat) (s : Int) (hs : s ≤ 6) (w : World) :
    Calls Tryd.prog 33 #[wideM x m 0 1 s] w fun e w' => e = .returned (wideM x m 0 1 s) ∧ Bel w w' := by
  go_enter Tryd.func33, Tryd.ntmps33
  go_wp2
  refine bodyPost_ret (by simp [results, Tryd.results33, go_sem]; try rfl) rfl ⟨rfl, ?_⟩
  exact ((Bel.refl w).alloc _).alloc _
set_option maxRecDepth 100000 in
set_option maxHeartbeats 4000000 in
theorem rounded_yes (x : Bool) (m : Nat) (s : Int) (h1 : 6 < s) (h2 : s ≤ 12) (hm : m + 1 < big128) (w : World) :
    Calls Tryd.prog 33 #[wideM x m 0 1 s] w fun e w' => e = .returned (wideM x (heven m (P10 (s - 6).toNat)) 0 1 6) ∧ Bel w w' := by
  have hp := P10_6 (show (s - 6).toNat ≤ 6 by omega)
  have hp0 := P10_pos (s - 6).toNat
  have c1 := fun w => power_z (s - 6) (by omega) (by omega) w
  obtain ⟨d, hd⟩ : ∃ d, d = P10 (s - 6).toNat := ⟨_, rfl⟩
  rw [← hd] at c1 hp hp0 ⊢
  have c2 := fun w => divided_any x m 0 1 d s (by unfold big128 at hm; omega) (by omega) (by omega) w
  have hr := Nat.mod_lt m hp0
  have hle := Nat.div_le_self m d
  have c3 := fun w => nearest_any x (m / d) (m % d) d 6 (by omega) (by omega) (by omega) w
  rw [hup_heven] at c3
  have C1 := Lib.hid c1
  have C2 := Lib.hid c2
  have C3 := Lib.hid c3
  have id := Lib.hid (show IntKind.u64.wrap (d : Int) = d by rw [wrapM, Nat.mod_eq_of_lt (by omega)])
  have i1 : (d : Int) ≤ 1000000 := by omega
  have w1 : IntKind.i64.wrap (s - 6) = s - 6 := by rw [IntKind.wrap_i64]; omega
  clear c1 c2 c3 hm hd hp hp0 hr hle
  generalize m / d = q at *
  generalize m % d = r at *
  generalize heven m d = hv at *
  go_enter Tryd.func33, Tryd.ntmps33
  go_wp2_with fail
  refine under_name (((Bel.refl w).alloc _).alloc _) fun W hc hf hz hb => ?_
  have hA : Sl6 W w.heap.size x (whi m) (wlo m) 0 1 s := by simp [Sl6, Ar6, Fr6, hz, hc, hf, go_sem]
  have hB : Sl6 W (w.heap.size + 1) false 0 0 0 0 0 := by simp [Sl6, Ar6, Fr6, hz, hc, hf, go_sem]
  clear hc hf hz
  have hz : w.heap.size + 1 < W.heap.size := hB.1.1
  have idd := id.out
  go_region_with (first
    | (go_at_call 37; refine (C1.out _).mono ?_; rintro e W1 ⟨rfl, hb1⟩; replace hb1 := (Bel.refl W).drew.trans hb1; replace hA := hA.keep hb1; replace hB := hB.keep hb1; replace hb := hb.trans hb1; clear hb1)
    | (go_at_call 51; refine (C2.out _).mono ?_; rintro e W1 ⟨rfl, hb1⟩; replace hA := hA.keep hb1; replace hB := hB.keep hb1; replace hb := hb.trans hb1; clear hb1))
  all_goals
    replace hA : Sl6 ((((((W1.setCell ⟨w.heap.size, 0, none⟩ (.bool x)).setCell ⟨w.heap.size, 1, none⟩ (.int .u64 (whi q))).setCell ⟨w.heap.size, 2, none⟩ (.int .u64 (wlo q))).setCell ⟨w.heap.size, 3, none⟩ (.int .u64 r)).setCell ⟨w.heap.size, 4, none⟩ (.int .u64 d)).setCell ⟨w.heap.size, 5, none⟩ (.int .i64 s)) w.heap.size x (whi q) (wlo q) r d s := by
      simp (maxDischargeDepth := 20) [Sl6, Ar6, Fr6, go_sem, hA]
    replace hB : Sl6 ((((((W1.setCell ⟨w.heap.size, 0, none⟩ (.bool x)).setCell ⟨w.heap.size, 1, none⟩ (.int .u64 (whi q))).setCell ⟨w.heap.size, 2, none⟩ (.int .u64 (wlo q))).setCell ⟨w.heap.size, 3, none⟩ (.int .u64 r)).setCell ⟨w.heap.size, 4, none⟩ (.int .u64 d)).setCell ⟨w.heap.size, 5, none⟩ (.int .i64 s)) (w.heap.size + 1) false 0 0 0 0 0 := by
      simp (maxDischargeDepth := 20) [Sl6, Ar6, Fr6, go_sem, hB]
    replace hb : Bel w ((((((W1.setCell ⟨w.heap.size, 0, none⟩ (.bool x)).setCell ⟨w.heap.size, 1, none⟩ (.int .u64 (whi q))).setCell ⟨w.heap.size, 2, none⟩ (.int .u64 (wlo q))).setCell ⟨w.heap.size, 3, none⟩ (.int .u64 r)).setCell ⟨w.heap.size, 4, none⟩ (.int .u64 d)).setCell ⟨w.heap.size, 5, none⟩ (.int .i64 s)) := by (repeat (first | with_reducible exact Bel.refl _ | with_reducible refine Bel.setCell ?_ (by first | exact Nat.le_refl _ | (dsimp only; omega)) _ | with_reducible refine Bel.alloc ?_ _ | with_reducible refine Bel.drew ?_ | with_reducible assumption | with_reducible refine Bel.trans ?_ (by assumption)))
    generalize ((((((W1.setCell ⟨w.heap.size, 0, none⟩ (.bool x)).setCell ⟨w.heap.size, 1, none⟩ (.int .u64 (whi q))).setCell ⟨w.heap.size, 2, none⟩ (.int .u64 (wlo q))).setCell ⟨w.heap.size, 3, none⟩ (.int .u64 r)).setCell ⟨w.heap.size, 4, none⟩ (.int .u64 d)).setCell ⟨w.heap.size, 5, none⟩ (.int .i64 s)) = W2 at *
    go_wp2_with (go_at_call 39; refine (C3.out _).mono ?_; rintro e W3 ⟨rfl, hb1⟩
                 replace hA := Sl6.keep (show Sl6 (W2.setCell ⟨w.heap.size, 5, none⟩ (.int .i64 6)) w.heap.size x (whi q) (wlo q) r d 6 by simp [Sl6, Ar6, Fr6, go_sem, hA]) hb1
                 replace hB := Sl6.keep (show Sl6 (W2.setCell ⟨w.heap.size, 5, none⟩ (.int .i64 6)) (w.heap.size + 1) false 0 0 0 0 0 by simp [Sl6, Ar6, Fr6, go_sem, hB]) hb1
                 replace hb := (hb.setCell (p := ⟨w.heap.size, 5, none⟩) (by simp) (.int .i64 6)).trans hb1; clear hb1)
    refine bodyPost_ret (by simp [results, Tryd.results33, go_sem, hA, hB]; try rfl) rfl ⟨rfl, ?_⟩
    (repeat (first | with_reducible exact Bel.refl _ | with_reducible refine Bel.setCell ?_ (by first | exact Nat.le_refl _ | (dsimp only; omega)) _ | with_reducible refine Bel.alloc ?_ _ | with_reducible refine Bel.drew ?_ | with_reducible assumption | with_reducible refine Bel.trans ?_ (by assumption)))
end Go.Proofs.YtcknjhgolajclaaDoor
