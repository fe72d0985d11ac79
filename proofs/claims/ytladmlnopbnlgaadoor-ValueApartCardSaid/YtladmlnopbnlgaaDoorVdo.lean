import Derived.Test.YtladmlnopbnlgaaDoorVdn
namespace Go.Proofs.YtladmlnopbnlgaaDoor
set_option linter.unusedSimpArgs false
set_option linter.unusedVariables false
open Go.RowKit
attribute [local go_sem ↓] eql_val neq_val

/-! Values: the law Apart, walked. -/
set_option maxRecDepth 100000 in
set_option maxHeartbeats 4000000 in
theorem apart_a (ka na sa ma kb nb sb mb kc nc sc mc : Int) (ta tb tc x y : ByteArray) (e2 n n' e3 e4 m e5 p e6 : Int)
    (Ta0 : ∀ w (_ : Tab w) (_ : Mx w), Calls Tryd.prog 14 #[.agg #[.int .i64 ka, .int .i64 na, .int .i64 sa, .string ta, .int .i64 ma]] w fun e w' => e = .returned (.tuple #[.string x, .int .i64 2]) ∧ Bel w w')
    (Tb0 : ∀ w (_ : Tab w) (_ : Mx w), Calls Tryd.prog 14 #[.agg #[.int .i64 kb, .int .i64 nb, .int .i64 sb, .string tb, .int .i64 mb]] w fun e w' => e = .returned (.tuple #[.string y, .int .i64 e2]) ∧ Bel w w')
    (Cab0 : ∀ w, Calls Tryd.prog 12 #[.agg #[.int .i64 ka, .int .i64 na, .int .i64 sa, .string ta, .int .i64 ma], .agg #[.int .i64 kb, .int .i64 nb, .int .i64 sb, .string tb, .int .i64 mb]] w fun e w' => e = .returned (.tuple #[.int .i64 n, .int .i64 e3]) ∧ Bel w w')
    (Cba0 : ∀ w, Calls Tryd.prog 12 #[.agg #[.int .i64 kb, .int .i64 nb, .int .i64 sb, .string tb, .int .i64 mb], .agg #[.int .i64 ka, .int .i64 na, .int .i64 sa, .string ta, .int .i64 ma]] w fun e w' => e = .returned (.tuple #[.int .i64 n', .int .i64 e4]) ∧ Bel w w')
    (Cbc0 : ∀ w, Calls Tryd.prog 12 #[.agg #[.int .i64 kb, .int .i64 nb, .int .i64 sb, .string tb, .int .i64 mb], .agg #[.int .i64 kc, .int .i64 nc, .int .i64 sc, .string tc, .int .i64 mc]] w fun e w' => e = .returned (.tuple #[.int .i64 m, .int .i64 e5]) ∧ Bel w w')
    (Cac0 : ∀ w, Calls Tryd.prog 12 #[.agg #[.int .i64 ka, .int .i64 na, .int .i64 sa, .string ta, .int .i64 ma], .agg #[.int .i64 kc, .int .i64 nc, .int .i64 sc, .string tc, .int .i64 mc]] w fun e w' => e = .returned (.tuple #[.int .i64 p, .int .i64 e6]) ∧ Bel w w')
    
    (w : World) (ht : Tab w) (hm : Mx w) : Calls Tryd.prog 6 #[.agg #[.int .i64 ka, .int .i64 na, .int .i64 sa, .string ta, .int .i64 ma], .agg #[.int .i64 kb, .int .i64 nb, .int .i64 sb, .string tb, .int .i64 mb], .agg #[.int .i64 kc, .int .i64 nc, .int .i64 sc, .string tc, .int .i64 mc]] w fun e w' => e = .returned (.bool true) ∧ Bel w w' := by
  have HT := Lib.hid ht
  have HM := Lib.hid hm
  have Ta := Lib.hid Ta0
  have Tb := Lib.hid Tb0
  have Cab := Lib.hid Cab0
  have Cba := Lib.hid Cba0
  have Cbc := Lib.hid Cbc0
  have Cac := Lib.hid Cac0
  clear ht hm Ta0 Tb0 Cab0 Cba0 Cbc0 Cac0
  go_enter Tryd.func6, Tryd.ntmps6
  go_wp2_with fail
  refine under_call ((((Bel.refl w).alloc _).alloc _).alloc _) fun W hc hf hz hb => ?_
  have hA : ValAt W w.heap.size 0 ⟨ka, na, sa, ta, ma⟩ := by simp [ValAt, hc, go_sem]
  have hB : ValAt W (w.heap.size + 1) 0 ⟨kb, nb, sb, tb, mb⟩ := by simp [ValAt, hc, go_sem]
  have hC : ValAt W (w.heap.size + 1 + 1) 0 ⟨kc, nc, sc, tc, mc⟩ := by simp [ValAt, hc, go_sem]
  have hl1 : w.heap.size < W.heap.size := by rw [hz]; simp; omega
  have hl2 : w.heap.size + 1 < W.heap.size := by rw [hz]; simp
  have hl3 : w.heap.size + 1 + 1 < W.heap.size := by rw [hz]; simp
  have HTW := Lib.hid (HT.out.keep hb)
  have HMW := Lib.hid (HM.out.keep hb)
  have hS : Bel W W ∧ (∀ b o, b < W.heap.size → W.cell? ⟨b, o, none⟩ = W.cell? ⟨b, o, none⟩) := ⟨Bel.refl _, fun _ _ _ => rfl⟩
  clear hc hf hz HT HM
  go_wp2_with (first
    | (go_at_call 14; first
        | (with_reducible refine Calls.mono (Ta.out _ (HTW.out.keep hS.1) (HMW.out.keep hS.1)) ?_; rintro e V ⟨rfl, b⟩; replace hS := keep1 hS b; clear b; try dsimp only at hS)
        | (with_reducible refine Calls.mono (Tb.out _ (HTW.out.keep hS.1) (HMW.out.keep hS.1)) ?_; rintro e V ⟨rfl, b⟩; replace hS := keep1 hS b; clear b; try dsimp only at hS))
    | (go_at_call 12; first
        | (with_reducible refine Calls.mono (Cab.out _) ?_; rintro e V ⟨rfl, b⟩; replace hS := keep1 hS b; clear b; try dsimp only at hS)
        | (with_reducible refine Calls.mono (Cba.out _) ?_; rintro e V ⟨rfl, b⟩; replace hS := keep1 hS b; clear b; try dsimp only at hS)
        | (with_reducible refine Calls.mono (Cbc.out _) ?_; rintro e V ⟨rfl, b⟩; replace hS := keep1 hS b; clear b; try dsimp only at hS)
        | (with_reducible refine Calls.mono (Cac.out _) ?_; rintro e V ⟨rfl, b⟩; replace hS := keep1 hS b; clear b; try dsimp only at hS))
    | (go_at_call 7; refine (awake_V _ (HTW.out.keep hS.1) (HMW.out.keep hS.1)).mono ?_; rintro e V ⟨rfl, b⟩; replace hS := keep1 hS b; clear b; try dsimp only at hS))
  go_ret
  exact ⟨rfl, hb.trans hS.1⟩
set_option maxRecDepth 100000 in
set_option maxHeartbeats 4000000 in
theorem apart_b (ka na sa ma kb nb sb mb kc nc sc mc : Int) (ta tb tc x y : ByteArray) (n n' e3 e4 m e5 p e6 : Int)
    (Ta0 : ∀ w (_ : Tab w) (_ : Mx w), Calls Tryd.prog 14 #[.agg #[.int .i64 ka, .int .i64 na, .int .i64 sa, .string ta, .int .i64 ma]] w fun e w' => e = .returned (.tuple #[.string x, .int .i64 0]) ∧ Bel w w')
    (Tb0 : ∀ w (_ : Tab w) (_ : Mx w), Calls Tryd.prog 14 #[.agg #[.int .i64 kb, .int .i64 nb, .int .i64 sb, .string tb, .int .i64 mb]] w fun e w' => e = .returned (.tuple #[.string y, .int .i64 2]) ∧ Bel w w')
    (Cab0 : ∀ w, Calls Tryd.prog 12 #[.agg #[.int .i64 ka, .int .i64 na, .int .i64 sa, .string ta, .int .i64 ma], .agg #[.int .i64 kb, .int .i64 nb, .int .i64 sb, .string tb, .int .i64 mb]] w fun e w' => e = .returned (.tuple #[.int .i64 n, .int .i64 e3]) ∧ Bel w w')
    (Cba0 : ∀ w, Calls Tryd.prog 12 #[.agg #[.int .i64 kb, .int .i64 nb, .int .i64 sb, .string tb, .int .i64 mb], .agg #[.int .i64 ka, .int .i64 na, .int .i64 sa, .string ta, .int .i64 ma]] w fun e w' => e = .returned (.tuple #[.int .i64 n', .int .i64 e4]) ∧ Bel w w')
    (Cbc0 : ∀ w, Calls Tryd.prog 12 #[.agg #[.int .i64 kb, .int .i64 nb, .int .i64 sb, .string tb, .int .i64 mb], .agg #[.int .i64 kc, .int .i64 nc, .int .i64 sc, .string tc, .int .i64 mc]] w fun e w' => e = .returned (.tuple #[.int .i64 m, .int .i64 e5]) ∧ Bel w w')
    (Cac0 : ∀ w, Calls Tryd.prog 12 #[.agg #[.int .i64 ka, .int .i64 na, .int .i64 sa, .string ta, .int .i64 ma], .agg #[.int .i64 kc, .int .i64 nc, .int .i64 sc, .string tc, .int .i64 mc]] w fun e w' => e = .returned (.tuple #[.int .i64 p, .int .i64 e6]) ∧ Bel w w')
    
    (w : World) (ht : Tab w) (hm : Mx w) : Calls Tryd.prog 6 #[.agg #[.int .i64 ka, .int .i64 na, .int .i64 sa, .string ta, .int .i64 ma], .agg #[.int .i64 kb, .int .i64 nb, .int .i64 sb, .string tb, .int .i64 mb], .agg #[.int .i64 kc, .int .i64 nc, .int .i64 sc, .string tc, .int .i64 mc]] w fun e w' => e = .returned (.bool true) ∧ Bel w w' := by
  have HT := Lib.hid ht
  have HM := Lib.hid hm
  have Ta := Lib.hid Ta0
  have Tb := Lib.hid Tb0
  have Cab := Lib.hid Cab0
  have Cba := Lib.hid Cba0
  have Cbc := Lib.hid Cbc0
  have Cac := Lib.hid Cac0
  clear ht hm Ta0 Tb0 Cab0 Cba0 Cbc0 Cac0
  go_enter Tryd.func6, Tryd.ntmps6
  go_wp2_with fail
  refine under_call ((((Bel.refl w).alloc _).alloc _).alloc _) fun W hc hf hz hb => ?_
  have hA : ValAt W w.heap.size 0 ⟨ka, na, sa, ta, ma⟩ := by simp [ValAt, hc, go_sem]
  have hB : ValAt W (w.heap.size + 1) 0 ⟨kb, nb, sb, tb, mb⟩ := by simp [ValAt, hc, go_sem]
  have hC : ValAt W (w.heap.size + 1 + 1) 0 ⟨kc, nc, sc, tc, mc⟩ := by simp [ValAt, hc, go_sem]
  have hl1 : w.heap.size < W.heap.size := by rw [hz]; simp; omega
  have hl2 : w.heap.size + 1 < W.heap.size := by rw [hz]; simp
  have hl3 : w.heap.size + 1 + 1 < W.heap.size := by rw [hz]; simp
  have HTW := Lib.hid (HT.out.keep hb)
  have HMW := Lib.hid (HM.out.keep hb)
  have hS : Bel W W ∧ (∀ b o, b < W.heap.size → W.cell? ⟨b, o, none⟩ = W.cell? ⟨b, o, none⟩) := ⟨Bel.refl _, fun _ _ _ => rfl⟩
  clear hc hf hz HT HM
  go_wp2_with (first
    | (go_at_call 14; first
        | (with_reducible refine Calls.mono (Ta.out _ (HTW.out.keep hS.1) (HMW.out.keep hS.1)) ?_; rintro e V ⟨rfl, b⟩; replace hS := keep1 hS b; clear b; try dsimp only at hS)
        | (with_reducible refine Calls.mono (Tb.out _ (HTW.out.keep hS.1) (HMW.out.keep hS.1)) ?_; rintro e V ⟨rfl, b⟩; replace hS := keep1 hS b; clear b; try dsimp only at hS))
    | (go_at_call 12; first
        | (with_reducible refine Calls.mono (Cab.out _) ?_; rintro e V ⟨rfl, b⟩; replace hS := keep1 hS b; clear b; try dsimp only at hS)
        | (with_reducible refine Calls.mono (Cba.out _) ?_; rintro e V ⟨rfl, b⟩; replace hS := keep1 hS b; clear b; try dsimp only at hS)
        | (with_reducible refine Calls.mono (Cbc.out _) ?_; rintro e V ⟨rfl, b⟩; replace hS := keep1 hS b; clear b; try dsimp only at hS)
        | (with_reducible refine Calls.mono (Cac.out _) ?_; rintro e V ⟨rfl, b⟩; replace hS := keep1 hS b; clear b; try dsimp only at hS))
    | (go_at_call 7; refine (awake_V _ (HTW.out.keep hS.1) (HMW.out.keep hS.1)).mono ?_; rintro e V ⟨rfl, b⟩; replace hS := keep1 hS b; clear b; try dsimp only at hS))
  go_ret
  exact ⟨rfl, hb.trans hS.1⟩
set_option maxRecDepth 100000 in
set_option maxHeartbeats 4000000 in
theorem apart_c (ka na sa ma kb nb sb mb kc nc sc mc : Int) (ta tb tc x y : ByteArray) (n n' e3 e4 m p e6 : Int)
    (Ta0 : ∀ w (_ : Tab w) (_ : Mx w), Calls Tryd.prog 14 #[.agg #[.int .i64 ka, .int .i64 na, .int .i64 sa, .string ta, .int .i64 ma]] w fun e w' => e = .returned (.tuple #[.string x, .int .i64 0]) ∧ Bel w w')
    (Tb0 : ∀ w (_ : Tab w) (_ : Mx w), Calls Tryd.prog 14 #[.agg #[.int .i64 kb, .int .i64 nb, .int .i64 sb, .string tb, .int .i64 mb]] w fun e w' => e = .returned (.tuple #[.string y, .int .i64 0]) ∧ Bel w w')
    (Cab0 : ∀ w, Calls Tryd.prog 12 #[.agg #[.int .i64 ka, .int .i64 na, .int .i64 sa, .string ta, .int .i64 ma], .agg #[.int .i64 kb, .int .i64 nb, .int .i64 sb, .string tb, .int .i64 mb]] w fun e w' => e = .returned (.tuple #[.int .i64 n, .int .i64 e3]) ∧ Bel w w')
    (Cba0 : ∀ w, Calls Tryd.prog 12 #[.agg #[.int .i64 kb, .int .i64 nb, .int .i64 sb, .string tb, .int .i64 mb], .agg #[.int .i64 ka, .int .i64 na, .int .i64 sa, .string ta, .int .i64 ma]] w fun e w' => e = .returned (.tuple #[.int .i64 n', .int .i64 e4]) ∧ Bel w w')
    (Cbc0 : ∀ w, Calls Tryd.prog 12 #[.agg #[.int .i64 kb, .int .i64 nb, .int .i64 sb, .string tb, .int .i64 mb], .agg #[.int .i64 kc, .int .i64 nc, .int .i64 sc, .string tc, .int .i64 mc]] w fun e w' => e = .returned (.tuple #[.int .i64 m, .int .i64 2]) ∧ Bel w w')
    (Cac0 : ∀ w, Calls Tryd.prog 12 #[.agg #[.int .i64 ka, .int .i64 na, .int .i64 sa, .string ta, .int .i64 ma], .agg #[.int .i64 kc, .int .i64 nc, .int .i64 sc, .string tc, .int .i64 mc]] w fun e w' => e = .returned (.tuple #[.int .i64 p, .int .i64 e6]) ∧ Bel w w')
    
    (w : World) (ht : Tab w) (hm : Mx w) : Calls Tryd.prog 6 #[.agg #[.int .i64 ka, .int .i64 na, .int .i64 sa, .string ta, .int .i64 ma], .agg #[.int .i64 kb, .int .i64 nb, .int .i64 sb, .string tb, .int .i64 mb], .agg #[.int .i64 kc, .int .i64 nc, .int .i64 sc, .string tc, .int .i64 mc]] w fun e w' => e = .returned (.bool true) ∧ Bel w w' := by
  have HT := Lib.hid ht
  have HM := Lib.hid hm
  have Ta := Lib.hid Ta0
  have Tb := Lib.hid Tb0
  have Cab := Lib.hid Cab0
  have Cba := Lib.hid Cba0
  have Cbc := Lib.hid Cbc0
  have Cac := Lib.hid Cac0
  clear ht hm Ta0 Tb0 Cab0 Cba0 Cbc0 Cac0
  go_enter Tryd.func6, Tryd.ntmps6
  go_wp2_with fail
  refine under_call ((((Bel.refl w).alloc _).alloc _).alloc _) fun W hc hf hz hb => ?_
  have hA : ValAt W w.heap.size 0 ⟨ka, na, sa, ta, ma⟩ := by simp [ValAt, hc, go_sem]
  have hB : ValAt W (w.heap.size + 1) 0 ⟨kb, nb, sb, tb, mb⟩ := by simp [ValAt, hc, go_sem]
  have hC : ValAt W (w.heap.size + 1 + 1) 0 ⟨kc, nc, sc, tc, mc⟩ := by simp [ValAt, hc, go_sem]
  have hl1 : w.heap.size < W.heap.size := by rw [hz]; simp; omega
  have hl2 : w.heap.size + 1 < W.heap.size := by rw [hz]; simp
  have hl3 : w.heap.size + 1 + 1 < W.heap.size := by rw [hz]; simp
  have HTW := Lib.hid (HT.out.keep hb)
  have HMW := Lib.hid (HM.out.keep hb)
  have hS : Bel W W ∧ (∀ b o, b < W.heap.size → W.cell? ⟨b, o, none⟩ = W.cell? ⟨b, o, none⟩) := ⟨Bel.refl _, fun _ _ _ => rfl⟩
  clear hc hf hz HT HM
  go_wp2_with (first
    | (go_at_call 14; first
        | (with_reducible refine Calls.mono (Ta.out _ (HTW.out.keep hS.1) (HMW.out.keep hS.1)) ?_; rintro e V ⟨rfl, b⟩; replace hS := keep1 hS b; clear b; try dsimp only at hS)
        | (with_reducible refine Calls.mono (Tb.out _ (HTW.out.keep hS.1) (HMW.out.keep hS.1)) ?_; rintro e V ⟨rfl, b⟩; replace hS := keep1 hS b; clear b; try dsimp only at hS))
    | (go_at_call 12; first
        | (with_reducible refine Calls.mono (Cab.out _) ?_; rintro e V ⟨rfl, b⟩; replace hS := keep1 hS b; clear b; try dsimp only at hS)
        | (with_reducible refine Calls.mono (Cba.out _) ?_; rintro e V ⟨rfl, b⟩; replace hS := keep1 hS b; clear b; try dsimp only at hS)
        | (with_reducible refine Calls.mono (Cbc.out _) ?_; rintro e V ⟨rfl, b⟩; replace hS := keep1 hS b; clear b; try dsimp only at hS)
        | (with_reducible refine Calls.mono (Cac.out _) ?_; rintro e V ⟨rfl, b⟩; replace hS := keep1 hS b; clear b; try dsimp only at hS))
    | (go_at_call 7; refine (awake_V _ (HTW.out.keep hS.1) (HMW.out.keep hS.1)).mono ?_; rintro e V ⟨rfl, b⟩; replace hS := keep1 hS b; clear b; try dsimp only at hS))
  go_ret
  exact ⟨rfl, hb.trans hS.1⟩
set_option maxRecDepth 100000 in
set_option maxHeartbeats 4000000 in
theorem apart_d1 (ka na sa ma kb nb sb mb kc nc sc mc : Int) (ta tb tc x y : ByteArray) (m p : Int)
    (Ta0 : ∀ w (_ : Tab w) (_ : Mx w), Calls Tryd.prog 14 #[.agg #[.int .i64 ka, .int .i64 na, .int .i64 sa, .string ta, .int .i64 ma]] w fun e w' => e = .returned (.tuple #[.string x, .int .i64 0]) ∧ Bel w w')
    (Tb0 : ∀ w (_ : Tab w) (_ : Mx w), Calls Tryd.prog 14 #[.agg #[.int .i64 kb, .int .i64 nb, .int .i64 sb, .string tb, .int .i64 mb]] w fun e w' => e = .returned (.tuple #[.string y, .int .i64 0]) ∧ Bel w w')
    (Cab0 : ∀ w, Calls Tryd.prog 12 #[.agg #[.int .i64 ka, .int .i64 na, .int .i64 sa, .string ta, .int .i64 ma], .agg #[.int .i64 kb, .int .i64 nb, .int .i64 sb, .string tb, .int .i64 mb]] w fun e w' => e = .returned (.tuple #[.int .i64 1, .int .i64 0]) ∧ Bel w w')
    (Cba0 : ∀ w, Calls Tryd.prog 12 #[.agg #[.int .i64 kb, .int .i64 nb, .int .i64 sb, .string tb, .int .i64 mb], .agg #[.int .i64 ka, .int .i64 na, .int .i64 sa, .string ta, .int .i64 ma]] w fun e w' => e = .returned (.tuple #[.int .i64 (-1), .int .i64 0]) ∧ Bel w w')
    (Cbc0 : ∀ w, Calls Tryd.prog 12 #[.agg #[.int .i64 kb, .int .i64 nb, .int .i64 sb, .string tb, .int .i64 mb], .agg #[.int .i64 kc, .int .i64 nc, .int .i64 sc, .string tc, .int .i64 mc]] w fun e w' => e = .returned (.tuple #[.int .i64 m, .int .i64 0]) ∧ Bel w w')
    (Cac0 : ∀ w, Calls Tryd.prog 12 #[.agg #[.int .i64 ka, .int .i64 na, .int .i64 sa, .string ta, .int .i64 ma], .agg #[.int .i64 kc, .int .i64 nc, .int .i64 sc, .string tc, .int .i64 mc]] w fun e w' => e = .returned (.tuple #[.int .i64 p, .int .i64 0]) ∧ Bel w w')
    (hv : veq ⟨ka, na, sa, ta, ma⟩ ⟨kb, nb, sb, tb, mb⟩ = false) (hx : (x.toList == y.toList) = false)
    (w : World) (ht : Tab w) (hm : Mx w) : Calls Tryd.prog 6 #[.agg #[.int .i64 ka, .int .i64 na, .int .i64 sa, .string ta, .int .i64 ma], .agg #[.int .i64 kb, .int .i64 nb, .int .i64 sb, .string tb, .int .i64 mb], .agg #[.int .i64 kc, .int .i64 nc, .int .i64 sc, .string tc, .int .i64 mc]] w fun e w' => e = .returned (.bool true) ∧ Bel w w' := by
  have HT := Lib.hid ht
  have HM := Lib.hid hm
  have Ta := Lib.hid Ta0
  have Tb := Lib.hid Tb0
  have Cab := Lib.hid Cab0
  have Cba := Lib.hid Cba0
  have Cbc := Lib.hid Cbc0
  have Cac := Lib.hid Cac0
  clear ht hm Ta0 Tb0 Cab0 Cba0 Cbc0 Cac0
  go_enter Tryd.func6, Tryd.ntmps6
  go_wp2_with fail
  refine under_call ((((Bel.refl w).alloc _).alloc _).alloc _) fun W hc hf hz hb => ?_
  have hA : ValAt W w.heap.size 0 ⟨ka, na, sa, ta, ma⟩ := by simp [ValAt, hc, go_sem]
  have hB : ValAt W (w.heap.size + 1) 0 ⟨kb, nb, sb, tb, mb⟩ := by simp [ValAt, hc, go_sem]
  have hC : ValAt W (w.heap.size + 1 + 1) 0 ⟨kc, nc, sc, tc, mc⟩ := by simp [ValAt, hc, go_sem]
  have hl1 : w.heap.size < W.heap.size := by rw [hz]; simp; omega
  have hl2 : w.heap.size + 1 < W.heap.size := by rw [hz]; simp
  have hl3 : w.heap.size + 1 + 1 < W.heap.size := by rw [hz]; simp
  have HTW := Lib.hid (HT.out.keep hb)
  have HMW := Lib.hid (HM.out.keep hb)
  have hS : Bel W W ∧ (∀ b o, b < W.heap.size → W.cell? ⟨b, o, none⟩ = W.cell? ⟨b, o, none⟩) := ⟨Bel.refl _, fun _ _ _ => rfl⟩
  clear hc hf hz HT HM
  go_wp2_with (first
    | (go_at_call 14; first
        | (with_reducible refine Calls.mono (Ta.out _ (HTW.out.keep hS.1) (HMW.out.keep hS.1)) ?_; rintro e V ⟨rfl, b⟩; replace hS := keep1 hS b; clear b; try dsimp only at hS)
        | (with_reducible refine Calls.mono (Tb.out _ (HTW.out.keep hS.1) (HMW.out.keep hS.1)) ?_; rintro e V ⟨rfl, b⟩; replace hS := keep1 hS b; clear b; try dsimp only at hS))
    | (go_at_call 12; first
        | (with_reducible refine Calls.mono (Cab.out _) ?_; rintro e V ⟨rfl, b⟩; replace hS := keep1 hS b; clear b; try dsimp only at hS)
        | (with_reducible refine Calls.mono (Cba.out _) ?_; rintro e V ⟨rfl, b⟩; replace hS := keep1 hS b; clear b; try dsimp only at hS)
        | (with_reducible refine Calls.mono (Cbc.out _) ?_; rintro e V ⟨rfl, b⟩; replace hS := keep1 hS b; clear b; try dsimp only at hS)
        | (with_reducible refine Calls.mono (Cac.out _) ?_; rintro e V ⟨rfl, b⟩; replace hS := keep1 hS b; clear b; try dsimp only at hS))
    | (go_at_call 7; refine (awake_V _ (HTW.out.keep hS.1) (HMW.out.keep hS.1)).mono ?_; rintro e V ⟨rfl, b⟩; replace hS := keep1 hS b; clear b; try dsimp only at hS))
  go_ret
  exact ⟨rfl, hb.trans hS.1⟩
set_option maxRecDepth 100000 in
set_option maxHeartbeats 4000000 in
theorem apart_d2 (ka na sa ma kb nb sb mb kc nc sc mc : Int) (ta tb tc x y : ByteArray) (m p : Int)
    (Ta0 : ∀ w (_ : Tab w) (_ : Mx w), Calls Tryd.prog 14 #[.agg #[.int .i64 ka, .int .i64 na, .int .i64 sa, .string ta, .int .i64 ma]] w fun e w' => e = .returned (.tuple #[.string x, .int .i64 0]) ∧ Bel w w')
    (Tb0 : ∀ w (_ : Tab w) (_ : Mx w), Calls Tryd.prog 14 #[.agg #[.int .i64 kb, .int .i64 nb, .int .i64 sb, .string tb, .int .i64 mb]] w fun e w' => e = .returned (.tuple #[.string y, .int .i64 0]) ∧ Bel w w')
    (Cab0 : ∀ w, Calls Tryd.prog 12 #[.agg #[.int .i64 ka, .int .i64 na, .int .i64 sa, .string ta, .int .i64 ma], .agg #[.int .i64 kb, .int .i64 nb, .int .i64 sb, .string tb, .int .i64 mb]] w fun e w' => e = .returned (.tuple #[.int .i64 (-1), .int .i64 0]) ∧ Bel w w')
    (Cba0 : ∀ w, Calls Tryd.prog 12 #[.agg #[.int .i64 kb, .int .i64 nb, .int .i64 sb, .string tb, .int .i64 mb], .agg #[.int .i64 ka, .int .i64 na, .int .i64 sa, .string ta, .int .i64 ma]] w fun e w' => e = .returned (.tuple #[.int .i64 1, .int .i64 0]) ∧ Bel w w')
    (Cbc0 : ∀ w, Calls Tryd.prog 12 #[.agg #[.int .i64 kb, .int .i64 nb, .int .i64 sb, .string tb, .int .i64 mb], .agg #[.int .i64 kc, .int .i64 nc, .int .i64 sc, .string tc, .int .i64 mc]] w fun e w' => e = .returned (.tuple #[.int .i64 m, .int .i64 0]) ∧ Bel w w')
    (Cac0 : ∀ w, Calls Tryd.prog 12 #[.agg #[.int .i64 ka, .int .i64 na, .int .i64 sa, .string ta, .int .i64 ma], .agg #[.int .i64 kc, .int .i64 nc, .int .i64 sc, .string tc, .int .i64 mc]] w fun e w' => e = .returned (.tuple #[.int .i64 p, .int .i64 0]) ∧ Bel w w')
    (hv : veq ⟨ka, na, sa, ta, ma⟩ ⟨kb, nb, sb, tb, mb⟩ = false) (hx : (x.toList == y.toList) = false) (hm0 : decide (0 < m) = true)
    (w : World) (ht : Tab w) (hm : Mx w) : Calls Tryd.prog 6 #[.agg #[.int .i64 ka, .int .i64 na, .int .i64 sa, .string ta, .int .i64 ma], .agg #[.int .i64 kb, .int .i64 nb, .int .i64 sb, .string tb, .int .i64 mb], .agg #[.int .i64 kc, .int .i64 nc, .int .i64 sc, .string tc, .int .i64 mc]] w fun e w' => e = .returned (.bool true) ∧ Bel w w' := by
  have HT := Lib.hid ht
  have HM := Lib.hid hm
  have Ta := Lib.hid Ta0
  have Tb := Lib.hid Tb0
  have Cab := Lib.hid Cab0
  have Cba := Lib.hid Cba0
  have Cbc := Lib.hid Cbc0
  have Cac := Lib.hid Cac0
  clear ht hm Ta0 Tb0 Cab0 Cba0 Cbc0 Cac0
  go_enter Tryd.func6, Tryd.ntmps6
  go_wp2_with fail
  refine under_call ((((Bel.refl w).alloc _).alloc _).alloc _) fun W hc hf hz hb => ?_
  have hA : ValAt W w.heap.size 0 ⟨ka, na, sa, ta, ma⟩ := by simp [ValAt, hc, go_sem]
  have hB : ValAt W (w.heap.size + 1) 0 ⟨kb, nb, sb, tb, mb⟩ := by simp [ValAt, hc, go_sem]
  have hC : ValAt W (w.heap.size + 1 + 1) 0 ⟨kc, nc, sc, tc, mc⟩ := by simp [ValAt, hc, go_sem]
  have hl1 : w.heap.size < W.heap.size := by rw [hz]; simp; omega
  have hl2 : w.heap.size + 1 < W.heap.size := by rw [hz]; simp
  have hl3 : w.heap.size + 1 + 1 < W.heap.size := by rw [hz]; simp
  have HTW := Lib.hid (HT.out.keep hb)
  have HMW := Lib.hid (HM.out.keep hb)
  have hS : Bel W W ∧ (∀ b o, b < W.heap.size → W.cell? ⟨b, o, none⟩ = W.cell? ⟨b, o, none⟩) := ⟨Bel.refl _, fun _ _ _ => rfl⟩
  clear hc hf hz HT HM
  go_wp2_with (first
    | (go_at_call 14; first
        | (with_reducible refine Calls.mono (Ta.out _ (HTW.out.keep hS.1) (HMW.out.keep hS.1)) ?_; rintro e V ⟨rfl, b⟩; replace hS := keep1 hS b; clear b; try dsimp only at hS)
        | (with_reducible refine Calls.mono (Tb.out _ (HTW.out.keep hS.1) (HMW.out.keep hS.1)) ?_; rintro e V ⟨rfl, b⟩; replace hS := keep1 hS b; clear b; try dsimp only at hS))
    | (go_at_call 12; first
        | (with_reducible refine Calls.mono (Cab.out _) ?_; rintro e V ⟨rfl, b⟩; replace hS := keep1 hS b; clear b; try dsimp only at hS)
        | (with_reducible refine Calls.mono (Cba.out _) ?_; rintro e V ⟨rfl, b⟩; replace hS := keep1 hS b; clear b; try dsimp only at hS)
        | (with_reducible refine Calls.mono (Cbc.out _) ?_; rintro e V ⟨rfl, b⟩; replace hS := keep1 hS b; clear b; try dsimp only at hS)
        | (with_reducible refine Calls.mono (Cac.out _) ?_; rintro e V ⟨rfl, b⟩; replace hS := keep1 hS b; clear b; try dsimp only at hS))
    | (go_at_call 7; refine (awake_V _ (HTW.out.keep hS.1) (HMW.out.keep hS.1)).mono ?_; rintro e V ⟨rfl, b⟩; replace hS := keep1 hS b; clear b; try dsimp only at hS))
  go_ret
  exact ⟨rfl, hb.trans hS.1⟩
set_option maxRecDepth 100000 in
set_option maxHeartbeats 4000000 in
theorem apart_d3 (ka na sa ma kb nb sb mb kc nc sc mc : Int) (ta tb tc x y : ByteArray) (m p : Int)
    (Ta0 : ∀ w (_ : Tab w) (_ : Mx w), Calls Tryd.prog 14 #[.agg #[.int .i64 ka, .int .i64 na, .int .i64 sa, .string ta, .int .i64 ma]] w fun e w' => e = .returned (.tuple #[.string x, .int .i64 0]) ∧ Bel w w')
    (Tb0 : ∀ w (_ : Tab w) (_ : Mx w), Calls Tryd.prog 14 #[.agg #[.int .i64 kb, .int .i64 nb, .int .i64 sb, .string tb, .int .i64 mb]] w fun e w' => e = .returned (.tuple #[.string y, .int .i64 0]) ∧ Bel w w')
    (Cab0 : ∀ w, Calls Tryd.prog 12 #[.agg #[.int .i64 ka, .int .i64 na, .int .i64 sa, .string ta, .int .i64 ma], .agg #[.int .i64 kb, .int .i64 nb, .int .i64 sb, .string tb, .int .i64 mb]] w fun e w' => e = .returned (.tuple #[.int .i64 (-1), .int .i64 0]) ∧ Bel w w')
    (Cba0 : ∀ w, Calls Tryd.prog 12 #[.agg #[.int .i64 kb, .int .i64 nb, .int .i64 sb, .string tb, .int .i64 mb], .agg #[.int .i64 ka, .int .i64 na, .int .i64 sa, .string ta, .int .i64 ma]] w fun e w' => e = .returned (.tuple #[.int .i64 1, .int .i64 0]) ∧ Bel w w')
    (Cbc0 : ∀ w, Calls Tryd.prog 12 #[.agg #[.int .i64 kb, .int .i64 nb, .int .i64 sb, .string tb, .int .i64 mb], .agg #[.int .i64 kc, .int .i64 nc, .int .i64 sc, .string tc, .int .i64 mc]] w fun e w' => e = .returned (.tuple #[.int .i64 m, .int .i64 0]) ∧ Bel w w')
    (Cac0 : ∀ w, Calls Tryd.prog 12 #[.agg #[.int .i64 ka, .int .i64 na, .int .i64 sa, .string ta, .int .i64 ma], .agg #[.int .i64 kc, .int .i64 nc, .int .i64 sc, .string tc, .int .i64 mc]] w fun e w' => e = .returned (.tuple #[.int .i64 p, .int .i64 0]) ∧ Bel w w')
    (hv : veq ⟨ka, na, sa, ta, ma⟩ ⟨kb, nb, sb, tb, mb⟩ = false) (hx : (x.toList == y.toList) = false) (hm0 : decide (0 < m) = false) (hp0 : decide (p ≤ 0) = true)
    (w : World) (ht : Tab w) (hm : Mx w) : Calls Tryd.prog 6 #[.agg #[.int .i64 ka, .int .i64 na, .int .i64 sa, .string ta, .int .i64 ma], .agg #[.int .i64 kb, .int .i64 nb, .int .i64 sb, .string tb, .int .i64 mb], .agg #[.int .i64 kc, .int .i64 nc, .int .i64 sc, .string tc, .int .i64 mc]] w fun e w' => e = .returned (.bool true) ∧ Bel w w' := by
  have HT := Lib.hid ht
  have HM := Lib.hid hm
  have Ta := Lib.hid Ta0
  have Tb := Lib.hid Tb0
  have Cab := Lib.hid Cab0
  have Cba := Lib.hid Cba0
  have Cbc := Lib.hid Cbc0
  have Cac := Lib.hid Cac0
  clear ht hm Ta0 Tb0 Cab0 Cba0 Cbc0 Cac0
  go_enter Tryd.func6, Tryd.ntmps6
  go_wp2_with fail
  refine under_call ((((Bel.refl w).alloc _).alloc _).alloc _) fun W hc hf hz hb => ?_
  have hA : ValAt W w.heap.size 0 ⟨ka, na, sa, ta, ma⟩ := by simp [ValAt, hc, go_sem]
  have hB : ValAt W (w.heap.size + 1) 0 ⟨kb, nb, sb, tb, mb⟩ := by simp [ValAt, hc, go_sem]
  have hC : ValAt W (w.heap.size + 1 + 1) 0 ⟨kc, nc, sc, tc, mc⟩ := by simp [ValAt, hc, go_sem]
  have hl1 : w.heap.size < W.heap.size := by rw [hz]; simp; omega
  have hl2 : w.heap.size + 1 < W.heap.size := by rw [hz]; simp
  have hl3 : w.heap.size + 1 + 1 < W.heap.size := by rw [hz]; simp
  have HTW := Lib.hid (HT.out.keep hb)
  have HMW := Lib.hid (HM.out.keep hb)
  have hS : Bel W W ∧ (∀ b o, b < W.heap.size → W.cell? ⟨b, o, none⟩ = W.cell? ⟨b, o, none⟩) := ⟨Bel.refl _, fun _ _ _ => rfl⟩
  clear hc hf hz HT HM
  go_wp2_with (first
    | (go_at_call 14; first
        | (with_reducible refine Calls.mono (Ta.out _ (HTW.out.keep hS.1) (HMW.out.keep hS.1)) ?_; rintro e V ⟨rfl, b⟩; replace hS := keep1 hS b; clear b; try dsimp only at hS)
        | (with_reducible refine Calls.mono (Tb.out _ (HTW.out.keep hS.1) (HMW.out.keep hS.1)) ?_; rintro e V ⟨rfl, b⟩; replace hS := keep1 hS b; clear b; try dsimp only at hS))
    | (go_at_call 12; first
        | (with_reducible refine Calls.mono (Cab.out _) ?_; rintro e V ⟨rfl, b⟩; replace hS := keep1 hS b; clear b; try dsimp only at hS)
        | (with_reducible refine Calls.mono (Cba.out _) ?_; rintro e V ⟨rfl, b⟩; replace hS := keep1 hS b; clear b; try dsimp only at hS)
        | (with_reducible refine Calls.mono (Cbc.out _) ?_; rintro e V ⟨rfl, b⟩; replace hS := keep1 hS b; clear b; try dsimp only at hS)
        | (with_reducible refine Calls.mono (Cac.out _) ?_; rintro e V ⟨rfl, b⟩; replace hS := keep1 hS b; clear b; try dsimp only at hS))
    | (go_at_call 7; refine (awake_V _ (HTW.out.keep hS.1) (HMW.out.keep hS.1)).mono ?_; rintro e V ⟨rfl, b⟩; replace hS := keep1 hS b; clear b; try dsimp only at hS))
  go_ret
  exact ⟨rfl, hb.trans hS.1⟩
set_option maxRecDepth 100000 in
set_option maxHeartbeats 4000000 in
theorem apart_d4 (ka na sa ma kb nb sb mb kc nc sc mc : Int) (ta tb tc x y : ByteArray) (m p : Int)
    (Ta0 : ∀ w (_ : Tab w) (_ : Mx w), Calls Tryd.prog 14 #[.agg #[.int .i64 ka, .int .i64 na, .int .i64 sa, .string ta, .int .i64 ma]] w fun e w' => e = .returned (.tuple #[.string x, .int .i64 0]) ∧ Bel w w')
    (Tb0 : ∀ w (_ : Tab w) (_ : Mx w), Calls Tryd.prog 14 #[.agg #[.int .i64 kb, .int .i64 nb, .int .i64 sb, .string tb, .int .i64 mb]] w fun e w' => e = .returned (.tuple #[.string y, .int .i64 0]) ∧ Bel w w')
    (Cab0 : ∀ w, Calls Tryd.prog 12 #[.agg #[.int .i64 ka, .int .i64 na, .int .i64 sa, .string ta, .int .i64 ma], .agg #[.int .i64 kb, .int .i64 nb, .int .i64 sb, .string tb, .int .i64 mb]] w fun e w' => e = .returned (.tuple #[.int .i64 0, .int .i64 0]) ∧ Bel w w')
    (Cba0 : ∀ w, Calls Tryd.prog 12 #[.agg #[.int .i64 kb, .int .i64 nb, .int .i64 sb, .string tb, .int .i64 mb], .agg #[.int .i64 ka, .int .i64 na, .int .i64 sa, .string ta, .int .i64 ma]] w fun e w' => e = .returned (.tuple #[.int .i64 0, .int .i64 0]) ∧ Bel w w')
    (Cbc0 : ∀ w, Calls Tryd.prog 12 #[.agg #[.int .i64 kb, .int .i64 nb, .int .i64 sb, .string tb, .int .i64 mb], .agg #[.int .i64 kc, .int .i64 nc, .int .i64 sc, .string tc, .int .i64 mc]] w fun e w' => e = .returned (.tuple #[.int .i64 m, .int .i64 0]) ∧ Bel w w')
    (Cac0 : ∀ w, Calls Tryd.prog 12 #[.agg #[.int .i64 ka, .int .i64 na, .int .i64 sa, .string ta, .int .i64 ma], .agg #[.int .i64 kc, .int .i64 nc, .int .i64 sc, .string tc, .int .i64 mc]] w fun e w' => e = .returned (.tuple #[.int .i64 p, .int .i64 0]) ∧ Bel w w')
    (hv : veq ⟨ka, na, sa, ta, ma⟩ ⟨kb, nb, sb, tb, mb⟩ = true) (hx : (x.toList == y.toList) = true) (hm0 : decide (0 < m) = true)
    (w : World) (ht : Tab w) (hm : Mx w) : Calls Tryd.prog 6 #[.agg #[.int .i64 ka, .int .i64 na, .int .i64 sa, .string ta, .int .i64 ma], .agg #[.int .i64 kb, .int .i64 nb, .int .i64 sb, .string tb, .int .i64 mb], .agg #[.int .i64 kc, .int .i64 nc, .int .i64 sc, .string tc, .int .i64 mc]] w fun e w' => e = .returned (.bool true) ∧ Bel w w' := by
  have HT := Lib.hid ht
  have HM := Lib.hid hm
  have Ta := Lib.hid Ta0
  have Tb := Lib.hid Tb0
  have Cab := Lib.hid Cab0
  have Cba := Lib.hid Cba0
  have Cbc := Lib.hid Cbc0
  have Cac := Lib.hid Cac0
  clear ht hm Ta0 Tb0 Cab0 Cba0 Cbc0 Cac0
  go_enter Tryd.func6, Tryd.ntmps6
  go_wp2_with fail
  refine under_call ((((Bel.refl w).alloc _).alloc _).alloc _) fun W hc hf hz hb => ?_
  have hA : ValAt W w.heap.size 0 ⟨ka, na, sa, ta, ma⟩ := by simp [ValAt, hc, go_sem]
  have hB : ValAt W (w.heap.size + 1) 0 ⟨kb, nb, sb, tb, mb⟩ := by simp [ValAt, hc, go_sem]
  have hC : ValAt W (w.heap.size + 1 + 1) 0 ⟨kc, nc, sc, tc, mc⟩ := by simp [ValAt, hc, go_sem]
  have hl1 : w.heap.size < W.heap.size := by rw [hz]; simp; omega
  have hl2 : w.heap.size + 1 < W.heap.size := by rw [hz]; simp
  have hl3 : w.heap.size + 1 + 1 < W.heap.size := by rw [hz]; simp
  have HTW := Lib.hid (HT.out.keep hb)
  have HMW := Lib.hid (HM.out.keep hb)
  have hS : Bel W W ∧ (∀ b o, b < W.heap.size → W.cell? ⟨b, o, none⟩ = W.cell? ⟨b, o, none⟩) := ⟨Bel.refl _, fun _ _ _ => rfl⟩
  clear hc hf hz HT HM
  go_wp2_with (first
    | (go_at_call 14; first
        | (with_reducible refine Calls.mono (Ta.out _ (HTW.out.keep hS.1) (HMW.out.keep hS.1)) ?_; rintro e V ⟨rfl, b⟩; replace hS := keep1 hS b; clear b; try dsimp only at hS)
        | (with_reducible refine Calls.mono (Tb.out _ (HTW.out.keep hS.1) (HMW.out.keep hS.1)) ?_; rintro e V ⟨rfl, b⟩; replace hS := keep1 hS b; clear b; try dsimp only at hS))
    | (go_at_call 12; first
        | (with_reducible refine Calls.mono (Cab.out _) ?_; rintro e V ⟨rfl, b⟩; replace hS := keep1 hS b; clear b; try dsimp only at hS)
        | (with_reducible refine Calls.mono (Cba.out _) ?_; rintro e V ⟨rfl, b⟩; replace hS := keep1 hS b; clear b; try dsimp only at hS)
        | (with_reducible refine Calls.mono (Cbc.out _) ?_; rintro e V ⟨rfl, b⟩; replace hS := keep1 hS b; clear b; try dsimp only at hS)
        | (with_reducible refine Calls.mono (Cac.out _) ?_; rintro e V ⟨rfl, b⟩; replace hS := keep1 hS b; clear b; try dsimp only at hS))
    | (go_at_call 7; refine (awake_V _ (HTW.out.keep hS.1) (HMW.out.keep hS.1)).mono ?_; rintro e V ⟨rfl, b⟩; replace hS := keep1 hS b; clear b; try dsimp only at hS))
  go_ret
  exact ⟨rfl, hb.trans hS.1⟩
set_option maxRecDepth 100000 in
set_option maxHeartbeats 4000000 in
theorem apart_d5 (ka na sa ma kb nb sb mb kc nc sc mc : Int) (ta tb tc x y : ByteArray) (m p : Int)
    (Ta0 : ∀ w (_ : Tab w) (_ : Mx w), Calls Tryd.prog 14 #[.agg #[.int .i64 ka, .int .i64 na, .int .i64 sa, .string ta, .int .i64 ma]] w fun e w' => e = .returned (.tuple #[.string x, .int .i64 0]) ∧ Bel w w')
    (Tb0 : ∀ w (_ : Tab w) (_ : Mx w), Calls Tryd.prog 14 #[.agg #[.int .i64 kb, .int .i64 nb, .int .i64 sb, .string tb, .int .i64 mb]] w fun e w' => e = .returned (.tuple #[.string y, .int .i64 0]) ∧ Bel w w')
    (Cab0 : ∀ w, Calls Tryd.prog 12 #[.agg #[.int .i64 ka, .int .i64 na, .int .i64 sa, .string ta, .int .i64 ma], .agg #[.int .i64 kb, .int .i64 nb, .int .i64 sb, .string tb, .int .i64 mb]] w fun e w' => e = .returned (.tuple #[.int .i64 0, .int .i64 0]) ∧ Bel w w')
    (Cba0 : ∀ w, Calls Tryd.prog 12 #[.agg #[.int .i64 kb, .int .i64 nb, .int .i64 sb, .string tb, .int .i64 mb], .agg #[.int .i64 ka, .int .i64 na, .int .i64 sa, .string ta, .int .i64 ma]] w fun e w' => e = .returned (.tuple #[.int .i64 0, .int .i64 0]) ∧ Bel w w')
    (Cbc0 : ∀ w, Calls Tryd.prog 12 #[.agg #[.int .i64 kb, .int .i64 nb, .int .i64 sb, .string tb, .int .i64 mb], .agg #[.int .i64 kc, .int .i64 nc, .int .i64 sc, .string tc, .int .i64 mc]] w fun e w' => e = .returned (.tuple #[.int .i64 m, .int .i64 0]) ∧ Bel w w')
    (Cac0 : ∀ w, Calls Tryd.prog 12 #[.agg #[.int .i64 ka, .int .i64 na, .int .i64 sa, .string ta, .int .i64 ma], .agg #[.int .i64 kc, .int .i64 nc, .int .i64 sc, .string tc, .int .i64 mc]] w fun e w' => e = .returned (.tuple #[.int .i64 p, .int .i64 0]) ∧ Bel w w')
    (hv : veq ⟨ka, na, sa, ta, ma⟩ ⟨kb, nb, sb, tb, mb⟩ = true) (hx : (x.toList == y.toList) = true) (hm0 : decide (0 < m) = false) (hp0 : decide (p ≤ 0) = true)
    (w : World) (ht : Tab w) (hm : Mx w) : Calls Tryd.prog 6 #[.agg #[.int .i64 ka, .int .i64 na, .int .i64 sa, .string ta, .int .i64 ma], .agg #[.int .i64 kb, .int .i64 nb, .int .i64 sb, .string tb, .int .i64 mb], .agg #[.int .i64 kc, .int .i64 nc, .int .i64 sc, .string tc, .int .i64 mc]] w fun e w' => e = .returned (.bool true) ∧ Bel w w' := by
  have HT := Lib.hid ht
  have HM := Lib.hid hm
  have Ta := Lib.hid Ta0
  have Tb := Lib.hid Tb0
  have Cab := Lib.hid Cab0
  have Cba := Lib.hid Cba0
  have Cbc := Lib.hid Cbc0
  have Cac := Lib.hid Cac0
  clear ht hm Ta0 Tb0 Cab0 Cba0 Cbc0 Cac0
  go_enter Tryd.func6, Tryd.ntmps6
  go_wp2_with fail
  refine under_call ((((Bel.refl w).alloc _).alloc _).alloc _) fun W hc hf hz hb => ?_
  have hA : ValAt W w.heap.size 0 ⟨ka, na, sa, ta, ma⟩ := by simp [ValAt, hc, go_sem]
  have hB : ValAt W (w.heap.size + 1) 0 ⟨kb, nb, sb, tb, mb⟩ := by simp [ValAt, hc, go_sem]
  have hC : ValAt W (w.heap.size + 1 + 1) 0 ⟨kc, nc, sc, tc, mc⟩ := by simp [ValAt, hc, go_sem]
  have hl1 : w.heap.size < W.heap.size := by rw [hz]; simp; omega
  have hl2 : w.heap.size + 1 < W.heap.size := by rw [hz]; simp
  have hl3 : w.heap.size + 1 + 1 < W.heap.size := by rw [hz]; simp
  have HTW := Lib.hid (HT.out.keep hb)
  have HMW := Lib.hid (HM.out.keep hb)
  have hS : Bel W W ∧ (∀ b o, b < W.heap.size → W.cell? ⟨b, o, none⟩ = W.cell? ⟨b, o, none⟩) := ⟨Bel.refl _, fun _ _ _ => rfl⟩
  clear hc hf hz HT HM
  go_wp2_with (first
    | (go_at_call 14; first
        | (with_reducible refine Calls.mono (Ta.out _ (HTW.out.keep hS.1) (HMW.out.keep hS.1)) ?_; rintro e V ⟨rfl, b⟩; replace hS := keep1 hS b; clear b; try dsimp only at hS)
        | (with_reducible refine Calls.mono (Tb.out _ (HTW.out.keep hS.1) (HMW.out.keep hS.1)) ?_; rintro e V ⟨rfl, b⟩; replace hS := keep1 hS b; clear b; try dsimp only at hS))
    | (go_at_call 12; first
        | (with_reducible refine Calls.mono (Cab.out _) ?_; rintro e V ⟨rfl, b⟩; replace hS := keep1 hS b; clear b; try dsimp only at hS)
        | (with_reducible refine Calls.mono (Cba.out _) ?_; rintro e V ⟨rfl, b⟩; replace hS := keep1 hS b; clear b; try dsimp only at hS)
        | (with_reducible refine Calls.mono (Cbc.out _) ?_; rintro e V ⟨rfl, b⟩; replace hS := keep1 hS b; clear b; try dsimp only at hS)
        | (with_reducible refine Calls.mono (Cac.out _) ?_; rintro e V ⟨rfl, b⟩; replace hS := keep1 hS b; clear b; try dsimp only at hS))
    | (go_at_call 7; refine (awake_V _ (HTW.out.keep hS.1) (HMW.out.keep hS.1)).mono ?_; rintro e V ⟨rfl, b⟩; replace hS := keep1 hS b; clear b; try dsimp only at hS))
  go_ret
  exact ⟨rfl, hb.trans hS.1⟩
end Go.Proofs.YtladmlnopbnlgaaDoor
