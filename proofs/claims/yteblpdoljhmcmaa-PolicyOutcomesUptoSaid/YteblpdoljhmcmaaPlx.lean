import Derived.Test.YteblpdoljhmcmaaPlw
namespace Go.Proofs.Yteblpdoljhmcmaa
set_option linter.unusedSimpArgs false
set_option linter.unusedVariables false
open Go.RowKit Go.Lib
attribute [local go_sem ↓] eql_val neq_val

/-! The laws of policy: Outcomes. -/
set_option maxRecDepth 100000 in
set_option maxHeartbeats 4000000 in
theorem law_Outcomes (p : Int) (outs : List Val) (A : Option Addr) (c : Nat) (order : List Val) (B : Option Addr) (d : Nat) (v : Val) (fired : List Int) (F : Option Addr) (f : Nat) (w : World)
    (hA : Vals w A outs) (hB : Vals w B order) (hF : Ints w F fired) (nA : A = none → c = 0) (nB : B = none → d = 0) (lA : outs.length ≤ 1048575) (lB : order.length ≤ 1048575) (lF : fired.length ≤ 1048575)
    (tA : ∀ v ∈ outs, v.text.size ≤ 9223372036854775807) (tB : ∀ v ∈ order, v.text.size ≤ 9223372036854775807) (tv : v.text.size ≤ 9223372036854775807) (iF : ∀ i ∈ fired, -9223372036854775808 ≤ i ∧ i ≤ 9223372036854775807) :
    Calls Try.prog 3 #[.int .i64 p, .slice A outs.length c, .slice B order.length d, v.val, .slice F fired.length f] w fun e w' => e = .returned (.bool true) ∧ Bel w w' := by
  have k1 := fun W (hW : Bel w W) => out_any p outs A c order B d v fired F f W (hA.keep hW) (hB.keep hW) (Row.keep hF hW) (by omega) (by omega) (by omega) tA tB tv iF
  have k2 := fun W (hW : Bel w W) => rout_any p outs A c order B d v fired F f W (hA.keep hW) (hB.keep hW) (Row.keep hF hW) nA nB lA lB lF tA tB tv iF
  have C3 := Lib.hid fun W => awake_any W
  have C4 := Lib.hid fun W => known_any p W
  have C5 := Lib.hid fun W => rknown_any p W
  unfold outR at k1 k2
  generalize outV p outs order v fired = R at k1 k2
  generalize known p = q at C4 C5
  obtain ⟨⟨r0, r1, r2, r3, r4⟩, er⟩ := R
  obtain ⟨v0, v1, v2, v3, v4⟩ := v
  simp only [Val.val] at k1 k2
  have K1 := Lib.hid k1
  have K2 := Lib.hid k2
  have q1 : veq ⟨r0, r1, r2, r3, r4⟩ ⟨r0, r1, r2, r3, r4⟩ = true := q_same _
  clear k1 k2 hA hB hF tA tB tv iF nA nB
  go_enter Try.func3, Try.ntmps3
  go_upto_region 1 with fail
  refine under_name (w0 := w) (by (repeat (first | with_reducible exact Bel.refl _ | with_reducible refine Bel.setCell ?_ (by first | exact Nat.le_refl _ | (dsimp only; omega)) _ | with_reducible refine Bel.alloc ?_ _ | with_reducible refine Bel.drew ?_ | with_reducible assumption | with_reducible refine Bel.trans ?_ (by assumption)))) fun W hc hf hz hb => ?_
  have hD : Sl5 W w.heap.size v0 v1 v2 v3 v4 := by simp [Sl5, FreeAt, hc, hf, hz, go_sem]
  clear hc hf hz
  generalize w.heap.size = BD at hD ⊢
  go_wp2_with (first
    | (go_at_call 9; with_reducible refine Calls.mono (K1.out _ hb) ?_; rintro e W2 ⟨rfl, hb2⟩; replace hD := hD.keep hb2; have d2 : ¬ BD = W2.heap.size := (by have := hD.1; omega))
    | (go_at_call 10; with_reducible refine Calls.mono (K2.out _ (hb.trans (hb2.alloc _))) ?_; rintro e W3 ⟨rfl, hb3⟩; have S1 := (sl5_new W2 r0 r1 r2 r3 r4).keep hb3; replace hb3 := (hb2.alloc _).trans hb3)
    | (go_at_call 11; with_reducible refine Calls.mono (C3.out _) ?_; rintro e W4 ⟨rfl, hb4⟩; have S2 := (sl5_new W3 r0 r1 r2 r3 r4).keep hb4; replace S1 := S1.keep (((Bel.refl W3).alloc _).trans hb4); replace hb4 := (hb3.alloc _).trans hb4)
    | (go_at_call 12; with_reducible refine Calls.mono (C4.out _) ?_; rintro e W5 ⟨rfl, hb5⟩)
    | (go_at_call 13; with_reducible refine Calls.mono (C5.out _) ?_; rintro e W6 ⟨rfl, hb6⟩))
  go_ret
  exact ⟨by simp [q1], ((hb.trans hb4).trans hb5).trans hb6⟩
end Go.Proofs.Yteblpdoljhmcmaa
