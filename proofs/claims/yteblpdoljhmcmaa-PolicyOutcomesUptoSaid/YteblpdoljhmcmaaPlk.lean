import Derived.Test.YteblpdoljhmcmaaPlh
namespace Go.Proofs.Yteblpdoljhmcmaa
set_option linter.unusedSimpArgs false
set_option linter.unusedVariables false
open Go.RowKit Go.Lib
attribute [local go_sem ↓] eql_val neq_val

/-! The laws of policy: awake, Counts. -/
theorem sl5_new (w : World) (k n s : Int) (t : ByteArray) (m : Int) : Sl5 (w.alloc (.cells #[.int .i64 k, .int .i64 n, .int .i64 s, .string t, .int .i64 m] 26)) w.heap.size k n s t m := by
  simp [Sl5, FreeAt, go_sem]
abbrev bv (n : Int) : Val := ⟨3, 0, 0, ⟨#[]⟩, n⟩
theorem vals_two (w : World) (v u : Val) {n : Nat} (hn : n = w.heap.size) : Vals (w.alloc (.cells #[.int .i64 v.kind, .int .i64 v.n, .int .i64 v.scale, .string v.text, .int .i64 v.num, .int .i64 u.kind, .int .i64 u.n, .int .i64 u.scale, .string u.text, .int .i64 u.num] 26)) (some ⟨n, 0, none⟩) [v, u] := fun _ => by
  subst hn
  refine ⟨_, 0, rfl, by simp, fun i u hu => ?_⟩
  match i, hu with
  | 0, hu =>
    simp only [List.getElem?_cons_zero, Option.some.injEq] at hu
    subst hu
    simp [ValAt, go_sem]
  | 1, hu =>
    simp only [List.getElem?_cons_succ, List.getElem?_cons_zero, Option.some.injEq] at hu
    subst hu
    simp [ValAt, go_sem]
theorem vals_nil {w : World} {A : Option Addr} : Vals w A [] := fun h => absurd h (by simp)
theorem wOut (p r0 r1 r2 : Int) (r3 : ByteArray) (r4 : Int) (hR : outV p [bv 0, bv 1] [] nul [0, 1] = (⟨r0, r1, r2, r3, r4⟩, 0)) (x : Nat) (W0 W : World) (h : Vals W0 (some ⟨x, 0, none⟩) [bv 0, bv 1]) (hW : Bel W0 W) (n : Nat) (hn : n = W.heap.size) :
    Calls Try.prog 9 #[.int .i64 p, .slice (some ⟨x, 0, none⟩) 2 2, .slice none 0 0, .agg #[.int .i64 0, .int .i64 0, .int .i64 0, .string ⟨#[]⟩, .int .i64 0], .slice (some ⟨n, 0, none⟩) 2 2] (W.alloc (.cells #[.int .i64 0, .int .i64 1] 3))
      fun e w' => e = .returned (.tuple #[.agg #[.int .i64 r0, .int .i64 r1, .int .i64 r2, .string r3, .int .i64 r4], .int .i64 0]) ∧ Bel W w' := by
  have b1 : Bel W (W.alloc (.cells #[.int .i64 0, .int .i64 1] 3)) := (Bel.refl W).alloc _
  have k := out_any p [bv 0, bv 1] (some ⟨x, 0, none⟩) 2 [] none 0 nul [0, 1] (some ⟨n, 0, none⟩) 2 _ ((h.keep hW).keep b1) vals_nil (ints_lit (w := W) [0, 1] hn) (by simp) (by simp) (by simp) (fun v hv => by
    simp at hv
    rcases hv with rfl | rfl <;> exact Nat.zero_le _) (by simp) (Nat.zero_le _) (fun i hi => by simp at hi; omega)
  unfold outR at k
  rw [hR] at k
  exact k.mono fun e w' ⟨he, hb⟩ => ⟨he, b1.trans hb⟩
theorem q_same (v : Val) : veq v v = true := (veq_iff _ _).2 rfl
set_option maxRecDepth 100000 in
set_option maxHeartbeats 4000000 in
theorem awake_any (w : World) : Calls Try.prog 11 #[] w fun e w' => e = .returned (.bool true) ∧ Bel w w' := by
  go_enter Try.func11, Try.ntmps11
  go_upto_region 2 with fail
  refine under_name (by (first | exact (Bel.refl w).alloc _ | ((repeat (first | with_reducible exact Bel.refl _ | with_reducible refine Bel.setCell ?_ (by first | exact Nat.le_refl _ | (dsimp only; omega)) _ | with_reducible refine Bel.alloc ?_ _ | with_reducible refine Bel.drew ?_ | with_reducible assumption | with_reducible refine Bel.trans ?_ (by assumption)))))) fun W hc hf hz hbW => ?_
  have HT : Vals W (some ⟨w.heap.size, 0, none⟩) [bv 0, bv 1] := fun _ => ⟨_, 0, rfl, by simp [hz], fun i u hu => by
    match i, hu with
    | 0, hu =>
      simp only [List.getElem?_cons_zero, Option.some.injEq] at hu
      subst hu
      simp [ValAt, bv, hc, go_sem]
    | 1, hu =>
      simp only [List.getElem?_cons_succ, List.getElem?_cons_zero, Option.some.injEq] at hu
      subst hu
      simp [ValAt, bv, hc, go_sem]⟩
  have hA0 : W.cell? ⟨w.heap.size, 0, none⟩ = some (.int .i64 3) ∧ W.cell? ⟨w.heap.size, 1, none⟩ = some (.int .i64 0) ∧ W.cell? ⟨w.heap.size, 2, none⟩ = some (.int .i64 0) ∧ W.cell? ⟨w.heap.size, 3, none⟩ = some (.string ⟨#[]⟩) ∧ W.cell? ⟨w.heap.size, 4, none⟩ = some (.int .i64 0) := by simp [hc, go_sem]
  have z0 : w.heap.size < W.heap.size := by simp [hz]
  have C1 := Lib.hid fun W' n (hW : Bel W W') hn => wOut 70 3 0 0 ⟨#[]⟩ 0 (by decide +kernel) w.heap.size W W' HT hW n hn
  have C2 := Lib.hid fun W' n (hW : Bel W W') hn => wOut 85 0 0 0 ⟨#[]⟩ 0 (by decide +kernel) w.heap.size W W' HT hW n hn
  have C3 := Lib.hid fun W' n (hW : Bel W W') hn => wOut 35 1 2 0 ⟨#[]⟩ 0 (by decide +kernel) w.heap.size W W' HT hW n hn
  clear hc hf hz HT
  generalize w.heap.size = B at *
  go_upto_region 5 with (first
    | (go_at_call 9; with_reducible refine Calls.mono (C1.out _ _ (Bel.refl _) rfl) ?_; rintro e W1 ⟨rfl, hb1⟩)
    | (go_at_call 9; with_reducible refine Calls.mono (C2.out (W1.alloc _) _ (hb1.alloc _) (by simp)) ?_; rintro e W2 ⟨rfl, hb2⟩; have S1 := (sl5_new W1 3 0 0 ⟨#[]⟩ 0).keep hb2; replace hb2 := (hb1.alloc _).trans hb2)
    | (go_at_call 9; with_reducible refine Calls.mono (C3.out (W2.alloc _) _ (hb2.alloc _) (by simp)) ?_; rintro e W3 ⟨rfl, hb3⟩; have S2 := (sl5_new W2 0 0 0 ⟨#[]⟩ 0).keep hb3; replace S1 := S1.keep (((Bel.refl W2).alloc _).trans hb3); replace hb3 := (hb2.alloc _).trans hb3))
  refine under_name ((Bel.refl W3).alloc _) fun X hc hf hz hbX => ?_
  have S3 : Sl5 X W3.heap.size 1 2 0 ⟨#[]⟩ 0 := by simp [Sl5, FreeAt, hc, hf, hz, go_sem]
  replace S1 := S1.keep hbX
  replace S2 := S2.keep hbX
  replace hb3 := hb3.trans hbX
  obtain ⟨a0, a1, a2, a3, a4⟩ := hA0
  rw [← hb3.cells _ _ z0] at a0 a1 a2 a3 a4
  have z1 := Nat.lt_of_lt_of_le z0 hb3.size
  have q1 : veq ⟨3, 0, 0, ⟨#[]⟩, 0⟩ ⟨3, 0, 0, ⟨#[]⟩, 0⟩ = true := q_same _
  have q2 : veq ⟨0, 0, 0, ⟨#[]⟩, 0⟩ ⟨0, 0, 0, ⟨#[]⟩, 0⟩ = true := q_same _
  have q3 : veq ⟨1, 2, 0, ⟨#[]⟩, 0⟩ ⟨1, 2, 0, ⟨#[]⟩, 0⟩ = true := q_same _
  clear hc hf hz C1 C2 C3
  obtain ⟨s10, ⟨s11, s12, s13, s14, s15⟩, _⟩ := S1
  obtain ⟨s20, ⟨s21, s22, s23, s24, s25⟩, _⟩ := S2
  obtain ⟨s30, ⟨s31, s32, s33, s34, s35⟩, _⟩ := S3
  refine wp_region_uni (S := (fun w' => Bel X w' ∧ (∀ b o, b < X.heap.size → w'.cell? ⟨b, o, none⟩ = X.cell? ⟨b, o, none⟩))) (by kernel_rfl) (by kernel_rfl) keep0 ?_
  repeat (first | (refine wpUni_skip (by rfl) ?_; (try simp only [Act.put, List.setIfInBounds_toArray, List.set_cons_zero, List.set_cons_succ]))
                                                            | (refine wpUni_value (by rfl) (fun w hS => by (try dsimp only at hS); go_simp; first | done | with_reducible rfl) ?_; (try simp only [Act.put, List.setIfInBounds_toArray, List.set_cons_zero, List.set_cons_succ])))
  refine wpUni_nil fun W4 hS => ?_
  have hb4 := hb3.trans hS.1
  clear hS
  go_wp2_with fail
  go_ret
  exact ⟨rfl, hbW.trans hb4⟩
set_option maxRecDepth 100000 in
set_option maxHeartbeats 4000000 in
theorem law_Counts (outs : List Val) (A : Option Addr) (c : Nat) (m : Int) (w : World) (hA : Vals w A outs) (lA : outs.length ≤ 9223372036854775807) (tA : ∀ v ∈ outs, v.text.size ≤ 9223372036854775807) (hm : 0 ≤ m ∧ m ≤ 65535) :
    Calls Try.prog 8 #[.slice A outs.length c, .int .u16 m] w fun e w' => e = .returned (.bool true) ∧ Bel w w' := by
  have C1 := Lib.hid (fired_any outs.length m w (by omega) hm)
  have C2 := Lib.hid fun (l : List Int) F f W (hr : risF outs.length 0 l = true) (hl : l.length ≤ 16) (hF : Ints W F l) (hW : Bel w W) => out_any 35 outs A c [] none 0 nul l F f W (hA.keep hW) vals_nil hF lA (by simp) (by omega) tA (by simp) (Nat.zero_le _) (fun i hi => by have := risF_mem hr i hi; omega)
  have C3 := Lib.hid fun W => awake_any W
  clear hA tA
  go_enter Try.func8, Try.ntmps8
  go_upto_region 2 with (go_at_call 14; refine Calls.mono C1.out ?_; rintro e W1 ⟨vl, l, rfl, hl, hr, hn, hb1⟩)
  obtain ⟨F, f, rfl, hF, _⟩ := hl.ints
  have OR := Lib.hid (show outR 35 outs [] nul l = if outs.all vsnd = true then .tuple #[.agg #[.int .i64 1, .int .i64 l.length, .int .i64 0, .string ⟨#[]⟩, .int .i64 0], .int .i64 0] else .tuple #[.agg #[.int .i64 0, .int .i64 0, .int .i64 0, .string ⟨#[]⟩, .int .i64 0], .int .i64 2] from by
    unfold outR outV
    rw [hr]
    by_cases h : outs.all vsnd = true
    · rw [h]; rfl
    · rw [if_neg h]
      rw [Bool.not_eq_true] at h
      rw [h]; rfl)
  have C2 := Lib.hid (C2.out l F f W1 hr hn hF hb1)
  simp only [Val.val, nul] at C2 OR
  have hli : (l.length : Int) ≤ 16 := by omega
  by_cases hs : outs.all vsnd = true
  · have OR := OR.out.trans (if_pos hs)
    rw [OR] at C2
    clear OR hl hF hr hs
    have q3 : veq ⟨1, l.length, 0, ⟨#[]⟩, 0⟩ ⟨1, l.length, 0, ⟨#[]⟩, 0⟩ = true := q_same _
    go_wp2_with (first
      | (go_at_call 9; with_reducible refine Calls.mono C2.out ?_; rintro e W2 ⟨rfl, hb2⟩)
      | (go_at_call 11; with_reducible refine Calls.mono (C3.out _) ?_; rintro e W3 ⟨rfl, hb3⟩; have S1 := (sl5_new W2 1 l.length 0 ⟨#[]⟩ 0).keep hb3; replace hb3 := (((hb1.trans hb2).alloc _).trans hb3)))
    all_goals
      go_ret
      exact ⟨by simp [q3], hb3⟩
  · have OR := OR.out.trans (if_neg hs)
    rw [OR] at C2
    clear OR hl hF hr hs
    have tk : True := trivial
    go_wp2_with (first
      | (go_at_call 9; with_reducible refine Calls.mono C2.out ?_; rintro e W2 ⟨rfl, hb2⟩)
      | (go_at_call 11; have _u := tk; clear _u tk; with_reducible refine Calls.mono (C3.out _) ?_; rintro e W3 ⟨rfl, hb3⟩)
      | (go_at_call 11; with_reducible refine Calls.mono (C3.out _) ?_; rintro e W4 ⟨rfl, hb4⟩))
    go_ret
    refine ⟨rfl, ?_⟩
    (repeat (first | with_reducible exact Bel.refl _ | with_reducible refine Bel.setCell ?_ (by first | exact Nat.le_refl _ | (dsimp only; omega)) _ | with_reducible refine Bel.alloc ?_ _ | with_reducible refine Bel.drew ?_ | with_reducible assumption | with_reducible refine Bel.trans ?_ (by assumption)))
end Go.Proofs.Yteblpdoljhmcmaa
