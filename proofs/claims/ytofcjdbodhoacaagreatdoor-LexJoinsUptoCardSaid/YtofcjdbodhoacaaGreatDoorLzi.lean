import Derived.Test.YtofcjdbodhoacaaGreatDoorLzh
namespace Go.Proofs.YtofcjdbodhoacaaGreatDoor
set_option linter.unusedSimpArgs false
set_option linter.unusedVariables false
open Go.RowKit

/-! The simplest facts; the law Reads. -/
theorem tok_out {w : World} {x : List Tok × Nat × Nat} {e : Ending} {w' : World} (h : TokOut w x e w') : ∃ A c, e = .returned (.tuple #[.slice A x.1.length c, .int .i64 x.2.1, .int .i64 x.2.2]) ∧ Toks w' A x.1 ∧ Bel w w' ∧ x.1.length ≤ c ∧ (A = none → c = 0) ∧ TkRows w' w.heap.size (.slice A x.1.length c) x.1 := by
  obtain ⟨h1, v, h2, h3⟩ := h
  obtain ⟨A, c, rfl, h4, h5⟩ := h3.val
  refine ⟨A, c, h2, h4, h1, ?_, h5, h3⟩
  rcases h3.2 with ⟨hv, h0⟩ | ⟨g, cap, cur, hv, _, _, hc, _⟩
  · rw [h0]; exact Nat.zero_le _
  · cases hv
    exact hc
theorem eql_dec (a b a' b' : Int) (w : World) : (binOp .eql 36 (.agg #[.int .i64 a, .int .i64 b]) (.agg #[.int .i64 a', .int .i64 b'])).run Tryz.prog w = .ok (.bool (decide (a = a' ∧ b = b'))) w := by
  go_simp
  by_cases h1 : a = a' <;> by_cases h2 : b = b' <;> simp [h1, h2]
set_option maxRecDepth 100000 in
set_option maxHeartbeats 4000000 in
theorem awake_T (w : World) (ht : Tab w) (hm : Mx w) : Calls Tryz.prog 10 #[] w fun e w' => e = .returned (.bool true) ∧ Bel w w' := by
  have CT := Lib.hid (show Calls Tryz.prog 8 #[.string ⟨#[120, 49, 32, 60, 61, 32, 49, 46, 53, 48, 32, 64, 34, 50, 48, 48, 48, 45, 48, 49, 45, 48, 49, 34, 46, 46]⟩] w fun e w' => ∃ b o c, e = .returned (.tuple #[.slice (some ⟨b, o, none⟩) 5 c, .int .i64 0, .int .i64 0]) ∧ Toks w' (some ⟨b, o, none⟩) toksA ∧ Bel w w' ∧ 5 ≤ c from by
    refine (xtokens_any litA (by decide) w hm).mono fun e w' h => ?_
    rw [toks_litA] at h
    obtain ⟨A, c, h1, h2, h3, h4, _, _⟩ := tok_out h
    obtain ⟨b, o, rfl, _⟩ := h2.at (by decide)
    exact ⟨b, o, c, h1, h2, h3, h4⟩)
  have CJ := Lib.hid fun (W : World) (hW : Bel w W) A c (hT : Toks W A toksA) => (show Calls Tryz.prog 14 #[.slice A 5 c] W fun e w' => e = .returned (.tuple #[.string ⟨#[120, 49, 32, 60, 61, 32, 49, 46, 53, 32, 64, 34, 50, 48, 48, 48, 45, 48, 49, 45, 48, 49, 34, 32, 46, 46]⟩, .int .i64 0]) ∧ Bel W w' from by
    have h := xjoin_any toksA A c W hT (by decide) (by decide) (ht.keep hW) (hm.keep hW)
    unfold joinV at h
    rw [join_A] at h
    exact h)
  have W1c := Lib.hid fun W => xword_any ⟨#[120, 49]⟩ (by decide) W
  rw [show wordB ⟨#[120, 49]⟩ = true by decide +kernel] at W1c
  have W2c := Lib.hid fun W => xword_any ⟨#[110, 111, 116]⟩ (by decide) W
  rw [show wordB ⟨#[110, 111, 116]⟩ = false by decide +kernel] at W2c
  clear ht hm
  go_enter Tryz.func10, Tryz.ntmps10
  go_upto_region 3 with (first
    | (go_at_call 8; refine (CT.out).mono ?_; rintro e V1 ⟨b, o, c, rfl, hT, hb1, hc5⟩; have hT := Lib.hid hT; have hb1 := Lib.hid hb1)
    | (go_at_call 14; refine (CJ.out _ hb1.out _ _ hT.out).mono ?_; rintro e V2 ⟨rfl, hb2⟩))
  obtain ⟨b', o', hA, z1, hat⟩ := (hT.out.keep hb2).at (by decide)
  cases hA
  obtain ⟨-, -, k1, -, -, -⟩ := hat 1 _ rfl
  obtain ⟨-, -, -, k2, k3, -⟩ := hat 2 _ rfl
  simp only [Nat.one_mul] at k1
  replace k1 : V2.cell? ⟨b, o + 6 + 2, none⟩ = some (.string ⟨#[60, 61]⟩) := k1
  replace k2 : V2.cell? ⟨b, o + 12 + 3, none⟩ = some (.int .i64 15) := k2
  replace k3 : V2.cell? ⟨b, o + 12 + 3 + 1, none⟩ = some (.int .i64 1) := k3
  have HQ := Lib.hid (hb1.out.trans hb2)
  clear hat hb2
  go_wp2_with (first
    | (go_at_call 12; (with_reducible refine Calls.mono (W1c.out _) ?_); rintro e V3 ⟨rfl, hb3⟩)
    | (go_at_call 12; (with_reducible refine Calls.mono (W2c.out _) ?_); rintro e V4 ⟨rfl, hb4⟩))
  go_ret
  exact ⟨rfl, (HQ.out.trans hb3).trans hb4⟩
theorem len_toks (s : ByteArray) : (tokS s).1.length ≤ s.size ∧ (tokS s).1.length ≤ 65536 := by
  suffices h : (tokS s).1.length ≤ s.size ∧ (¬ s.size ≤ 65536 → (tokS s).1.length = 0) by omega
  by_cases hs : s.size ≤ 65536
  · rcases tokS_cases s hs with ⟨ms, h1, h2⟩ | ⟨ms, l2, e, h1, _⟩
    · rw [h1]
      have : ∀ {p : Nat} {l l2 : List UInt8} {ms : List Tok}, Run p l ms l2 → ms.length + l2.length ≤ l.length := by
        intro p l l2 ms h
        induction h with
        | nil p l => simp
        | cons hs hr ih =>
          rename_i m _ _
          obtain ⟨q, hq, hqn⟩ := step_suf hs
          have hl := congrArg List.length hq
          rw [List.length_append] at hl
          have := List.length_pos_iff.2 hqn
          rw [List.length_append]
          cases m <;> simp only [optT, List.length_nil, List.length_cons] <;> omega
      have h3 := this h2
      rw [size_list] at h3
      simp only [List.length_nil] at h3
      exact ⟨by simp only; omega, fun h => absurd hs h⟩
    · rw [h1]; exact ⟨Nat.zero_le _, fun h => absurd hs h⟩
  · unfold tokS
    rw [if_pos (by omega)]
    exact ⟨Nat.zero_le _, fun _ => rfl⟩
set_option maxRecDepth 100000 in
set_option maxHeartbeats 8000000 in
theorem law_Reads (s : ByteArray) (hs : s.size ≤ 9223372036854775807) (w : World) (ht : Tab w) (hm : Mx w) : Calls Tryz.prog 3 #[.string s] w fun e w' => e = .returned (.bool true) ∧ Bel w w' := by
  have C1 := Lib.hid fun W (hW : Bel w W) => xtokens_any s (by omega) W (hm.keep hW)
  have C2 := Lib.hid fun W => rtokens_any s (by omega) W
  have CA := Lib.hid fun W (hW : Bel w W) => awake_T W (ht.keep hW) (hm.keep hW)
  have CW1 := Lib.hid fun W => xword_any s (by omega) W
  have CW2 := Lib.hid fun W => rword_any s (by omega) W
  have hl := (len_toks s).2
  generalize tokS s = T at *
  generalize wordB s = q at *
  obtain ⟨ts, n, e⟩ := T
  simp only at hl
  have hl1 : ts.length ≤ 1152921504606846975 := by omega
  have SM := Lib.hid (show sameB true ts ts = true from by unfold sameB; simp)
  have CS := Lib.hid fun A B c d W (h1 : Toks W A ts) (h2 : Toks W B ts) => same_any ts ts A B c d true W h1 h2 hl1 hl1
  rw [SM.out] at CS
  clear ht hm hl
  go_enter Tryz.func3, Tryz.ntmps3
  go_upto_region 3 with (first
    | (go_at_call 8; refine (C1.out _ (Bel.refl _)).mono ?_; intro ee V1 hT1; obtain ⟨A1, c1, rfl, hT1, hb1, _, _, _⟩ := tok_out hT1; have hT1 := Lib.hid hT1; have hb1 := Lib.hid hb1)
    | (go_at_call 9; refine (C2.out _).mono ?_; intro ee V2 hT2; obtain ⟨A2, c2, rfl, hT2, hb2, _, _, _⟩ := tok_out hT2; have hT2 := Lib.hid hT2; have hb2 := Lib.hid hb2))
  have HT1 := Lib.hid (hT1.out.keep hb2.out)
  have HQ := Lib.hid (hb1.out.trans hb2.out)
  have CS1 := Lib.hid fun W (hW : Bel V2 W) => CS.out A1 A2 c1 c2 W (HT1.out.keep hW) (hT2.out.keep hW)
  clear CS
  cases q with
  | true =>
    go_wp2_with (first
      | (go_at_call 10; (with_reducible refine Calls.mono (CA.out _ HQ.out) ?_); rintro e V3 ⟨rfl, hb3⟩)
      | (go_at_call 11; (with_reducible refine Calls.mono (CS1.out _ hb3) ?_); rintro e V4 ⟨rfl, hb4⟩)
      | (go_at_call 12; (with_reducible refine Calls.mono (CW1.out _) ?_); rintro e V5 ⟨rfl, hb5⟩)
      | (go_at_call 13; (with_reducible refine Calls.mono (CW2.out _) ?_); rintro e V6 ⟨rfl, hb6⟩))
    go_ret
    exact ⟨rfl, (((HQ.out.trans hb3).trans hb4).trans hb5).trans hb6⟩
  | false =>
    go_wp2_with (first
      | (go_at_call 10; (with_reducible refine Calls.mono (CA.out _ HQ.out) ?_); rintro e V3 ⟨rfl, hb3⟩)
      | (go_at_call 11; (with_reducible refine Calls.mono (CS1.out _ hb3) ?_); rintro e V4 ⟨rfl, hb4⟩)
      | (go_at_call 12; (with_reducible refine Calls.mono (CW1.out _) ?_); rintro e V5 ⟨rfl, hb5⟩)
      | (go_at_call 13; (with_reducible refine Calls.mono (CW2.out _) ?_); rintro e V6 ⟨rfl, hb6⟩))
    go_ret
    exact ⟨rfl, (((HQ.out.trans hb3).trans hb4).trans hb5).trans hb6⟩
end Go.Proofs.YtofcjdbodhoacaaGreatDoor
