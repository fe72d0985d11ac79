import Derived.Test.YtofcjdbodhoacaaGreatDoorLzi
namespace Go.Proofs.YtofcjdbodhoacaaGreatDoor
set_option linter.unusedSimpArgs false
set_option linter.unusedVariables false
open Go.RowKit

/-! The law Parts. -/
theorem Toks.drop {w : World} {b off : Nat} {l : List Tok} (h : Toks w (some ⟨b, off, none⟩) l) (n : Nat) (hn : n ≤ l.length) : Toks w (some ⟨b, off + n * 6, none⟩) (l.drop n) := fun h0 => by
  have hs : tsCells l = tsCells (l.take n) ++ tsCells (l.drop n) := by rw [← tsCells_app, List.take_append_drop]
  have hl : (tsCells (l.take n)).length = n * 6 := by rw [tsCells_len, List.length_take]; omega
  obtain ⟨b', off', hA, hlt, hc⟩ := h (by rw [hs, List.length_append]; omega)
  cases hA
  refine ⟨b, off + n * 6, rfl, hlt, fun j u hu => ?_⟩
  have := hc (n * 6 + j) u (by rw [hs, List.getElem?_append_right (by omega), hl, show n * 6 + j - n * 6 = j by omega]; exact hu)
  rwa [← Nat.add_assoc] at this
theorem tok_bad0 (l : List UInt8) : ∀ e, stepT l = .bad e → l ≠ [] → e ≠ 0 := by
  intro e h hl
  cases l with
  | nil => exact absurd rfl hl
  | cons c t =>
    rw [stepT_cons] at h
    split at h
    · cases h
    · exact firT_err h
set_option maxRecDepth 100000 in
set_option maxHeartbeats 16000000 in
theorem law_Parts (a b : ByteArray) (ha : a.size ≤ 140737488355327) (hb : b.size ≤ 140737488355327) (w : World) (ht : Tab w) (hm : Mx w) : Calls Tryz.prog 7 #[.string a, .string b] w fun e w' => e = .returned (.bool true) ∧ Bel w w' := by
  have CA := Lib.hid fun W (hW : Bel w W) => awake_T W (ht.keep hW) (hm.keep hW)
  have CT := Lib.hid fun (z : ByteArray) (hz : z.size ≤ 140737488355327) W (hW : Bel w W) => xtokens_any z (by omega) W (hm.keep hW)
  have C1 := Lib.hid fun W (hW : Bel w W) => CT.out a ha W hW
  have C2 := Lib.hid fun W (hW : Bel w W) => CT.out b hb W hW
  have hai : (a.size : Int) ≤ 140737488355327 := by omega
  have hbi : (b.size : Int) ≤ 140737488355327 := by omega
  have hra := tokS_right a
  have hla := (len_toks a).1
  have TWO := Lib.hid fun z hz hs xs hx => two_toks a b z hz hs xs hx
  have hlb := (len_toks b).1
  have w1 : IntKind.i64.wrap ((a.size : Int) + b.size) = (a.size : Int) + b.size := by rw [IntKind.wrap_i64]; omega
  obtain ⟨TA, hTA⟩ : ∃ TA, TA = tokS a := ⟨_, rfl⟩
  rw [← hTA] at C1 hra hla
  obtain ⟨xs, na, ea⟩ := TA
  obtain ⟨TB, hTB⟩ : ∃ TB, TB = tokS b := ⟨_, rfl⟩
  rw [← hTB] at C2 hlb TWO
  simp only at hla
  have eaw : ((ea : Nat) : Int) = 0 ∨ ¬ ((ea : Nat) : Int) = 0 := by omega
  obtain ⟨yb, nb, eb⟩ := TB
  simp only at hlb
  have hTB' := Lib.hid hTB
  clear ht hm hTA hTB
  by_cases hgo : ea = 0 ∧ a.size + b.size < 65536
  · obtain ⟨rfl, hsum⟩ := hgo
    obtain ⟨hsa, rfl, hrun⟩ := hra xs na rfl (fun l e => tok_bad0 l e)
    have g1 : decide ((a.size : Int) + b.size ≥ 65536) = false := decide_eq_false (by omega)
    have g2 : (a.size : Int) + b.size < 65536 := by omega
    obtain ⟨z, hz⟩ : ∃ z, z = a ++ (⟨#[32]⟩ : ByteArray) ++ b := ⟨_, rfl⟩
    have hzl : z.data.toList = a.data.toList ++ 32 :: b.data.toList := by
      rw [hz]
      simp [ByteArray.data_append]
    have hzs : z.size = a.size + 1 + b.size := by
      have := congrArg List.length hzl
      rw [List.length_append, List.length_cons, size_list, size_list, size_list] at this
      omega
    have HZ := Lib.hid hz
    have CZ := Lib.hid fun W (hW : Bel w W) => CT.out z (by omega) W hW
    have hlz := (len_toks z).1
    have hxl : xs.length ≤ 65536 := by omega
    have hasz : ((a ++ (⟨#[32]⟩ : ByteArray)).size : Int) ≤ 65536 := by rw [ByteArray.size_append]; show ((a.size + 1 : Nat) : Int) ≤ _; omega
    rcases TWO.out z hzl (by omega) xs hrun with ⟨ys, zs, k1, k2, k3, k4⟩ | ⟨n, e, k1, k2, ys, l2, k3, k4, k5⟩
    · simp only [Prod.mk.injEq] at k1
      obtain ⟨rfl, rfl, rfl⟩ := k1
      rw [k3] at CZ hlz
      have hzy : zs.length = yb.length := by have := congrArg List.length k4; simpa using this
      simp only [List.length_append] at hlz
      have S1 := Lib.hid (show sameB true xs xs = true from by unfold sameB; simp)
      have S2 := Lib.hid (show sameB false zs yb = true from by unfold sameB; simp [k4])
      have CS1 := Lib.hid fun A B c d W (h1 : Toks W A xs) (h2 : Toks W B xs) => same_any xs xs A B c d true W h1 h2 (by omega) (by omega)
      have CS2 := Lib.hid fun A B c d W (h1 : Toks W A zs) (h2 : Toks W B yb) => same_any zs yb A B c d false W h1 h2 (by omega) (by omega)
      rw [S1.out] at CS1
      rw [S2.out, hzy] at CS2
      have HZY := Lib.hid hzy
      have hyl : yb.length ≤ 65536 := by omega
      have w2 : IntKind.i64.wrap ((xs.length : Int) + (yb.length : Int)) = (xs.length : Int) + (yb.length : Int) := by rw [IntKind.wrap_i64]; omega
      have hxi : (xs.length : Int) ≤ 65536 := by omega
      have hyi : (yb.length : Int) ≤ 65536 := by omega
      clear hra hla hlb TWO hzl hzs k2 k3 k4 hz hlz hrun hsa
      have hbs : xs.length + yb.length = (xs ++ zs).length := by rw [List.length_append, HZY.out]
      have hz3 : (((xs ++ zs).length : Nat) : Int) = (xs.length : Int) + (yb.length : Int) := by rw [← hbs]; omega
      have HBS := Lib.hid hbs
      have CZ := Lib.hid (show ∀ W, Bel w W → Calls Tryz.prog 8 #[.string z] W fun e w' => ∃ A c, e = .returned (.tuple #[.slice A (xs.length + yb.length) c, .int .i64 0, .int .i64 0]) ∧ Toks w' A (xs ++ zs) ∧ Bel W w' ∧ xs.length + yb.length ≤ c ∧ Hid ((A = none ∧ c = 0) ∨ ∃ g, A = some ⟨g, 0, none⟩) from fun W hW => (CZ.out W hW).mono fun e w' h => by
        obtain ⟨A, c, h1, h2, h3, h4, h5, h6⟩ := tok_out h
        simp only at h1 h2 h4
        rw [← HBS.out] at h1 h4
        refine ⟨A, c, h1, h2, h3, h4, ?_⟩
        rcases h6.2 with ⟨hv, h0⟩ | ⟨g, cap, cur, hv, _⟩
        · simp only [Value.slice.injEq] at hv
          exact .inl ⟨hv.1, hv.2.2⟩
        · cases hv
          exact .inr ⟨g, rfl⟩)
      clear hbs hz3 eaw hTB'
      go_enter Tryz.func7, Tryz.ntmps7
      go_upto_region 6 with (first
        | (go_at_call 8; rw [← HZ.out]; (with_reducible refine Calls.mono (CZ.out _ hq3.out) ?_); rintro ee V5 ⟨A5, c5, rfl, hT5, hb5, hcap5, hnl5⟩; have hT5 := Lib.hid hT5; have hq5 := Lib.hid (hq3.out.trans hb5))
        | (go_at_call 8; (with_reducible refine Calls.mono (C1.out _ (Bel.refl _)) ?_); intro ee V1 h1; obtain ⟨A1, c1, rfl, hT1, hb1, -, -, -⟩ := tok_out h1; clear h1; replace hT1 := Lib.hid hT1; have hq1 := Lib.hid (hb1))
        | (go_at_call 8; (with_reducible refine Calls.mono (C2.out _ hq1.out) ?_); intro ee V2 h2; obtain ⟨A2, c2, rfl, hT2, hb2, -, -, -⟩ := tok_out h2; clear h2; replace hT2 := Lib.hid hT2; have hq2 := Lib.hid (hq1.out.trans hb2))
        | (go_at_call 10; (with_reducible refine Calls.mono (CA.out _ (by first | with_reducible exact hq3.out | with_reducible exact hq2.out)) ?_); rintro ee V3 ⟨rfl, hb3⟩; have hq3 := Lib.hid (hq2.out.trans hb3)))
      have hX1 := Lib.hid (hT1.out.keep ((hb2.trans hb3).trans hb5))
      have hY1 := Lib.hid (hT2.out.keep (hb3.trans hb5))
      have hX5 := Lib.hid (show Toks V5 A5 xs from by have := hT5.out.take xs.length; rwa [List.take_left] at this)
      have CS1 := Lib.hid (CS1.out A5 A1 c5 c1 V5 hX5.out hX1.out)
      have c5i : (xs.length : Int) + (yb.length : Int) ≤ c5 := by omega
      have c5n : (xs.length : Int) ≤ c5 := by omega
      by_cases hy0 : yb.length = 0
      · obtain rfl : yb = [] := List.eq_nil_of_length_eq_zero hy0
        obtain rfl : zs = [] := List.eq_nil_of_length_eq_zero HZY.out
        have CS2 := Lib.hid fun B c W => CS2.out B A2 c c2 W Row.nil Row.nil
        clear hyl
        simp only [List.length_nil] at *
        by_cases hc5 : c5 = xs.length
        · subst hc5
          go_wp2_with (first
            | (go_at_call 11; (with_reducible refine Calls.mono CS1.out ?_); rintro ee V6 ⟨rfl, hb6⟩; have hq6 := Lib.hid (hq5.out.trans hb6))
            | (go_at_call 11; (with_reducible refine Calls.mono (CS2.out _ _ _) ?_); rintro ee V7 ⟨rfl, hb7⟩; have hq7 := Lib.hid (hq6.out.trans hb7)))
          go_ret
          exact ⟨rfl, hq7.out⟩
        · rcases hnl5.out with ⟨_, h0⟩ | ⟨g, rfl⟩
          · omega
          · have c5l : (xs.length : Int) < c5 := by omega
            have c5e : ¬ xs.length = c5 := fun e => hc5 e.symm
            go_wp2_with (first
              | (go_at_call 11; (with_reducible refine Calls.mono CS1.out ?_); rintro ee V6 ⟨rfl, hb6⟩; have hq6 := Lib.hid (hq5.out.trans hb6))
              | (go_at_call 11; (with_reducible refine Calls.mono (CS2.out _ _ _) ?_); rintro ee V7 ⟨rfl, hb7⟩; have hq7 := Lib.hid (hq6.out.trans hb7)))
            go_ret
            exact ⟨rfl, hq7.out⟩
      · rcases hnl5.out with ⟨_, h0⟩ | ⟨g, rfl⟩
        · omega
        · have hc5 : ¬ c5 = xs.length := by omega
          have c5l : (xs.length : Int) < c5 := by omega
          have c5e : ¬ xs.length = c5 := fun e => hc5 e.symm
          have hD := hT5.out.drop xs.length (by rw [List.length_append]; omega)
          rw [List.drop_left, Nat.zero_add] at hD
          have HD := Lib.hid hD
          have CS2 := Lib.hid fun c W (hW : Bel V5 W) => CS2.out (some ⟨g, xs.length * 6, none⟩) A2 c c2 W (HD.out.keep hW) (hY1.out.keep hW)
          clear hD
          go_wp2_with (first
            | (go_at_call 11; (with_reducible refine Calls.mono CS1.out ?_); rintro ee V6 ⟨rfl, hb6⟩; have hq6 := Lib.hid (hq5.out.trans hb6))
            | (go_at_call 11; (with_reducible refine Calls.mono (CS2.out _ _ hb6) ?_); rintro ee V7 ⟨rfl, hb7⟩; have hq7 := Lib.hid (hq6.out.trans hb7)))
          go_ret
          exact ⟨rfl, hq7.out⟩
    · simp only [Prod.mk.injEq] at k1
      obtain ⟨rfl, rfl, rfl⟩ := k1
      rw [k2] at CZ
      have he := tok_bad0 l2 eb k5 k4
      have hei : ¬ ((eb : Nat) : Int) = 0 := by omega
      have hpos : nb ≤ b.size := by
        have h2 := tokS_bad (by omega) k3 k4 k5
        rw [show tokS b = ([], nb, eb) from hTB'.out.symm] at h2
        simp only [Prod.mk.injEq] at h2
        omega
      have hbs : b.size ≤ 65536 := by omega
      have w3 : IntKind.i64.wrap ((a.size : Int) + 1) = (a.size : Int) + 1 := by rw [IntKind.wrap_i64]; omega
      have w4 : IntKind.i64.wrap ((a.size : Int) + 1 + (nb : Int)) = (a.size : Int) + 1 + (nb : Int) := by rw [IntKind.wrap_i64]; omega
      have hni : (nb : Int) ≤ 65536 := by omega
      have E3 : (((a.size + 1 + nb : Nat) : Int) == (a.size : Int) + 1 + (nb : Int)) = true := by rw [beq_iff_eq]; omega
      have E4 : ((a.size + 1 + nb : Nat) : Int) = (a.size : Int) + 1 + (nb : Int) := by omega

      have CZ := Lib.hid (show ∀ W, Bel w W → Calls Tryz.prog 8 #[.string z] W fun e w' => ∃ A c, e = .returned (.tuple #[.slice A 0 c, .int .i64 ((a.size : Int) + 1 + (nb : Int)), .int .i64 (eb : Nat)]) ∧ Bel W w' from fun W hW => (CZ.out W hW).mono fun e w' h => by
        obtain ⟨A, c, h1, h2, h3, h4, h5, _⟩ := tok_out h
        simp only [List.length_nil] at h1
        rw [E4] at h1
        exact ⟨A, c, h1, h3⟩)
      clear hra hla hlb TWO hzl hzs k2 k3 k4 k5 hz hlz he hrun hsa hTB' eaw E3 E4 hpos hbs
      go_enter Tryz.func7, Tryz.ntmps7
      go_upto_region 6 with (first
        | (go_at_call 8; rw [← HZ.out]; (with_reducible refine Calls.mono (CZ.out _ hq3.out) ?_); rintro ee V5 ⟨A5, c5, rfl, hb5⟩; have hq5 := Lib.hid (hq3.out.trans hb5))
        | (go_at_call 8; (with_reducible refine Calls.mono (C1.out _ (Bel.refl _)) ?_); intro ee V1 h1; obtain ⟨A1, c1, rfl, hT1, hb1, -, -, -⟩ := tok_out h1; clear h1; replace hT1 := Lib.hid hT1; have hq1 := Lib.hid (hb1))
        | (go_at_call 8; (with_reducible refine Calls.mono (C2.out _ hq1.out) ?_); intro ee V2 h2; obtain ⟨A2, c2, rfl, hT2, hb2, -, -, -⟩ := tok_out h2; clear h2; replace hT2 := Lib.hid hT2; have hq2 := Lib.hid (hq1.out.trans hb2))
        | (go_at_call 10; (with_reducible refine Calls.mono (CA.out _ (by first | with_reducible exact hq3.out | with_reducible exact hq2.out)) ?_); rintro ee V3 ⟨rfl, hb3⟩; have hq3 := Lib.hid (hq2.out.trans hb3)))
      clear ha hb hai hbi w1 hsum g1 g2 hasz hxl CT C1 C2 HZ CA hni
      go_wp2_with fail
      go_ret
      exact ⟨rfl, hq5.out⟩
  · clear hra hla hlb TWO
    rcases (by omega : ea ≠ 0 ∨ (ea = 0 ∧ 65536 ≤ a.size + b.size)) with hea | ⟨rfl, hsum⟩
    · have hei : ¬ ((ea : Nat) : Int) = 0 := by omega
      clear hgo hea eaw
      go_enter Tryz.func7, Tryz.ntmps7
      go_wp2_with (first
        | (go_at_call 10; (with_reducible refine Calls.mono (CA.out _ hq3.out) ?_); rintro ee V4 ⟨rfl, hb4⟩; have hq4 := Lib.hid (hq3.out.trans hb4))
        | (go_at_call 8; (with_reducible refine Calls.mono (C1.out _ (Bel.refl _)) ?_); intro ee V1 h1; obtain ⟨A1, c1, rfl, hT1, hb1, -, -, -⟩ := tok_out h1; clear h1; replace hT1 := Lib.hid hT1; have hq1 := Lib.hid (hb1))
        | (go_at_call 8; (with_reducible refine Calls.mono (C2.out _ hq1.out) ?_); intro ee V2 h2; obtain ⟨A2, c2, rfl, hT2, hb2, -, -, -⟩ := tok_out h2; clear h2; replace hT2 := Lib.hid hT2; have hq2 := Lib.hid (hq1.out.trans hb2))
        | (go_at_call 10; (with_reducible refine Calls.mono (CA.out _ (by first | with_reducible exact hq3.out | with_reducible exact hq2.out)) ?_); rintro ee V3 ⟨rfl, hb3⟩; have hq3 := Lib.hid (hq2.out.trans hb3)))
      go_ret
      exact ⟨rfl, hq4.out⟩
    · have g1 : decide ((a.size : Int) + b.size ≥ 65536) = true := decide_eq_true (by omega)
      have g2 : 65536 ≤ (a.size : Int) + b.size := by omega
      clear hgo hsum eaw
      go_enter Tryz.func7, Tryz.ntmps7
      go_wp2_with (first
        | (go_at_call 10; (with_reducible refine Calls.mono (CA.out _ hq3.out) ?_); rintro ee V4 ⟨rfl, hb4⟩; have hq4 := Lib.hid (hq3.out.trans hb4))
        | (go_at_call 8; (with_reducible refine Calls.mono (C1.out _ (Bel.refl _)) ?_); intro ee V1 h1; obtain ⟨A1, c1, rfl, hT1, hb1, -, -, -⟩ := tok_out h1; clear h1; replace hT1 := Lib.hid hT1; have hq1 := Lib.hid (hb1))
        | (go_at_call 8; (with_reducible refine Calls.mono (C2.out _ hq1.out) ?_); intro ee V2 h2; obtain ⟨A2, c2, rfl, hT2, hb2, -, -, -⟩ := tok_out h2; clear h2; replace hT2 := Lib.hid hT2; have hq2 := Lib.hid (hq1.out.trans hb2))
        | (go_at_call 10; (with_reducible refine Calls.mono (CA.out _ (by first | with_reducible exact hq3.out | with_reducible exact hq2.out)) ?_); rintro ee V3 ⟨rfl, hb3⟩; have hq3 := Lib.hid (hq2.out.trans hb3)))
      go_ret
      exact ⟨rfl, hq4.out⟩
end Go.Proofs.YtofcjdbodhoacaaGreatDoor
