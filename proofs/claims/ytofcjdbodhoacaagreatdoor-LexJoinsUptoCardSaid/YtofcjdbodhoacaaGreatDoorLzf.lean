import Derived.Test.YtofcjdbodhoacaaGreatDoorLze
namespace Go.Proofs.YtofcjdbodhoacaaGreatDoor
set_option linter.unusedSimpArgs false
set_option linter.unusedVariables false
open Go.RowKit

/-! The document's tokens. -/
theorem TkRows.made {w0 w : World} (h : Bel w0 w) : TkRows (w.alloc (.cells #[] 38)) w0.heap.size (.slice (some ⟨w.heap.size, 0, none⟩) 0 0) [] :=
  World.ownsRow_made w #[] 0 h.size (by simp [maxLen]) rfl
theorem Run.white {L l t : List UInt8} {c : UInt8} {ms : List Tok} (h : Run 0 L ms l) (hl : l = c :: t) (hc : wsB c = true) : Run 0 L ms t := by
  have hs : stepT l = .ok t none := by rw [hl, stepT_cons, if_pos hc]
  have h2 := h.trans (Run.cons hs (Run.nil _ t))
  rw [show ms ++ (optT (0 + (L.length - l.length)) none ++ []) = ms by simp [optT]] at h2
  exact h2
set_option maxRecDepth 100000 in
set_option maxHeartbeats 8000000 in
theorem rtokens_any (s : ByteArray) (hsz : s.size ≤ 9223372036854775807) (w : World) :
    Calls Tryz.prog 9 #[.string s] w (TokOut w (tokS s)) := by
  have i2 : (s.size : Int) ≤ 9223372036854775807 := by omega
  by_cases hbig : 65536 < s.size
  · have TS := Lib.hid (show tokS s = ([], 0, 10) from by unfold tokS; rw [if_pos hbig])
    have hb1 : (65536 : Int) < s.size := by omega
    clear hbig
    go_enter Tryz.func9, Tryz.ntmps9
    go_wp2_with fail
    go_ret3
    rw [TS.out]
    exact ⟨Bel.refl _, _, rfl, TkRows.nil _ _⟩
  · have hs : s.size ≤ 65536 := by omega
    have hsi : (s.size : Int) ≤ 65536 := by omega
    clear hbig
    have TSO := Lib.hid fun ms (h : Run 0 s.data.toList ms []) => tokS_of hs h
    have TSB := Lib.hid fun ms l2 e (h : Run 0 s.data.toList ms l2) hl hb => tokS_bad (e := e) hs h hl hb
    have HSZ := Lib.hid hs
    have CW := Lib.hid fun (p : Nat) (h : p < s.size) W => rwhite_any (s[p]'h) W
    have CO := Lib.hid fun (p : Nat) (h : p < s.size) W => xone_any s hs p h W
    generalize tokS s = TS at TSO TSB ⊢
    go_enter Tryz.func9, Tryz.ntmps9
    go_wp2_with fail
    go_loopg [5, 6] (s.size + 1) (fun g lv av wr => ∃ (p : Nat) (ms : List Tok) (A : Option Addr) (c : Nat), lv = .slice A ms.length c ∧ av = .int .i64 p ∧ p ≤ s.size ∧ ms.length ≤ p ∧ Hid (s.size + 1 - p ≤ g) ∧ Hid (Run 0 s.data.toList ms (s.data.toList.drop p)) ∧ Hid (TkRows wr w.heap.size (.slice A ms.length c) ms) ∧ Hid (Bel w wr))
    case atStart => exact ⟨0, [], some ⟨w.heap.size, 0, none⟩, 0, rfl, rfl, Nat.zero_le _, Nat.zero_le _, Lib.hid (by omega), Lib.hid (Run.nil _ _), Lib.hid (TkRows.made (Bel.refl w)), Lib.hid ((Bel.refl w).alloc _)⟩
    case round =>
      obtain ⟨p, ms, A, c, rfl, rfl, hp, hml, hg, hR, hT, hb⟩ := hrel
      have p0 : (0 : Int) ≤ (p : Int) := by omega
      have hpi : (p : Int) ≤ s.size := by omega
      by_cases hlt : p < s.size
      · have hlti : (p : Int) < s.size := by omega
        have hd := drop_at s p hlt
        have w1 : IntKind.i64.wrap ((p : Int) + 1) = (p : Int) + 1 := by rw [IntKind.wrap_i64]; omega
        have CW1 := Lib.hid fun W => CW.out p hlt W
        cases hw : wsB s[p] with
        | true =>
          rw [hw] at CW1
          have RN := Lib.hid (hR.out.white hd hw)
          clear hd hw
          go_wp2_with (go_at_call 18; (with_reducible refine Calls.mono (CW1.out _) ?_); rintro e W1 ⟨rfl, rfl⟩)
          go_roundg (s.size + 1 - (p + 1))
          case measure => have := hg.out; omega
          case rel => exact ⟨p + 1, ms, A, c, rfl, by go_num, by omega, by omega, Lib.hid (Nat.le_refl _), RN, hT, hb⟩
        | false =>
          rw [hw] at CW1
          have hst : stepT (s.data.toList.drop p) = firT s[p] (s.data.toList.drop p) := by
            conv => lhs; rw [hd]
            rw [stepT_cons, if_neg (by rw [hw]; simp), ← hd]
          have CF := Lib.hid fun W => CO.out p hlt W
          cases hf : firT s[p] (s.data.toList.drop p) with
          | bad er =>
            have hbad := TSB.out ms (s.data.toList.drop p) er hR.out (by rw [hd]; simp) (by rw [hst, hf])
            have he0 := firT_err hf
            rw [List.length_drop, size_list, show s.size - (s.size - p) = p by omega] at hbad
            obtain rfl := hbad
            rw [hf] at CF
            have he1 : ¬ (er : Int) = 0 := by omega
            clear hd hw hst hf he0
            go_wp2_with (first
              | (go_at_call 18; (with_reducible refine Calls.mono (CW1.out _) ?_); rintro e W1 ⟨rfl, rfl⟩)
              | (go_at_call 19; (with_reducible refine Calls.mono (CF.out _) ?_); rintro e W2 ⟨⟨ek, eq, ex, ea, eb, ed, en, rfl⟩, hb2⟩))
            go_ret3
            refine ⟨?_, _, rfl, TkRows.nil _ _⟩
            have hq := hb.out.trans hb2
            (repeat (first | with_reducible exact Bel.refl _ | with_reducible refine Bel.setCell ?_ (by first | exact Nat.le_refl _ | (dsimp only; omega)) _ | with_reducible refine Bel.alloc ?_ _ | with_reducible refine Bel.drew ?_ | with_reducible assumption | with_reducible refine Bel.trans ?_ (by assumption)))
          | ok r m =>
            obtain ⟨t, rfl⟩ := firT_some hf
            obtain ⟨q, hq, hqn⟩ := step_suf (hst.trans hf)
            have hql := congrArg List.length hq
            rw [List.length_append, List.length_drop, size_list] at hql
            have hq1 := List.length_pos_iff.2 hqn
            have hdr : s.data.toList.drop (p + q.length) = r := by rw [← List.drop_drop, hq]; simp
            have RN := Lib.hid (hR.out.snoc (hst.trans hf))
            rw [List.length_drop, size_list, show s.size - (s.size - p) = p by omega] at RN
            rw [hf] at CF
            unfold OneP at CF
            simp only at CF
            rw [show s.size - r.length = p + q.length by omega] at CF
            obtain ⟨p', hp'⟩ : ∃ p', p' = p + q.length := ⟨_, rfl⟩
            rw [← hp'] at CF hdr
            have HD := Lib.hid hdr
            have hpp : p < p' ∧ p' ≤ s.size := by omega
            clear hd hw hst hf hq hql hq1 hqn hdr hp'
            obtain ⟨tk, tp, tx, ta, tb, td⟩ := t
            simp only at CF RN
            have AP := Lib.hid fun W (hW : Bel wr W) ty => app_tok (hT.out.keep hW) (Nat.le_trans hb.out.size hW.size) (by omega) ⟨tk, p, tx, ta, tb, td⟩ ty
            go_upto_region 11 with (first
              | (go_at_call 18; (with_reducible refine Calls.mono (CW1.out _) ?_); rintro e W1 ⟨rfl, rfl⟩)
              | (go_at_call 19; (with_reducible refine Calls.mono (CF.out _) ?_); rintro e W2 ⟨rfl, hb2⟩))
            refine under_name (w0 := W2) (by (repeat (first | with_reducible exact Bel.refl _ | with_reducible refine Bel.setCell ?_ (by first | exact Nat.le_refl _ | (dsimp only; omega)) _ | with_reducible refine Bel.alloc ?_ _ | with_reducible refine Bel.drew ?_ | with_reducible assumption | with_reducible refine Bel.trans ?_ (by assumption)))) fun W5 hc hf hz hb5 => ?_
            have T : TSlot W5 W2.heap.size ⟨tk, p, tx, ta, tb, td⟩ := by simp [TSlot, hc, hf, hz, go_sem]
            clear hc hf hz
            generalize W2.heap.size = N at T ⊢
            have hq5 := Lib.hid (hb2.trans hb5)
            clear hb5 hb2
            obtain ⟨s0, ⟨s1, s2, s3, s4, s5, s6⟩, ⟨f1, f2, f3, f4, f5, f6⟩⟩ := T
            simp only at s1 s2 s3 s4 s5 s6
            go_wp2_with (at_builtin; refine wpList_app rfl (.tmp 35) (.tmp 37) _ rfl (AP.out _ hq5.out _) ?_; rintro v' w4 ⟨M4, B4⟩; obtain ⟨A4, k4, rfl, _, _⟩ := M4.val; have M4 := Lib.hid M4; have B4 := Lib.hid B4)
            go_roundg (s.size + 1 - p')
            case measure => have := hg.out; omega
            case rel =>
              have hbel : Bel w w4 := but_belT (hb.out.trans hq5.out) (hT.out.keep hq5.out) B4.out
              refine ⟨p', ms ++ [⟨tk, p, tx, ta, tb, td⟩], A4, k4, by rw [List.length_append]; rfl, rfl, hpp.2, by rw [List.length_append]; simp; omega, Lib.hid (Nat.le_refl _), Lib.hid (by rw [HD.out]; exact RN.out), M4, Lib.hid hbel⟩
      · obtain rfl : p = s.size := by omega
        have hend : s.data.toList.drop s.size = [] := List.drop_of_length_le (by rw [size_list]; exact Nat.le_refl _)
        have h := TSO.out ms (by rw [← hend]; exact hR.out)
        obtain rfl := h
        clear hend
        go_wp2_with fail
        go_ret3
        exact ⟨hb.out, _, rfl, hT.out⟩
end Go.Proofs.YtofcjdbodhoacaaGreatDoor
