import Derived.Test.YtjckpkamhdbcnaaGreatDoorLxm
namespace Go.Proofs.YtjckpkamhdbcnaaGreatDoor
set_option linter.unusedSimpArgs false
set_option linter.unusedVariables false
open Go.RowKit
/-! All tokens read. -/
def TokOut (w : World) (x : List Tok × Nat × Nat) (e : Ending) (w' : World) : Prop :=
 Bel w w' ∧ ∃ v, e = .returned (.tuple #[v, .int .i64 x.2.1, .int .i64 x.2.2]) ∧ TkRows w' w.heap.size v x.1
theorem skip0 (s : ByteArray) (hs : s.size ≤ 65536) (w : World) : Calls Tryz.prog 88 #[.string s, .int .i64 0] w fun e w' => e = .returned (.int .i64 ((s.size - (s.data.toList.dropWhile wsB).length : Nat) : Int)) ∧ Bel w w' := xskip_any s 0 (Nat.zero_le _) hs w
theorem skip_drop (s : ByteArray) (p : Nat) (hp : p ≤ s.size) : s.data.toList.drop (s.size - ((s.data.toList.drop p).dropWhile wsB).length) = (s.data.toList.drop p).dropWhile wsB := by
 have h1 := tw_lens wsB (s.data.toList.drop p)
 rw [List.length_drop, size_list] at h1
 have h2 := drop_tw wsB (s.data.toList.drop p)
 rw [List.drop_drop] at h2
 rw [show s.size - ((s.data.toList.drop p).dropWhile wsB).length = p + ((s.data.toList.drop p).takeWhile wsB).length by omega]
 exact h2
theorem head_not (x : List UInt8) : ∀ c t, x.dropWhile wsB = c :: t → wsB c = false := by
 intro c t h
 rcases (span_is wsB x).2.2 with h1 | ⟨d, u, h1, h2⟩
 ·rw [h1] at h; cases h
 ·rw [h1] at h
  cases h
  exact h2
set_option maxRecDepth 100000 in
set_option maxHeartbeats 8000000 in
theorem xtokens_any (s : ByteArray) (hsz : s.size ≤ 9223372036854775807) (w : World) (hm : Mx w) :
  Calls Tryz.prog 62 #[.string s] w (TokOut w (tokS s)) := by
 have i2 : (s.size : Int) ≤ 9223372036854775807 := by omega
 by_cases hbig : 65536 < s.size
 ·have TS := Lib.hid (show tokS s = ([], 0, 10) from by unfold tokS; rw [if_pos hbig])
  have hb1 : (65536 : Int) < s.size := by omega
  clear hbig
  go_enter Tryz.func62, Tryz.ntmps62
  go_wp2_with fail
  go_ret3
  rw [TS.out]
  exact ⟨Bel.refl _, _, rfl, TkRows.nil _ _⟩
 ·have hs : s.size ≤ 65536 := by omega
  have hsi : (s.size : Int) ≤ 65536 := by omega
  have C0 := Lib.hid fun W => skip0 s hs W
  have HM := Lib.hid hm
  obtain ⟨a0, ha0⟩ : ∃ a0, a0 = s.size - (s.data.toList.dropWhile wsB).length := ⟨_, rfl⟩
  rw [← ha0] at C0
  have hd0 := skip_drop s 0 (Nat.zero_le _)
  rw [List.drop_zero, ← ha0] at hd0
  have D0 := Lib.hid hd0
  have ha0' : a0 ≤ s.size := by omega
  clear hbig hm ha0 hd0
  have TSO := Lib.hid fun ms (h : Run 0 s.data.toList ms []) => tokS_of hs h
  have TSB := Lib.hid fun ms l2 e (h : Run 0 s.data.toList ms l2) hl hb => tokS_bad (e := e) hs h hl hb
  have HSZ := Lib.hid hs
  generalize tokS s = TS at TSO TSB ⊢
  go_enter Tryz.func62, Tryz.ntmps62
  go_wp2_with (go_at_call 88; refine (C0.out _).mono ?_; rintro e W0 ⟨rfl, hb0⟩)
  go_loopg [5, 6] (s.size + 1) (fun g lv av wr => ∃ (p : Nat) (ms : List Tok) (A : Option Addr) (c : Nat), lv = .slice A ms.length c ∧ av = .int .i64 p ∧ p ≤ s.size ∧ ms.length ≤ p ∧ Hid (s.size + 1 - p ≤ g) ∧ Hid (Run 0 s.data.toList ms (s.data.toList.drop p)) ∧ Hid (∀ c t, s.data.toList.drop p = c :: t → wsB c = false) ∧ Hid (TkRows wr w.heap.size (.slice A ms.length c) ms) ∧ Hid (Bel w wr))
  case atStart => exact ⟨a0, [], none, 0, rfl, rfl, ha0', Nat.zero_le _, Lib.hid (by omega), Lib.hid (by rw [D0.out]; exact Run.ws 0 _), Lib.hid (by rw [D0.out]; exact head_not _), Lib.hid (TkRows.nil _ _), Lib.hid hb0⟩
  case round =>
   obtain ⟨p, ms, A, c, rfl, rfl, hp, hml, hg, hR, hH, hT, hb⟩ := hrel
   have p0 : (0 : Int) ≤ (p : Int) := by omega
   have hpi : (p : Int) ≤ s.size := by omega
   by_cases hlt : p < s.size
   ·have hlti : (p : Int) < s.size := by omega
    have hd := drop_at s p hlt
    have hw := hH.out _ _ hd
    obtain ⟨z, hz⟩ : ∃ z, z = s.extract p s.size := ⟨_, rfl⟩
    have hzl : z.data.toList = s.data.toList.drop p := by rw [hz, ext_end]
    have hzs : z.size = s.size - p := by rw [hz, ext_size]
    have hz0 : 0 < z.size := by omega
    have hzc : z[0] = s[p] := by
     have e1 := drop_at z 0 hz0
     rw [List.drop_zero, hzl, hd] at e1
     exact (List.cons.inj e1).1.symm
    have CF := Lib.hid fun W (hW : Bel w W) => xfirst_any z (by omega) hz0 W (HM.out.keep hW)
    rw [hzc, hzl] at CF
    have ZE := Lib.hid hz
    have hst : stepT (s.data.toList.drop p) = firT s[p] (s.data.toList.drop p) := by
     conv => lhs; rw [hd]
     rw [stepT_cons, if_neg (by rw [hw]; simp), ← hd]
    cases hf : firT s[p] (s.data.toList.drop p) with
    | bad er =>
     have hbad := TSB.out ms (s.data.toList.drop p) er hR.out (by rw [hd]; simp) (by rw [hst, hf])
     have he0 := firT_err hf
     rw [List.length_drop, size_list, show s.size - (s.size - p) = p by omega] at hbad
     obtain rfl := hbad
     rw [hf] at CF
     simp only [firV] at CF
     have he1 : ¬ (er : Int) = 0 := by omega
     clear hd hw hzl hzs hz0 hzc hz hst hf he0
     go_wp2_with (go_at_call 89; rw [← ZE.out]; refine (CF.out _ hb.out).mono ?_; rintro e W1 ⟨rfl, hb1⟩)
     go_ret3
     refine ⟨?_, _, rfl, TkRows.nil _ _⟩
     have hq := hb.out.trans hb1
     (with_reducible repeat first | exact Bel.refl _ | refine Bel.setCell ?_ (by first | exact Nat.le_refl _ | (dsimp only; omega)) _ | refine Bel.alloc ?_ _ | refine Bel.drew ?_ | assumption | refine Bel.trans ?_ (by assumption))
    | ok r m =>
     obtain ⟨t, rfl⟩ := firT_some hf
     obtain ⟨q, hq, hqn⟩ := step_suf (hst.trans hf)
     have hql := congrArg List.length hq
     rw [List.length_append, List.length_drop, size_list] at hql
     have hq1 := List.length_pos_iff.2 hqn
     have hdr : s.data.toList.drop (p + q.length) = r := by rw [← List.drop_drop, hq]; simp
     have RN := Lib.hid (hR.out.snoc (hst.trans hf)).skip
     rw [List.length_drop, size_list, show s.size - (s.size - p) = p by omega] at RN
     rw [hf] at CF
     simp only [firV] at CF
     rw [List.length_drop, size_list, show s.size - p - r.length = q.length by omega] at CF
     have hk2 : p + q.length ≤ s.size := by omega
     have CS := Lib.hid fun W => xskip_any s (p + q.length) hk2 HSZ.out W
     have SD := Lib.hid (skip_drop s (p + q.length) hk2)
     rw [hdr] at CS SD
     have HN := Lib.hid (head_not r)
     have hrl := tw_lens wsB r
     obtain ⟨p', hp'⟩ : ∃ p', p' = s.size - (r.dropWhile wsB).length := ⟨_, rfl⟩
     rw [← hp'] at CS SD
     have hpp : p < p' ∧ p' ≤ s.size := by omega
     have hwq : IntKind.i64.wrap ((p : Int) + (q.length : Int)) = (p : Int) + (q.length : Int) := by rw [IntKind.wrap_i64]; omega
     have hqi : (q.length : Int) + p ≤ s.size := by omega
     have CS2 := Lib.hid (show ∀ W, Calls Tryz.prog 88 #[.string s, .int .i64 ((p : Int) + (q.length : Int))] W fun e w' => e = .returned (.int .i64 (p' : Nat)) ∧ Bel W w' from fun W => by have := CS.out W; rwa [show (((p + q.length : Nat)) : Int) = (p : Int) + (q.length : Int) from by omega] at this)
     clear hd hw hzl hzs hz0 hzc hz hst hf hq hql hq1 hqn hdr CS hrl hp'
     obtain ⟨tk, tp, tx, ta, tb, td⟩ := t
     simp only at CF RN
     have AP := Lib.hid fun W (hW : Bel wr W) ty => app_tok (hT.out.keep hW) (Nat.le_trans hb.out.size hW.size) (by omega) ⟨tk, p, tx, ta, tb, td⟩ ty
     go_upto_region 10 with (go_at_call 89; rw [← ZE.out]; refine (CF.out _ hb.out).mono ?_; rintro e W1 ⟨rfl, hb1⟩)
     refine under_name (w0 := W1) (by (with_reducible repeat first | exact Bel.refl _ | refine Bel.setCell ?_ (by first | exact Nat.le_refl _ | (dsimp only; omega)) _ | refine Bel.alloc ?_ _ | refine Bel.drew ?_ | assumption | refine Bel.trans ?_ (by assumption))) fun W5 hc hf hz hb5 => ?_
     have T : TSlot W5 W1.heap.size ⟨tk, p, tx, ta, tb, td⟩ := by simp [TSlot, hc, hf, hz, go_sem]
     clear hc hf hz
     generalize W1.heap.size = N at T ⊢
     have hq5 := Lib.hid (hb1.trans hb5)
     clear hb5 hb1
     obtain ⟨s0, ⟨s1, s2, s3, s4, s5, s6⟩, ⟨f1, f2, f3, f4, f5, f6⟩⟩ := T
     simp only at s1 s2 s3 s4 s5 s6
     go_wp2_with (first
      | (at_builtin; refine wpList_app rfl (.tmp 33) (.tmp 35) _ rfl (AP.out _ hq5.out _) ?_; rintro v' w4 ⟨M4, B4⟩; obtain ⟨A4, k4, rfl, _, _⟩ := M4.val; have M4 := Lib.hid M4; have B4 := Lib.hid B4)
      | (go_at_call 88; refine (CS2.out _).mono ?_; rintro e W6 ⟨rfl, hb6⟩; have hb6 := Lib.hid hb6))
     go_roundg (s.size + 1 - p')
     case measure => have := hg.out; omega
     case rel =>
      have hbel : Bel w w4 := but_belT (hb.out.trans hq5.out) (hT.out.keep hq5.out) B4.out
      refine ⟨p', ms ++ [⟨tk, p, tx, ta, tb, td⟩], A4, k4, by rw [List.length_append]; rfl, rfl, hpp.2, by rw [List.length_append]; simp; omega, Lib.hid (Nat.le_refl _), Lib.hid (by rw [SD.out]; exact RN.out), Lib.hid (by rw [SD.out]; exact HN.out), Lib.hid (M4.out.keep hb6.out), Lib.hid (hbel.trans hb6.out)⟩
   ·obtain rfl : p = s.size := by omega
    have hend : s.data.toList.drop s.size = [] := List.drop_of_length_le (by rw [size_list]; exact Nat.le_refl _)
    have h := TSO.out ms (by rw [← hend]; exact hR.out)
    obtain rfl := h
    clear hend
    go_wp2_with fail
    go_ret3
    exact ⟨hb.out, _, rfl, hT.out⟩
end Go.Proofs.YtjckpkamhdbcnaaGreatDoor
