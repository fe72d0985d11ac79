import Derived.Test.YtofcjdbodhoacaaGreatDoorLzi
namespace Go.Proofs.YtofcjdbodhoacaaGreatDoor
set_option linter.unusedSimpArgs false
set_option linter.unusedVariables false
open Go.RowKit

/-! The law Back. -/
theorem Reads.ter {w : List UInt8} {t u : Tok} (h : Reads w t) (e : ters t = ters u) : Reads w u := by
  intro y hy
  obtain ⟨t', h1, h2⟩ := h y hy
  exact ⟨t', h1, h2.trans e⟩
theorem digs_form (n : Nat) : ∃ c a, Lib.decDigits n = c :: a ∧ fgB c = true ∧ ∀ b ∈ a, fgB b = true := by
  have h := dec_digB n
  unfold digB at h
  rw [Bool.and_eq_true] at h
  obtain ⟨h1, h2⟩ := h
  have h1 : ∀ c ∈ Lib.decDigits n, dB c = true := by
    unfold dOk at h1
    exact List.all_eq_true.1 h1
  cases hd : Lib.decDigits n with
  | nil => rw [hd] at h2; simp at h2
  | cons c a =>
    rw [hd] at h1
    exact ⟨c, a, rfl, h1 c (by simp), fun b hb => h1 b (by simp [hb])⟩
theorem txt_num (x s : Nat) : NumW (txtL false x s) := by
  obtain ⟨c, a, h1, h2, h3⟩ := digs_form (x / P10 s)
  have e : txtL false x s = Lib.decDigits (x / P10 s) ++ (if s = 0 then [] else 46 :: padL s (x % P10 s)) := rfl
  by_cases hs : s = 0
  · rw [e, if_pos hs, List.append_nil, h1]
    exact ⟨c, a, h2, h3, .inl rfl⟩
  · rw [e, if_neg hs, h1]
    have hk : dOk (padL s (x % P10 s)) = true := pad_ok _ _
    have hl := pad_len s (x % P10 s) (Nat.mod_lt _ (P10_pos s)) (by omega)
    have hall : ∀ c ∈ padL s (x % P10 s), dB c = true := by
      unfold dOk at hk
      exact List.all_eq_true.1 hk
    cases hp : padL s (x % P10 s) with
    | nil => rw [hp] at hl; simp at hl; omega
    | cons d b =>
      rw [hp] at hall
      exact ⟨c, a, h2, h3, .inr ⟨d, b, hall d (by simp), fun u hu => hall u (by simp [hu]), rfl⟩⟩
theorem decP_text (n s : Int) (h : SndD n s) (h0 : 0 ≤ n) : decP (txtL false n.natAbs s.toNat) = (n, s, 0) := by
  have h1 := parse_text n s h
  rw [show decide (n < 0) = false from decide_eq_false (by omega)] at h1
  have h2 := parse_is (txtL false n.natAbs s.toNat)
  rw [h1] at h2
  simp only [Value.tuple.injEq, Array.mk.injEq, List.cons.injEq, Value.agg.injEq, Value.int.injEq, true_and, and_true] at h2
  obtain ⟨⟨h3, h4⟩, h5⟩ := h2
  have h5 : (decP (txtL false n.natAbs s.toNat)).2.2 = 0 := by omega
  exact Prod.ext h3.symm (Prod.ext h4.symm h5)
theorem dayP_text (n : Int) (h1 : 0 ≤ n) (h2 : n ≤ 3652058) : dayP (dtx n).data.toList = (n, 0) := by
  have h := (back n h1 h2).2.2.2.1
  have h3 := day_is (dtx n).data.toList
  rw [bytesOf_data, h] at h3
  simp only [Value.tuple.injEq, Array.mk.injEq, List.cons.injEq, Value.int.injEq, true_and, and_true] at h3
  exact Prod.ext h3.1.symm (by have := h3.2; show (dayP (dtx n).data.toList).2 = 0; omega)
theorem reads_sound {t : Tok} (h : tsnd t = true) : Reads (wrT t) t := by
  rcases snd_parts h with ⟨h1, h2, h3, h4, h5⟩ | ⟨h1, h2, h3, h4, h5⟩ | ⟨h1, h2, h3, h4, h5, h6⟩ | ⟨h1, h2, h3, h4, h5⟩ | ⟨h1, h2, h3, h4, h5⟩
  · have e : wrT t = txtL false t.dn.natAbs t.ds.toNat := by
      unfold wrT
      rw [if_pos h1, decide_eq_false (by omega)]
    rw [e]
    exact (reads_num _ _ _ (txt_num _ _) (decP_text _ _ h4 h5)).ter (by obtain ⟨k, p, x, a, b, d⟩ := t; simp only at h1 h2 h3; subst h1 h2 h3; rfl)
  · have e : wrT t = 34 :: (t.text.flatMap qB ++ [34]) := by
      unfold wrT
      rw [if_neg (by rw [h1]; decide), if_pos h1]
      rfl
    rw [e]
    exact (reads_str _ h5).ter (by obtain ⟨k, p, x, a, b, d⟩ := t; simp only at h1 h2 h3 h4; subst h1 h2 h3 h4; rfl)
  · have e : wrT t = 64 :: 34 :: ((dtx t.day).data.toList ++ [34]) := by
      unfold wrT
      rw [if_neg (by rw [h1]; decide), if_neg (by rw [h1]; decide), if_pos h1, dtx_quo]
      rfl
    rw [e]
    exact (reads_day _ _ (dayP_text _ h5 h6) (fun c hc => ((day_form (by rw [dayP_text _ h5 h6])).2 c hc).1)).ter (by obtain ⟨k, p, x, a, b, d⟩ := t; simp only at h1 h2 h3 h4; subst h1 h2 h3 h4; rfl)
  · have e : wrT t = t.text := by
      unfold wrT
      rw [if_neg (by rw [h1]; decide), if_neg (by rw [h1]; decide), if_neg (by rw [h1]; decide)]
    rw [e]
    obtain ⟨_, c, u, g1, g2, g3⟩ := nm_form h5
    exact (reads_name _ c u g1 g2 g3 h5).ter (by obtain ⟨k, p, x, a, b, d⟩ := t; simp only at h1 h2 h3 h4; subst h1 h2 h3 h4; rfl)
  · have e : wrT t = t.text := by
      unfold wrT
      rw [if_neg (by rw [h1]; decide), if_neg (by rw [h1]; decide), if_neg (by rw [h1]; decide)]
    rw [e]
    obtain ⟨g1, g2⟩ := (sig_mem t.text).2 h5
    exact (reads_sign _ g2 g1).ter (by obtain ⟨k, p, x, a, b, d⟩ := t; simp only at h1 h2 h3 h4; subst h1 h2 h3 h4; rfl)
theorem join_cases (ts : List Tok) : (∃ e, e ≠ 0 ∧ joinS ts = ([], e)) ∨ (ts.all tsnd = true ∧ (joinL (ts.map wrT)).length ≤ 65536 ∧ joinS ts = (joinL (ts.map wrT), 0)) := by
  unfold joinS
  by_cases h : ts.all tsnd = true
  · rw [if_pos h]
    by_cases h2 : 65536 < (joinL (ts.map wrT)).length
    · rw [if_pos h2]
      exact .inl ⟨10, by decide, rfl⟩
    · rw [if_neg h2]
      exact .inr ⟨h, by omega, rfl⟩
  · rw [if_neg h]
    exact .inl ⟨2, by decide, rfl⟩
theorem join_reads {ts : List Tok} (h : ts.all tsnd = true) (hl : (joinL (ts.map wrT)).length ≤ 65536) : ∃ ns, tokS (bytesOf (joinL (ts.map wrT))) = (ns, 0, 0) ∧ ns.map ters = ts.map ters := by
  obtain ⟨ns, h1, h2⟩ := join_run wrT ts (fun t ht => reads_sound (List.all_eq_true.1 h t ht)) 0
  exact ⟨ns, tokS_of (by rw [bytesOf_size]; exact hl) (by rw [bytes_toList]; exact h1), h2⟩
set_option maxRecDepth 100000 in
set_option maxHeartbeats 16000000 in
theorem law_Back (ts : List Tok) (A : Option Addr) (c : Nat) (w : World) (hT : Toks w A ts) (hg : ∀ t ∈ ts, t.text.length ≤ 9223372036854775807) (hl : ts.length ≤ 9223372036854775807) (hlc : ts.length ≤ c) (hc : c ≤ 9223372036854775807) (ht : Tab w) (hm : Mx w) : Calls Tryz.prog 5 #[.slice A ts.length c] w fun e w' => e = .returned (.bool true) ∧ Bel w w' := by
  have CA := Lib.hid fun W (hW : Bel w W) => awake_T W (ht.keep hW) (hm.keep hW)
  have CT := Lib.hid fun (z : ByteArray) (hz : z.size ≤ 65536) W (hW : Bel w W) => xtokens_any z (by omega) W (hm.keep hW)
  have li : (ts.length : Int) ≤ 9223372036854775807 := by omega
  have lci : (ts.length : Int) ≤ c := by omega
  by_cases h3 : 300 < ts.length
  · have h3i : (300 : Int) < ts.length := by omega
    have c3 : (300 : Int) ≤ c := by omega
    have hul : (ts.take 300).length = 300 := by rw [List.length_take]; omega
    have CJ := Lib.hid (show Calls Tryz.prog 14 #[.slice A 300 c] w fun e w' => e = .returned (joinV (ts.take 300)) ∧ Bel w w' from by
      have := xjoin_any (ts.take 300) A c w (hT.take 300) (fun t h => hg t (List.mem_of_mem_take h)) (by omega) ht hm
      rwa [hul] at this)
    have CS := Lib.hid fun (ns : List Tok) A' c' W (hW : Bel w W) (h : ns.length ≤ 1000000) (h1 : Toks W A' ns) => same_any ns (ts.take 300) A' A c' c false W h1 ((hT.take 300).keep hW) (by omega) (by omega)
    rw [hul] at CS
    generalize ts.take 300 = us at *
    clear hT hg ht hm h3
    have HUL := Lib.hid hul
    clear hul
    rcases join_cases us with ⟨e, he, hj⟩ | ⟨k1, k2, hj⟩
    · unfold joinV at CJ
      rw [hj] at CJ
      simp only at CJ
      have he' : ¬ (e : Int) = 0 := by omega
      clear hj he
      go_enter Tryz.func5, Tryz.ntmps5
      go_wp2_with (first
        | (go_at_call 14; (with_reducible refine Calls.mono CJ.out ?_); rintro ee V1 ⟨rfl, hb1⟩; have hq1 := Lib.hid hb1)
        | (go_at_call 10; (with_reducible refine Calls.mono (CA.out _ hq2.out) ?_); rintro ee V3 ⟨rfl, hb3⟩; have hq3 := Lib.hid (hq2.out.trans hb3))
        | (go_at_call 10; (with_reducible refine Calls.mono (CA.out _ hq1.out) ?_); rintro ee V2 ⟨rfl, hb2⟩; have hq2 := Lib.hid (hq1.out.trans hb2)))
      go_ret
      exact ⟨rfl, hq3.out⟩
    · obtain ⟨ns, n1, n2⟩ := join_reads k1 k2
      unfold joinV at CJ
      rw [hj] at CJ
      simp only at CJ
      have CT := Lib.hid fun W (hW : Bel w W) => CT.out (bytesOf (joinL (us.map wrT))) (by rw [bytesOf_size]; exact k2) W hW
      have hnl := (len_toks (bytesOf (joinL (us.map wrT)))).2
      rw [n1] at CT hnl
      simp only at hnl
      have SM := Lib.hid (show sameB false ns us = true from by unfold sameB; simp [n2])
      have CS := Lib.hid fun A' c' W (hW : Bel w W) (h1 : Toks W A' ns) => CS.out ns A' c' W hW (by omega) h1
      rw [SM.out] at CS
      generalize bytesOf (joinL (us.map wrT)) = z at CJ CT
      clear hj n1 n2 k1 k2 hnl
      go_enter Tryz.func5, Tryz.ntmps5
      go_wp2_with (first
        | (go_at_call 14; (with_reducible refine Calls.mono CJ.out ?_); rintro ee V1 ⟨rfl, hb1⟩; have hq1 := Lib.hid hb1)
        | (go_at_call 10; (with_reducible refine Calls.mono (CA.out _ hq1.out) ?_); rintro ee V2 ⟨rfl, hb2⟩; have hq2 := Lib.hid (hq1.out.trans hb2))
        | (go_at_call 8; (with_reducible refine Calls.mono (CT.out _ hq2.out) ?_); intro ee V3 h3; obtain ⟨A3, c3, rfl, hT3, hb3, -, -, -⟩ := tok_out h3; clear h3; replace hT3 := Lib.hid hT3; have hq3 := Lib.hid (hq2.out.trans hb3))
        | (go_at_call 11; (with_reducible refine Calls.mono (CS.out _ _ _ hq3.out hT3.out) ?_); rintro ee V4 ⟨rfl, hb4⟩; have hq4 := Lib.hid (hq3.out.trans hb4)))
      go_ret
      exact ⟨rfl, hq4.out⟩
  · have h3i : (ts.length : Int) ≤ 300 := by omega
    have CJ := Lib.hid (show Calls Tryz.prog 14 #[.slice A ts.length c] w fun e w' => e = .returned (joinV ts) ∧ Bel w w' from xjoin_any ts A c w hT hg (by omega) ht hm)
    have CS := Lib.hid fun (ns : List Tok) A' c' W (hW : Bel w W) (h : ns.length ≤ 1000000) (h1 : Toks W A' ns) => same_any ns ts A' A c' c false W h1 (hT.keep hW) (by omega) (by omega)
    obtain ⟨us, hus⟩ : ∃ us, us = ts := ⟨_, rfl⟩
    rw [← hus] at CJ CS
    have hul : us.length = ts.length := by rw [hus]
    rw [hul] at CJ CS
    clear hT hg ht hm h3 hus
    have HUL := Lib.hid hul
    clear hul
    rcases join_cases us with ⟨e, he, hj⟩ | ⟨k1, k2, hj⟩
    · unfold joinV at CJ
      rw [hj] at CJ
      simp only at CJ
      have he' : ¬ (e : Int) = 0 := by omega
      clear hj he
      go_enter Tryz.func5, Tryz.ntmps5
      go_wp2_with (first
        | (go_at_call 14; (with_reducible refine Calls.mono CJ.out ?_); rintro ee V1 ⟨rfl, hb1⟩; have hq1 := Lib.hid hb1)
        | (go_at_call 10; (with_reducible refine Calls.mono (CA.out _ hq2.out) ?_); rintro ee V3 ⟨rfl, hb3⟩; have hq3 := Lib.hid (hq2.out.trans hb3))
        | (go_at_call 10; (with_reducible refine Calls.mono (CA.out _ hq1.out) ?_); rintro ee V2 ⟨rfl, hb2⟩; have hq2 := Lib.hid (hq1.out.trans hb2)))
      go_ret
      exact ⟨rfl, hq3.out⟩
    · obtain ⟨ns, n1, n2⟩ := join_reads k1 k2
      unfold joinV at CJ
      rw [hj] at CJ
      simp only at CJ
      have CT := Lib.hid fun W (hW : Bel w W) => CT.out (bytesOf (joinL (us.map wrT))) (by rw [bytesOf_size]; exact k2) W hW
      have hnl := (len_toks (bytesOf (joinL (us.map wrT)))).2
      rw [n1] at CT hnl
      simp only at hnl
      have SM := Lib.hid (show sameB false ns us = true from by unfold sameB; simp [n2])
      have CS := Lib.hid fun A' c' W (hW : Bel w W) (h1 : Toks W A' ns) => CS.out ns A' c' W hW (by omega) h1
      rw [SM.out] at CS
      generalize bytesOf (joinL (us.map wrT)) = z at CJ CT
      clear hj n1 n2 k1 k2 hnl
      go_enter Tryz.func5, Tryz.ntmps5
      go_wp2_with (first
        | (go_at_call 14; (with_reducible refine Calls.mono CJ.out ?_); rintro ee V1 ⟨rfl, hb1⟩; have hq1 := Lib.hid hb1)
        | (go_at_call 10; (with_reducible refine Calls.mono (CA.out _ hq1.out) ?_); rintro ee V2 ⟨rfl, hb2⟩; have hq2 := Lib.hid (hq1.out.trans hb2))
        | (go_at_call 8; (with_reducible refine Calls.mono (CT.out _ hq2.out) ?_); intro ee V3 h3; obtain ⟨A3, c3, rfl, hT3, hb3, -, -, -⟩ := tok_out h3; clear h3; replace hT3 := Lib.hid hT3; have hq3 := Lib.hid (hq2.out.trans hb3))
        | (go_at_call 11; (with_reducible refine Calls.mono (CS.out _ _ _ hq3.out hT3.out) ?_); rintro ee V4 ⟨rfl, hb4⟩; have hq4 := Lib.hid (hq3.out.trans hb4)))
      go_ret
      exact ⟨rfl, hq4.out⟩
end Go.Proofs.YtofcjdbodhoacaaGreatDoor
