import Derived.Test.YtdggbafpdjenmaaGreatDoorUcv
import Derived.Test.YtdggbafpdjenmaaGreatDoorUnc
namespace Go.Proofs.YtdggbafpdjenmaaGreatDoor
set_option linter.unusedSimpArgs false
set_option linter.unusedVariables false
open Go.RowKit
/-! unary.Parse. -/
theorem valP_err {m : Int → Bool} {r q : List Tok} {f : Nat} (h : valP m r = .bad q f) : f = 5 := by
  unfold valP at h
  split at h
  · split at h
    · cases h; rfl
    · split at h
      · split at h
        · cases h; rfl
        · split at h
          · cases h
          · cases h; rfl
      · cases h; rfl
  · split at h
    · cases h; rfl
    · split at h
      · cases h; rfl
      · split at h
        · cases h
        · cases h; rfl
theorem intP_err {o : Bool} {r q : List Tok} {f : Nat} (h : intP o r = .bad q f) : f = 5 := by
  unfold intP at h
  split at h
  · rename_i h1; cases h; exact valP_err h1
  · split at h
    · split at h
      · rename_i h1; cases h; exact valP_err h1
      · split at h
        · cases h
        · split at h
          · cases h
          · cases h; rfl
    · cases h; rfl
theorem oneP_err {k : Int} {m : Int → Bool} {r q : List Tok} {f : Nat} (h : oneP k (valP m r) = .bad q f) : f = 5 := by
  unfold oneP at h
  split at h
  · rename_i h1; cases h; exact valP_err h1
  · cases h
theorem tstP_err {r q : List Tok} {f : Nat} (h : tstP r = .bad q f) : f = 5 := by
  unfold tstP at h
  repeat' split at h
  all_goals first | exact oneP_err h | exact intP_err h
theorem lstP_err : ∀ (n : Nat) (acc : List Tst) {r q : List Tok} {f : Nat}, lstP n acc r = .bad q f → f = 5 ∨ f = 10
  | 0, _, _, _, _, h => by cases h; exact .inr rfl
  | n + 1, acc, r, q, f, h => by
    unfold lstP at h
    split at h
    · rename_i h1; cases h; exact .inl (tstP_err h1)
    · split at h
      · split at h
        · cases h; exact .inr rfl
        · exact lstP_err n _ h
      · cases h
theorem endP_err {no : Bool} {p : PR (List Tst)} {q : List Tok} {f : Nat} (hp : ∀ q f, p = .bad q f → f = 5 ∨ f = 10) (h : endP no p = .bad q f) : f = 5 ∨ f = 10 := by
  unfold endP at h
  split at h
  · cases h; exact hp _ _ rfl
  · repeat' split at h
    all_goals first | (cases h; exact .inl rfl) | cases h
theorem whoP_err {r q : List Tok} {f : Nat} (h : whoP r = .bad q f) : f = 5 ∨ f = 10 := by
  unfold whoP at h
  split at h
  · split at h
    · exact endP_err (fun q f h => lstP_err 8 [] h) h
    · cases h; exact .inl rfl
  · exact endP_err (fun q f h => lstP_err 8 [] h) h
theorem plc_pos (s : ByteArray) (r : List Tok) : plcT s.size r = posT s.size r := by cases r <;> rfl
noncomputable def parR (n : Nat) (X : List Tok × Nat × Nat) : Uts × Int × Nat :=
  if X.2.2 = 0 then (match whoP X.1 with
    | .bad r e => (⟨false, false, []⟩, posT n r, e)
    | .ok (no, l) _ => (⟨false, no, l⟩, 0, 0))
  else (⟨false, false, []⟩, X.2.1, X.2.2)
/-- What Parse gives. -/
def ParOut (u : Uts × Int × Nat) (w : World) (r : Ending) (w' : World) : Prop :=
  ∃ (AA : Option Addr) (cc : Nat), r = .returned (.tuple #[.agg #[.bool u.1.any, .bool u.1.no, .slice AA u.1.list.length cc], .int .i64 u.2.1, .int .i64 u.2.2]) ∧ TsRows w' w.heap.size (.slice AA u.1.list.length cc) u.1.list ∧ Bel w w'
theorem TsRows.mono {w : World} {B B' : Nat} {v : Value} {l : List Tst} (h : TsRows w B v l) (hB : B' ≤ B) : TsRows w B' v l := by
  obtain ⟨h1, h2⟩ := h
  refine ⟨h1, ?_⟩
  rcases h2 with h2 | ⟨g, cap, cur, h3, h4, h5⟩
  · exact .inl h2
  · exact .inr ⟨g, cap, cur, h3, Nat.le_trans hB h4, h5⟩
theorem rows_tsts {w : World} {B n c : Nat} {A : Option Addr} {l : List Tst} (h : TsRows w B (.slice A n c) l) : Tsts w A l := by
  obtain ⟨A8, c8, e8, h8, _⟩ := TsRows.val h
  simp only [Value.slice.injEq] at e8
  rw [e8.1]
  exact h8
theorem rows_in {w : World} {B n c b o : Nat} {A : Option Addr} {l : List Tst} (h : TsRows w B (.slice A n c) l) (e : A = some ⟨b, o, none⟩) : B ≤ b ∧ b < w.heap.size := by
  subst e
  have := World.ownsRow.lt h b rfl
  exact ⟨this.1, this.2⟩
theorem run_len {p : Nat} {l l2 : List UInt8} {ms : List Tok} (h : Run p l ms l2) : ms.length + l2.length ≤ l.length := by
  induction h with
  | nil p l => simp
  | @cons p l r m ms l2 hs hr ih =>
    obtain ⟨q, hq, hqn⟩ := step_suf hs
    have hl := congrArg List.length hq
    rw [List.length_append] at hl
    have hq0 := List.length_pos_iff.2 hqn
    have hm : (optT p m).length ≤ 1 := by cases m <;> simp [optT]
    rw [List.length_append]
    omega
theorem toks_len (s : ByteArray) : (tokS s).1.length ≤ 65536 := by
  unfold tokS
  split
  · exact Nat.zero_le _
  · rename_i hn
    rcases toks_run (s.size + 1) 0 s.data.toList [] (by rw [size_l]; omega) with ⟨ns, h1, h2⟩ | ⟨ns, l2, e, h1, h2, h3, h4⟩
    · rw [h1]
      have := run_len h2
      rw [size_l] at this
      simp only [List.nil_append]
      omega
    · rw [h1]
      exact Nat.zero_le _
set_option maxRecDepth 100000 in
set_option maxHeartbeats 8000000 in
theorem uParse_any (s : ByteArray) (hs : s.size ≤ 9223372036854775807) (w : World) (hm : Mx w) :
    Calls Tryz.prog 9 #[.string s] w (ParOut (parU s) w) := by
  have CM := Lib.hid fun W => trim2_any s hs W
  have CN := Lib.hid fun W (hW : Bel w W) => new_any s hs W (hm.keep hW)
  by_cases ht : trimL s.data.toList = [45]
  · have hP := Lib.hid (show parU s = (⟨true, false, []⟩, 0, 0) from by unfold parU; rw [if_pos ht])
    rw [ht, show bytesOf [45] = (⟨#[45]⟩ : ByteArray) from rfl] at CM
    rw [hP.out]
    clear ht hs hm
    go_enter Tryz.func9, Tryz.ntmps9
    go_upto_region 1 with fail
    refine under_name ((Bel.refl w).alloc _) fun W hcc hf hz hb => ?_
    have T1 : UFree W w.heap.size false (.slice none 0 0) := by simp [UFree, hcc, hf, hz, go_sem]
    clear hcc hf hz
    generalize hN : w.heap.size = N at T1 ⊢
    have NW := Lib.hid (show w.heap.size ≤ N from by omega)
    clear hN
    go_upto_region 2 with (go_at_call 15; (with_reducible refine Calls.mono (CM.out _) ?_); rintro ee V1 ⟨rfl, hb1⟩; have K1 := Lib.hid (T1.keep hb1); have hq1 := Lib.hid (hb.trans hb1); clear hb1)
    obtain ⟨zn, ⟨n0, n1, n2⟩, ⟨k0, k1, k2⟩⟩ := K1.out
    go_wp2_with fail
    refine bodyPost_ret (v := .tuple #[.agg #[.bool true, .bool false, .slice none 0 0], .int .i64 0, .int .i64 0]) (by simp [results, Tryz.results9, go_sem, zn, n0, n1, n2]) rfl ⟨none, 0, rfl, TsRows.nil _ _, ?_⟩
    repeat (first | with_reducible exact hq1.out | refine Bel.setCell ?_ NW.out _)
  · have c0 : ((bytesOf (trimL s.data.toList)).toList == [45]) = false := by
      have t := beq_ne (a := bytesOf (trimL s.data.toList)) (b := bytesOf [45]) (fun e => ht (bytesOf_inj e))
      rwa [show (bytesOf [45]).toList = [45] from by decide +kernel] at t
    have hP := Lib.hid (show parU s = parR s.size (tokS s) from by unfold parU parR; rw [if_neg ht]; rfl)
    have KS := toks_snd s
    have KL := toks_len s
    generalize bytesOf (trimL s.data.toList) = z at CM c0
    have PP := Lib.hid (plc_pos s)
    generalize hsn : s.size = sn at CN hP PP hs
    clear ht hsn
    generalize hX : tokS s = X at CN hP KS KL
    clear hX
    obtain ⟨ts, wo, ez⟩ := X
    simp only at CN KS KL
    have KS := Lib.hid KS
    clear hm
    go_enter Tryz.func9, Tryz.ntmps9
    go_upto_region 1 with fail
    refine under_name ((Bel.refl w).alloc _) fun W hcc hf hz hb => ?_
    have T1 : UFree W w.heap.size false (.slice none 0 0) := by simp [UFree, hcc, hf, hz, go_sem]
    clear hcc hf hz
    generalize hN : w.heap.size = N at T1 ⊢
    have NW := Lib.hid (show w.heap.size ≤ N from by omega)
    clear hN
    go_upto_region 4 with (first
      | (go_at_call 15; (with_reducible refine Calls.mono (CM.out _) ?_); rintro ee V1 ⟨rfl, hb1⟩; have K1 := Lib.hid (T1.keep hb1); have hq1 := Lib.hid (hb.trans hb1); clear hb1)
      | (go_at_call 16; (with_reducible refine Calls.mono (CN.out _ hq1.out) ?_); rintro ee V2 ⟨A, c, rfl, hT2, hb2⟩; have K2 := Lib.hid (K1.out.keep hb2); have hq2 := Lib.hid (hq1.out.trans hb2); have KT2 := Lib.hid hT2; clear hb2 hT2))
    refine under_name (w0 := V2) (by (repeat (first | with_reducible exact Bel.refl _ | with_reducible refine Bel.setCell ?_ (by first | exact Nat.le_refl _ | (dsimp only; omega)) _ | with_reducible refine Bel.alloc ?_ _ | with_reducible refine Bel.drew ?_ | with_reducible assumption | with_reducible refine Bel.trans ?_ (by assumption)))) fun W3 hc hf hz hb3 => ?_
    have R3 : Rdc W3 V2.heap.size A ts.length c 0 sn wo ez := by simp [Rdc, hc, hf, hz, go_sem]
    clear hc hf hz
    have hNb : N < V2.heap.size := K2.out.1
    have hwb : w.heap.size ≤ V2.heap.size := hq2.out.size
    have HB3 := Lib.hid (show ∃ B, Toks B A ts ∧ Bel B W3 ∧ B.heap.size ≤ V2.heap.size from ⟨V2, KT2.out, hb3, Nat.le_refl _⟩)
    have KT3 := Lib.hid (KT2.out.keep hb3)
    have K3 := Lib.hid (K2.out.keep hb3)
    have hq3 := Lib.hid (hq2.out.trans hb3)
    generalize V2.heap.size = b at R3 hNb hwb HB3
    have R3 := Lib.hid R3
    clear hb3 T1 hb
    have nNb : N ≠ b := by omega
    have xN : ¬ b = N := by omega
    have CF := Lib.hid fun X (hX : Bel W3 X) => failed_any X b A ts.length c 0 sn wo ez (R3.out.keep hX)
    by_cases he : ez = 0
    · subst he
      have hP : parU s = parR sn (ts, wo, 0) := hP.out
      unfold parR at hP
      rw [if_pos rfl] at hP
      replace hP := Lib.hid hP
      have CW := Lib.hid fun X (hX : Bel W3 X) => uwho_any ts X b A c 0 sn wo (KT3.out.keep hX) (R3.out.keep hX) (Nat.zero_le _) KL (by obtain ⟨B, h1, h2, h3⟩ := HB3.out; exact ⟨B, h1, h2.trans hX, h3⟩) KS.out
      rw [List.drop_zero] at CW
      go_upto_region 5 with (go_at_call 17; (with_reducible refine Calls.mono (CF.out _ (Bel.refl _)) ?_); rintro ee V4 ⟨rfl, hb4⟩; have hq4 := Lib.hid hb4; clear hb4)
      go_upto_region 8 with (go_at_call 18; (with_reducible refine Calls.mono (CW.out _ hq4.out) ?_); rintro ee V5 ⟨j, wo', e', no', AA, n, cc, hb5, hr5, rfl, hwo⟩; have hq5 := Lib.hid hb5; have hq6 := Lib.hid hr5; have hq7 := Lib.hid hwo; have K5 := Lib.hid ((K3.out.keep hq4.out).but hb5 nNb); clear hb5 hr5 hwo)
      refine under_name (w0 := V5) (by (repeat (first | with_reducible exact Bel.refl _ | with_reducible refine Bel.setCell ?_ (by first | exact Nat.le_refl _ | (dsimp only; omega)) _ | with_reducible refine Bel.alloc ?_ _ | with_reducible refine Bel.drew ?_ | with_reducible assumption | with_reducible refine Bel.trans ?_ (by assumption)))) fun W6 hc hf hz hb6 => ?_
      have T6 : UFree W6 V5.heap.size no' (.slice AA n cc) := by simp [UFree, hc, hf, hz, go_sem]
      clear hc hf hz
      have hNP : N < V5.heap.size := K5.out.1
      have hwP : w.heap.size ≤ V5.heap.size := Nat.le_trans hq3.out.size (Nat.le_trans hq4.out.size hq5.out.size)
      have hW4 := Lib.hid (show N < V4.heap.size from (K3.out.keep hq4.out).1)
      generalize V5.heap.size = P at T6 hNP hwP
      have K6 := Lib.hid (K5.out.keep hb6)
      have R6 := Lib.hid (hq6.out.keep hb6)
      have hq8 := Lib.hid (show Bel w W6 from (hq5.out.bel (hq3.out.trans hq4.out) hwb).trans hb6)
      have hq9 := Lib.hid hb6
      have nNP : ¬ N = P := by omega
      have nPN : ¬ P = N := by omega
      clear hb6
      have CG := Lib.hid fun X (hX : Bel W6 X) => failed_any X b A ts.length c j sn wo' e' (R6.out.keep hX)
      have K6 := Lib.hid (And.intro K6.out T6)
      clear T6
      cases hwq : whoP ts with
      | bad r f =>
        replace hP := hP.out
        rw [hwq] at hq7 hP
        replace hP := Lib.hid hP
        obtain ⟨h1, h2⟩ : wo' = plcT sn r ∧ e' = f := hq7.out
        have hf5 := whoP_err hwq
        have g1 : (e' != 0) = true := by rw [bne_iff_ne]; omega
        have h12 := Lib.hid (And.intro h1 h2)
        clear h1 h2 hf5 hwq
        go_upto_region 10 with (go_at_call 17; (with_reducible refine Calls.mono (CG.out _ (Bel.refl _)) ?_); rintro ee V7 ⟨rfl, hb7⟩; have hq10 := Lib.hid hb7; have K7 := Lib.hid (K6.out.1.keep hb7); clear hb7)
        obtain ⟨zn, ⟨n0, n1, n2⟩, ⟨k0, k1, k2⟩⟩ := K7.out
        go_wp2_with fail
        refine bodyPost_ret (v := .tuple #[.agg #[.bool false, .bool false, .slice none 0 0], .int .i64 wo', .int .i64 e']) (by simp [results, Tryz.results9, go_sem, zn, n0, n1, n2]) rfl ?_
        rw [hP.out]
        refine ⟨none, 0, ?_, TsRows.nil _ _, ?_⟩
        · show _ = Ending.returned (.tuple #[.agg #[.bool false, .bool false, .slice none 0 0], .int .i64 (posT sn r), .int .i64 f])
          rw [← PP.out r, ← h12.out.1, ← h12.out.2]
        · repeat (first | with_reducible exact hq8.out.trans hq10.out | refine Bel.setCell ?_ NW.out _)
      | ok y r =>
        obtain ⟨no, l⟩ := y
        replace hP := hP.out
        rw [hwq] at hq7 hP
        replace hP := Lib.hid hP
        obtain ⟨rfl, h1, ⟨BB, hBB, hrows⟩, rfl⟩ : no' = no ∧ n = l.length ∧ (∃ B, V4.heap.size ≤ B ∧ TsRows V5 B (.slice AA n cc) l) ∧ e' = 0 := hq7.out
        subst h1
        have hrows := Lib.hid hrows
        have hNB : N < BB := by have := hW4.out; omega
        have hwB := Lib.hid (show w.heap.size ≤ BB from Nat.le_trans hq3.out.size (Nat.le_trans hq4.out.size hBB))
        clear hwq hq7 hBB
        go_upto_region 11 with (go_at_call 17; (with_reducible refine Calls.mono (CG.out _ (Bel.refl _)) ?_); rintro ee V7 ⟨rfl, hb7⟩; have hq10 := Lib.hid hb7; have K7 := Lib.hid (And.intro (K6.out.1.keep hb7) (K6.out.2.keep hb7)); have hr7 := Lib.hid ((hrows.out.keep hq9.out).keep hb7); clear hb7)
        obtain ⟨zn, ⟨n0, n1, n2⟩, ⟨k0, k1, k2⟩⟩ := K7.out.1
        obtain ⟨zm, ⟨m0, m1, m2⟩, ⟨l0, l1, l2⟩⟩ := K7.out.2
        go_wp2_with fail
        refine bodyPost_ret (v := .tuple #[.agg #[.bool false, .bool no', .slice AA l.length cc], .int .i64 0, .int .i64 0]) (by simp [results, Tryz.results9, go_sem, zn, n0, n1, n2, zm, m0, m1, m2, nNP, nPN]) rfl ?_
        rw [hP.out]
        refine ⟨AA, cc, rfl, (TsRows.but hr7.out (b := N) ?_ hNB).mono hwB.out, ?_⟩
        · repeat (first | with_reducible exact But.refl N V7 | refine But.setCell (b := N) ?_ rfl _)
        · repeat (first | with_reducible exact hq8.out.trans hq10.out | refine Bel.setCell ?_ NW.out _)
    · have hP : parU s = parR sn (ts, wo, ez) := hP.out
      unfold parR at hP
      rw [if_neg he] at hP
      replace hP := Lib.hid hP
      have g1 : ((ez : Int) != 0) = true := by rw [bne_iff_ne]; omega
      clear he
      go_upto_region 6 with (go_at_call 17; (with_reducible refine Calls.mono (CF.out _ (Bel.refl _)) ?_); rintro ee V7 ⟨rfl, hb7⟩; have hq10 := Lib.hid hb7; have K7 := Lib.hid (K3.out.keep hb7); clear hb7)
      obtain ⟨zn, ⟨n0, n1, n2⟩, ⟨k0, k1, k2⟩⟩ := K7.out
      go_wp2_with fail
      refine bodyPost_ret (v := .tuple #[.agg #[.bool false, .bool false, .slice none 0 0], .int .i64 wo, .int .i64 ez]) (by simp [results, Tryz.results9, go_sem, zn, n0, n1, n2]) rfl ?_
      rw [hP.out]
      refine ⟨none, 0, rfl, TsRows.nil _ _, ?_⟩
      repeat (first | with_reducible exact hq3.out.trans hq10.out | refine Bel.setCell ?_ NW.out _)
end Go.Proofs.YtdggbafpdjenmaaGreatDoor
