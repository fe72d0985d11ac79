
import Derived.Test.YtdggbafpdjenmaaGreatDoorUna
import Derived.Test.YtdggbafpdjenmaaGreatDoorLzs
namespace Go.Proofs.YtdggbafpdjenmaaGreatDoor
set_option linter.unusedSimpArgs false
set_option linter.unusedVariables false
open Go.RowKit
/-! Values as tokens. -/
theorem val_form {v : Val} (h : vsnd v = true) : ValForm v := by
  obtain ⟨k, n, s, t, m⟩ := v
  rcases kinds k with rfl | rfl | rfl | rfl | rfl | hk
  · rw [vsnd0, veq_iff] at h
    exact .inl h
  · rw [vsnd1, Bool.and_eq_true, veq_iff] at h
    exact .inr (.inl ⟨n, s, h.1⟩)
  · rw [vsnd2, Bool.and_eq_true, veq_iff] at h
    exact .inr (.inr (.inl ⟨t, h.1⟩))
  · rw [vsnd3, Bool.and_eq_true, veq_iff, Bool.or_eq_true, decide_eq_true_eq, decide_eq_true_eq] at h
    obtain ⟨h1, h2⟩ := h
    rcases h2 with rfl | rfl
    · exact .inr (.inr (.inr (.inl h1)))
    · exact .inr (.inr (.inr (.inr (.inl h1))))
  · rw [vsnd4, Bool.and_eq_true, veq_iff] at h
    exact .inr (.inr (.inr (.inr (.inr ⟨m, h.1⟩))))
  · rw [vsnd5 k n s m t hk] at h; cases h
theorem ks1 {n s : Int} (h : sndB n s = true) (h0 : 0 ≤ n) : ksnd ⟨1, 0, [], n, s, 0⟩ = true := by
  rw [tsnd1, Bool.and_eq_true]
  exact ⟨teqv_iff.2 ⟨rfl, rfl, rfl, rfl, rfl, rfl⟩, by rw [h, decide_eq_true h0]; rfl⟩
theorem ks2 {t : ByteArray} (h : strOk t.data.toList = true) : ksnd ⟨2, 0, t.data.toList, 0, 0, 0⟩ = true := by
  rw [tsnd2, Bool.and_eq_true]
  exact ⟨teqv_iff.2 ⟨rfl, rfl, rfl, rfl, rfl, rfl⟩, h⟩
theorem ks3 {d : Int} (h : 0 ≤ d ∧ d ≤ 3652058) : ksnd ⟨3, 0, [], 0, 0, d⟩ = true := by
  rw [tsnd3, Bool.and_eq_true]
  exact ⟨teqv_iff.2 ⟨rfl, rfl, rfl, rfl, rfl, rfl⟩, decide_eq_true h⟩
theorem ks4 {x : List UInt8} (h : nmOk x = true) : ksnd ⟨4, 0, x, 0, 0, 0⟩ = true := by
  rw [tsnd4, Bool.and_eq_true]
  exact ⟨teqv_iff.2 ⟨rfl, rfl, rfl, rfl, rfl, rfl⟩, h⟩
theorem nm_true : nmOk [116, 114, 117, 101] = true := by decide +kernel
theorem nm_false : nmOk [102, 97, 108, 115, 101] = true := by decide +kernel
theorem nm_null : nmOk [110, 117, 108, 108] = true := by decide +kernel
theorem nm_not : nmOk [110, 111, 116] = true := by decide +kernel
theorem rt_tok {t : Tok} (h : ksnd t = true) (hw : wrT t ≠ []) (y : List UInt8) (hy : Bd y) : RT (wrT t) [t] y := RT.of (reads_sound h) hw hy
theorem fg_mark {c : UInt8} (h : fgB c = true) : wsB c = false ∧ c ≠ 45 := by
  refine ⟨?_, ?_⟩
  · cases h2 : wsB c with
    | false => rfl
    | true => have := (ws_facts h2).1; rw [h] at this; cases this
  · rintro rfl
    revert h
    decide
theorem num_mark {x : List UInt8} (h : NumW x) : Mark x ∧ x ≠ [] := by
  obtain ⟨c, a, hc, ha, rfl | ⟨d, b, hd, hb, rfl⟩⟩ := h
  · exact ⟨⟨c, by simp, fg_mark hc⟩, by simp⟩
  · exact ⟨⟨c, by simp, fg_mark hc⟩, by simp⟩
theorem snd_nums {n s : Int} (h : sndB n s = true) : SndD n s := of_decide_eq_true h
theorem sndB_neg {n s : Int} (h : sndB n s = true) : sndB (-n) s = true := by
  obtain ⟨s1, s2, ⟨s3, s4⟩, s5⟩ := snd_nums h
  exact decide_eq_true ⟨s1, s2, ⟨by omega, by omega⟩, by omega⟩
theorem txt_len1 (n s : Int) (h : sndB n s = true) : (txtL false n.natAbs s.toNat).length ≤ 30 := by
  obtain ⟨s1, s2, ⟨s3, s4⟩, _⟩ := snd_nums h
  exact txt_len false n.natAbs s.toNat (by omega) (by omega)
theorem txtL_neg (x s : Nat) : txtL true x s = [45] ++ txtL false x s := by
  unfold txtL
  rfl
theorem v_reads : VReads := by
  intro v hs
  rcases val_form hs with rfl | ⟨n, s, rfl⟩ | ⟨t, rfl⟩ | rfl | rfl | ⟨d, rfl⟩
  · refine ⟨fun y hy => rt_tok (t := ⟨4, 0, [110, 117, 108, 108], 0, 0, 0⟩) (ks4 nm_null) (by decide) y hy, by decide, 110, by decide, by decide, by decide⟩
  · rw [vsnd1, Bool.and_eq_true] at hs
    have hb := hs.2
    by_cases hn : n < 0
    · have e1 : vxL ⟨1, n, s, ⟨#[]⟩, 0⟩ = [45] ++ txtL false n.natAbs s.toNat := by
        show txtL (decide (n < 0)) n.natAbs s.toNat = _
        rw [decide_eq_true hn, txtL_neg]
      have e2 : tksV ⟨1, n, s, ⟨#[]⟩, 0⟩ = [tkS [45]] ++ [⟨1, 0, [], -n, s, 0⟩] := by
        show (if n < 0 then _ else _) = _
        rw [if_pos hn]
        rfl
      have e3 : txtL false n.natAbs s.toNat = wrT ⟨1, 0, [], -n, s, 0⟩ := by
        show _ = txtL (decide (-n < 0)) (-n).natAbs s.toNat
        rw [decide_eq_false (by omega), Int.natAbs_neg]
      have hk := ks1 (sndB_neg hb) (show 0 ≤ -n by omega)
      have hm := num_mark (txt_num n.natAbs s.toNat)
      have hl := wr_len hk
      rw [← e3] at hl
      refine ⟨fun y hy => ?_, ?_, ?_⟩
      · rw [e1, e2]
        refine RT.app (sign1 (by decide) _) ?_
        rw [e3]
        exact rt_tok hk (by rw [← e3]; exact hm.2) y hy
      · rw [e1, List.length_append, List.length_singleton]
        have := txt_len1 n s hb
        omega
      · rw [e1]
        exact Mark.sub hm.1 (fun c hc => List.mem_append_right _ hc)
    · have e1 : vxL ⟨1, n, s, ⟨#[]⟩, 0⟩ = wrT ⟨1, 0, [], n, s, 0⟩ := rfl
      have e2 : tksV ⟨1, n, s, ⟨#[]⟩, 0⟩ = [⟨1, 0, [], n, s, 0⟩] := by
        show (if n < 0 then _ else _) = _
        rw [if_neg hn]
      have e3 : wrT ⟨1, 0, [], n, s, 0⟩ = txtL false n.natAbs s.toNat := by
        show txtL (decide (n < 0)) n.natAbs s.toNat = _
        rw [decide_eq_false hn]
      have hk := ks1 hb (show 0 ≤ n by omega)
      have hm := num_mark (txt_num n.natAbs s.toNat)
      rw [← e3] at hm
      rw [e1, e2]
      exact ⟨fun y hy => rt_tok hk hm.2 y hy, wr_len hk, hm.1⟩
  · rw [vsnd2, Bool.and_eq_true, Bool.and_eq_true] at hs
    have hk : ksnd ⟨2, 0, t.data.toList, 0, 0, 0⟩ = true := ks2 (by unfold strOk; rw [bytesOf_list, size_l]; simpa using hs.2)
    have e1 : vxL ⟨2, 0, 0, t, 0⟩ = wrT ⟨2, 0, t.data.toList, 0, 0, 0⟩ := rfl
    have e2 : wrT ⟨2, 0, t.data.toList, 0, 0, 0⟩ = 34 :: (qtL t.data.toList ++ [34]) := rfl
    rw [e1]
    exact ⟨fun y hy => rt_tok hk (by rw [e2]; simp) y hy, wr_len hk, 34, by rw [e2]; simp, by decide, by decide⟩
  · exact ⟨fun y hy => rt_tok (t := ⟨4, 0, [102, 97, 108, 115, 101], 0, 0, 0⟩) (ks4 nm_false) (by decide) y hy, by decide, 102, by decide, by decide, by decide⟩
  · exact ⟨fun y hy => rt_tok (t := ⟨4, 0, [116, 114, 117, 101], 0, 0, 0⟩) (ks4 nm_true) (by decide) y hy, by decide, 116, by decide, by decide, by decide⟩
  · rw [vsnd4, Bool.and_eq_true, Bool.and_eq_true, decide_eq_true_eq, decide_eq_true_eq] at hs
    have hk := ks3 hs.2
    have e1 : vxL ⟨4, 0, 0, ⟨#[]⟩, d⟩ = wrT ⟨3, 0, [], 0, 0, d⟩ := rfl
    have e2 : wrT ⟨3, 0, [], 0, 0, d⟩ = 64 :: (34 :: (qtL (dtx d).data.toList ++ [34])) := rfl
    rw [e1]
    exact ⟨fun y hy => rt_tok hk (by rw [e2]; simp) y hy, wr_len hk, 64, by rw [e2]; simp, by decide, by decide⟩
end Go.Proofs.YtdggbafpdjenmaaGreatDoor
namespace Go.Proofs.YtdggbafpdjenmaaGreatDoor
set_option linter.unusedSimpArgs false
set_option linter.unusedVariables false
open Go.RowKit
/-! Cells: what is written is read, what is read is sound. -/
theorem vs_1 {n s : Int} (h : sndB n s = true) : vsnd ⟨1, n, s, ⟨#[]⟩, 0⟩ = true := by
  rw [vsnd1, Bool.and_eq_true]
  exact ⟨(veq_iff _ _).2 rfl, h⟩
theorem tok_good {t : Tok} (h : ksnd t = true) : TokGood t := by
  intro v hv
  rcases snd_parts h with ⟨h1, h2, h3, h4, h5⟩ | ⟨h1, h2, h3, h4, h5⟩ | ⟨h1, h2, h3, h4, h5, h6⟩ | ⟨h1, h2, h3, h4, h5⟩ | ⟨h1, h2, h3, h4, h5⟩
  · unfold valT at hv
    rw [if_pos h1] at hv
    cases hv
    have hs : sndB t.dn t.ds = true := decide_eq_true h4
    exact ⟨vs_1 hs, fun _ => vs_1 (sndB_neg hs)⟩
  · refine ⟨?_, fun h => by rw [h1] at h; cases h⟩
    unfold valT at hv
    rw [if_neg (by rw [h1]; decide), if_pos h1] at hv
    cases hv
    rw [vsnd2, Bool.and_eq_true]
    refine ⟨(veq_iff _ _).2 rfl, ?_⟩
    unfold strOk at h5
    rwa [sizeB]
  · refine ⟨?_, fun h => by rw [h1] at h; cases h⟩
    unfold valT at hv
    rw [if_neg (by rw [h1]; decide), if_neg (by rw [h1]; decide), if_pos h1] at hv
    cases hv
    rw [vsnd4, Bool.and_eq_true, Bool.and_eq_true]
    exact ⟨(veq_iff _ _).2 rfl, decide_eq_true h5, decide_eq_true h6⟩
  · refine ⟨?_, fun h => by rw [h1] at h; cases h⟩
    unfold valT at hv
    rw [if_neg (by rw [h1]; decide), if_neg (by rw [h1]; decide), if_neg (by rw [h1]; decide), if_pos h1] at hv
    split at hv
    · cases hv; decide +kernel
    · split at hv
      · cases hv; decide +kernel
      · split at hv
        · cases hv; decide +kernel
        · cases hv
  · unfold valT at hv
    rw [if_neg (by rw [h1]; decide), if_neg (by rw [h1]; decide), if_neg (by rw [h1]; decide), if_neg (by rw [h1]; decide)] at hv
    cases hv
theorem toks_snd (s : ByteArray) : ∀ t ∈ (tokS s).1, ksnd t = true := by
  unfold tokS
  split
  · intro t ht; cases ht
  · rcases toks_run (s.size + 1) 0 s.data.toList [] (by rw [size_l]; omega) with ⟨ns, h1, h2⟩ | ⟨ns, l2, e, h1, h2, h3, h4⟩
    · rw [h1]
      intro t ht
      exact List.all_eq_true.1 (run_snd h2).1 t (by simpa using ht)
    · rw [h1]
      intro t ht
      cases ht
theorem read_good {s : ByteArray} {u : Uts} (h : parU s = (u, 0, 0)) : (u.any = true ∧ u.no = false ∧ u.list = []) ∨ (u.any = false ∧ (∀ x ∈ u.list, tsnd x = true) ∧ 0 < u.list.length ∧ u.list.length ≤ 8) :=
  parU_good (fun t ht => tok_good (toks_snd s t ht)) h
theorem read_written (no : Bool) (l : List Tst) (hl : l ≠ []) (h8 : l.length ≤ 8) (hs : ∀ x ∈ l, tsnd x = true) : parU (bytesOf (txU ⟨false, no, l⟩)) = (⟨false, no, l⟩, 0, 0) :=
  parU_txU v_reads (fun v h => val_form h) nm_not no l hl h8 hs
theorem read_not {s : ByteArray} (hs : s.size ≤ 60000) {l : List Tst} (h : parU s = (⟨false, false, l⟩, 0, 0)) : parU (bytesOf ([110, 111, 116] ++ ([40] ++ (s.data.toList ++ [41])))) = (⟨false, true, l⟩, 0, 0) := by
  refine parU_not nm_not tok_bad1 hs h ?_
  rcases read_good h with ⟨h1, _⟩ | ⟨_, _, h3, _⟩
  · cases h1
  · rintro rfl
    simp at h3
/-- Errors' places lie within the text. -/
theorem run_pos {p : Nat} {l l2 : List UInt8} {ms : List Tok} (h : Run p l ms l2) : ∀ t ∈ ms, (p : Int) ≤ t.pos ∧ t.pos ≤ p + l.length := by
  induction h with
  | nil p l => intro t ht; cases ht
  | @cons p l r m ms l2 hs hr ih =>
    intro t ht
    obtain ⟨q, hq, _⟩ := step_suf hs
    have hlen := congrArg List.length hq
    rw [List.length_append] at hlen
    rcases List.mem_append.1 ht with ht | ht
    · cases m with
      | none => cases ht
      | some u =>
        simp only [optT, List.mem_singleton] at ht
        subst ht
        simp only
        omega
    · have := ih t ht
      omega
theorem toks_pos (s : ByteArray) : (∀ t ∈ (tokS s).1, 0 ≤ t.pos ∧ t.pos ≤ s.size) ∧ (tokS s).2.1 ≤ s.size := by
  unfold tokS
  split
  · exact ⟨(fun t ht => nomatch ht), Nat.zero_le _⟩
  · rcases toks_run (s.size + 1) 0 s.data.toList [] (by rw [size_l]; omega) with ⟨ns, h1, h2⟩ | ⟨ns, l2, e, h1, h2, h3, h4⟩
    · rw [h1]
      refine ⟨fun t ht => ?_, Nat.zero_le _⟩
      have := run_pos h2 t (by simpa using ht)
      rw [size_l] at this
      omega
    · rw [h1]
      refine ⟨(fun t ht => nomatch ht), ?_⟩
      rw [size_l]
      show 0 + (s.size - l2.length) ≤ s.size
      omega
end Go.Proofs.YtdggbafpdjenmaaGreatDoor
