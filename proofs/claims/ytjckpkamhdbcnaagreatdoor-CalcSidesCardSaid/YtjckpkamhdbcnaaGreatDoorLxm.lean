import Derived.Test.YtjckpkamhdbcnaaGreatDoorLxl
namespace Go.Proofs.YtjckpkamhdbcnaaGreatDoor
set_option linter.unusedSimpArgs false
set_option linter.unusedVariables false
open Go.RowKit
/-! One token read, and all. -/
theorem firV_form (l : List UInt8) (x : TRes) : ∃ (k p : Int) (t : ByteArray) (a b d n e : Int), firV l x = .tuple #[.agg #[.int .i64 k, .int .i64 p, .string t, .int .i64 a, .int .i64 b, .int .i64 d], .int .i64 n, .int .i64 e] := by
 match x with
 | .bad e => exact ⟨_, _, _, _, _, _, _, _, rfl⟩
 | .ok r none => exact ⟨_, _, _, _, _, _, _, _, rfl⟩
 | .ok r (some t) => exact ⟨_, _, _, _, _, _, _, _, rfl⟩
theorem firT_some {c : UInt8} {l r : List UInt8} {m : Option Tok} (h : firT c l = .ok r m) : ∃ t, m = some t := by
 unfold firT at h
 split at h
 ·unfold numT at h
  split at h
  ·cases h; exact ⟨_, rfl⟩
  ·cases h
 ·split at h
  ·unfold strT at h
   split at h
   ·split at h
    ·cases h; exact ⟨_, rfl⟩
    ·cases h
   ·cases h
  ·split at h
   ·unfold dayT at h
    split at h
    ·cases h; exact ⟨_, rfl⟩
    ·cases h
   ·split at h
    ·unfold namT at h
     split at h
     ·cases h; exact ⟨_, rfl⟩
     ·cases h
    ·unfold sigT at h
     split at h
     ·cases h
     ·cases h; exact ⟨_, rfl⟩
theorem firT_err {c : UInt8} {l : List UInt8} {e : Nat} (h : firT c l = .bad e) : e ≠ 0 := by
 unfold firT at h
 split at h
 ·unfold numT at h
  split at h
  ·cases h
  ·cases h; assumption
 ·split at h
  ·unfold strT at h
   split at h
   ·split at h
    ·cases h
    ·cases h; decide
   ·cases h; decide
  ·split at h
   ·unfold dayT at h
    split at h
    ·cases h
    ·cases h; decide
   ·split at h
    ·unfold namT at h
     split at h
     ·cases h
     ·cases h; decide
    ·unfold sigT at h
     split at h
     ·cases h; decide
     ·cases h
theorem Run.ws (p : Nat) : ∀ x : List UInt8, Run p x [] (x.dropWhile wsB) := by
 intro x
 induction x generalizing p with
 | nil => exact .nil _ _
 | cons c t ih =>
  by_cases hc : wsB c = true
  ·rw [List.dropWhile_cons, if_pos hc]
   have hs : stepT (c :: t) = .ok t none := by rw [stepT_cons, if_pos hc]
   exact .cons hs (ih _)
  ·rw [List.dropWhile_cons, if_neg hc]
   exact .nil _ _
theorem Run.snoc {L l2 r : List UInt8} {ms : List Tok} {t : Tok} (h : Run 0 L ms l2) (hs : stepT l2 = .ok r (some t)) : Run 0 L (ms ++ [{ t with pos := (L.length - l2.length : Nat) }]) r := by
 have h2 := h.trans (Run.cons hs (Run.nil _ r))
 rw [Nat.zero_add] at h2
 exact h2
theorem Run.skip {L l2 : List UInt8} {ms : List Tok} (h : Run 0 L ms l2) : Run 0 L ms (l2.dropWhile wsB) := by
 have h2 := h.trans (Run.ws _ l2)
 rw [List.append_nil] at h2
 exact h2
set_option maxRecDepth 100000 in
set_option maxHeartbeats 8000000 in
theorem xfirst_any (s : ByteArray) (hs : s.size ≤ 65536) (h0 : 0 < s.size) (w : World) (hm : Mx w) :
  Calls Tryz.prog 89 #[.string s] w fun e w' => e = .returned (firV s.data.toList (firT s[0] s.data.toList)) ∧ Bel w w' := by
 obtain ⟨k, p, x, a, b, d, n, e, hF⟩ := firV_form s.data.toList (firT s[0] s.data.toList)
 rw [hF]
 have HF := Lib.hid hF
 have HM := Lib.hid hm
 have CD := Lib.hid fun W => xdigit_any s[0] W
 have CL := Lib.hid fun W => xletter_any s[0] W
 have h0i : (0 : Int) < s.size := by omega
 have FD := Lib.hid (show firT s[0] s.data.toList = if fgB s[0] = true then numT s.data.toList else if s[0] = 34 then strT s.data.toList else if s[0] = 64 then dayT s.data.toList else if ltB s[0] = true then namT s.data.toList else sigT s.data.toList from rfl)
 clear hF hm
 cases hd : fgB s[0] with
 | true =>
  rw [hd] at CD
  have CX := Lib.hid fun W (hW : Bel w W) => xnumber_any s hs W
  have ER := Lib.hid (show firV s.data.toList (numT s.data.toList) = .tuple #[.agg #[.int .i64 k, .int .i64 p, .string x, .int .i64 a, .int .i64 b, .int .i64 d], .int .i64 n, .int .i64 e] from by rw [← HF.out, FD.out, if_pos hd])
  rw [ER.out] at CX
  clear FD hd
  go_enter Tryz.func89, Tryz.ntmps89
  go_upto_region 1 with fail
  refine under_name ((Bel.refl w).alloc _) fun W hc hf hz hb => ?_
  have T : TSlot W w.heap.size tokZ := by simp [TSlot, tokZ, bytesOf, hc, hf, hz, go_sem]
  clear hc hf hz
  generalize hN : w.heap.size = N at T ⊢
  have BN := Lib.hid (show w.heap.size ≤ N from by omega)
  have HB := Lib.hid hb
  clear hN hb
  go_wp2_with (first
   | (go_at_call 130; refine (CD.out _).mono ?_; rintro e' W1 ⟨rfl, rfl⟩)
   | (go_at_call 134; refine (CL.out _).mono ?_; rintro e' W1 ⟨rfl, rfl⟩)
   | (go_at_call 131; refine (CX.out _ HB.out).mono ?_; rintro e' W2 ⟨rfl, hb2⟩; have hq1 := Lib.hid hb2; obtain ⟨t0, ⟨t1, t2, t3, t4, t5, t6⟩, ⟨g1, g2, g3, g4, g5, g6⟩⟩ := T.keep hb2; simp only [tokZ] at t1 t2 t3 t4 t5 t6))
  refine bodyPost_ret (v := .tuple #[.agg #[.int .i64 k, .int .i64 p, .string x, .int .i64 a, .int .i64 b, .int .i64 d], .int .i64 n, .int .i64 e]) (by simp [results, Tryz.results89, go_sem, t0, t1, t2, t3, t4, t5, t6]) rfl ⟨rfl, ?_⟩
  have hN := BN.out
  have hq := HB.out.trans hq1.out
  (with_reducible repeat first | exact Bel.refl _ | refine Bel.setCell ?_ (by first | exact Nat.le_refl _ | (dsimp only; omega)) _ | refine Bel.alloc ?_ _ | refine Bel.drew ?_ | assumption | refine Bel.trans ?_ (by assumption))
 | false =>
  rw [hd] at CD
  by_cases h34 : s[0] = 34
  ·have e34 : ((s[0].toNat : Int) == 34) = true := by rw [h34]; rfl
   have CX := Lib.hid fun W (hW : Bel w W) => xquoted_any s hs h0 W
   have ER := Lib.hid (show firV s.data.toList (strT s.data.toList) = .tuple #[.agg #[.int .i64 k, .int .i64 p, .string x, .int .i64 a, .int .i64 b, .int .i64 d], .int .i64 n, .int .i64 e] from by rw [← HF.out, FD.out, if_neg (by rw [hd]; simp), if_pos h34])
   rw [ER.out] at CX
   clear FD h34
   go_enter Tryz.func89, Tryz.ntmps89
   go_upto_region 1 with fail
   refine under_name ((Bel.refl w).alloc _) fun W hc hf hz hb => ?_
   have T : TSlot W w.heap.size tokZ := by simp [TSlot, tokZ, bytesOf, hc, hf, hz, go_sem]
   clear hc hf hz
   generalize hN : w.heap.size = N at T ⊢
   have BN := Lib.hid (show w.heap.size ≤ N from by omega)
   have HB := Lib.hid hb
   clear hN hb
   go_wp2_with (first
    | (go_at_call 130; refine (CD.out _).mono ?_; rintro e' W1 ⟨rfl, rfl⟩)
    | (go_at_call 134; refine (CL.out _).mono ?_; rintro e' W1 ⟨rfl, rfl⟩)
    | (go_at_call 132; refine (CX.out _ HB.out).mono ?_; rintro e' W2 ⟨rfl, hb2⟩; have hq1 := Lib.hid hb2; obtain ⟨t0, ⟨t1, t2, t3, t4, t5, t6⟩, ⟨g1, g2, g3, g4, g5, g6⟩⟩ := T.keep hb2; simp only [tokZ] at t1 t2 t3 t4 t5 t6))
   refine bodyPost_ret (v := .tuple #[.agg #[.int .i64 k, .int .i64 p, .string x, .int .i64 a, .int .i64 b, .int .i64 d], .int .i64 n, .int .i64 e]) (by simp [results, Tryz.results89, go_sem, t0, t1, t2, t3, t4, t5, t6]) rfl ⟨rfl, ?_⟩
   have hN := BN.out
   have hq := HB.out.trans hq1.out
   (with_reducible repeat first | exact Bel.refl _ | refine Bel.setCell ?_ (by first | exact Nat.le_refl _ | (dsimp only; omega)) _ | refine Bel.alloc ?_ _ | refine Bel.drew ?_ | assumption | refine Bel.trans ?_ (by assumption))
  ·have e34 : ((s[0].toNat : Int) == 34) = false := u8n h34
   by_cases h64 : s[0] = 64
   ·have e64 : ((s[0].toNat : Int) == 64) = true := by rw [h64]; rfl
    have CX := Lib.hid fun W (hW : Bel w W) => xdate_any s hs W (HM.out.keep hW)
    have ER := Lib.hid (show firV s.data.toList (dayT s.data.toList) = .tuple #[.agg #[.int .i64 k, .int .i64 p, .string x, .int .i64 a, .int .i64 b, .int .i64 d], .int .i64 n, .int .i64 e] from by rw [← HF.out, FD.out, if_neg (by rw [hd]; simp), if_neg h34, if_pos h64])
    rw [ER.out] at CX
    clear FD h64
    go_enter Tryz.func89, Tryz.ntmps89
    go_upto_region 1 with fail
    refine under_name ((Bel.refl w).alloc _) fun W hc hf hz hb => ?_
    have T : TSlot W w.heap.size tokZ := by simp [TSlot, tokZ, bytesOf, hc, hf, hz, go_sem]
    clear hc hf hz
    generalize hN : w.heap.size = N at T ⊢
    have BN := Lib.hid (show w.heap.size ≤ N from by omega)
    have HB := Lib.hid hb
    clear hN hb
    go_wp2_with (first
     | (go_at_call 130; refine (CD.out _).mono ?_; rintro e' W1 ⟨rfl, rfl⟩)
     | (go_at_call 134; refine (CL.out _).mono ?_; rintro e' W1 ⟨rfl, rfl⟩)
     | (go_at_call 133; refine (CX.out _ HB.out).mono ?_; rintro e' W2 ⟨rfl, hb2⟩; have hq1 := Lib.hid hb2; obtain ⟨t0, ⟨t1, t2, t3, t4, t5, t6⟩, ⟨g1, g2, g3, g4, g5, g6⟩⟩ := T.keep hb2; simp only [tokZ] at t1 t2 t3 t4 t5 t6))
    refine bodyPost_ret (v := .tuple #[.agg #[.int .i64 k, .int .i64 p, .string x, .int .i64 a, .int .i64 b, .int .i64 d], .int .i64 n, .int .i64 e]) (by simp [results, Tryz.results89, go_sem, t0, t1, t2, t3, t4, t5, t6]) rfl ⟨rfl, ?_⟩
    have hN := BN.out
    have hq := HB.out.trans hq1.out
    (with_reducible repeat first | exact Bel.refl _ | refine Bel.setCell ?_ (by first | exact Nat.le_refl _ | (dsimp only; omega)) _ | refine Bel.alloc ?_ _ | refine Bel.drew ?_ | assumption | refine Bel.trans ?_ (by assumption))
   ·have e64 : ((s[0].toNat : Int) == 64) = false := u8n h64
    cases hl : ltB s[0] with
    | true =>
     rw [hl] at CL
     have CX := Lib.hid fun W (hW : Bel w W) => xname_any s hs W
     have ER := Lib.hid (show firV s.data.toList (namT s.data.toList) = .tuple #[.agg #[.int .i64 k, .int .i64 p, .string x, .int .i64 a, .int .i64 b, .int .i64 d], .int .i64 n, .int .i64 e] from by rw [← HF.out, FD.out, if_neg (by rw [hd]; simp), if_neg h34, if_neg h64, if_pos hl])
     rw [ER.out] at CX
     clear FD
     go_enter Tryz.func89, Tryz.ntmps89
     go_upto_region 1 with fail
     refine under_name ((Bel.refl w).alloc _) fun W hc hf hz hb => ?_
     have T : TSlot W w.heap.size tokZ := by simp [TSlot, tokZ, bytesOf, hc, hf, hz, go_sem]
     clear hc hf hz
     generalize hN : w.heap.size = N at T ⊢
     have BN := Lib.hid (show w.heap.size ≤ N from by omega)
     have HB := Lib.hid hb
     clear hN hb
     go_wp2_with (first
      | (go_at_call 130; refine (CD.out _).mono ?_; rintro e' W1 ⟨rfl, rfl⟩)
      | (go_at_call 134; refine (CL.out _).mono ?_; rintro e' W1 ⟨rfl, rfl⟩)
      | (go_at_call 135; refine (CX.out _ HB.out).mono ?_; rintro e' W2 ⟨rfl, hb2⟩; have hq1 := Lib.hid hb2; obtain ⟨t0, ⟨t1, t2, t3, t4, t5, t6⟩, ⟨g1, g2, g3, g4, g5, g6⟩⟩ := T.keep hb2; simp only [tokZ] at t1 t2 t3 t4 t5 t6))
     refine bodyPost_ret (v := .tuple #[.agg #[.int .i64 k, .int .i64 p, .string x, .int .i64 a, .int .i64 b, .int .i64 d], .int .i64 n, .int .i64 e]) (by simp [results, Tryz.results89, go_sem, t0, t1, t2, t3, t4, t5, t6]) rfl ⟨rfl, ?_⟩
     have hN := BN.out
     have hq := HB.out.trans hq1.out
     (with_reducible repeat first | exact Bel.refl _ | refine Bel.setCell ?_ (by first | exact Nat.le_refl _ | (dsimp only; omega)) _ | refine Bel.alloc ?_ _ | refine Bel.drew ?_ | assumption | refine Bel.trans ?_ (by assumption))
    | false =>
     rw [hl] at CL
     have CX := Lib.hid fun W (hW : Bel w W) => xsign_any s (by omega) W
     have ER := Lib.hid (show firV s.data.toList (sigT s.data.toList) = .tuple #[.agg #[.int .i64 k, .int .i64 p, .string x, .int .i64 a, .int .i64 b, .int .i64 d], .int .i64 n, .int .i64 e] from by rw [← HF.out, FD.out, if_neg (by rw [hd]; simp), if_neg h34, if_neg h64, if_neg (by rw [hl]; simp)])
     have hsl := sigL_len s.data.toList
     rw [size_list] at hsl
     by_cases hg : sigL s.data.toList = []
     ·have GV := Lib.hid (show Value.tuple #[.agg #[.int .i64 k, .int .i64 p, .string x, .int .i64 a, .int .i64 b, .int .i64 d], .int .i64 n, .int .i64 e] = .tuple #[.agg #[.int .i64 0, .int .i64 0, .string ⟨#[]⟩, .int .i64 0, .int .i64 0, .int .i64 0], .int .i64 0, .int .i64 5] from by rw [← ER.out]; unfold sigT; rw [if_pos hg]; rfl)
      rw [hg] at CX
      have ee : (bytesOf ([] : List UInt8)).toList.isEmpty = true := by rw [ByteArray.toList_eq]; rfl
      have ee' : (bytesOf ([] : List UInt8)).toList = [] := by rw [ByteArray.toList_eq]; rfl
      clear FD hg hsl h34 h64
      go_enter Tryz.func89, Tryz.ntmps89
      go_upto_region 1 with fail
      refine under_name ((Bel.refl w).alloc _) fun W hc hf hz hb => ?_
      have T : TSlot W w.heap.size tokZ := by simp [TSlot, tokZ, bytesOf, hc, hf, hz, go_sem]
      clear hc hf hz
      generalize hN : w.heap.size = N at T ⊢
      have BN := Lib.hid (show w.heap.size ≤ N from by omega)
      have HB := Lib.hid hb
      clear hN hb
      go_wp2_with (first
       | (go_at_call 130; refine (CD.out _).mono ?_; rintro e' W1 ⟨rfl, rfl⟩)
       | (go_at_call 134; refine (CL.out _).mono ?_; rintro e' W1 ⟨rfl, rfl⟩)
       | (go_at_call 136; refine (CX.out _ HB.out).mono ?_; rintro e' W2 ⟨rfl, hb2⟩; have hq1 := Lib.hid hb2; obtain ⟨t0, ⟨t1, t2, t3, t4, t5, t6⟩, ⟨g1, g2, g3, g4, g5, g6⟩⟩ := T.keep hb2; simp only [tokZ] at t1 t2 t3 t4 t5 t6))
      refine bodyPost_ret (v := .tuple #[.agg #[.int .i64 0, .int .i64 0, .string ⟨#[]⟩, .int .i64 0, .int .i64 0, .int .i64 0], .int .i64 0, .int .i64 5]) (by simp [results, Tryz.results89, go_sem, t0, t1, t2, t3, t4, t5, t6]) rfl ⟨by rw [GV.out], ?_⟩
      have hN := BN.out
      have hq := HB.out.trans hq1.out
      (with_reducible repeat first | exact Bel.refl _ | refine Bel.setCell ?_ (by first | exact Nat.le_refl _ | (dsimp only; omega)) _ | refine Bel.alloc ?_ _ | refine Bel.drew ?_ | assumption | refine Bel.trans ?_ (by assumption))
     ·have GV := Lib.hid (show Value.tuple #[.agg #[.int .i64 k, .int .i64 p, .string x, .int .i64 a, .int .i64 b, .int .i64 d], .int .i64 n, .int .i64 e] = .tuple #[.agg #[.int .i64 5, .int .i64 0, .string (bytesOf (sigL s.data.toList)), .int .i64 0, .int .i64 0, .int .i64 0], .int .i64 ((sigL s.data.toList).length : Nat), .int .i64 0] from by
       rw [← ER.out]
       unfold sigT
       rw [if_neg hg]
       simp only [firV]
       rw [List.length_drop, size_list, show s.size - (s.size - (sigL s.data.toList).length) = (sigL s.data.toList).length by omega])
      have ee : (bytesOf (sigL s.data.toList)).toList.isEmpty = false := by
       rw [ByteArray.toList_eq, bytes_toList]
       cases hx : sigL s.data.toList with
       | nil => exact absurd hx hg
       | cons _ _ => rfl
      have hz := bytesOf_size (sigL s.data.toList)
      generalize sigL s.data.toList = g at *
      clear FD hg h34 h64
      go_enter Tryz.func89, Tryz.ntmps89
      go_upto_region 1 with fail
      refine under_name ((Bel.refl w).alloc _) fun W hc hf hz hb => ?_
      have T : TSlot W w.heap.size tokZ := by simp [TSlot, tokZ, bytesOf, hc, hf, hz, go_sem]
      clear hc hf hz
      generalize hN : w.heap.size = N at T ⊢
      have BN := Lib.hid (show w.heap.size ≤ N from by omega)
      have HB := Lib.hid hb
      clear hN hb
      go_wp2_with (first
       | (go_at_call 130; refine (CD.out _).mono ?_; rintro e' W1 ⟨rfl, rfl⟩)
       | (go_at_call 134; refine (CL.out _).mono ?_; rintro e' W1 ⟨rfl, rfl⟩)
       | (go_at_call 136; refine (CX.out _ HB.out).mono ?_; rintro e' W2 ⟨rfl, hb2⟩; have hq1 := Lib.hid hb2; obtain ⟨t0, ⟨t1, t2, t3, t4, t5, t6⟩, ⟨g1, g2, g3, g4, g5, g6⟩⟩ := T.keep hb2; simp only [tokZ] at t1 t2 t3 t4 t5 t6))
      refine bodyPost_ret (v := .tuple #[.agg #[.int .i64 5, .int .i64 0, .string (bytesOf g), .int .i64 0, .int .i64 0, .int .i64 0], .int .i64 g.length, .int .i64 0]) (by simp [results, Tryz.results89, go_sem, t0, t1, t2, t3, t4, t5, t6]) rfl ⟨by rw [GV.out], ?_⟩
      have hN := BN.out
      have hq := HB.out.trans hq1.out
      (with_reducible repeat first | exact Bel.refl _ | refine Bel.setCell ?_ (by first | exact Nat.le_refl _ | (dsimp only; omega)) _ | refine Bel.alloc ?_ _ | refine Bel.drew ?_ | assumption | refine Bel.trans ?_ (by assumption))
end Go.Proofs.YtjckpkamhdbcnaaGreatDoor
