import Derived.Test.YtjckpkamhdbcnaaGreatDoorZk
namespace Go.Proofs.YtjckpkamhdbcnaaGreatDoor
set_option maxRecDepth 100000
set_option maxHeartbeats 64000000
set_option linter.unusedSimpArgs false
set_option linter.unusedVariables false
section
open Go.RowKit
theorem Qnm (l : List UInt8) (x : TRes) : ∃ (k p : Int) (t : ByteArray) (a b d n e : Int), firV l x = .tuple #[.agg #[.int .i64 k, .int .i64 p, .string t, .int .i64 a, .int .i64 b, .int .i64 d], .int .i64 n, .int .i64 e] := by
 match x with
 | .bad e => exact ⟨_, _, _, _, _, _, _, _, rfl⟩
 | .ok r none => exact ⟨_, _, _, _, _, _, _, _, rfl⟩
 | .ok r (some t) => exact ⟨_, _, _, _, _, _, _, _, rfl⟩
theorem Qnn {c : UInt8} {l r : List UInt8} {m : Option Tok} (h : firT c l = .ok r m) : ∃ t, m = some t := by
 unfold firT at h
 split at h
 ·unfold numT at h
  split at h
  ·cases h; exact ⟨_, rfl⟩
  cases h
 split at h
 ·unfold strT at h
  split at h
  ·split at h
   ·cases h; exact ⟨_, rfl⟩
   cases h
  cases h
 split at h
 ·unfold dayT at h
  split at h
  ·cases h; exact ⟨_, rfl⟩
  cases h
 split at h
 ·unfold namT at h
  split at h
  ·cases h; exact ⟨_, rfl⟩
  cases h
 unfold sigT at h
 split at h
 ·cases h
 cases h; exact ⟨_, rfl⟩
theorem Qqr {c : UInt8} {l : List UInt8} {e : Nat} (h : firT c l = .bad e) : e ≠ 0 := by
 unfold firT at h
 split at h
 ·unfold numT at h
  split at h
  ·cases h
  cases h; assumption
 split at h
 ·unfold strT at h
  split at h
  ·split at h
   ·cases h
   cases h; decide
  cases h; decide
 split at h
 ·unfold dayT at h
  split at h
  ·cases h
  cases h; decide
 split at h
 ·unfold namT at h
  split at h
  ·cases h
  cases h; decide
 unfold sigT at h
 split at h
 ·cases h; decide
 cases h
theorem Run.ws (p : Nat) : ∀ x : List UInt8, Run p x [] (x.dropWhile wsB) := by
 intro x
 induction x generalizing p with
 | nil => exact .nil _ _
 | cons c t ih =>
  by_cases hc : wsB c = true
  ·rw [List.dropWhile_cons, iP hc]
   have hs : stepT (c :: t) = .ok t none := by rw [Qc7, iP hc]
   exact .cons hs (ih _)
  rw [List.dropWhile_cons, iN hc]
  exact .nil _ _
theorem Run.snoc {L l2 r : List UInt8} {ms : List Tok} {t : Tok} (h : Run 0 L ms l2) (hs : stepT l2 = .ok r (some t)) : Run 0 L (ms ++ [{ t with pos := (L.length - l2.length : Nat) }]) r := by
 have h2 := h.trans (Run.cons hs (Run.nil _ r))
 rw [Nat.zero_add] at h2
 exact h2
theorem Run.skip {L l2 : List UInt8} {ms : List Tok} (h : Run 0 L ms l2) : Run 0 L ms (l2.dropWhile wsB) := by
 have h2 := h.trans (Run.ws _ l2)
 rw [List.append_nil] at h2
 exact h2
theorem Qlj (s : ByteArray) (hs : s.size <= 65536) (h0 : 0 < s.size) (w : World) (hm : Mx w) :
  Calls Tryz.prog 89 #[.string s] w fun e w' => e = .returned (firV s.data.toList (firT s[0] s.data.toList)) /\ Bel w w' := by
 obtain ⟨k, p, x, a, b, d, n, e, hF⟩ := Qnm s.data.toList (firT s[0] s.data.toList)
 rw [hF]
 have HF := Hd hF
 have HM := Hd hm
 have CD := Hd fun W => Qcb s[0] W
 have CL := Hd fun W => Qfk s[0] W
 have h0i : (0 : Int) < s.size := by omega
 have FD := Hd (show firT s[0] s.data.toList = if fgB s[0] = true then numT s.data.toList else if s[0] = 34 then strT s.data.toList else if s[0] = 64 then dayT s.data.toList else if ltB s[0] = true then namT s.data.toList else sigT s.data.toList from rfl)
 clear hF hm
 cases hd : fgB s[0] with
 | true =>
  rw [hd] at CD
  have CX := Hd fun W (hW : Bel w W) => Qix s hs W
  have ER := Hd (show firV s.data.toList (numT s.data.toList) = .tuple #[.agg #[.int .i64 k, .int .i64 p, .string x, .int .i64 a, .int .i64 b, .int .i64 d], .int .i64 n, .int .i64 e] from by rw [← HF.out, FD.out, iP hd])
  rw [ER.out] at CX
  clear FD hd
  go_enter Tryz.func89, Tryz.ntmps89
  go_upto_region 1 with fail
  refine uN ((Bel.refl w).alloc _) fun W hc hf hz hb => ?_
  have T : Qan W w.heap.size tokZ := by simp [Qan, tokZ, Qaa, hc, hf, hz, go_sem]
  clear hc hf hz
  generalize hN : w.heap.size = N at T ⊢
  have BN := Hd (show w.heap.size <= N from by omega)
  have HB := Hd hb
  clear hN hb
  go_wp2_with (first
   | (go_at_call 130; refine (CD.out _).mono ?_; rintro e' W1 ⟨rfl, rfl⟩)
   | (go_at_call 134; refine (CL.out _).mono ?_; rintro e' W1 ⟨rfl, rfl⟩)
   | (go_at_call 131; refine (CX.out _ HB.out).mono ?_; rintro e' W2 ⟨rfl, hb2⟩; have hq1 := Hd hb2; obtain ⟨t0, ⟨t1, t2, t3, t4, t5, t6⟩, ⟨g1, g2, g3, g4, g5, g6⟩⟩ := T.keep hb2; simp only [tokZ] at t1 t2 t3 t4 t5 t6))
  refine pR (v := .tuple #[.agg #[.int .i64 k, .int .i64 p, .string x, .int .i64 a, .int .i64 b, .int .i64 d], .int .i64 n, .int .i64 e]) (by simp [results, Tryz.results89, go_sem, t0, t1, t2, t3, t4, t5, t6]) rfl ⟨rfl, ?_⟩
  have hN := BN.out
  have hq := HB.out.trans hq1.out
  exact Bel.y
 | false =>
  rw [hd] at CD
  by_cases h34 : s[0] = 34
  ·have e34 : ((s[0].toNat : Int) == 34) = true := by rw [h34]; rfl
   have CX := Hd fun W (hW : Bel w W) => Qiy s hs h0 W
   have ER := Hd (show firV s.data.toList (strT s.data.toList) = .tuple #[.agg #[.int .i64 k, .int .i64 p, .string x, .int .i64 a, .int .i64 b, .int .i64 d], .int .i64 n, .int .i64 e] from by rw [← HF.out, FD.out, iN (by rw [hd]; simp), iP h34])
   rw [ER.out] at CX
   clear FD h34
   go_enter Tryz.func89, Tryz.ntmps89
   go_upto_region 1 with fail
   refine uN ((Bel.refl w).alloc _) fun W hc hf hz hb => ?_
   have T : Qan W w.heap.size tokZ := by simp [Qan, tokZ, Qaa, hc, hf, hz, go_sem]
   clear hc hf hz
   generalize hN : w.heap.size = N at T ⊢
   have BN := Hd (show w.heap.size <= N from by omega)
   have HB := Hd hb
   clear hN hb
   go_wp2_with (first
    | (go_at_call 130; refine (CD.out _).mono ?_; rintro e' W1 ⟨rfl, rfl⟩)
    | (go_at_call 134; refine (CL.out _).mono ?_; rintro e' W1 ⟨rfl, rfl⟩)
    | (go_at_call 132; refine (CX.out _ HB.out).mono ?_; rintro e' W2 ⟨rfl, hb2⟩; have hq1 := Hd hb2; obtain ⟨t0, ⟨t1, t2, t3, t4, t5, t6⟩, ⟨g1, g2, g3, g4, g5, g6⟩⟩ := T.keep hb2; simp only [tokZ] at t1 t2 t3 t4 t5 t6))
   refine pR (v := .tuple #[.agg #[.int .i64 k, .int .i64 p, .string x, .int .i64 a, .int .i64 b, .int .i64 d], .int .i64 n, .int .i64 e]) (by simp [results, Tryz.results89, go_sem, t0, t1, t2, t3, t4, t5, t6]) rfl ⟨rfl, ?_⟩
   have hN := BN.out
   have hq := HB.out.trans hq1.out
   exact Bel.y
  have e34 : ((s[0].toNat : Int) == 34) = false := u8n h34
  by_cases h64 : s[0] = 64
  ·have e64 : ((s[0].toNat : Int) == 64) = true := by rw [h64]; rfl
   have CX := Hd fun W (hW : Bel w W) => Qnj s hs W (HM.out.keep hW)
   have ER := Hd (show firV s.data.toList (dayT s.data.toList) = .tuple #[.agg #[.int .i64 k, .int .i64 p, .string x, .int .i64 a, .int .i64 b, .int .i64 d], .int .i64 n, .int .i64 e] from by rw [← HF.out, FD.out, iN (by rw [hd]; simp), iN h34, iP h64])
   rw [ER.out] at CX
   clear FD h64
   go_enter Tryz.func89, Tryz.ntmps89
   go_upto_region 1 with fail
   refine uN ((Bel.refl w).alloc _) fun W hc hf hz hb => ?_
   have T : Qan W w.heap.size tokZ := by simp [Qan, tokZ, Qaa, hc, hf, hz, go_sem]
   clear hc hf hz
   generalize hN : w.heap.size = N at T ⊢
   have BN := Hd (show w.heap.size <= N from by omega)
   have HB := Hd hb
   clear hN hb
   go_wp2_with (first
    | (go_at_call 130; refine (CD.out _).mono ?_; rintro e' W1 ⟨rfl, rfl⟩)
    | (go_at_call 134; refine (CL.out _).mono ?_; rintro e' W1 ⟨rfl, rfl⟩)
    | (go_at_call 133; refine (CX.out _ HB.out).mono ?_; rintro e' W2 ⟨rfl, hb2⟩; have hq1 := Hd hb2; obtain ⟨t0, ⟨t1, t2, t3, t4, t5, t6⟩, ⟨g1, g2, g3, g4, g5, g6⟩⟩ := T.keep hb2; simp only [tokZ] at t1 t2 t3 t4 t5 t6))
   refine pR (v := .tuple #[.agg #[.int .i64 k, .int .i64 p, .string x, .int .i64 a, .int .i64 b, .int .i64 d], .int .i64 n, .int .i64 e]) (by simp [results, Tryz.results89, go_sem, t0, t1, t2, t3, t4, t5, t6]) rfl ⟨rfl, ?_⟩
   have hN := BN.out
   have hq := HB.out.trans hq1.out
   exact Bel.y
  have e64 : ((s[0].toNat : Int) == 64) = false := u8n h64
  cases hl : ltB s[0] with
  | true =>
   rw [hl] at CL
   have CX := Hd fun W (hW : Bel w W) => Qng s hs W
   have ER := Hd (show firV s.data.toList (namT s.data.toList) = .tuple #[.agg #[.int .i64 k, .int .i64 p, .string x, .int .i64 a, .int .i64 b, .int .i64 d], .int .i64 n, .int .i64 e] from by rw [← HF.out, FD.out, iN (by rw [hd]; simp), iN h34, iN h64, iP hl])
   rw [ER.out] at CX
   clear FD
   go_enter Tryz.func89, Tryz.ntmps89
   go_upto_region 1 with fail
   refine uN ((Bel.refl w).alloc _) fun W hc hf hz hb => ?_
   have T : Qan W w.heap.size tokZ := by simp [Qan, tokZ, Qaa, hc, hf, hz, go_sem]
   clear hc hf hz
   generalize hN : w.heap.size = N at T ⊢
   have BN := Hd (show w.heap.size <= N from by omega)
   have HB := Hd hb
   clear hN hb
   go_wp2_with (first
    | (go_at_call 130; refine (CD.out _).mono ?_; rintro e' W1 ⟨rfl, rfl⟩)
    | (go_at_call 134; refine (CL.out _).mono ?_; rintro e' W1 ⟨rfl, rfl⟩)
    | (go_at_call 135; refine (CX.out _ HB.out).mono ?_; rintro e' W2 ⟨rfl, hb2⟩; have hq1 := Hd hb2; obtain ⟨t0, ⟨t1, t2, t3, t4, t5, t6⟩, ⟨g1, g2, g3, g4, g5, g6⟩⟩ := T.keep hb2; simp only [tokZ] at t1 t2 t3 t4 t5 t6))
   refine pR (v := .tuple #[.agg #[.int .i64 k, .int .i64 p, .string x, .int .i64 a, .int .i64 b, .int .i64 d], .int .i64 n, .int .i64 e]) (by simp [results, Tryz.results89, go_sem, t0, t1, t2, t3, t4, t5, t6]) rfl ⟨rfl, ?_⟩
   have hN := BN.out
   have hq := HB.out.trans hq1.out
   exact Bel.y
  | false =>
   rw [hl] at CL
   have CX := Hd fun W (hW : Bel w W) => Qho s (by omega) W
   have ER := Hd (show firV s.data.toList (sigT s.data.toList) = .tuple #[.agg #[.int .i64 k, .int .i64 p, .string x, .int .i64 a, .int .i64 b, .int .i64 d], .int .i64 n, .int .i64 e] from by rw [← HF.out, FD.out, iN (by rw [hd]; simp), iN h34, iN h64, iN (by rw [hl]; simp)])
   have hsl := Qgq s.data.toList
   rw [Qag] at hsl
   by_cases hg : sigL s.data.toList = []
   ·have GV := Hd (show Value.tuple #[.agg #[.int .i64 k, .int .i64 p, .string x, .int .i64 a, .int .i64 b, .int .i64 d], .int .i64 n, .int .i64 e] = .tuple #[.agg #[.int .i64 0, .int .i64 0, .string ⟨#[]⟩, .int .i64 0, .int .i64 0, .int .i64 0], .int .i64 0, .int .i64 5] from by rw [← ER.out]; unfold sigT; rw [iP hg]; rfl)
    rw [hg] at CX
    have ee : (Qaa ([] : List UInt8)).toList.isEmpty = true := by rw [ByteArray.toList_eq]; rfl
    have ee' : (Qaa ([] : List UInt8)).toList = [] := by rw [ByteArray.toList_eq]; rfl
    clear FD hg hsl h34 h64
    go_enter Tryz.func89, Tryz.ntmps89
    go_upto_region 1 with fail
    refine uN ((Bel.refl w).alloc _) fun W hc hf hz hb => ?_
    have T : Qan W w.heap.size tokZ := by simp [Qan, tokZ, Qaa, hc, hf, hz, go_sem]
    clear hc hf hz
    generalize hN : w.heap.size = N at T ⊢
    have BN := Hd (show w.heap.size <= N from by omega)
    have HB := Hd hb
    clear hN hb
    go_wp2_with (first
     | (go_at_call 130; refine (CD.out _).mono ?_; rintro e' W1 ⟨rfl, rfl⟩)
     | (go_at_call 134; refine (CL.out _).mono ?_; rintro e' W1 ⟨rfl, rfl⟩)
     | (go_at_call 136; refine (CX.out _ HB.out).mono ?_; rintro e' W2 ⟨rfl, hb2⟩; have hq1 := Hd hb2; obtain ⟨t0, ⟨t1, t2, t3, t4, t5, t6⟩, ⟨g1, g2, g3, g4, g5, g6⟩⟩ := T.keep hb2; simp only [tokZ] at t1 t2 t3 t4 t5 t6))
    refine pR (v := .tuple #[.agg #[.int .i64 0, .int .i64 0, .string ⟨#[]⟩, .int .i64 0, .int .i64 0, .int .i64 0], .int .i64 0, .int .i64 5]) (by simp [results, Tryz.results89, go_sem, t0, t1, t2, t3, t4, t5, t6]) rfl ⟨by rw [GV.out], ?_⟩
    have hN := BN.out
    have hq := HB.out.trans hq1.out
    exact Bel.y
   have GV := Hd (show Value.tuple #[.agg #[.int .i64 k, .int .i64 p, .string x, .int .i64 a, .int .i64 b, .int .i64 d], .int .i64 n, .int .i64 e] = .tuple #[.agg #[.int .i64 5, .int .i64 0, .string (Qaa (sigL s.data.toList)), .int .i64 0, .int .i64 0, .int .i64 0], .int .i64 ((sigL s.data.toList).length : Nat), .int .i64 0] from by
    rw [← ER.out]
    unfold sigT
    rw [iN hg]
    simp only [firV]
    rw [List.length_drop, Qag, show s.size - (s.size - (sigL s.data.toList).length) = (sigL s.data.toList).length by omega])
   have ee : (Qaa (sigL s.data.toList)).toList.isEmpty = false := by
    rw [ByteArray.toList_eq, Qam]
    cases hx : sigL s.data.toList with
    | nil => exact absurd hx hg
    | cons _ _ => rfl
   have hz := Qae (sigL s.data.toList)
   generalize sigL s.data.toList = g at *
   clear FD hg h34 h64
   go_enter Tryz.func89, Tryz.ntmps89
   go_upto_region 1 with fail
   refine uN ((Bel.refl w).alloc _) fun W hc hf hz hb => ?_
   have T : Qan W w.heap.size tokZ := by simp [Qan, tokZ, Qaa, hc, hf, hz, go_sem]
   clear hc hf hz
   generalize hN : w.heap.size = N at T ⊢
   have BN := Hd (show w.heap.size <= N from by omega)
   have HB := Hd hb
   clear hN hb
   go_wp2_with (first
    | (go_at_call 130; refine (CD.out _).mono ?_; rintro e' W1 ⟨rfl, rfl⟩)
    | (go_at_call 134; refine (CL.out _).mono ?_; rintro e' W1 ⟨rfl, rfl⟩)
    | (go_at_call 136; refine (CX.out _ HB.out).mono ?_; rintro e' W2 ⟨rfl, hb2⟩; have hq1 := Hd hb2; obtain ⟨t0, ⟨t1, t2, t3, t4, t5, t6⟩, ⟨g1, g2, g3, g4, g5, g6⟩⟩ := T.keep hb2; simp only [tokZ] at t1 t2 t3 t4 t5 t6))
   refine pR (v := .tuple #[.agg #[.int .i64 5, .int .i64 0, .string (Qaa g), .int .i64 0, .int .i64 0, .int .i64 0], .int .i64 g.length, .int .i64 0]) (by simp [results, Tryz.results89, go_sem, t0, t1, t2, t3, t4, t5, t6]) rfl ⟨by rw [GV.out], ?_⟩
   have hN := BN.out
   have hq := HB.out.trans hq1.out
   exact Bel.y
end
section
open Go.RowKit
def TokOut (w : World) (x : List Tok × Nat × Nat) (e : Ending) (w' : World) : Prop :=
 Bel w w' /\ ∃ v, e = .returned (.tuple #[v, .int .i64 x.2.1, .int .i64 x.2.2]) /\ TkRows w' w.heap.size v x.1
theorem skip0 (s : ByteArray) (hs : s.size <= 65536) (w : World) : Calls Tryz.prog 88 #[.string s, .int .i64 0] w fun e w' => e = .returned (.int .i64 ((s.size - (s.data.toList.dropWhile wsB).length : Nat) : Int)) /\ Bel w w' := Qhn s 0 (Nat.zero_le _) hs w
theorem Qhp (s : ByteArray) (p : Nat) (hp : p <= s.size) : s.data.toList.drop (s.size - ((s.data.toList.drop p).dropWhile wsB).length) = (s.data.toList.drop p).dropWhile wsB := by
 have h1 := Qbz wsB (s.data.toList.drop p)
 rw [List.length_drop, Qag] at h1
 have h2 := Qnd wsB (s.data.toList.drop p)
 rw [List.drop_drop] at h2
 rw [show s.size - ((s.data.toList.drop p).dropWhile wsB).length = p + ((s.data.toList.drop p).takeWhile wsB).length by omega]
 exact h2
theorem Qke (x : List UInt8) : ∀ c t, x.dropWhile wsB = c :: t -> wsB c = false := by
 intro c t h
 rcases (Qdq wsB x).2.2 with h1 | ⟨d, u, h1, h2⟩
 ·rw [h1] at h; cases h
 rw [h1] at h
 cases h
 exact h2
theorem Qiz (s : ByteArray) (hsz : s.size <= 9223372036854775807) (w : World) (hm : Mx w) :
  Calls Tryz.prog 62 #[.string s] w (TokOut w (tokS s)) := by
 have i2 : (s.size : Int) <= 9223372036854775807 := by omega
 by_cases hbig : 65536 < s.size
 ·have TS := Hd (show tokS s = ([], 0, 10) from by unfold tokS; rw [iP hbig])
  have hb1 : (65536 : Int) < s.size := by omega
  clear hbig
  go_enter Tryz.func62, Tryz.ntmps62
  go_wp2_with fail
  go_ret3
  rw [TS.out]
  exact ⟨Bel.refl _, _, rfl, TkRows.nil _ _⟩
 have hs : s.size <= 65536 := by omega
 have hsi : (s.size : Int) <= 65536 := by omega
 have C0 := Hd fun W => skip0 s hs W
 have HM := Hd hm
 obtain ⟨a0, ha0⟩ : ∃ a0, a0 = s.size - (s.data.toList.dropWhile wsB).length := ⟨_, rfl⟩
 rw [← ha0] at C0
 have hd0 := Qhp s 0 (Nat.zero_le _)
 rw [List.drop_zero, ← ha0] at hd0
 have D0 := Hd hd0
 have ha0' : a0 <= s.size := by omega
 clear hbig hm ha0 hd0
 have TSO := Hd fun ms (h : Run 0 s.data.toList ms []) => Qtj hs h
 have TSB := Hd fun ms l2 e (h : Run 0 s.data.toList ms l2) hl hb => Qp8 (e := e) hs h hl hb
 have HSZ := Hd hs
 generalize tokS s = TS at TSO TSB ⊢
 go_enter Tryz.func62, Tryz.ntmps62
 go_wp2_with (go_at_call 88; refine (C0.out _).mono ?_; rintro e W0 ⟨rfl, hb0⟩)
 go_loopg [5, 6] (s.size + 1) (fun g lv av wr => ∃ (p : Nat) (ms : List Tok) (A : Option Addr) (c : Nat), lv = .slice A ms.length c /\ av = .int .i64 p /\ p <= s.size /\ ms.length <= p /\ Hid (s.size + 1 - p <= g) /\ Hid (Run 0 s.data.toList ms (s.data.toList.drop p)) /\ Hid (∀ c t, s.data.toList.drop p = c :: t -> wsB c = false) /\ Hid (TkRows wr w.heap.size (.slice A ms.length c) ms) /\ Hid (Bel w wr))
 case atStart => exact ⟨a0, [], none, 0, rfl, rfl, ha0', Nat.zero_le _, Hd (by omega), Hd (by rw [D0.out]; exact Run.ws 0 _), Hd (by rw [D0.out]; exact Qke _), Hd (TkRows.nil _ _), Hd hb0⟩
 case round =>
  obtain ⟨p, ms, A, c, rfl, rfl, hp, hml, hg, hR, hH, hT, hb⟩ := hrel
  have p0 : (0 : Int) <= (p : Int) := by omega
  have hpi : (p : Int) <= s.size := by omega
  by_cases hlt : p < s.size
  ·have hlti : (p : Int) < s.size := by omega
   have hd := Qgw s p hlt
   have hw := hH.out _ _ hd
   obtain ⟨z, hz⟩ : ∃ z, z = s.extract p s.size := ⟨_, rfl⟩
   have hzl : z.data.toList = s.data.toList.drop p := by rw [hz, Qit]
   have hzs : z.size = s.size - p := by rw [hz, Qj8]
   have hz0 : 0 < z.size := by omega
   have hzc : z[0] = s[p] := by
    have e1 := Qgw z 0 hz0
    rw [List.drop_zero, hzl, hd] at e1
    exact (List.cons.inj e1).1.symm
   have CF := Hd fun W (hW : Bel w W) => Qlj z (by omega) hz0 W (HM.out.keep hW)
   rw [hzc, hzl] at CF
   have ZE := Hd hz
   have hst : stepT (s.data.toList.drop p) = firT s[p] (s.data.toList.drop p) := by
    conv => lhs; rw [hd]
    rw [Qc7, iN (by rw [hw]; simp), ← hd]
   cases hf : firT s[p] (s.data.toList.drop p) with
   | bad er =>
    have hbad := TSB.out ms (s.data.toList.drop p) er hR.out (by rw [hd]; simp) (by rw [hst, hf])
    have he0 := Qqr hf
    rw [List.length_drop, Qag, show s.size - (s.size - p) = p by omega] at hbad
    obtain rfl := hbad
    rw [hf] at CF
    simp only [firV] at CF
    have he1 : ¬ (er : Int) = 0 := by omega
    clear hd hw hzl hzs hz0 hzc hz hst hf he0
    go_wp2_with (go_at_call 89; rw [← ZE.out]; refine (CF.out _ hb.out).mono ?_; rintro e W1 ⟨rfl, hb1⟩)
    go_ret3
    refine ⟨?_, _, rfl, TkRows.nil _ _⟩
    have hq := hb.out.trans hb1
    exact Bel.y
   | ok r m =>
    obtain ⟨t, rfl⟩ := Qnn hf
    obtain ⟨q, hq, hqn⟩ := Qc8 (hst.trans hf)
    have hql := congrArg List.length hq
    rw [lA, List.length_drop, Qag] at hql
    have hq1 := List.length_pos_iff.2 hqn
    have hdr : s.data.toList.drop (p + q.length) = r := by rw [← List.drop_drop, hq]; simp
    have RN := Hd (hR.out.snoc (hst.trans hf)).skip
    rw [List.length_drop, Qag, show s.size - (s.size - p) = p by omega] at RN
    rw [hf] at CF
    simp only [firV] at CF
    rw [List.length_drop, Qag, show s.size - p - r.length = q.length by omega] at CF
    have hk2 : p + q.length <= s.size := by omega
    have CS := Hd fun W => Qhn s (p + q.length) hk2 HSZ.out W
    have SD := Hd (Qhp s (p + q.length) hk2)
    rw [hdr] at CS SD
    have HN := Hd (Qke r)
    have hrl := Qbz wsB r
    obtain ⟨p', hp'⟩ : ∃ p', p' = s.size - (r.dropWhile wsB).length := ⟨_, rfl⟩
    rw [← hp'] at CS SD
    have hpp : p < p' /\ p' <= s.size := by omega
    have hwq : IntKind.i64.wrap ((p : Int) + (q.length : Int)) = (p : Int) + (q.length : Int) := by rw [IntKind.wrap_i64]; omega
    have hqi : (q.length : Int) + p <= s.size := by omega
    have CS2 := Hd (show ∀ W, Calls Tryz.prog 88 #[.string s, .int .i64 ((p : Int) + (q.length : Int))] W fun e w' => e = .returned (.int .i64 (p' : Nat)) /\ Bel W w' from fun W => by have := CS.out W; rwa [show (((p + q.length : Nat)) : Int) = (p : Int) + (q.length : Int) from by omega] at this)
    clear hd hw hzl hzs hz0 hzc hz hst hf hq hql hq1 hqn hdr CS hrl hp'
    obtain ⟨tk, tp, tx, ta, tb, td⟩ := t
    simp only at CF RN
    have AP := Hd fun W (hW : Bel wr W) ty => Qtp (hT.out.keep hW) (Nat.le_trans hb.out.size hW.size) (by omega) ⟨tk, p, tx, ta, tb, td⟩ ty
    go_upto_region 10 with (go_at_call 89; rw [← ZE.out]; refine (CF.out _ hb.out).mono ?_; rintro e W1 ⟨rfl, hb1⟩)
    refine uN (w0 := W1) (by exact Bel.y) fun W5 hc hf hz hb5 => ?_
    have T : Qan W5 W1.heap.size ⟨tk, p, tx, ta, tb, td⟩ := by simp [Qan, hc, hf, hz, go_sem]
    clear hc hf hz
    generalize W1.heap.size = N at T ⊢
    have hq5 := Hd (hb1.trans hb5)
    clear hb5 hb1
    obtain ⟨s0, ⟨s1, s2, s3, s4, s5, s6⟩, ⟨f1, f2, f3, f4, f5, f6⟩⟩ := T
    simp only at s1 s2 s3 s4 s5 s6
    go_wp2_with (first
     | (at_builtin; refine Qeg rfl (.tmp 33) (.tmp 35) _ rfl (AP.out _ hq5.out _) ?_; rintro v' w4 ⟨M4, B4⟩; obtain ⟨A4, k4, rfl, _, _⟩ := M4.val; have M4 := Hd M4; have B4 := Hd B4)
     | (go_at_call 88; refine (CS2.out _).mono ?_; rintro e W6 ⟨rfl, hb6⟩; have hb6 := Hd hb6))
    go_roundg (s.size + 1 - p')
    case measure => have := hg.out; omega
    case rel =>
     have hbel : Bel w w4 := Qqd (hb.out.trans hq5.out) (hT.out.keep hq5.out) B4.out
     refine ⟨p', ms ++ [⟨tk, p, tx, ta, tb, td⟩], A4, k4, by rw [lA]; rfl, rfl, hpp.2, by rw [lA]; simp; omega, Hd (Nat.le_refl _), Hd (by rw [SD.out]; exact RN.out), Hd (by rw [SD.out]; exact HN.out), Hd (M4.out.keep hb6.out), Hd (hbel.trans hb6.out)⟩
  obtain rfl : p = s.size := by omega
  have hend : s.data.toList.drop s.size = [] := List.drop_of_length_le (by rw [Qag]; exact Nat.le_refl _)
  have h := TSO.out ms (by rw [← hend]; exact hR.out)
  obtain rfl := h
  clear hend
  go_wp2_with fail
  go_ret3
  exact ⟨hb.out, _, rfl, hT.out⟩
end
end Go.Proofs.YtjckpkamhdbcnaaGreatDoor
