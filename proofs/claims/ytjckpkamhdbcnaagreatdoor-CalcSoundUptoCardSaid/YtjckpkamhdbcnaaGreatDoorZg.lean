import Derived.Test.YtjckpkamhdbcnaaGreatDoorZf
namespace Go.Proofs.YtjckpkamhdbcnaaGreatDoor
set_option maxRecDepth 100000
set_option maxHeartbeats 64000000
set_option linter.unusedSimpArgs false
set_option linter.unusedVariables false
open Go.RowKit
theorem Qqi (s : ByteArray) : s.extract 0 (nmbL s.data.toList).1.length = Qaa (nmbL s.data.toList).1 := by
 have h := Qd3 s.data.toList
 rw [Qcr, List.drop_zero, Nat.sub_zero]
 congr 1
 generalize (nmbL s.data.toList).1 = x at *
 generalize (nmbL s.data.toList).2 = y at *
 rw [h]
 simp
theorem Qtu (s : ByteArray) : (nmbL s.data.toList).1.length + (nmbL s.data.toList).2.length = s.size := by
 have h := congrArg List.length (Qd3 s.data.toList)
 rw [lA, Qag] at h
 exact h.symm
theorem Qnh (s : ByteArray) (n : Nat) (hn : n = (s.data.toList.takeWhile fgB).length) :
  ((nmbL s.data.toList).1.length = n /\ (¬ n + 1 < s.size \/ ∃ h : n + 1 < s.size, s[n]'(Nat.lt_of_succ_lt h) ≠ 46 \/ fgB (s[n + 1]'h) = false)) \/
  (∃ h : n + 1 < s.size, s[n]'(Nat.lt_of_succ_lt h) = 46 /\ fgB (s[n + 1]'h) = true /\ (nmbL s.data.toList).1.length = n + (1 + ((s.data.toList.drop (n + 1)).takeWhile fgB).length)) := by
 have h1 := (Qdq fgB s.data.toList).1
 have hd := Qnd fgB s.data.toList
 rw [← hn] at hd
 unfold nmbL
 match hx : s.data.toList.dropWhile fgB with
 | [] =>
  left
  refine ⟨hn.symm, .inl ?_⟩
  have := congrArg List.length h1
  rw [lA, hx, Qag, ← hn] at this
  simp at this
  omega
 | [p] =>
  left
  refine ⟨hn.symm, .inl ?_⟩
  have := congrArg List.length h1
  rw [lA, hx, Qag, ← hn] at this
  simp at this
  omega
 | p :: d :: r =>
  have hl := congrArg List.length h1
  rw [lA, hx, Qag, ← hn] at hl
  simp only [List.length_cons] at hl
  have hlt : n + 1 < s.size := by omega
  rw [hx] at hd
  have e0 : s[n] = p := by
   have : (s.data.toList.drop n)[0]? = some p := by rw [hd]; rfl
   rw [List.getElem?_drop, Nat.add_zero, gE (by rw [Qag]; omega)] at this
   exact Option.some.inj this
  have e1 : s[n + 1] = d := by
   have : (s.data.toList.drop n)[1]? = some d := by rw [hd]; rfl
   rw [List.getElem?_drop, gE (by rw [Qag]; omega)] at this
   exact Option.some.inj this
  have hd1 : s.data.toList.drop (n + 1) = d :: r := by rw [← List.drop_drop, hd]; rfl
  by_cases hp : p = 46 /\ fgB d = true
  ·right
   refine ⟨hlt, by rw [e0]; exact hp.1, by rw [e1]; exact hp.2, ?_⟩
   simp only
   rw [iP hp, hd1]
   simp only [lA, List.length_cons, ← hn]
   omega
  left
  refine ⟨by simp only; rw [iN hp]; exact hn.symm, .inr ⟨hlt, ?_⟩⟩
  rw [e0, e1]
  by_cases h46 : p = 46
  ·right
   rw [Bool.eq_false_iff]
   exact fun h => hp ⟨h46, h⟩
  exact .inl h46
theorem Qix (s : ByteArray) (hs : s.size <= 65536) (w : World) :
  Calls Tryz.prog 131 #[.string s] w fun e w' => e = .returned (firV s.data.toList (numT s.data.toList)) /\ Bel w w' := by
 obtain ⟨n, hn⟩ : ∃ n, n = (s.data.toList.takeWhile fgB).length := ⟨_, rfl⟩
 have hnl := Qbz fgB s.data.toList
 rw [Qag, ← hn] at hnl
 have CR := Hd fun W => Qkb s hs W
 rw [← hn] at CR
 have hcs := Qnh s n hn
 have htk := Qqi s
 have hle := Qtu s
 have CP := Hd fun W => Qmq (Qaa (nmbL s.data.toList).1) (by rw [Qae]; omega) W
 rw [Qam, Qj5] at CP
 have FV0 := Hd (show (decP (nmbL s.data.toList).1).2.2 = 0 -> firV s.data.toList (numT s.data.toList) = .tuple #[.agg #[.int .i64 1, .int .i64 0, .string (Qaa []), .int .i64 (decP (nmbL s.data.toList).1).1, .int .i64 (decP (nmbL s.data.toList).1).2.1, .int .i64 0], .int .i64 ((nmbL s.data.toList).1.length : Nat), .int .i64 0] from fun h => by
  unfold numT
  rw [iP h]
  simp only [firV]
  rw [Qag, show s.size - (nmbL s.data.toList).2.length = (nmbL s.data.toList).1.length by omega])
 have FV1 := Hd (show (decP (nmbL s.data.toList).1).2.2 ≠ 0 -> firV s.data.toList (numT s.data.toList) = firV [] (.bad (decP (nmbL s.data.toList).1).2.2) from fun h => by
  unfold numT
  rw [iN h]
  rfl)
 generalize firV s.data.toList (numT s.data.toList) = FV at *
 generalize (decP (nmbL s.data.toList).1).1 = da at *
 generalize (decP (nmbL s.data.toList).1).2.1 = db at *
 generalize (decP (nmbL s.data.toList).1).2.2 = de at *
 generalize (nmbL s.data.toList).1 = q at *
 have hni : (n : Int) <= s.size := by omega
 have hni2 : n <= s.size := by omega
 have hsi : (s.size : Int) <= 65536 := by omega
 have hde : de = 0 \/ de ≠ 0 := by omega
 have w1 : IntKind.i64.wrap ((n : Int) + 1) = (n : Int) + 1 := by rw [IntKind.wrap_i64]; omega
 have HS := Hd hs
 clear hnl hn hs
 rcases hcs with ⟨hq, hcs⟩ | ⟨hlt, h46, hdg, hq⟩
 ·have GX := Hd htk
  rw [hq] at GX FV0
  clear htk hq
  rcases hcs with hcs | ⟨hlt, hcs⟩
  ·have hc1 : decide ((n : Int) + 1 < s.size) = false := dF (by omega)
   have hc2 : ¬ (n : Int) + 1 < s.size := by omega
   clear hcs hle
   rcases hde with hde | hde
   ·obtain rfl := FV0.out hde
    subst hde
    clear FV0 FV1
    go_enter Tryz.func131, Tryz.ntmps131
    go_upto_region 1 with fail
    refine uN ((Bel.refl w).alloc _) fun W hc hf hz hb => ?_
    have T : Qan W w.heap.size tokZ := by simp [Qan, tokZ, Qaa, hc, hf, hz, go_sem]
    clear hc hf hz
    generalize hN : w.heap.size = N at T ⊢
    have BN := Hd (show w.heap.size <= N from by omega)
    clear hN
    go_wp2_with (first
     | ((with_reducible refine Calls.mono (CR.out _) ?_); rintro e W1 ⟨rfl, hb1⟩)
     | ((go_at_call 166); rw [GX.out]; (with_reducible refine Calls.mono (CP.out _) ?_); rintro e W2 ⟨rfl, hb2⟩; have hq1 := Hd (hb1.trans hb2); obtain ⟨t0, ⟨t1, t2, t3, t4, t5, t6⟩, ⟨g1, g2, g3, g4, g5, g6⟩⟩ := T.keep hq1.out; simp only [tokZ] at t1 t2 t3 t4 t5 t6; have hlt2 := hb2.size))
    refine pR (v := .tuple #[.agg #[.int .i64 1, .int .i64 0, .string ⟨#[]⟩, .int .i64 da, .int .i64 db, .int .i64 0], .int .i64 (n), .int .i64 0]) (by simp [results, Tryz.results131, go_sem, t0, t1, t2, t3, t4, t5, t6]) rfl ⟨rfl, ?_⟩
    have hN := BN.out
    have hq := hb.trans hq1.out
    exact Bel.y
   obtain rfl := FV1.out hde
   have hde' : ¬ (de : Int) = 0 := by omega
   clear FV0 FV1
   go_enter Tryz.func131, Tryz.ntmps131
   go_upto_region 1 with fail
   refine uN ((Bel.refl w).alloc _) fun W hc hf hz hb => ?_
   have T : Qan W w.heap.size tokZ := by simp [Qan, tokZ, Qaa, hc, hf, hz, go_sem]
   clear hc hf hz
   generalize hN : w.heap.size = N at T ⊢
   have BN := Hd (show w.heap.size <= N from by omega)
   clear hN
   go_wp2_with (first
    | ((with_reducible refine Calls.mono (CR.out _) ?_); rintro e W1 ⟨rfl, hb1⟩)
    | ((go_at_call 166); rw [GX.out]; (with_reducible refine Calls.mono (CP.out _) ?_); rintro e W2 ⟨rfl, hb2⟩; have hq1 := Hd (hb1.trans hb2); obtain ⟨t0, ⟨t1, t2, t3, t4, t5, t6⟩, ⟨g1, g2, g3, g4, g5, g6⟩⟩ := T.keep hq1.out; simp only [tokZ] at t1 t2 t3 t4 t5 t6; have hlt2 := hb2.size))
   refine pR (v := .tuple #[.agg #[.int .i64 0, .int .i64 0, .string ⟨#[]⟩, .int .i64 0, .int .i64 0, .int .i64 0], .int .i64 0, .int .i64 de]) (by simp [results, Tryz.results131, go_sem, t0, t1, t2, t3, t4, t5, t6]) rfl ⟨rfl, ?_⟩
   have hN := BN.out
   have hq := hb.trans hq1.out
   exact Bel.y
  have hc1 : (n : Int) + 1 < s.size := by omega
  have hlt' : n < s.size := by omega
  clear hle
  by_cases h46 : s[n] = 46
  ·have hdg : fgB s[n + 1] = false := by
    rcases hcs with hcs | hcs
    ·exact absurd h46 hcs
    exact hcs
   have CD := Hd fun W => Qcb s[n + 1] W
   rw [hdg] at CD
   have e46 : ((s[n].toNat : Int) == 46) = true := by rw [h46]; rfl
   have e46' : (s[n].toNat : Int) = 46 := by rw [h46]; rfl
   clear hcs h46 hdg
   rcases hde with hde | hde
   ·obtain rfl := FV0.out hde
    subst hde
    clear FV0 FV1
    go_enter Tryz.func131, Tryz.ntmps131
    go_upto_region 1 with fail
    refine uN ((Bel.refl w).alloc _) fun W hc hf hz hb => ?_
    have T : Qan W w.heap.size tokZ := by simp [Qan, tokZ, Qaa, hc, hf, hz, go_sem]
    clear hc hf hz
    generalize hN : w.heap.size = N at T ⊢
    have BN := Hd (show w.heap.size <= N from by omega)
    clear hN
    go_wp2_with (first
     | ((with_reducible refine Calls.mono (CR.out _) ?_); rintro e W1 ⟨rfl, hb1⟩)
     | (go_at_call 130; (with_reducible refine Calls.mono (CD.out _) ?_); rintro e W3 ⟨rfl, rfl⟩)
     | ((go_at_call 166); rw [GX.out]; (with_reducible refine Calls.mono (CP.out _) ?_); rintro e W2 ⟨rfl, hb2⟩; have hq1 := Hd (hb1.trans hb2); obtain ⟨t0, ⟨t1, t2, t3, t4, t5, t6⟩, ⟨g1, g2, g3, g4, g5, g6⟩⟩ := T.keep hq1.out; simp only [tokZ] at t1 t2 t3 t4 t5 t6; have hlt2 := hb2.size))
    refine pR (v := .tuple #[.agg #[.int .i64 1, .int .i64 0, .string ⟨#[]⟩, .int .i64 da, .int .i64 db, .int .i64 0], .int .i64 (n), .int .i64 0]) (by simp [results, Tryz.results131, go_sem, t0, t1, t2, t3, t4, t5, t6]) rfl ⟨rfl, ?_⟩
    have hN := BN.out
    have hq := hb.trans hq1.out
    exact Bel.y
   obtain rfl := FV1.out hde
   have hde' : ¬ (de : Int) = 0 := by omega
   clear FV0 FV1
   go_enter Tryz.func131, Tryz.ntmps131
   go_upto_region 1 with fail
   refine uN ((Bel.refl w).alloc _) fun W hc hf hz hb => ?_
   have T : Qan W w.heap.size tokZ := by simp [Qan, tokZ, Qaa, hc, hf, hz, go_sem]
   clear hc hf hz
   generalize hN : w.heap.size = N at T ⊢
   have BN := Hd (show w.heap.size <= N from by omega)
   clear hN
   go_wp2_with (first
    | ((with_reducible refine Calls.mono (CR.out _) ?_); rintro e W1 ⟨rfl, hb1⟩)
    | (go_at_call 130; (with_reducible refine Calls.mono (CD.out _) ?_); rintro e W3 ⟨rfl, rfl⟩)
    | ((go_at_call 166); rw [GX.out]; (with_reducible refine Calls.mono (CP.out _) ?_); rintro e W2 ⟨rfl, hb2⟩; have hq1 := Hd (hb1.trans hb2); obtain ⟨t0, ⟨t1, t2, t3, t4, t5, t6⟩, ⟨g1, g2, g3, g4, g5, g6⟩⟩ := T.keep hq1.out; simp only [tokZ] at t1 t2 t3 t4 t5 t6; have hlt2 := hb2.size))
   refine pR (v := .tuple #[.agg #[.int .i64 0, .int .i64 0, .string ⟨#[]⟩, .int .i64 0, .int .i64 0, .int .i64 0], .int .i64 0, .int .i64 de]) (by simp [results, Tryz.results131, go_sem, t0, t1, t2, t3, t4, t5, t6]) rfl ⟨rfl, ?_⟩
   have hN := BN.out
   have hq := hb.trans hq1.out
   exact Bel.y
  have e46 : ((s[n].toNat : Int) == 46) = false := by
   rw [bN]
   intro e
   apply h46
   rw [← UInt8.toNat_inj]
   exact Int.ofNat.inj e
  clear hcs h46
  rcases hde with hde | hde
  ·obtain rfl := FV0.out hde
   subst hde
   clear FV0 FV1
   go_enter Tryz.func131, Tryz.ntmps131
   go_upto_region 1 with fail
   refine uN ((Bel.refl w).alloc _) fun W hc hf hz hb => ?_
   have T : Qan W w.heap.size tokZ := by simp [Qan, tokZ, Qaa, hc, hf, hz, go_sem]
   clear hc hf hz
   generalize hN : w.heap.size = N at T ⊢
   have BN := Hd (show w.heap.size <= N from by omega)
   clear hN
   go_wp2_with (first
    | ((with_reducible refine Calls.mono (CR.out _) ?_); rintro e W1 ⟨rfl, hb1⟩)
    | ((go_at_call 166); rw [GX.out]; (with_reducible refine Calls.mono (CP.out _) ?_); rintro e W2 ⟨rfl, hb2⟩; have hq1 := Hd (hb1.trans hb2); obtain ⟨t0, ⟨t1, t2, t3, t4, t5, t6⟩, ⟨g1, g2, g3, g4, g5, g6⟩⟩ := T.keep hq1.out; simp only [tokZ] at t1 t2 t3 t4 t5 t6; have hlt2 := hb2.size))
   refine pR (v := .tuple #[.agg #[.int .i64 1, .int .i64 0, .string ⟨#[]⟩, .int .i64 da, .int .i64 db, .int .i64 0], .int .i64 (n), .int .i64 0]) (by simp [results, Tryz.results131, go_sem, t0, t1, t2, t3, t4, t5, t6]) rfl ⟨rfl, ?_⟩
   have hN := BN.out
   have hq := hb.trans hq1.out
   exact Bel.y
  obtain rfl := FV1.out hde
  have hde' : ¬ (de : Int) = 0 := by omega
  clear FV0 FV1
  go_enter Tryz.func131, Tryz.ntmps131
  go_upto_region 1 with fail
  refine uN ((Bel.refl w).alloc _) fun W hc hf hz hb => ?_
  have T : Qan W w.heap.size tokZ := by simp [Qan, tokZ, Qaa, hc, hf, hz, go_sem]
  clear hc hf hz
  generalize hN : w.heap.size = N at T ⊢
  have BN := Hd (show w.heap.size <= N from by omega)
  clear hN
  go_wp2_with (first
   | ((with_reducible refine Calls.mono (CR.out _) ?_); rintro e W1 ⟨rfl, hb1⟩)
   | ((go_at_call 166); rw [GX.out]; (with_reducible refine Calls.mono (CP.out _) ?_); rintro e W2 ⟨rfl, hb2⟩; have hq1 := Hd (hb1.trans hb2); obtain ⟨t0, ⟨t1, t2, t3, t4, t5, t6⟩, ⟨g1, g2, g3, g4, g5, g6⟩⟩ := T.keep hq1.out; simp only [tokZ] at t1 t2 t3 t4 t5 t6; have hlt2 := hb2.size))
  refine pR (v := .tuple #[.agg #[.int .i64 0, .int .i64 0, .string ⟨#[]⟩, .int .i64 0, .int .i64 0, .int .i64 0], .int .i64 0, .int .i64 de]) (by simp [results, Tryz.results131, go_sem, t0, t1, t2, t3, t4, t5, t6]) rfl ⟨rfl, ?_⟩
  have hN := BN.out
  have hq := hb.trans hq1.out
  exact Bel.y
 have hlt' : n < s.size := by omega
 have hc1 : (n : Int) + 1 < s.size := by omega
 have CD := Hd fun W => Qcb s[n + 1] W
 rw [hdg] at CD
 have e46 : ((s[n].toNat : Int) == 46) = true := by rw [h46]; rfl
 have e46' : (s[n].toNat : Int) = 46 := by rw [h46]; rfl
 have CR2 := Hd fun W => Qkb (s.extract (n + 1) s.size) (by rw [Qj8]; have := HS.out; omega) W
 rw [Qit] at CR2
 have hml := Qbz fgB (s.data.toList.drop (n + 1))
 rw [List.length_drop, Qag] at hml
 generalize ((s.data.toList.drop (n + 1)).takeWhile fgB).length = m at *
 have GX := Hd htk
 rw [hq] at GX FV0
 have hmi : (m : Int) + n + 1 <= s.size := by omega
 have w2 : IntKind.i64.wrap (1 + (m : Int)) = 1 + (m : Int) := by rw [IntKind.wrap_i64]; omega
 have w3 : IntKind.i64.wrap ((n : Int) + (1 + (m : Int))) = (n : Int) + (1 + (m : Int)) := by rw [IntKind.wrap_i64]; omega
 clear htk hq hml hle h46 hdg
 rcases hde with hde | hde
 ·obtain rfl := FV0.out hde
  subst hde
  clear FV0 FV1
  go_enter Tryz.func131, Tryz.ntmps131
  go_upto_region 1 with fail
  refine uN ((Bel.refl w).alloc _) fun W hc hf hz hb => ?_
  have T : Qan W w.heap.size tokZ := by simp [Qan, tokZ, Qaa, hc, hf, hz, go_sem]
  clear hc hf hz
  generalize hN : w.heap.size = N at T ⊢
  have BN := Hd (show w.heap.size <= N from by omega)
  clear hN
  go_wp2_with (first
   | ((with_reducible refine Calls.mono (CR.out _) ?_); rintro e W1 ⟨rfl, hb1⟩)
   | (go_at_call 130; (with_reducible refine Calls.mono (CD.out _) ?_); rintro e W3 ⟨rfl, rfl⟩)
   | ((with_reducible refine Calls.mono (CR2.out _) ?_); rintro e W4 ⟨rfl, hb4⟩)
   | ((go_at_call 166); rw [GX.out]; (with_reducible refine Calls.mono (CP.out _) ?_); rintro e W2 ⟨rfl, hb2⟩; have hq1 := Hd (hb1.trans (hb4.trans hb2)); obtain ⟨t0, ⟨t1, t2, t3, t4, t5, t6⟩, ⟨g1, g2, g3, g4, g5, g6⟩⟩ := T.keep hq1.out; simp only [tokZ] at t1 t2 t3 t4 t5 t6; have hlt2 := hb2.size))
  refine pR (v := .tuple #[.agg #[.int .i64 1, .int .i64 0, .string ⟨#[]⟩, .int .i64 da, .int .i64 db, .int .i64 0], .int .i64 ((n : Int) + (1 + (m : Int))), .int .i64 0]) (by simp [results, Tryz.results131, go_sem, t0, t1, t2, t3, t4, t5, t6]) rfl ⟨rfl, ?_⟩
  have hN := BN.out
  have hq := hb.trans hq1.out
  exact Bel.y
 obtain rfl := FV1.out hde
 have hde' : ¬ (de : Int) = 0 := by omega
 clear FV0 FV1
 go_enter Tryz.func131, Tryz.ntmps131
 go_upto_region 1 with fail
 refine uN ((Bel.refl w).alloc _) fun W hc hf hz hb => ?_
 have T : Qan W w.heap.size tokZ := by simp [Qan, tokZ, Qaa, hc, hf, hz, go_sem]
 clear hc hf hz
 generalize hN : w.heap.size = N at T ⊢
 have BN := Hd (show w.heap.size <= N from by omega)
 clear hN
 go_wp2_with (first
  | ((with_reducible refine Calls.mono (CR.out _) ?_); rintro e W1 ⟨rfl, hb1⟩)
  | (go_at_call 130; (with_reducible refine Calls.mono (CD.out _) ?_); rintro e W3 ⟨rfl, rfl⟩)
  | ((with_reducible refine Calls.mono (CR2.out _) ?_); rintro e W4 ⟨rfl, hb4⟩)
  | ((go_at_call 166); rw [GX.out]; (with_reducible refine Calls.mono (CP.out _) ?_); rintro e W2 ⟨rfl, hb2⟩; have hq1 := Hd (hb1.trans (hb4.trans hb2)); obtain ⟨t0, ⟨t1, t2, t3, t4, t5, t6⟩, ⟨g1, g2, g3, g4, g5, g6⟩⟩ := T.keep hq1.out; simp only [tokZ] at t1 t2 t3 t4 t5 t6; have hlt2 := hb2.size))
 refine pR (v := .tuple #[.agg #[.int .i64 0, .int .i64 0, .string ⟨#[]⟩, .int .i64 0, .int .i64 0, .int .i64 0], .int .i64 0, .int .i64 de]) (by simp [results, Tryz.results131, go_sem, t0, t1, t2, t3, t4, t5, t6]) rfl ⟨rfl, ?_⟩
 have hN := BN.out
 have hq := hb.trans hq1.out
 exact Bel.y
end Go.Proofs.YtjckpkamhdbcnaaGreatDoor
