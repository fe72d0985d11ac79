import Derived.Test.YtjckpkamhdbcnaaGreatDoorZh
import Derived.Lib.CutLaws
namespace Go.Proofs.YtjckpkamhdbcnaaGreatDoor
set_option maxRecDepth 100000
set_option maxHeartbeats 64000000
set_option linter.unusedSimpArgs false
set_option linter.unusedVariables false
open Go.RowKit
def cutL (sep : List UInt8) : List UInt8 -> Option (List UInt8 × List UInt8)
 | [] => none
 | c :: t => if sep.isPrefixOf (c :: t) = true then some ([], (c :: t).drop sep.length) else match cutL sep t with
  | some (a, b) => some (c :: a, b)
  | none => none
theorem Qni (a l : List UInt8) : a.isPrefixOf l = true ↔ ∃ t, l = a ++ t := by
 rw [List.isPrefixOf_iff_prefix]
 constructor
 ·rintro ⟨t, h⟩; exact ⟨t, h.symm⟩
 rintro ⟨t, h⟩; exact ⟨t, h.symm⟩
theorem Qf7 (sep : List UInt8) (hs : sep ≠ []) : ∀ l, match cutL sep l with
  | some (a, b) => Lib.index l sep = a.length /\ l = a ++ sep ++ b
  | none => Lib.index l sep = -1
 | [] => by
  unfold cutL Lib.index
  cases sep with
  | nil => exact absurd rfl hs
  | cons a b => rfl
 | c :: t => by
  have ih := Qf7 sep hs t
  unfold cutL Lib.index
  by_cases h : sep.isPrefixOf (c :: t) = true
  ·rw [iP h, iP h]
   obtain ⟨u, hu⟩ := (Qni _ _).1 h
   exact ⟨rfl, by rw [hu]; simp⟩
  rw [iN h, iN h]
  cases hc : cutL sep t with
  | none =>
   rw [hc] at ih
   simp only at ih ⊢
   rw [ih]; rfl
  | some p =>
   obtain ⟨a, b⟩ := p
   rw [hc] at ih
   simp only at ih ⊢
   rw [ih.1, iN (by rw [beq_iff_eq]; omega)]
   exact ⟨by simp, by rw [ih.2]; simp⟩
theorem Qv5 (sep : List UInt8) (hs : sep ≠ []) (l : List UInt8) : Lib.cut l sep = match cutL sep l with
  | some (a, b) => (a, b, true)
  | none => (l, [], false) := by
 have h := Qf7 sep hs l
 unfold Lib.cut
 cases hc : cutL sep l with
 | none =>
  rw [hc] at h
  simp only at h ⊢
  rw [h]; rfl
 | some p =>
  obtain ⟨a, b⟩ := p
  rw [hc] at h
  simp only at h ⊢
  rw [h.1, iP (by omega)]
  simp only [Int.toNat_natCast]
  rw [h.2]
  simp
theorem Qv6 (l : List UInt8) : ∃ x y, Lib.cut l [34] = (l.takeWhile (· != 34), x, y) /\ y = decide (l.dropWhile (· != 34) ≠ []) := by
 rw [Qv5 [34] (by simp)]
 induction l with
 | nil => exact ⟨[], false, rfl, rfl⟩
 | cons c t ih =>
  obtain ⟨x, y, h, hy⟩ := ih
  unfold cutL
  by_cases hc : c = 34
  ·subst hc
   rw [iP (by simp [List.isPrefixOf])]
   refine ⟨_, true, by simp; rfl, ?_⟩
   simp [List.dropWhile_cons]
  rw [iN (by simp [List.isPrefixOf]; exact fun e => hc e.symm), List.takeWhile_cons, iP (by simpa using hc), List.dropWhile_cons, iP (by simpa using hc)]
  cases hk : cutL [34] t with
  | none =>
   rw [hk] at h
   simp only [Prod.mk.injEq] at h ⊢
   exact ⟨x, y, ⟨by rw [← h.1], h.2.1, h.2.2⟩, hy⟩
  | some p =>
   rw [hk] at h
   simp only [Prod.mk.injEq] at h ⊢
   exact ⟨x, y, ⟨by rw [← h.1], h.2.1, h.2.2⟩, hy⟩
theorem Qcs (w : World) (n : Nat) : Bel w (w.drewN n) := ⟨rfl, rfl, rfl, Nat.le_refl _, fun _ _ => rfl⟩
theorem Qe4 (z : ByteArray) (hz : z.size <= 65536) (w : World) (hm : Mx w) : ∃ x, Calls Tryz.prog 171 #[.string z, .string ⟨#[34]⟩] w fun r w' => r = .returned (.tuple #[.string (Qaa (z.data.toList.takeWhile (· != 34))), .string x, .bool (decide (z.data.toList.dropWhile (· != 34) ≠ []))]) /\ Bel w w' := by
 obtain ⟨m, hm⟩ := hm
 obtain ⟨x, y, h, rfl⟩ := Qv6 z.data.toList
 have hc := Tryz.strings_Cut z ⟨#[34]⟩ m w (by omega) hm
 have e : (⟨#[34]⟩ : ByteArray).data.toList = [34] := rfl
 rw [e, h] at hc
 exact ⟨Qaa x, hc.mono fun r w' ⟨hr, n, hw⟩ => ⟨hr, hw ▸ Qcs w n⟩⟩
theorem Qql (s : ByteArray) (w : World) : Calls Tryz.prog 170 #[.string s, .string ⟨#[64, 34]⟩] w fun e w' => e = .returned (.tuple #[.string (Qaa (if ([64, 34] : List UInt8).isPrefixOf s.data.toList = true then s.data.toList.drop 2 else s.data.toList)), .bool (([64, 34] : List UInt8).isPrefixOf s.data.toList)]) /\ w' = w := by
 refine (Tryz.strings_CutPrefix s ⟨#[64, 34]⟩ w).mono fun e w' ⟨he, hw⟩ => ⟨?_, hw⟩
 rw [he]
 have e1 : Lib.hasPrefix s.data.toList (⟨#[64, 34]⟩ : ByteArray).data.toList = ([64, 34] : List UInt8).isPrefixOf s.data.toList := rfl
 have e2 : Lib.trimPrefix s.data.toList (⟨#[64, 34]⟩ : ByteArray).data.toList = if ([64, 34] : List UInt8).isPrefixOf s.data.toList = true then s.data.toList.drop 2 else s.data.toList := rfl
 rw [e1, e2]
 rfl
theorem Qnj (s : ByteArray) (hs : s.size <= 65536) (w : World) (hm : Mx w) :
  Calls Tryz.prog 133 #[.string s] w fun e w' => e = .returned (firV s.data.toList (dayT s.data.toList)) /\ Bel w w' := by
 have CP := Hd fun W => Qql s W
 have HM := Hd hm
 have hlz := Qag s
 obtain ⟨l, hl⟩ : ∃ l, l = s.data.toList := ⟨_, rfl⟩
 rw [← hl] at CP hlz ⊢
 clear hl hm
 have CD := Hd fun (y : List UInt8) W => Qiq (Qaa y) W
 simp only [Qm8] at CD
 cases hp : ([64, 34] : List UInt8).isPrefixOf l with
 | false =>
  have FV := Hd (show firV l (dayT l) = firV [] (.bad 5) from by rw [Qqf hp]; rfl)
  generalize firV l (dayT l) = FVV at FV ⊢
  obtain rfl := FV.out
  rw [hp] at CP
  simp only [Bool.false_eq_true, if_false] at CP
  obtain ⟨u, hul⟩ : ∃ u, u = l := ⟨_, rfl⟩
  rw [← hul] at CP
  have hu : u.length <= 65536 := by rw [hul]; omega
  clear hul hp FV hlz
  replace CD := Hd (CD.out (u.takeWhile (· != 34)))
  generalize dayP (u.takeWhile (· != 34)) = dp at CD
  obtain ⟨dn, de⟩ := dp
  generalize HU : u.takeWhile (· != 34) = x at CD
  have HU := Hd HU
  go_enter Tryz.func133, Tryz.ntmps133
  go_upto_region 1 with fail
  refine uN ((Bel.refl w).alloc _) fun W hc hf hz hb => ?_
  have T : Qan W w.heap.size tokZ := by simp [Qan, tokZ, Qaa, hc, hf, hz, go_sem]
  clear hc hf hz
  generalize hN : w.heap.size = N at T ⊢
  have BN := Hd (show w.heap.size <= N from by omega)
  clear hN
  obtain ⟨rest, hcut⟩ := Qe4 (Qaa u) (by rw [Qae]; exact hu) W (HM.out.keep hb)
  rw [Qam] at hcut
  have CC := Hd hcut
  clear hcut
  rw [HU.out] at CC
  generalize decide (u.dropWhile (· != 34) ≠ []) = q at CC
  go_wp2_with (first
   | (go_at_call 170; refine (CP.out _).mono ?_; rintro e W1 ⟨rfl, rfl⟩)
   | (go_at_call 171; refine (CC.out).mono ?_; rintro e W2 ⟨rfl, hb1⟩)
   | (go_at_call 172; refine (CD.out _).mono ?_; rintro e W3 ⟨rfl, hb2⟩; have hq1 := Hd (hb1.trans hb2); obtain ⟨t0, ⟨t1, t2, t3, t4, t5, t6⟩, ⟨g1, g2, g3, g4, g5, g6⟩⟩ := T.keep hq1.out; simp only [tokZ] at t1 t2 t3 t4 t5 t6))
  refine pR (v := .tuple #[.agg #[.int .i64 0, .int .i64 0, .string ⟨#[]⟩, .int .i64 0, .int .i64 0, .int .i64 0], .int .i64 0, .int .i64 5]) (by simp [results, Tryz.results133, go_sem, t0, t1, t2, t3, t4, t5, t6]) rfl ⟨rfl, ?_⟩
  have hN := BN.out
  have hq := hb.trans hq1.out
  exact Bel.y
 | true =>
  obtain ⟨u, hlu⟩ : ∃ u, l = 64 :: 34 :: u := by
   obtain ⟨t, ht⟩ := (Qni _ _).1 hp
   exact ⟨t, ht⟩
  rw [hp, hlu] at CP
  simp only [if_true, List.drop_succ_cons, List.drop_zero] at CP
  have hu : u.length <= 65536 := by rw [hlu] at hlz; simp only [List.length_cons] at hlz; omega
  have hdt : dayT l = if u.dropWhile (· != 34) ≠ [] /\ (dayP (u.takeWhile (· != 34))).2 = 0 then .ok ((u.dropWhile (· != 34)).drop 1) (some ⟨3, 0, [], 0, 0, (dayP (u.takeWhile (· != 34))).1⟩) else .bad 5 := by
   unfold dayT
   rw [hp, hlu]
   simp only [true_and, List.drop_succ_cons, List.drop_zero]
  have hsp := Qbz (· != 34) u
  replace CD := Hd (CD.out (u.takeWhile (· != 34)))
  by_cases hd : u.dropWhile (· != 34) ≠ [] /\ (dayP (u.takeWhile (· != 34))).2 = 0
  ·have FV := Hd (show firV l (dayT l) = .tuple #[.agg #[.int .i64 3, .int .i64 0, .string ⟨#[]⟩, .int .i64 0, .int .i64 0, .int .i64 (dayP (u.takeWhile (· != 34))).1], .int .i64 (((u.takeWhile (· != 34)).length : Int) + 3), .int .i64 0] from by
    rw [hdt, iP hd]
    simp only [firV]
    have h1 := List.length_pos_iff.2 hd.1
    rw [hlu, List.length_drop]
    simp only [List.length_cons]
    have : u.length + 1 + 1 - ((u.dropWhile (· != 34)).length - 1) = (u.takeWhile (· != 34)).length + 3 := by omega
    rw [this]
    rfl)
   generalize firV l (dayT l) = FVV at FV ⊢
   obtain rfl := FV.out
   have hq1 : decide (u.dropWhile (· != 34) ≠ []) = true := dT hd.1
   have he := hd.2
   have htl : (u.takeWhile (· != 34)).length <= 65536 := by omega
   clear hdt hd hsp hlz hlu hp FV
   generalize dayP (u.takeWhile (· != 34)) = dp at CD he ⊢
   obtain ⟨dn, de⟩ := dp
   obtain rfl : de = 0 := he
   generalize HU : u.takeWhile (· != 34) = x at CD htl ⊢
   have HU := Hd HU
   have HQ := Hd hq1
   have hxs : (Qaa x).size = x.length := Qae x
   have w3 : IntKind.i64.wrap ((x.length : Int) + 3) = (x.length : Int) + 3 := by rw [IntKind.wrap_i64]; omega
   clear hq1
   go_enter Tryz.func133, Tryz.ntmps133
   go_upto_region 1 with fail
   refine uN ((Bel.refl w).alloc _) fun W hc hf hz hb => ?_
   have T : Qan W w.heap.size tokZ := by simp [Qan, tokZ, Qaa, hc, hf, hz, go_sem]
   clear hc hf hz
   generalize hN : w.heap.size = N at T ⊢
   have BN := Hd (show w.heap.size <= N from by omega)
   clear hN
   obtain ⟨rest, hcut⟩ := Qe4 (Qaa u) (by rw [Qae]; exact hu) W (HM.out.keep hb)
   rw [Qam] at hcut
   have CC := Hd hcut
   clear hcut
   rw [HU.out, HQ.out] at CC
   go_wp2_with (first
    | (go_at_call 170; refine (CP.out _).mono ?_; rintro e W1 ⟨rfl, rfl⟩)
    | (go_at_call 171; refine (CC.out).mono ?_; rintro e W2 ⟨rfl, hb1⟩)
    | (go_at_call 172; refine (CD.out _).mono ?_; rintro e W3 ⟨rfl, hb2⟩; have hq1 := Hd (hb1.trans hb2); obtain ⟨t0, ⟨t1, t2, t3, t4, t5, t6⟩, ⟨g1, g2, g3, g4, g5, g6⟩⟩ := T.keep hq1.out; simp only [tokZ] at t1 t2 t3 t4 t5 t6))
   refine pR (v := .tuple #[.agg #[.int .i64 3, .int .i64 0, .string ⟨#[]⟩, .int .i64 0, .int .i64 0, .int .i64 dn], .int .i64 ((x.length : Int) + 3), .int .i64 0]) (by simp [results, Tryz.results133, go_sem, t0, t1, t2, t3, t4, t5, t6]) rfl ⟨rfl, ?_⟩
   have hN := BN.out
   have hq := hb.trans hq1.out
   exact Bel.y
  have FV := Hd (show firV l (dayT l) = firV [] (.bad 5) from by rw [hdt, iN hd]; rfl)
  generalize firV l (dayT l) = FVV at FV ⊢
  obtain rfl := FV.out
  clear hdt hsp hlz hlu hp FV
  by_cases hq1 : u.dropWhile (· != 34) ≠ []
  ·have he : (dayP (u.takeWhile (· != 34))).2 ≠ 0 := fun h => hd ⟨hq1, h⟩
   have hq1 : decide (u.dropWhile (· != 34) ≠ []) = true := dT hq1
   generalize dayP (u.takeWhile (· != 34)) = dp at CD he
   obtain ⟨dn, de⟩ := dp
   have he : ¬ (de : Int) = 0 := by simp only at he; omega
   generalize HU : u.takeWhile (· != 34) = x at CD
   have HU := Hd HU
   have HQ := Hd hq1
   clear hq1 hd
   go_enter Tryz.func133, Tryz.ntmps133
   go_upto_region 1 with fail
   refine uN ((Bel.refl w).alloc _) fun W hc hf hz hb => ?_
   have T : Qan W w.heap.size tokZ := by simp [Qan, tokZ, Qaa, hc, hf, hz, go_sem]
   clear hc hf hz
   generalize hN : w.heap.size = N at T ⊢
   have BN := Hd (show w.heap.size <= N from by omega)
   clear hN
   obtain ⟨rest, hcut⟩ := Qe4 (Qaa u) (by rw [Qae]; exact hu) W (HM.out.keep hb)
   rw [Qam] at hcut
   have CC := Hd hcut
   clear hcut
   rw [HU.out, HQ.out] at CC
   go_wp2_with (first
    | (go_at_call 170; refine (CP.out _).mono ?_; rintro e W1 ⟨rfl, rfl⟩)
    | (go_at_call 171; refine (CC.out).mono ?_; rintro e W2 ⟨rfl, hb1⟩)
    | (go_at_call 172; refine (CD.out _).mono ?_; rintro e W3 ⟨rfl, hb2⟩; have hq1 := Hd (hb1.trans hb2); obtain ⟨t0, ⟨t1, t2, t3, t4, t5, t6⟩, ⟨g1, g2, g3, g4, g5, g6⟩⟩ := T.keep hq1.out; simp only [tokZ] at t1 t2 t3 t4 t5 t6))
   refine pR (v := .tuple #[.agg #[.int .i64 0, .int .i64 0, .string ⟨#[]⟩, .int .i64 0, .int .i64 0, .int .i64 0], .int .i64 0, .int .i64 5]) (by simp [results, Tryz.results133, go_sem, t0, t1, t2, t3, t4, t5, t6]) rfl ⟨rfl, ?_⟩
   have hN := BN.out
   have hq := hb.trans hq1.out
   exact Bel.y
  have hq1 : decide (u.dropWhile (· != 34) ≠ []) = false := dF hq1
  generalize dayP (u.takeWhile (· != 34)) = dp at CD
  obtain ⟨dn, de⟩ := dp
  generalize HU : u.takeWhile (· != 34) = x at CD
  have HU := Hd HU
  have HQ := Hd hq1
  clear hq1 hd
  go_enter Tryz.func133, Tryz.ntmps133
  go_upto_region 1 with fail
  refine uN ((Bel.refl w).alloc _) fun W hc hf hz hb => ?_
  have T : Qan W w.heap.size tokZ := by simp [Qan, tokZ, Qaa, hc, hf, hz, go_sem]
  clear hc hf hz
  generalize hN : w.heap.size = N at T ⊢
  have BN := Hd (show w.heap.size <= N from by omega)
  clear hN
  obtain ⟨rest, hcut⟩ := Qe4 (Qaa u) (by rw [Qae]; exact hu) W (HM.out.keep hb)
  rw [Qam] at hcut
  have CC := Hd hcut
  clear hcut
  rw [HU.out, HQ.out] at CC
  go_wp2_with (first
   | (go_at_call 170; refine (CP.out _).mono ?_; rintro e W1 ⟨rfl, rfl⟩)
   | (go_at_call 171; refine (CC.out).mono ?_; rintro e W2 ⟨rfl, hb1⟩)
   | (go_at_call 172; refine (CD.out _).mono ?_; rintro e W3 ⟨rfl, hb2⟩; have hq1 := Hd (hb1.trans hb2); obtain ⟨t0, ⟨t1, t2, t3, t4, t5, t6⟩, ⟨g1, g2, g3, g4, g5, g6⟩⟩ := T.keep hq1.out; simp only [tokZ] at t1 t2 t3 t4 t5 t6))
  refine pR (v := .tuple #[.agg #[.int .i64 0, .int .i64 0, .string ⟨#[]⟩, .int .i64 0, .int .i64 0, .int .i64 0], .int .i64 0, .int .i64 5]) (by simp [results, Tryz.results133, go_sem, t0, t1, t2, t3, t4, t5, t6]) rfl ⟨rfl, ?_⟩
  have hN := BN.out
  have hq := hb.trans hq1.out
  exact Bel.y
end Go.Proofs.YtjckpkamhdbcnaaGreatDoor
