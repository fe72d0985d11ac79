
import Derived.Test.YthfkbonbgdioaaaGreatDoorLxh
import Derived.Lib.CutLaws
namespace Go.Proofs.YthfkbonbgdioaaaGreatDoor
set_option linter.unusedSimpArgs false
set_option linter.unusedVariables false
open Go.RowKit

/-! Dates read; what a sound token is. -/
/-- A text cut at the first place where another stands in it. -/
def cutL (sep : List UInt8) : List UInt8 → Option (List UInt8 × List UInt8)
  | [] => none
  | c :: t => if sep.isPrefixOf (c :: t) = true then some ([], (c :: t).drop sep.length) else match cutL sep t with
    | some (a, b) => some (c :: a, b)
    | none => none
theorem pre_iff (a l : List UInt8) : a.isPrefixOf l = true ↔ ∃ t, l = a ++ t := by
  rw [List.isPrefixOf_iff_prefix]
  constructor
  · rintro ⟨t, h⟩; exact ⟨t, h.symm⟩
  · rintro ⟨t, h⟩; exact ⟨t, h.symm⟩
theorem cutL_index (sep : List UInt8) (hs : sep ≠ []) : ∀ l, match cutL sep l with
    | some (a, b) => Lib.index l sep = a.length ∧ l = a ++ sep ++ b
    | none => Lib.index l sep = -1
  | [] => by
    unfold cutL Lib.index
    cases sep with
    | nil => exact absurd rfl hs
    | cons a b => rfl
  | c :: t => by
    have ih := cutL_index sep hs t
    unfold cutL Lib.index
    by_cases h : sep.isPrefixOf (c :: t) = true
    · rw [if_pos h, if_pos h]
      obtain ⟨u, hu⟩ := (pre_iff _ _).1 h
      exact ⟨rfl, by rw [hu]; simp⟩
    · rw [if_neg h, if_neg h]
      cases hc : cutL sep t with
      | none =>
        rw [hc] at ih
        simp only at ih ⊢
        rw [ih]; rfl
      | some p =>
        obtain ⟨a, b⟩ := p
        rw [hc] at ih
        simp only at ih ⊢
        rw [ih.1, if_neg (by rw [beq_iff_eq]; omega)]
        exact ⟨by simp, by rw [ih.2]; simp⟩
theorem cut_is (sep : List UInt8) (hs : sep ≠ []) (l : List UInt8) : Lib.cut l sep = match cutL sep l with
    | some (a, b) => (a, b, true)
    | none => (l, [], false) := by
  have h := cutL_index sep hs l
  unfold Lib.cut
  cases hc : cutL sep l with
  | none =>
    rw [hc] at h
    simp only at h ⊢
    rw [h]; rfl
  | some p =>
    obtain ⟨a, b⟩ := p
    rw [hc] at h
    simp only at h ⊢
    rw [h.1, if_pos (by omega)]
    simp only [Int.toNat_natCast]
    rw [h.2]
    simp
theorem cut_qt (l : List UInt8) : ∃ x y, Lib.cut l [34] = (l.takeWhile (· != 34), x, y) ∧ y = decide (l.dropWhile (· != 34) ≠ []) := by
  rw [cut_is [34] (by simp)]
  induction l with
  | nil => exact ⟨[], false, rfl, rfl⟩
  | cons c t ih =>
    obtain ⟨x, y, h, hy⟩ := ih
    unfold cutL
    by_cases hc : c = 34
    · subst hc
      rw [if_pos (by simp [List.isPrefixOf])]
      refine ⟨_, true, by simp; rfl, ?_⟩
      simp [List.dropWhile_cons]
    · rw [if_neg (by simp [List.isPrefixOf]; exact fun e => hc e.symm), List.takeWhile_cons, if_pos (by simpa using hc), List.dropWhile_cons, if_pos (by simpa using hc)]
      cases hk : cutL [34] t with
      | none =>
        rw [hk] at h
        simp only [Prod.mk.injEq] at h ⊢
        exact ⟨x, y, ⟨by rw [← h.1], h.2.1, h.2.2⟩, hy⟩
      | some p =>
        rw [hk] at h
        simp only [Prod.mk.injEq] at h ⊢
        exact ⟨x, y, ⟨by rw [← h.1], h.2.1, h.2.2⟩, hy⟩
theorem bel_drewN (w : World) (n : Nat) : Bel w (w.drewN n) := ⟨rfl, rfl, rfl, Nat.le_refl _, fun _ _ => rfl⟩
theorem cutq_any (z : ByteArray) (hz : z.size ≤ 65536) (w : World) (hm : Mx w) : ∃ x, Calls Tryz.prog 127 #[.string z, .string ⟨#[34]⟩] w fun r w' => r = .returned (.tuple #[.string (bytesOf (z.data.toList.takeWhile (· != 34))), .string x, .bool (decide (z.data.toList.dropWhile (· != 34) ≠ []))]) ∧ Bel w w' := by
  obtain ⟨m, hm⟩ := hm
  obtain ⟨x, y, h, rfl⟩ := cut_qt z.data.toList
  have hc := Tryz.strings_Cut z ⟨#[34]⟩ m w (by omega) hm
  have e : (⟨#[34]⟩ : ByteArray).data.toList = [34] := rfl
  rw [e, h] at hc
  exact ⟨bytesOf x, hc.mono fun r w' ⟨hr, n, hw⟩ => ⟨hr, hw ▸ bel_drewN w n⟩⟩
theorem cutp_any (s : ByteArray) (w : World) : Calls Tryz.prog 126 #[.string s, .string ⟨#[64, 34]⟩] w fun e w' => e = .returned (.tuple #[.string (bytesOf (if ([64, 34] : List UInt8).isPrefixOf s.data.toList = true then s.data.toList.drop 2 else s.data.toList)), .bool (([64, 34] : List UInt8).isPrefixOf s.data.toList)]) ∧ w' = w := by
  refine (Tryz.strings_CutPrefix s ⟨#[64, 34]⟩ w).mono fun e w' ⟨he, hw⟩ => ⟨?_, hw⟩
  rw [he]
  have e1 : Lib.hasPrefix s.data.toList (⟨#[64, 34]⟩ : ByteArray).data.toList = ([64, 34] : List UInt8).isPrefixOf s.data.toList := rfl
  have e2 : Lib.trimPrefix s.data.toList (⟨#[64, 34]⟩ : ByteArray).data.toList = if ([64, 34] : List UInt8).isPrefixOf s.data.toList = true then s.data.toList.drop 2 else s.data.toList := rfl
  rw [e1, e2]
  rfl
set_option maxRecDepth 100000 in
set_option maxHeartbeats 4000000 in
theorem xdate_any (s : ByteArray) (hs : s.size ≤ 65536) (w : World) (hm : Mx w) :
    Calls Tryz.prog 93 #[.string s] w fun e w' => e = .returned (firV s.data.toList (dayT s.data.toList)) ∧ Bel w w' := by
  have CP := Lib.hid fun W => cutp_any s W
  have HM := Lib.hid hm
  have hlz := size_list s
  obtain ⟨l, hl⟩ : ∃ l, l = s.data.toList := ⟨_, rfl⟩
  rw [← hl] at CP hlz ⊢
  clear hl hm
  have CD := Lib.hid fun (y : List UInt8) W => parse_any_Y (bytesOf y) W
  simp only [day_is] at CD
  cases hp : ([64, 34] : List UInt8).isPrefixOf l with
  | false =>
    have FV := Lib.hid (show firV l (dayT l) = firV [] (.bad 5) from by rw [day_none hp]; rfl)
    generalize firV l (dayT l) = FVV at FV ⊢
    obtain rfl := FV.out
    rw [hp] at CP
    simp only [Bool.false_eq_true, if_false] at CP
    obtain ⟨u, hul⟩ : ∃ u, u = l := ⟨_, rfl⟩
    rw [← hul] at CP
    have hu : u.length ≤ 65536 := by rw [hul]; omega
    clear hul hp FV hlz
    replace CD := Lib.hid (CD.out (u.takeWhile (· != 34)))
    generalize dayP (u.takeWhile (· != 34)) = dp at CD
    obtain ⟨dn, de⟩ := dp
    generalize HU : u.takeWhile (· != 34) = x at CD
    have HU := Lib.hid HU
    go_enter Tryz.func93, Tryz.ntmps93
    go_upto_region 1 with fail
    refine under_name ((Bel.refl w).alloc _) fun W hc hf hz hb => ?_
    have T : TSlot W w.heap.size tokZ := by simp [TSlot, tokZ, bytesOf, hc, hf, hz, go_sem]
    clear hc hf hz
    generalize hN : w.heap.size = N at T ⊢
    have BN := Lib.hid (show w.heap.size ≤ N from by omega)
    clear hN
    obtain ⟨rest, hcut⟩ := cutq_any (bytesOf u) (by rw [bytesOf_size]; exact hu) W (HM.out.keep hb)
    rw [bytes_toList] at hcut
    have CC := Lib.hid hcut
    clear hcut
    rw [HU.out] at CC
    generalize decide (u.dropWhile (· != 34) ≠ []) = q at CC
    go_wp2_with (first
      | (go_at_call 126; refine (CP.out _).mono ?_; rintro e W1 ⟨rfl, rfl⟩)
      | (go_at_call 127; refine (CC.out).mono ?_; rintro e W2 ⟨rfl, hb1⟩)
      | (go_at_call 128; refine (CD.out _).mono ?_; rintro e W3 ⟨rfl, hb2⟩; have hq1 := Lib.hid (hb1.trans hb2); obtain ⟨t0, ⟨t1, t2, t3, t4, t5, t6⟩, ⟨g1, g2, g3, g4, g5, g6⟩⟩ := T.keep hq1.out; simp only [tokZ] at t1 t2 t3 t4 t5 t6))
    refine bodyPost_ret (v := .tuple #[.agg #[.int .i64 0, .int .i64 0, .string ⟨#[]⟩, .int .i64 0, .int .i64 0, .int .i64 0], .int .i64 0, .int .i64 5]) (by simp [results, Tryz.results93, go_sem, t0, t1, t2, t3, t4, t5, t6]) rfl ⟨rfl, ?_⟩
    have hN := BN.out
    have hq := hb.trans hq1.out
    (repeat (first | with_reducible exact Bel.refl _ | with_reducible refine Bel.setCell ?_ (by first | exact Nat.le_refl _ | (dsimp only; omega)) _ | with_reducible refine Bel.alloc ?_ _ | with_reducible refine Bel.drew ?_ | with_reducible assumption | with_reducible refine Bel.trans ?_ (by assumption)))
  | true =>
    obtain ⟨u, hlu⟩ : ∃ u, l = 64 :: 34 :: u := by
      obtain ⟨t, ht⟩ := (pre_iff _ _).1 hp
      exact ⟨t, ht⟩
    rw [hp, hlu] at CP
    simp only [if_true, List.drop_succ_cons, List.drop_zero] at CP
    have hu : u.length ≤ 65536 := by rw [hlu] at hlz; simp only [List.length_cons] at hlz; omega
    have hdt : dayT l = if u.dropWhile (· != 34) ≠ [] ∧ (dayP (u.takeWhile (· != 34))).2 = 0 then .ok ((u.dropWhile (· != 34)).drop 1) (some ⟨3, 0, [], 0, 0, (dayP (u.takeWhile (· != 34))).1⟩) else .bad 5 := by
      unfold dayT
      rw [hp, hlu]
      simp only [true_and, List.drop_succ_cons, List.drop_zero]
    have hsp := tw_lens (· != 34) u
    replace CD := Lib.hid (CD.out (u.takeWhile (· != 34)))
    by_cases hd : u.dropWhile (· != 34) ≠ [] ∧ (dayP (u.takeWhile (· != 34))).2 = 0
    · have FV := Lib.hid (show firV l (dayT l) = .tuple #[.agg #[.int .i64 3, .int .i64 0, .string ⟨#[]⟩, .int .i64 0, .int .i64 0, .int .i64 (dayP (u.takeWhile (· != 34))).1], .int .i64 (((u.takeWhile (· != 34)).length : Int) + 3), .int .i64 0] from by
        rw [hdt, if_pos hd]
        simp only [firV]
        have h1 := List.length_pos_iff.2 hd.1
        rw [hlu, List.length_drop]
        simp only [List.length_cons]
        have : u.length + 1 + 1 - ((u.dropWhile (· != 34)).length - 1) = (u.takeWhile (· != 34)).length + 3 := by omega
        rw [this]
        rfl)
      generalize firV l (dayT l) = FVV at FV ⊢
      obtain rfl := FV.out
      have hq1 : decide (u.dropWhile (· != 34) ≠ []) = true := decide_eq_true hd.1
      have he := hd.2
      have htl : (u.takeWhile (· != 34)).length ≤ 65536 := by omega
      clear hdt hd hsp hlz hlu hp FV
      generalize dayP (u.takeWhile (· != 34)) = dp at CD he ⊢
      obtain ⟨dn, de⟩ := dp
      obtain rfl : de = 0 := he
      generalize HU : u.takeWhile (· != 34) = x at CD htl ⊢
      have HU := Lib.hid HU
      have HQ := Lib.hid hq1
      have hxs : (bytesOf x).size = x.length := bytesOf_size x
      have w3 : IntKind.i64.wrap ((x.length : Int) + 3) = (x.length : Int) + 3 := by rw [IntKind.wrap_i64]; omega
      clear hq1
      go_enter Tryz.func93, Tryz.ntmps93
      go_upto_region 1 with fail
      refine under_name ((Bel.refl w).alloc _) fun W hc hf hz hb => ?_
      have T : TSlot W w.heap.size tokZ := by simp [TSlot, tokZ, bytesOf, hc, hf, hz, go_sem]
      clear hc hf hz
      generalize hN : w.heap.size = N at T ⊢
      have BN := Lib.hid (show w.heap.size ≤ N from by omega)
      clear hN
      obtain ⟨rest, hcut⟩ := cutq_any (bytesOf u) (by rw [bytesOf_size]; exact hu) W (HM.out.keep hb)
      rw [bytes_toList] at hcut
      have CC := Lib.hid hcut
      clear hcut
      rw [HU.out, HQ.out] at CC
      go_wp2_with (first
        | (go_at_call 126; refine (CP.out _).mono ?_; rintro e W1 ⟨rfl, rfl⟩)
        | (go_at_call 127; refine (CC.out).mono ?_; rintro e W2 ⟨rfl, hb1⟩)
        | (go_at_call 128; refine (CD.out _).mono ?_; rintro e W3 ⟨rfl, hb2⟩; have hq1 := Lib.hid (hb1.trans hb2); obtain ⟨t0, ⟨t1, t2, t3, t4, t5, t6⟩, ⟨g1, g2, g3, g4, g5, g6⟩⟩ := T.keep hq1.out; simp only [tokZ] at t1 t2 t3 t4 t5 t6))
      refine bodyPost_ret (v := .tuple #[.agg #[.int .i64 3, .int .i64 0, .string ⟨#[]⟩, .int .i64 0, .int .i64 0, .int .i64 dn], .int .i64 ((x.length : Int) + 3), .int .i64 0]) (by simp [results, Tryz.results93, go_sem, t0, t1, t2, t3, t4, t5, t6]) rfl ⟨rfl, ?_⟩
      have hN := BN.out
      have hq := hb.trans hq1.out
      (repeat (first | with_reducible exact Bel.refl _ | with_reducible refine Bel.setCell ?_ (by first | exact Nat.le_refl _ | (dsimp only; omega)) _ | with_reducible refine Bel.alloc ?_ _ | with_reducible refine Bel.drew ?_ | with_reducible assumption | with_reducible refine Bel.trans ?_ (by assumption)))
    · have FV := Lib.hid (show firV l (dayT l) = firV [] (.bad 5) from by rw [hdt, if_neg hd]; rfl)
      generalize firV l (dayT l) = FVV at FV ⊢
      obtain rfl := FV.out
      clear hdt hsp hlz hlu hp FV
      by_cases hq1 : u.dropWhile (· != 34) ≠ []
      · have he : (dayP (u.takeWhile (· != 34))).2 ≠ 0 := fun h => hd ⟨hq1, h⟩
        have hq1 : decide (u.dropWhile (· != 34) ≠ []) = true := decide_eq_true hq1
        generalize dayP (u.takeWhile (· != 34)) = dp at CD he
        obtain ⟨dn, de⟩ := dp
        have he : ¬ (de : Int) = 0 := by simp only at he; omega
        generalize HU : u.takeWhile (· != 34) = x at CD
        have HU := Lib.hid HU
        have HQ := Lib.hid hq1
        clear hq1 hd
        go_enter Tryz.func93, Tryz.ntmps93
        go_upto_region 1 with fail
        refine under_name ((Bel.refl w).alloc _) fun W hc hf hz hb => ?_
        have T : TSlot W w.heap.size tokZ := by simp [TSlot, tokZ, bytesOf, hc, hf, hz, go_sem]
        clear hc hf hz
        generalize hN : w.heap.size = N at T ⊢
        have BN := Lib.hid (show w.heap.size ≤ N from by omega)
        clear hN
        obtain ⟨rest, hcut⟩ := cutq_any (bytesOf u) (by rw [bytesOf_size]; exact hu) W (HM.out.keep hb)
        rw [bytes_toList] at hcut
        have CC := Lib.hid hcut
        clear hcut
        rw [HU.out, HQ.out] at CC
        go_wp2_with (first
          | (go_at_call 126; refine (CP.out _).mono ?_; rintro e W1 ⟨rfl, rfl⟩)
          | (go_at_call 127; refine (CC.out).mono ?_; rintro e W2 ⟨rfl, hb1⟩)
          | (go_at_call 128; refine (CD.out _).mono ?_; rintro e W3 ⟨rfl, hb2⟩; have hq1 := Lib.hid (hb1.trans hb2); obtain ⟨t0, ⟨t1, t2, t3, t4, t5, t6⟩, ⟨g1, g2, g3, g4, g5, g6⟩⟩ := T.keep hq1.out; simp only [tokZ] at t1 t2 t3 t4 t5 t6))
        refine bodyPost_ret (v := .tuple #[.agg #[.int .i64 0, .int .i64 0, .string ⟨#[]⟩, .int .i64 0, .int .i64 0, .int .i64 0], .int .i64 0, .int .i64 5]) (by simp [results, Tryz.results93, go_sem, t0, t1, t2, t3, t4, t5, t6]) rfl ⟨rfl, ?_⟩
        have hN := BN.out
        have hq := hb.trans hq1.out
        (repeat (first | with_reducible exact Bel.refl _ | with_reducible refine Bel.setCell ?_ (by first | exact Nat.le_refl _ | (dsimp only; omega)) _ | with_reducible refine Bel.alloc ?_ _ | with_reducible refine Bel.drew ?_ | with_reducible assumption | with_reducible refine Bel.trans ?_ (by assumption)))
      · have hq1 : decide (u.dropWhile (· != 34) ≠ []) = false := decide_eq_false hq1
        generalize dayP (u.takeWhile (· != 34)) = dp at CD
        obtain ⟨dn, de⟩ := dp
        generalize HU : u.takeWhile (· != 34) = x at CD
        have HU := Lib.hid HU
        have HQ := Lib.hid hq1
        clear hq1 hd
        go_enter Tryz.func93, Tryz.ntmps93
        go_upto_region 1 with fail
        refine under_name ((Bel.refl w).alloc _) fun W hc hf hz hb => ?_
        have T : TSlot W w.heap.size tokZ := by simp [TSlot, tokZ, bytesOf, hc, hf, hz, go_sem]
        clear hc hf hz
        generalize hN : w.heap.size = N at T ⊢
        have BN := Lib.hid (show w.heap.size ≤ N from by omega)
        clear hN
        obtain ⟨rest, hcut⟩ := cutq_any (bytesOf u) (by rw [bytesOf_size]; exact hu) W (HM.out.keep hb)
        rw [bytes_toList] at hcut
        have CC := Lib.hid hcut
        clear hcut
        rw [HU.out, HQ.out] at CC
        go_wp2_with (first
          | (go_at_call 126; refine (CP.out _).mono ?_; rintro e W1 ⟨rfl, rfl⟩)
          | (go_at_call 127; refine (CC.out).mono ?_; rintro e W2 ⟨rfl, hb1⟩)
          | (go_at_call 128; refine (CD.out _).mono ?_; rintro e W3 ⟨rfl, hb2⟩; have hq1 := Lib.hid (hb1.trans hb2); obtain ⟨t0, ⟨t1, t2, t3, t4, t5, t6⟩, ⟨g1, g2, g3, g4, g5, g6⟩⟩ := T.keep hq1.out; simp only [tokZ] at t1 t2 t3 t4 t5 t6))
        refine bodyPost_ret (v := .tuple #[.agg #[.int .i64 0, .int .i64 0, .string ⟨#[]⟩, .int .i64 0, .int .i64 0, .int .i64 0], .int .i64 0, .int .i64 5]) (by simp [results, Tryz.results93, go_sem, t0, t1, t2, t3, t4, t5, t6]) rfl ⟨rfl, ?_⟩
        have hN := BN.out
        have hq := hb.trans hq1.out
        (repeat (first | with_reducible exact Bel.refl _ | with_reducible refine Bel.setCell ?_ (by first | exact Nat.le_refl _ | (dsimp only; omega)) _ | with_reducible refine Bel.alloc ?_ _ | with_reducible refine Bel.drew ?_ | with_reducible assumption | with_reducible refine Bel.trans ?_ (by assumption)))
end Go.Proofs.YthfkbonbgdioaaaGreatDoor
namespace Go.Proofs.YthfkbonbgdioaaaGreatDoor
set_option linter.unusedSimpArgs false
set_option linter.unusedVariables false
open Go.RowKit
attribute [local go_sem ↓] eql_tok neq_tok

/-! What a sound token is. -/
def ksnd (t : Tok) : Bool :=
  if t.kind = 1 then teqv 1 t.pos (bytesOf t.text) t.dn t.ds t.day 1 t.pos ⟨#[]⟩ t.dn t.ds 0 && (sndB t.dn t.ds && decide (0 ≤ t.dn))
  else if t.kind = 2 then teqv 2 t.pos (bytesOf t.text) t.dn t.ds t.day 2 t.pos (bytesOf t.text) 0 0 0 && strOk t.text
  else if t.kind = 3 then teqv 3 t.pos (bytesOf t.text) t.dn t.ds t.day 3 t.pos ⟨#[]⟩ 0 0 t.day && decide (0 ≤ t.day ∧ t.day ≤ 3652058)
  else if t.kind = 4 then teqv 4 t.pos (bytesOf t.text) t.dn t.ds t.day 4 t.pos (bytesOf t.text) 0 0 0 && nmOk t.text
  else if t.kind = 5 then teqv 5 t.pos (bytesOf t.text) t.dn t.ds t.day 5 t.pos (bytesOf t.text) 0 0 0 && signsL.contains t.text
  else false
theorem tsnd1 (p : Int) (x : List UInt8) (a b d : Int) : ksnd ⟨1, p, x, a, b, d⟩ = (teqv 1 p (bytesOf x) a b d 1 p ⟨#[]⟩ a b 0 && (sndB a b && decide (0 ≤ a))) := rfl
theorem tsnd2 (p : Int) (x : List UInt8) (a b d : Int) : ksnd ⟨2, p, x, a, b, d⟩ = (teqv 2 p (bytesOf x) a b d 2 p (bytesOf x) 0 0 0 && strOk x) := rfl
theorem tsnd3 (p : Int) (x : List UInt8) (a b d : Int) : ksnd ⟨3, p, x, a, b, d⟩ = (teqv 3 p (bytesOf x) a b d 3 p ⟨#[]⟩ 0 0 d && decide (0 ≤ d ∧ d ≤ 3652058)) := rfl
theorem tsnd4 (p : Int) (x : List UInt8) (a b d : Int) : ksnd ⟨4, p, x, a, b, d⟩ = (teqv 4 p (bytesOf x) a b d 4 p (bytesOf x) 0 0 0 && nmOk x) := rfl
theorem tsnd5 (p : Int) (x : List UInt8) (a b d : Int) : ksnd ⟨5, p, x, a, b, d⟩ = (teqv 5 p (bytesOf x) a b d 5 p (bytesOf x) 0 0 0 && signsL.contains x) := rfl
theorem tsnd6 (k p : Int) (x : List UInt8) (a b d : Int) (h : k ≠ 1 ∧ k ≠ 2 ∧ k ≠ 3 ∧ k ≠ 4 ∧ k ≠ 5) : ksnd ⟨k, p, x, a, b, d⟩ = false := by
  unfold ksnd
  rw [if_neg h.1, if_neg h.2.1, if_neg h.2.2.1, if_neg h.2.2.2.1, if_neg h.2.2.2.2]
theorem kinds6 (k : Int) : k = 1 ∨ k = 2 ∨ k = 3 ∨ k = 4 ∨ k = 5 ∨ (k ≠ 1 ∧ k ≠ 2 ∧ k ≠ 3 ∧ k ≠ 4 ∧ k ≠ 5) := by omega
theorem vs_str (x : List UInt8) (hx : x.length ≤ 9223372036854775807) (w : World) : Calls Tryz.prog 34 #[.agg #[.int .i64 2, .int .i64 0, .int .i64 0, .string (bytesOf x), .int .i64 0]] w fun e w' => e = .returned (.bool (strOk x)) ∧ Bel w w' := by
  have h := vsound_any ⟨2, 0, 0, bytesOf x, 0⟩ (by rw [bytesOf_size]; exact hx) w
  have e : vsnd ⟨2, 0, 0, bytesOf x, 0⟩ = strOk x := by
    rw [vsnd2, (veq_iff _ _).2 rfl, bytesOf_size]
    rfl
  rw [e] at h
  exact h
theorem vs_dat (d : Int) (w : World) : Calls Tryz.prog 34 #[.agg #[.int .i64 4, .int .i64 0, .int .i64 0, .string ⟨#[]⟩, .int .i64 d]] w fun e w' => e = .returned (.bool (decide (0 ≤ d ∧ d ≤ 3652058))) ∧ Bel w w' := by
  have h := vsound_any ⟨4, 0, 0, ⟨#[]⟩, d⟩ (by show (⟨#[]⟩ : ByteArray).size ≤ _; decide) w
  have e : vsnd ⟨4, 0, 0, ⟨#[]⟩, d⟩ = decide (0 ≤ d ∧ d ≤ 3652058) := by
    rw [vsnd4, (veq_iff _ _).2 rfl, Bool.true_and, Bool.decide_and]
  rw [e] at h
  exact h
theorem list_eqs (x y : List UInt8) : ((bytesOf x).toList == (bytesOf y).toList) = decide (x = y) := by
  rw [ByteArray.toList_eq, ByteArray.toList_eq, bytes_toList, bytes_toList, Bool.eq_iff_iff]
  simp
theorem list_eqs2 (x y : List UInt8) : ((bytesOf x).toList == y) = decide (x = y) := by
  rw [ByteArray.toList_eq, bytes_toList, Bool.eq_iff_iff]
  simp
set_option maxRecDepth 100000 in
set_option maxHeartbeats 8000000 in
theorem xsound_any (t : Tok) (hx : t.text.length ≤ 9223372036854775807) (w : World) : Calls Tryz.prog 124 #[.agg #[.int .i64 t.kind, .int .i64 t.pos, .string (bytesOf t.text), .int .i64 t.dn, .int .i64 t.ds, .int .i64 t.day]] w fun e w' => e = .returned (.bool (ksnd t)) ∧ Bel w w' := by
  obtain ⟨k, p, x, a, b, d⟩ := t
  simp only at hx ⊢
  rcases kinds6 k with rfl | rfl | rfl | rfl | rfl | hk
  · have L0 := tsnd1 p x a b d
    cases hq : teqv 1 p (bytesOf x) a b d 1 p ⟨#[]⟩ a b 0 with
    | false =>
      have L := Lib.hid (show ksnd ⟨1, p, x, a, b, d⟩ = false by rw [L0, hq]; rfl)
      clear L0
      go_enter Tryz.func124, Tryz.ntmps124
      go_wp2_with fail
      go_ret
      exact ⟨by (rw [L.out]) <;> rfl, (Bel.refl _).alloc _⟩
    | true =>
      have L := Lib.hid (show ksnd ⟨1, p, x, a, b, d⟩ = (sndB a b && decide (0 ≤ a)) by rw [L0, hq]; rfl)
      clear L0
      cases hs : sndB a b with
      | false =>
        have S := Lib.hid fun W => sound_any a b W
        rw [hs] at S L
        clear hs
        go_enter Tryz.func124, Tryz.ntmps124
        go_wp2_with (go_at_call 49; refine (S.out _).mono ?_; rintro e W1 ⟨rfl, hb1⟩)
        go_ret
        exact ⟨by (rw [L.out]) <;> rfl, ((Bel.refl _).alloc _).trans hb1⟩
      | true =>
        have S := Lib.hid fun W => sound_any a b W
        rw [hs, Bool.true_and] at L
        rw [hs] at S
        clear hs
        go_enter Tryz.func124, Tryz.ntmps124
        go_upto_region 1 with fail
        refine under_name ((Bel.refl w).alloc _) fun W hc hf hz hb => ?_
        have T : TSlot W w.heap.size ⟨1, p, x, a, b, d⟩ := by simp [TSlot, hc, hf, hz, go_sem]
        clear hc hf hz
        generalize w.heap.size = N at T ⊢
        have TT := Lib.hid T
        obtain ⟨s0, ⟨s1, s2, s3, s4, s5, s6⟩, _⟩ := T
        simp only at s1 s2 s3 s4 s5 s6
        go_wp2_with (go_at_call 49; refine (S.out _).mono ?_; rintro e W1 ⟨rfl, hb1⟩; obtain ⟨t0, ⟨t1, t2, t3, t4, t5, t6⟩, _⟩ := TT.out.keep hb1; simp only at t1 t2 t3 t4 t5 t6)
        go_ret
        exact ⟨by (rw [L.out]) <;> rfl, hb.trans hb1⟩
  · have L0 := tsnd2 p x a b d
    cases hq : teqv 2 p (bytesOf x) a b d 2 p (bytesOf x) 0 0 0 with
    | false =>
      have L := Lib.hid (show ksnd ⟨2, p, x, a, b, d⟩ = false by rw [L0, hq]; rfl)
      clear L0
      go_enter Tryz.func124, Tryz.ntmps124
      go_wp2_with fail
      go_ret
      exact ⟨by (rw [L.out]) <;> rfl, (Bel.refl _).alloc _⟩
    | true =>
      have L := Lib.hid (show ksnd ⟨2, p, x, a, b, d⟩ = strOk x by rw [L0, hq]; rfl)
      clear L0
      have S := Lib.hid fun W => vs_str x hx W
      generalize strOk x = z at S L
      go_enter Tryz.func124, Tryz.ntmps124
      go_wp2_with (go_at_call 34; refine (S.out _).mono ?_; rintro e W1 ⟨rfl, hb1⟩)
      go_ret
      exact ⟨by (rw [L.out]) <;> rfl, ((Bel.refl _).alloc _).trans hb1⟩
  · have L0 := tsnd3 p x a b d
    cases hq : teqv 3 p (bytesOf x) a b d 3 p ⟨#[]⟩ 0 0 d with
    | false =>
      have L := Lib.hid (show ksnd ⟨3, p, x, a, b, d⟩ = false by rw [L0, hq]; rfl)
      clear L0
      go_enter Tryz.func124, Tryz.ntmps124
      go_wp2_with fail
      go_ret
      exact ⟨by (rw [L.out]) <;> rfl, (Bel.refl _).alloc _⟩
    | true =>
      have L := Lib.hid (show ksnd ⟨3, p, x, a, b, d⟩ = decide (0 ≤ d ∧ d ≤ 3652058) by rw [L0, hq]; rfl)
      clear L0
      have S := Lib.hid fun W => vs_dat d W
      generalize decide (0 ≤ d ∧ d ≤ 3652058) = z at S L
      go_enter Tryz.func124, Tryz.ntmps124
      go_wp2_with (go_at_call 34; refine (S.out _).mono ?_; rintro e W1 ⟨rfl, hb1⟩)
      go_ret
      exact ⟨by (rw [L.out]) <;> rfl, ((Bel.refl _).alloc _).trans hb1⟩
  · have L0 := tsnd4 p x a b d
    cases hq : teqv 4 p (bytesOf x) a b d 4 p (bytesOf x) 0 0 0 with
    | false =>
      have L := Lib.hid (show ksnd ⟨4, p, x, a, b, d⟩ = false by rw [L0, hq]; rfl)
      clear L0
      go_enter Tryz.func124, Tryz.ntmps124
      go_wp2_with fail
      go_ret
      exact ⟨by (rw [L.out]) <;> rfl, (Bel.refl _).alloc _⟩
    | true =>
      have L := Lib.hid (show ksnd ⟨4, p, x, a, b, d⟩ = nmOk x by rw [L0, hq]; rfl)
      clear L0
      have S := Lib.hid fun W => (show Calls Tryz.prog 51 #[.string (bytesOf x)] W fun e w' => e = .returned (.bool (nmOk x)) ∧ Bel W w' from name_any (bytesOf x) (by rw [bytesOf_size]; exact hx) W)
      generalize nmOk x = z at S L
      go_enter Tryz.func124, Tryz.ntmps124
      go_wp2_with (go_at_call 51; refine (S.out _).mono ?_; rintro e W1 ⟨rfl, hb1⟩)
      go_ret
      exact ⟨by (rw [L.out]) <;> rfl, ((Bel.refl _).alloc _).trans hb1⟩
  · have L0 := tsnd5 p x a b d
    cases hq : teqv 5 p (bytesOf x) a b d 5 p (bytesOf x) 0 0 0 with
    | false =>
      have L := Lib.hid (show ksnd ⟨5, p, x, a, b, d⟩ = false by rw [L0, hq]; rfl)
      clear L0
      go_enter Tryz.func124, Tryz.ntmps124
      go_upto_region 1 with fail
      refine under_name ((Bel.refl w).alloc _) fun W hc hf hz hb => ?_
      have T : TSlot W w.heap.size ⟨5, p, x, a, b, d⟩ := by simp [TSlot, hc, hf, hz, go_sem]
      clear hc hf hz
      generalize w.heap.size = N at T ⊢
      obtain ⟨s0, ⟨s1, s2, s3, s4, s5, s6⟩, _⟩ := T
      simp only at s1 s2 s3 s4 s5 s6
      go_wp2
      refine wp_region_uni (S := (fun w' => Bel W w' ∧ (∀ b o, b < W.heap.size → w'.cell? ⟨b, o, none⟩ = W.cell? ⟨b, o, none⟩))) (by kernel_rfl) (by kernel_rfl) keep0 ?_
      repeat (first | (refine wpUni_skip (by rfl) ?_; (try simp only [Act.put, List.setIfInBounds_toArray, List.set_cons_zero, List.set_cons_succ]))
                                                            | (refine wpUni_value (by rfl) (fun w hS => by (try dsimp only at hS); go_simp; first | done | with_reducible rfl) ?_; (try simp only [Act.put, List.setIfInBounds_toArray, List.set_cons_zero, List.set_cons_succ])))
      refine wpUni_nil fun W1 hS => ?_
      have hb1 := hS.1
      clear hS
      go_wp2
      go_ret
      exact ⟨by (rw [L.out]) <;> rfl, hb.trans hb1⟩
    | true =>
      have L := Lib.hid (show ksnd ⟨5, p, x, a, b, d⟩ = signsL.contains x by rw [L0, hq]; rfl)
      clear L0
      have S := Lib.hid fun W => xsign_any (bytesOf x) (by rw [bytesOf_size]; exact hx) W
      rw [bytes_toList] at S
      have SM := sig_mem x
      by_cases h0 : x = []
      · have L := Lib.hid (show ksnd ⟨5, p, x, a, b, d⟩ = false by rw [L.out, Bool.eq_false_iff]; exact fun h => (SM.2 (List.contains_iff_mem.1 h)).1 h0)
        have e0 : (bytesOf x).toList.isEmpty = true := by rw [ByteArray.toList_eq, bytes_toList, h0]; rfl
        have e1 : (bytesOf x).toList = [] := by rw [ByteArray.toList_eq, bytes_toList, h0]
        clear h0 SM S
        go_enter Tryz.func124, Tryz.ntmps124
        go_upto_region 1 with fail
        refine under_name ((Bel.refl w).alloc _) fun W hc hf hz hb => ?_
        have T : TSlot W w.heap.size ⟨5, p, x, a, b, d⟩ := by simp [TSlot, hc, hf, hz, go_sem]
        clear hc hf hz
        generalize w.heap.size = N at T ⊢
        obtain ⟨s0, ⟨s1, s2, s3, s4, s5, s6⟩, _⟩ := T
        simp only at s1 s2 s3 s4 s5 s6
        go_wp2
        refine wp_region_uni (S := (fun w' => Bel W w' ∧ (∀ b o, b < W.heap.size → w'.cell? ⟨b, o, none⟩ = W.cell? ⟨b, o, none⟩))) (by kernel_rfl) (by kernel_rfl) keep0 ?_
        repeat (first | (refine wpUni_skip (by rfl) ?_; (try simp only [Act.put, List.setIfInBounds_toArray, List.set_cons_zero, List.set_cons_succ]))
                                                            | (refine wpUni_value (by rfl) (fun w hS => by (try dsimp only at hS); go_simp; first | done | with_reducible rfl) ?_; (try simp only [Act.put, List.setIfInBounds_toArray, List.set_cons_zero, List.set_cons_succ])))
        refine wpUni_nil fun W1 hS => ?_
        have hb1 := hS.1
        clear hS
        go_wp2
        go_ret
        exact ⟨by (rw [L.out]) <;> rfl, hb.trans hb1⟩
      · have e0 : (bytesOf x).toList.isEmpty = false := by
          rw [ByteArray.toList_eq, bytes_toList]
          cases x with
          | nil => exact absurd rfl h0
          | cons _ _ => rfl
        have e2 : signsL.contains x = decide (sigL x = x) := by
          rw [Bool.eq_iff_iff, List.contains_iff_mem, ← SM, decide_eq_true_eq]
          exact ⟨fun h => h.2, fun h => ⟨h0, h⟩⟩
        have L := Lib.hid (show ksnd ⟨5, p, x, a, b, d⟩ = decide (sigL x = x) by rw [L.out, e2])
        have E := Lib.hid (list_eqs (sigL x) x)
        clear h0 SM e2
        go_enter Tryz.func124, Tryz.ntmps124
        go_upto_region 1 with fail
        refine under_name ((Bel.refl w).alloc _) fun W hc hf hz hb => ?_
        have T : TSlot W w.heap.size ⟨5, p, x, a, b, d⟩ := by simp [TSlot, hc, hf, hz, go_sem]
        clear hc hf hz
        generalize w.heap.size = N at T ⊢
        have TT := Lib.hid T
        obtain ⟨s0, ⟨s1, s2, s3, s4, s5, s6⟩, _⟩ := T
        simp only at s1 s2 s3 s4 s5 s6
        go_wp2
        refine wp_region_uni (S := (fun w' => Bel W w' ∧ (∀ b o, b < W.heap.size → w'.cell? ⟨b, o, none⟩ = W.cell? ⟨b, o, none⟩))) (by kernel_rfl) (by kernel_rfl) keep0 ?_
        repeat (first | (refine wpUni_skip (by rfl) ?_; (try simp only [Act.put, List.setIfInBounds_toArray, List.set_cons_zero, List.set_cons_succ]))
                                                            | (refine wpUni_value (by rfl) (fun w hS => by (try dsimp only at hS); go_simp; first | done | with_reducible rfl) ?_; (try simp only [Act.put, List.setIfInBounds_toArray, List.set_cons_zero, List.set_cons_succ]))
                                                            | (refine wpUni_call (f := 96) (by rfl) (fun w => by go_simp; first | done | with_reducible rfl) (fun w hS => (S.out w).mono fun e w' ⟨he, hb⟩ => ⟨he, keep1 hS hb⟩) ?_; (try simp only [Act.put, List.setIfInBounds_toArray, List.set_cons_zero, List.set_cons_succ])))
        refine wpUni_nil fun W1 hS => ?_
        have hb1 := hS.1
        clear hS
        go_wp2
        go_ret
        exact ⟨by (rw [L.out, ← E.out]) <;> rfl, hb.trans hb1⟩
  · have L := Lib.hid (tsnd6 k p x a b d hk)
    obtain ⟨h1, h2, h3, h4, h5⟩ := hk
    have e1 : (k == 1) = false := beq_eq_false_iff_ne.2 h1
    have e2 : (k == 2) = false := beq_eq_false_iff_ne.2 h2
    have e3 : (k == 3) = false := beq_eq_false_iff_ne.2 h3
    have e4 : (k == 4) = false := beq_eq_false_iff_ne.2 h4
    have e5 : (k == 5) = false := beq_eq_false_iff_ne.2 h5
    clear h1 h2 h3 h4 h5
    go_enter Tryz.func124, Tryz.ntmps124
    go_wp2_with fail
    go_ret
    exact ⟨by (rw [L.out]) <;> rfl, (Bel.refl _).alloc _⟩
end Go.Proofs.YthfkbonbgdioaaaGreatDoor
