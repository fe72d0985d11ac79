import Derived.Test.YtjckpkamhdbcnaaGreatDoorZl
namespace Go.Proofs.YtjckpkamhdbcnaaGreatDoor
set_option linter.unusedSimpArgs false
set_option linter.unusedVariables false
section
open Go.RowKit
noncomputable def wrT (t : Tok) : List UInt8 :=
 if t.kind = 1 then txtL (decide (t.dn < 0)) t.dn.natAbs t.ds.toNat
 else if t.kind = 2 then quoL t.text
 else if t.kind = 3 then 64 :: quoL (dtx t.day).data.toList
 else t.text
theorem Qtx (neg : Bool) (x s : Nat) (hx : x <= 999999999999) (hs : s <= 6) : (txtL neg x s).length <= 30 := by
 have h1 := Qei 11 (x / P10 s) (Nat.lt_of_le_of_lt (Nat.div_le_self _ _) (by omega))
 unfold txtL
 by_cases h : s = 0
 ·rw [iP h]
  cases neg <;> simp <;> omega
 rw [iN h]
 have h2 := Qmu s (x % P10 s) (Nat.mod_lt _ (Qdn s)) (by omega)
 cases neg <;> simp <;> omega
theorem Qhq {t : Tok} (h : ksnd t = true) :
  (t.kind = 1 /\ t.text = [] /\ t.day = 0 /\ SndD t.dn t.ds /\ 0 <= t.dn) \/ (t.kind = 2 /\ t.dn = 0 /\ t.ds = 0 /\ t.day = 0 /\ strOk t.text = true) \/
  (t.kind = 3 /\ t.text = [] /\ t.dn = 0 /\ t.ds = 0 /\ 0 <= t.day /\ t.day <= 3652058) \/ (t.kind = 4 /\ t.dn = 0 /\ t.ds = 0 /\ t.day = 0 /\ nmOk t.text = true) \/
  (t.kind = 5 /\ t.dn = 0 /\ t.ds = 0 /\ t.day = 0 /\ t.text ∈ signsL) := by
 obtain ⟨k, p, x, a, b, d⟩ := t
 have e0 : ∀ x : List UInt8, Qaa x = (⟨#[]⟩ : ByteArray) -> x = [] := fun x h => Qcf (b := []) h
 rcases kinds6 k with rfl | rfl | rfl | rfl | rfl | hk
 ·rw [tsnd1, bA, Qbl, bA, decide_eq_true_eq] at h
  exact .inl ⟨rfl, e0 _ h.1.2.2.1, h.1.2.2.2.2.2, of_decide_eq_true h.2.1, h.2.2⟩
 ·rw [tsnd2, bA, Qbl] at h
  exact .inr (.inl ⟨rfl, h.1.2.2.2.1, h.1.2.2.2.2.1, h.1.2.2.2.2.2, h.2⟩)
 ·rw [tsnd3, bA, Qbl, decide_eq_true_eq] at h
  exact .inr (.inr (.inl ⟨rfl, e0 _ h.1.2.2.1, h.1.2.2.2.1, h.1.2.2.2.2.1, h.2.1, h.2.2⟩))
 ·rw [tsnd4, bA, Qbl] at h
  exact .inr (.inr (.inr (.inl ⟨rfl, h.1.2.2.2.1, h.1.2.2.2.2.1, h.1.2.2.2.2.2, h.2⟩)))
 ·rw [tsnd5, bA, Qbl, List.contains_iff_mem] at h
  exact .inr (.inr (.inr (.inr ⟨rfl, h.1.2.2.2.1, h.1.2.2.2.2.1, h.1.2.2.2.2.2, h.2⟩)))
 rw [tsnd6 k p x a b d hk] at h
 cases h
theorem Qno (x : List UInt8) : (quoL x).length <= 2 * x.length + 2 := by
 unfold quoL
 have := Qv2 x
 simp only [lA, List.length_cons, List.length_nil]
 omega
theorem Qty {x : List UInt8} (h : x ∈ signsL) : x.length <= 2 := by
 revert x
 decide
theorem Qnp {x : List UInt8} (h : strOk x = true) : x.length <= 256 := by
 unfold strOk at h
 rw [bA, decide_eq_true_eq] at h
 exact h.1
theorem Qv9 {t : Tok} (h : ksnd t = true) : (wrT t).length <= 1000 := by
 rcases Qhq h with ⟨h1, h2, h3, h4, h5⟩ | ⟨h1, h2, h3, h4, h5⟩ | ⟨h1, h2, h3, h4, h5, h6⟩ | ⟨h1, h2, h3, h4, h5⟩ | ⟨h1, h2, h3, h4, h5⟩
 ·unfold wrT
  rw [iP h1]
  obtain ⟨s1, s2, ⟨s3, s4⟩, _⟩ := h4
  have := Qtx (decide (t.dn < 0)) t.dn.natAbs t.ds.toNat (by omega) (by omega)
  omega
 ·unfold wrT
  rw [iN (by rw [h1]; decide), iP h1]
  have := Qno t.text
  have := Qnp h5
  omega
 ·unfold wrT
  rw [iN (by rw [h1]; decide), iN (by rw [h1]; decide), iP h1]
  have := Qno (dtx t.day).data.toList
  have e : (dtx t.day).data.toList.length = 10 := rfl
  simp only [List.length_cons]
  omega
 ·unfold wrT
  rw [iN (by rw [h1]; decide), iN (by rw [h1]; decide), iN (by rw [h1]; decide)]
  have := (Qtr h5).1
  omega
 unfold wrT
 rw [iN (by rw [h1]; decide), iN (by rw [h1]; decide), iN (by rw [h1]; decide)]
 have := Qty h5
 omega
theorem Qtz {w : World} {x : List Tok × Nat × Nat} {e : Ending} {w' : World} (h : TokOut w x e w') : ∃ A c, e = .returned (.tuple #[.slice A x.1.length c, .int .i64 x.2.1, .int .i64 x.2.2]) /\ Toks w' A x.1 /\ Bel w w' /\ x.1.length <= c /\ (A = none -> c = 0) /\ TkRows w' w.heap.size (.slice A x.1.length c) x.1 := by
 obtain ⟨h1, v, h2, h3⟩ := h
 obtain ⟨A, c, rfl, h4, h5⟩ := h3.val
 refine ⟨A, c, h2, h4, h1, ?_, h5, h3⟩
 rcases h3.2 with ⟨hv, h0⟩ | ⟨g, cap, cur, hv, _, _, hc, _⟩
 ·rw [h0]; exact Nat.zero_le _
 cases hv
 exact hc
theorem Qd4 (s : ByteArray) : (tokS s).1.length <= s.size /\ (tokS s).1.length <= 65536 := by
 suffices h : (tokS s).1.length <= s.size /\ (¬ s.size <= 65536 -> (tokS s).1.length = 0) by omega
 by_cases hs : s.size <= 65536
 ·rcases Qf6 s hs with ⟨ms, h1, h2⟩ | ⟨ms, l2, e, h1, _⟩
  ·rw [h1]
   have : ∀ {p : Nat} {l l2 : List UInt8} {ms : List Tok}, Run p l ms l2 -> ms.length + l2.length <= l.length := by
    intro p l l2 ms h
    induction h with
    | nil p l => simp
    | cons hs hr ih =>
     rename_i m _ _
     obtain ⟨q, hq, hqn⟩ := Qc8 hs
     have hl := congrArg List.length hq
     rw [lA] at hl
     have := List.length_pos_iff.2 hqn
     rw [lA]
     cases m <;> simp only [optT, List.length_nil, List.length_cons] <;> omega
   have h3 := this h2
   rw [Qag] at h3
   simp only [List.length_nil] at h3
   exact ⟨by simp only; omega, fun h => absurd hs h⟩
  rw [h1]; exact ⟨Nat.zero_le _, fun h => absurd hs h⟩
 unfold tokS
 rw [iP (by omega)]
 exact ⟨Nat.zero_le _, fun _ => rfl⟩
theorem Qqs (s : Nat) : ∀ m, (trim m s).1 * 10 ^ (s - (trim m s).2) <= m /\ ((trim m s).2 = 0 \/ (trim m s).1 % 10 ≠ 0) := by
 induction s with
 | zero => intro m; simp [trim]
 | succ k ih =>
  intro m
  unfold trim
  split
  ·rename_i h
   obtain ⟨h1, h2⟩ := ih (m / 10)
   refine ⟨?_, h2⟩
   have h3 := (Qdm k (m / 10)).2
   generalize (trim (m / 10) k).1 = a at *
   generalize (trim (m / 10) k).2 = b at *
   rw [show k + 1 - b = (k - b) + 1 by omega, Nat.pow_succ, ← Nat.mul_assoc]
   have := Nat.mul_le_mul_right 10 h1
   omega
  rename_i h
  simp only [Nat.sub_self, Nat.pow_zero, Nat.mul_one]
  exact ⟨Nat.le_refl _, .inr h⟩
theorem Qnq (l : List UInt8) : (trimR l).length <= l.length := by
 unfold trimR Lib.trimRightB
 have h := Qbz (fun x => x == 48) l.reverse
 rw [List.length_reverse] at h
 rw [List.length_reverse]
 omega
theorem Qkf (k p a b d : Int) : teqv k p (Qaa []) a b d k p ⟨#[]⟩ a b d = true := Qbl.2 ⟨rfl, rfl, rfl, rfl, rfl, rfl⟩
theorem Qqt (x : List UInt8) (c : UInt8) (t : List UInt8) (hx : x = c :: t) (hc : fgB c = true) (h0 : (decP x).2.2 = 0) :
  SndD (decP x).1 (decP x).2.1 /\ 0 <= (decP x).1 /\ (txtL false (decP x).1.natAbs (decP x).2.1.toNat).length <= x.length := by
 have hp := Qj5 x
 have h45 : c ≠ 45 := by rintro rfl; revert hc; decide
 have e1 : Lib.hasPrefix x [45] = false := by
  rw [hx]
  show ([45] : List UInt8).isPrefixOf (c :: t) = false
  simp [List.isPrefixOf]
  exact fun e => h45 e.symm
 have e2 : Lib.trimPrefix x [45] = x := by
  unfold Lib.trimPrefix
  rw [e1]; rfl
 unfold parseV partsV at hp
 rw [e1, e2, h0] at hp
 have hx46 : x.length = (Qay x).length + (x.dropWhile (· != 46)).length := (Qbz (· != 46) x).symm
 split at hp
 ·simp [errV] at hp
 rename_i hg
 split at hp
 ·simp [errV] at hp
 rename_i hw
 have hW : digB (Qay x) = true := by
  cases hh : digB (Qay x) with
  | true => rfl
  | false => exact absurd (.inl hh) hg
 have hP : has46 x = true -> digB (Qa4 x) = true := fun h => by
  cases hh : digB (Qa4 x) with
  | true => rfl
  | false => exact absurd (.inr (.inr ⟨h, hh⟩)) hg
 have hdW : dOk (Qay x) = true := by unfold digB at hW; exact (Bool.and_eq_true_iff.1 hW).1
 have hW0 : 0 < (Qay x).length := by
  unfold digB at hW
  have := (Bool.and_eq_true_iff.1 hW).2
  cases hb : Qay x with
  | nil => rw [hb] at this; simp at this
  | cons _ _ => simp
 have haf : (has46 x = true /\ dOk (Qa4 x) = true /\ x.length = (Qay x).length + 1 + (Qa4 x).length) \/ (has46 x = false /\ Qa4 x = []) := by
  unfold has46 Qa4 at *
  cases hd : x.dropWhile (· != 46) with
  | nil => right; simp
  | cons d r =>
   left
   rw [hd] at hP hx46
   simp only [List.length_cons] at hx46
   have hq := hP (by simp)
   unfold digB at hq
   exact ⟨by simp, (Bool.and_eq_true_iff.1 hq).1, by simp only [List.drop_succ_cons, List.drop_zero]; omega⟩
 have hdA : dOk (Qa4 x) = true := by
  rcases haf with h | h
  ·exact h.2.1
  rw [h.2]; rfl
 have hdQ := Qju _ hdA
 have hlQ := Qnq (Qa4 x)
 generalize Qa4 x = P at *
 generalize Qay x = W at *
 generalize trimR P = Q at *
 have hWl : W.length <= x.length := by omega
 have hm := Qp9 (W ++ Q) (by rw [Qmo, hdW, hdQ]; rfl)
 have hQ6 : Q.length <= 6 := by omega
 rw [lA] at hm
 generalize numL (W ++ Q) = m at *
 simp only [Bool.false_and] at hp
 obtain ⟨t1, t2⟩ := Qqs Q.length m
 have t3 := (Qdm Q.length m).2
 unfold decV at hp
 generalize (trim m Q.length).1 = a at *
 generalize (trim m Q.length).2 = b at *
 split at hp
 ·simp at hp
 rename_i hle
 simp only [Bool.false_eq_true, if_false, Value.tuple.injEq, Array.mk.injEq, List.cons.injEq, Value.agg.injEq, Value.int.injEq, true_and, and_true] at hp
 obtain ⟨hp1, hp2⟩ := hp.1
 rw [← hp1, ← hp2]
 have hb6 : b <= 6 := by omega
 refine ⟨⟨by omega, by omega, ⟨by omega, by omega⟩, by omega⟩, by omega, ?_⟩
 rw [show ((a : Int)).natAbs = a from Int.natAbs_natCast a, show ((b : Int)).toNat = b from Int.toNat_natCast b]
 have e : txtL false a b = Lib.decDigits (a / P10 b) ++ (if b = 0 then [] else 46 :: padL b (a % P10 b)) := rfl
 have hdl : (Lib.decDigits (a / P10 b)).length <= W.length := by
  obtain ⟨k, hk⟩ : ∃ k, W.length = k + 1 := ⟨W.length - 1, by omega⟩
  rw [hk]
  apply Qei
  have h10 : 0 < 10 ^ (Q.length - b) := Nat.pow_pos (by omega)
  have ha : a < 10 ^ (W.length + b) := by
   have h2 : a * 10 ^ (Q.length - b) < 10 ^ (W.length + b) * 10 ^ (Q.length - b) := by
    rw [← Nat.pow_add, show W.length + b + (Q.length - b) = W.length + Q.length by omega]
    omega
   exact Nat.lt_of_mul_lt_mul_right h2
  rw [Nat.div_lt_iff_lt_mul (Qdn b)]
  unfold P10
  rw [← Nat.pow_add, ← hk]
  exact ha
 rw [e]
 by_cases hb0 : b = 0
 ·rw [iP hb0, List.append_nil]
  omega
 rw [iN hb0, lA, List.length_cons, Qmu b (a % P10 b) (Nat.mod_lt _ (Qdn b)) (by omega)]
 rcases haf with h | h
 ·omega
 rw [h.2] at hlQ
 simp at hlQ
 rw [hlQ] at t3
 simp at t3
 omega
theorem Qgx : ∀ (n : Nat) (x acc z r : List UInt8), x.length <= n -> strL acc x = some (z, r) -> ∃ v, z = acc ++ v /\ x = v.flatMap qtB ++ 34 :: r
 | n, [], acc, z, r, _, h => by simp [strL] at h
 | 0, c :: x, acc, z, r, hn, _ => by simp at hn
 | n + 1, c :: x, acc, z, r, hn, h => by
  rw [List.length_cons] at hn
  unfold strL at h
  by_cases h1 : c = 34
  ·rw [iP h1] at h
   simp only [Option.some.injEq, Prod.mk.injEq] at h
   obtain ⟨rfl, rfl⟩ := h
   exact ⟨[], by simp, by rw [h1]; rfl⟩
  rw [iN h1] at h
  by_cases h2 : c = 92
  ·rw [iP h2] at h
   cases x with
   | nil => cases h
   | cons d x' =>
    simp only at h
    by_cases h3 : d = 34 \/ d = 92
    ·rw [iP h3] at h
     rw [List.length_cons] at hn
     obtain ⟨v, e1, e2⟩ := Qgx n x' _ z r (by omega) h
     refine ⟨d :: v, by rw [e1]; simp, ?_⟩
     rw [List.flatMap_cons, qtB, iP h3, e2, h2]
     rfl
    rw [iN h3] at h; cases h
  rw [iN h2] at h
  obtain ⟨v, e1, e2⟩ := Qgx n x _ z r (by omega) h
  refine ⟨c :: v, by rw [e1]; simp, ?_⟩
  rw [List.flatMap_cons, qtB, iN (by rintro (e | e); exact h1 e; exact h2 e), e2]
  rfl
theorem Qqu (t : Tok) (p : Int) : ksnd { t with pos := p } = ksnd t := by
 obtain ⟨k, q, x, a, b, d⟩ := t
 have e : ∀ k' c1 c2 c3 (x y : ByteArray) d1 d2 d3, teqv k' p x c1 c2 c3 k' p y d1 d2 d3 = teqv k' q x c1 c2 c3 k' q y d1 d2 d3 := by
  intros
  rw [Bool.eq_iff_iff, Qbl, Qbl]
  simp
 rcases kinds6 k with rfl | rfl | rfl | rfl | rfl | hk
 ·show ksnd ⟨1, p, x, a, b, d⟩ = _
  rw [tsnd1, tsnd1, e]
 ·show ksnd ⟨2, p, x, a, b, d⟩ = _
  rw [tsnd2, tsnd2, e]
 ·show ksnd ⟨3, p, x, a, b, d⟩ = _
  rw [tsnd3, tsnd3, e]
 ·show ksnd ⟨4, p, x, a, b, d⟩ = _
  rw [tsnd4, tsnd4, e]
 ·show ksnd ⟨5, p, x, a, b, d⟩ = _
  rw [tsnd5, tsnd5, e]
 show ksnd ⟨k, p, x, a, b, d⟩ = _
 rw [tsnd6 _ _ _ _ _ _ hk, tsnd6 _ _ _ _ _ _ hk]
theorem Qt0 {l : List UInt8} (h : (dayP l).2 = 0) : 0 <= (dayP l).1 /\ (dayP l).1 <= 3652058 := by
 have hd := Qm8 l
 rw [h] at hd
 have bad : badV = .tuple #[.int .i64 (dayP l).1, .int .i64 ((0 : Nat) : Int)] -> False := by
  intro e
  simp [badV] at e
 unfold Qax at hd
 split at hd
 ·split at hd
  ·unfold parseL at hd
   split at hd
   ·unfold dayV at hd
    split at hd
    ·rename_i hs
     have := Qtc _ _ _ hs
     simp only [Value.tuple.injEq, Array.mk.injEq, List.cons.injEq, Value.int.injEq, true_and, and_true] at hd
     rw [← hd.1]
     exact this
    simp at hd
   exact (bad hd).elim
  exact (bad hd).elim
 exact (bad hd).elim
theorem Qt1 {c : UInt8} {l r t0 : List UInt8} {t : Tok} (hl : l = c :: t0) (h : firT c l = .ok r (some t)) : ksnd t = true /\ (wrT t).length + r.length <= l.length := by
 unfold firT at h
 split at h
 ·rename_i hc
  unfold numT at h
  split at h
  ·rename_i h0
   cases h
   have hn : ∃ u, (nmbL l).1 = c :: u := by
    have h1 := Qm9 c t0 hc
    have h2 := Qd3 (c :: t0)
    rw [← hl] at h1 h2
    cases hq : (nmbL l).1 with
    | nil => exact absurd hq h1
    | cons a u =>
     rw [hq] at h2
     rw [hl] at h2
     exact ⟨u, by rw [(List.cons.inj h2).1]⟩
   obtain ⟨u, hu⟩ := hn
   obtain ⟨k1, k2, k3⟩ := Qqt _ c u hu hc h0
   refine ⟨?_, ?_⟩
   ·rw [tsnd1, Qkf, Bool.true_and, bA]
    exact ⟨dT k1, dT k2⟩
   have e : wrT ⟨1, 0, [], (decP (nmbL l).1).1, (decP (nmbL l).1).2.1, 0⟩ = txtL false (decP (nmbL l).1).1.natAbs (decP (nmbL l).1).2.1.toNat := by
    unfold wrT
    rw [iP rfl, dF (by simp only; omega)]
   rw [e]
   have := congrArg List.length (Qd3 l)
   rw [lA] at this
   omega
  cases h
 split at h
 ·rename_i h34
  unfold strT at h
  split at h
  ·rename_i z r' hz
   split at h
   ·rename_i ho
    cases h
    refine ⟨by rw [Qkc]; exact ho, ?_⟩
    rw [hl, List.drop_succ_cons, List.drop_zero] at hz
    obtain ⟨v, e1, e2⟩ := Qgx _ t0 [] z r (Nat.le_refl _) hz
    rw [List.nil_append] at e1
    subst e1
    have e : wrT ⟨2, 0, z, 0, 0, 0⟩ = 34 :: (z.flatMap qtB ++ [34]) := by
     unfold wrT
     rw [iN (show ¬ (2 : Int) = 1 by decide), iP rfl]
     rfl
    rw [e, hl, e2]
    simp only [List.length_cons, lA, List.length_nil]
    omega
   cases h
  cases h
 split at h
 ·unfold dayT at h
  split at h
  ·rename_i hd
   cases h
   obtain ⟨k1, k2⟩ := Qt0 hd.2.2
   have hlen := (Qqe hd.2.2).1
   refine ⟨?_, ?_⟩
   ·rw [tsnd3, Qkf, Bool.true_and]
    exact dT ⟨k1, k2⟩
   have e : ∀ n, (wrT ⟨3, 0, [], 0, 0, n⟩).length = 13 := by
    intro n
    unfold wrT
    rw [iN (show ¬ (3 : Int) = 1 by decide), iN (show ¬ (3 : Int) = 2 by decide), iP rfl]
    simp only
    rw [Qtl]
    rfl
   rw [e]
   have h1 := Qbz (· != 34) (l.drop 2)
   rw [hlen, List.length_drop] at h1
   have h2 := List.length_pos_iff.2 hd.2.1
   rw [List.length_drop]
   omega
  cases h
 split at h
 ·unfold namT at h
  split at h
  ·rename_i hn
   cases h
   refine ⟨?_, ?_⟩
   ·rw [tsnd4, Qbl.2 ⟨rfl, rfl, rfl, rfl, rfl, rfl⟩, Bool.true_and]
    exact hn
   have e : wrT ⟨4, 0, l.takeWhile nbB, 0, 0, 0⟩ = l.takeWhile nbB := rfl
   rw [e]
   have := Qbz nbB l
   omega
  cases h
 unfold sigT at h
 split at h
 ·cases h
 rename_i hs
 cases h
 have hm : sigL l ∈ signsL := by
  rw [Qka] at hs ⊢
  cases hf : signsL.find? (fun g => g.isPrefixOf l) with
  | none => rw [hf] at hs; exact absurd rfl hs
  | some g => exact List.mem_of_find?_eq_some hf
 refine ⟨?_, ?_⟩
 ·rw [tsnd5, Qbl.2 ⟨rfl, rfl, rfl, rfl, rfl, rfl⟩, Bool.true_and]
  exact List.contains_iff_mem.2 hm
 have e : wrT ⟨5, 0, sigL l, 0, 0, 0⟩ = sigL l := rfl
 rw [e, List.length_drop]
 have := Qgq l
 omega
theorem Qt2 (t : Tok) (p : Int) : wrT { t with pos := p } = wrT t := rfl
theorem Qt3 {p : Nat} {l l2 : List UInt8} {ms : List Tok} (h : Run p l ms l2) : ms.all ksnd = true /\ ((ms.map wrT).map fun x => x.length + 1).sum + 2 * l2.length <= 2 * l.length := by
 induction h with
 | nil p l => exact ⟨rfl, by simp⟩
 | @cons p l r m ms l2 hs hr ih =>
  obtain ⟨q, hq, hqn⟩ := Qc8 hs
  have hl := congrArg List.length hq
  rw [lA] at hl
  have hq0 := List.length_pos_iff.2 hqn
  cases l with
  | nil => cases hs
  | cons c t0 =>
   rw [Qc7] at hs
   cases m with
   | none => exact ⟨ih.1, by have := ih.2; simp only [optT, List.nil_append]; omega⟩
   | some t =>
    split at hs
    ·cases hs
    obtain ⟨k1, k2⟩ := Qt1 rfl hs
    refine ⟨?_, ?_⟩
    ·show ([{ t with pos := (p : Int) }] ++ ms).all ksnd = true
     rw [List.all_append, ih.1, Bool.and_true]
     simp only [List.all_cons, List.all_nil, Bool.and_true]
     rw [Qqu]
     exact k1
    have := ih.2
    simp only [optT, List.singleton_append, List.map_cons, List.sum_cons]
    rw [Qt2]
    omega
end
section
open Go.RowKit
def zv : Val := ⟨0, 0, 0, ⟨#[]⟩, 0⟩
def isK (k : Int) (x : List UInt8) (r : List Tok) : Bool := match r with
 | [] => false
 | t :: _ => decide (t.kind = k) && decide (t.text = x)
abbrev isS (x : List UInt8) (r : List Tok) : Bool := isK 5 x r
def valT (t : Tok) : Option Val :=
 if t.kind = 1 then some ⟨1, t.dn, t.ds, ⟨#[]⟩, 0⟩
 else if t.kind = 2 then some ⟨2, 0, 0, Qaa t.text, 0⟩
 else if t.kind = 3 then some ⟨4, 0, 0, ⟨#[]⟩, t.day⟩
 else if t.kind = 4 then
  (if t.text = [110, 117, 108, 108] then some ⟨0, 0, 0, ⟨#[]⟩, 0⟩
   else if t.text = [116, 114, 117, 101] then some ⟨3, 0, 0, ⟨#[]⟩, 1⟩
   else if t.text = [102, 97, 108, 115, 101] then some ⟨3, 0, 0, ⟨#[]⟩, 0⟩ else none)
 else none
inductive PR (α : Type) where
 | bad (r : List Tok) (e : Nat)
 | ok (x : α) (r : List Tok)
def posT (n : Nat) (r : List Tok) : Int := match r with
 | [] => n
 | t :: _ => t.pos
theorem Qnr {k : Int} {x : List UInt8} {r : List Tok} (h : isK k x r = true) : r ≠ [] := by rintro rfl; cases h
def tkS (x : List UInt8) : Tok := ⟨5, 0, x, 0, 0, 0⟩
def tksV (v : Val) : List Tok :=
 if v.kind = 1 then (if v.n < 0 then [tkS [45], ⟨1, 0, [], -v.n, v.scale, 0⟩] else [⟨1, 0, [], v.n, v.scale, 0⟩])
 else if v.kind = 2 then [⟨2, 0, v.text.data.toList, 0, 0, 0⟩]
 else if v.kind = 3 then (if v.num = 1 then [⟨4, 0, [116, 114, 117, 101], 0, 0, 0⟩] else [⟨4, 0, [102, 97, 108, 115, 101], 0, 0, 0⟩])
 else if v.kind = 4 then [⟨3, 0, [], 0, 0, v.num⟩]
 else [⟨4, 0, [110, 117, 108, 108], 0, 0, 0⟩]
theorem Qb4 (s : ByteArray) : ∀ t ∈ (tokS s).1, ksnd t = true := by
 unfold tokS
 split
 ·intro t ht; cases ht
 rcases Qe3 (s.size + 1) 0 s.data.toList [] (by rw [Qj6]; omega) with ⟨ns, h1, h2⟩ | ⟨ns, l2, e, h1, h2, h3, h4⟩
 ·rw [h1]
  intro t ht
  exact List.all_eq_true.1 (Qt3 h2).1 t (by simpa using ht)
 rw [h1]
 intro t ht
 cases ht
end
section
open Go.RowKit
inductive Ex where
 | mk (op : Int) (v : Val) (nm : List UInt8) (ks : List Ex)
def Ex.op : Ex -> Int | .mk o _ _ _ => o
def Ex.v : Ex -> Val | .mk _ v _ _ => v
def Ex.nm : Ex -> List UInt8 | .mk _ _ n _ => n
def Ex.ks : Ex -> List Ex | .mk _ _ _ k => k
theorem Ex.ind {P : Ex -> Prop} (h : ∀ op v nm ks, (∀ x ∈ ks, P x) -> P (.mk op v nm ks)) : ∀ x, P x
 | .mk op v nm ks => h op v nm ks (fun x hx => Ex.ind h x)
termination_by x => SizeOf.sizeOf x
decreasing_by
 simp_wf
 have := List.sizeOf_lt_of_mem hx
 omega
mutual
def szX : Ex -> Nat
 | .mk _ _ _ ks => 1 + szL ks
def szL : List Ex -> Nat
 | [] => 0
 | x :: t => szX x + szL t
end
mutual
def dpX : Ex -> Nat
 | .mk _ _ _ ks => 1 + dpL ks
def dpL : List Ex -> Nat
 | [] => 0
 | x :: t => max (dpX x) (dpL t)
end
def kidN (o : Int) : Nat := if o = 1 \/ o = 2 then 0 else if o = 3 \/ o = 16 then 1 else if o = 17 then 3 else 2
def prtB (o : Int) (v : Val) (nm : List UInt8) (n : Nat) : Bool :=
 decide (1 <= o /\ o <= 17 /\ n = kidN o) && (if o = 1 then decide (nm = []) && (vsnd v && decide (0 <= v.n)) else if o = 2 then veq v zv && wordB (Qaa nm) else veq v zv && decide (nm = []))
mutual
def okX : Ex -> Bool
 | .mk o v nm ks => prtB o v nm ks.length && okL ks
def okL : List Ex -> Bool
 | [] => true
 | x :: t => okX x && okL t
end
def sndX (x : Ex) : Bool := okX x && (decide (dpX x <= 64) && decide (szX x <= 4096))
def sgX (o : Int) : List UInt8 := if o = 4 then [43] else if o = 5 then [45] else if o = 6 then [42] else if o = 7 then [47] else if o = 8 then [61] else if o = 9 then [33, 61] else if o = 10 then [60] else if o = 11 then [60, 61] else if o = 12 then [62] else if o = 13 then [62, 61] else if o = 14 then [97, 110, 100] else [111, 114]
def wIF : List UInt8 := [105, 102]
def wTHEN : List UInt8 := [116, 104, 101, 110]
def wELSE : List UInt8 := [101, 108, 115, 101]
def wNOT : List UInt8 := [110, 111, 116]
def brkK (p : Bool × List Tok) : List Tok := if p.1 then p.2 else tkS [40] :: (p.2 ++ [tkS [41]])
def tkN (x : List UInt8) : Tok := ⟨4, 0, x, 0, 0, 0⟩
def opK (o : Int) : Tok := if o = 14 \/ o = 15 then tkN (sgX o) else tkS (sgX o)
def shpK (o : Int) (v : Val) (nm : List UInt8) : List (Bool × List Tok) -> List Tok
 | [] => if o = 1 then tksV v else [tkN nm]
 | [a] => if o = 3 then tkS [45] :: brkK a else tkN wNOT :: tkS [40] :: (a.2 ++ [tkS [41]])
 | [a, b] => brkK a ++ (opK o :: brkK b)
 | [a, b, c] => tkN wIF :: (brkK a ++ (tkN wTHEN :: (brkK b ++ (tkN wELSE :: brkK c))))
 | _ => []
mutual
def tkX : Ex -> List Tok
 | .mk o v nm ks => shpK o v nm (tksX ks)
def tksX : List Ex -> List (Bool × List Tok)
 | [] => []
 | x :: t => (decide (x.ks.length = 0), tkX x) :: tksX t
end
inductive Md where
 | expr
 | chain (k : Nat)
 | loop (k : Nat) (a : Ex)
 | signed
 | operand
 | inner
def cmpX (x : Ex) (p : Nat) (r : List Tok) : PR (Ex × Nat) := if 4096 < p + 1 then .bad r 10 else .ok (x, p + 1) r
def opR (k : Nat) (r : List Tok) : Option Int :=
 if k = 1 then (if isK 4 [111, 114] r = true then some 15 else none)
 else if k = 2 then (if isK 4 [97, 110, 100] r = true then some 14 else none)
 else if k = 3 then (if isS [61] r = true then some 8 else if isS [33, 61] r = true then some 9 else if isS [60] r = true then some 10 else if isS [60, 61] r = true then some 11 else if isS [62] r = true then some 12 else if isS [62, 61] r = true then some 13 else none)
 else if k = 4 then (if isS [43] r = true then some 4 else if isS [45] r = true then some 5 else none)
 else if k = 5 then (if isS [42] r = true then some 6 else if isS [47] r = true then some 7 else none)
 else none
def mnR : List Tok -> Nat
 | [] => 0
 | t :: r => if isS [45] [t] = true then mnR r + 1 else 0
def negX : Nat -> Ex -> Nat -> List Tok -> PR (Ex × Nat)
 | 0, x, p, r => .ok (x, p) r
 | m + 1, x, p, r => match cmpX (.mk 3 zv [] [x]) p r with
  | .bad q e => .bad q e
  | .ok y r1 => negX m y.1 y.2 r1
def encX (q : PR (Ex × Nat)) : PR (Ex × Nat) := match q with
 | .bad q e => .bad q e
 | .ok y r => if isS [41] r = true then .ok y r.tail else .bad r 5
def bndX {α β : Type} (q : PR α) (f : α -> List Tok -> PR β) : PR β := match q with
 | .bad q e => .bad q e
 | .ok y r => f y r
def litX (p : Nat) (r : List Tok) : PR (Ex × Nat) := match r with
 | [] => .bad [] 5
 | t :: r1 => match valT t with
  | some v => cmpX (.mk 1 v [] []) p r1
  | none => if t.kind = 4 /\ wordB (Qaa t.text) = true then cmpX (.mk 2 zv t.text []) p r1 else .bad (t :: r1) 5
def parX : Nat -> Md -> Nat -> Nat -> List Tok -> PR (Ex × Nat)
 | 0, _, _, _, _ => .bad [] 99
 | n + 1, .expr, d, p, r => if isK 4 wIF r = true then
   bndX (parX n .expr d p r.tail) fun a r1 => if isK 4 wTHEN r1 = true then
    bndX (parX n .expr d a.2 r1.tail) fun b r2 => if isK 4 wELSE r2 = true then
     bndX (parX n .expr d b.2 r2.tail) fun c r3 => cmpX (.mk 17 zv [] [a.1, b.1, c.1]) c.2 r3
    else .bad r2 5
   else .bad r1 5
  else parX n (.chain 1) d p r
 | n + 1, .chain k, d, p, r => if k = 6 then parX n .signed d p r else bndX (parX n (.chain (k + 1)) d p r) fun a r1 => parX n (.loop k a.1) d a.2 r1
 | n + 1, .loop k a, d, p, r => match opR k r with
  | none => .ok (a, p) r
  | some o => bndX (parX n (.chain (k + 1)) d p r.tail) fun b r1 => bndX (cmpX (.mk o zv [] [a, b.1]) b.2 r1) fun y r2 => if k = 3 then .ok y r2 else parX n (.loop k y.1) d y.2 r2
 | n + 1, .signed, d, p, r => bndX (parX n .operand d p (r.drop (mnR r))) fun x r1 => negX (mnR r) x.1 x.2 r1
 | n + 1, .operand, d, p, r => if isS [40] r = true then encX (parX n .inner d p r.tail)
  else if isK 4 wNOT r = true then (if isS [40] r.tail = true then bndX (encX (parX n .inner d p r.tail.tail)) fun x r1 => cmpX (.mk 16 zv [] [x.1]) x.2 r1 else .bad r.tail 5)
  else litX p r
 | n + 1, .inner, d, p, r => if 64 < d + 1 then .bad r 9 else parX n .expr (d + 1) p r
def PR.fine {α : Type} (q : PR α) : Prop := match q with
 | .bad _ e => e ≠ 99
 | .ok _ _ => True
theorem Qbc {α β : Type} {q : PR α} {f : α -> List Tok -> PR β} (h : (bndX q f).fine) : q.fine := by
 cases q with
 | bad r e => exact h
 | ok y r => trivial
theorem Qgy {q : PR (Ex × Nat)} (h : (encX q).fine) : q.fine := by
 cases q with
 | bad r e => exact h
 | ok y r => trivial
theorem Qa1 : ∀ (n : Nat) (m : Md) (d p : Nat) (r : List Tok), (parX n m d p r).fine -> parX (n + 1) m d p r = parX n m d p r
 | 0, m, d, p, r, h => absurd rfl h
 | n + 1, .expr, d, p, r, h => by
  rw [parX.eq_def (n + 1 + 1), parX.eq_def (n + 1)]
  rw [parX.eq_def (n + 1)] at h
  simp only at h ⊢
  by_cases h1 : isK 4 wIF r = true
  ·rw [iP h1] at h ⊢
   rw [iP h1]
   have f1 := Qbc h
   rw [Qa1 n .expr d p r.tail f1]
   cases ha : parX n .expr d p r.tail with
   | bad q e => rfl
   | ok a r1 =>
    rw [ha] at h
    simp only [bndX] at h ⊢
    by_cases h2 : isK 4 wTHEN r1 = true
    ·rw [iP h2] at h ⊢
     rw [iP h2]
     have f2 : (parX n .expr d a.2 r1.tail).fine := Qbc (f := fun b r2 => if isK 4 wELSE r2 = true then bndX (parX n .expr d b.2 r2.tail) fun c r3 => cmpX (.mk 17 zv [] [a.1, b.1, c.1]) c.2 r3 else .bad r2 5) h
     rw [Qa1 n .expr d a.2 r1.tail f2]
     cases hb : parX n .expr d a.2 r1.tail with
     | bad q e => rfl
     | ok b r2 =>
      rw [hb] at h
      simp only at h ⊢
      by_cases h3 : isK 4 wELSE r2 = true
      ·rw [iP h3] at h ⊢
       rw [iP h3]
       have f3 : (parX n .expr d b.2 r2.tail).fine := Qbc (f := fun c r3 => cmpX (.mk 17 zv [] [a.1, b.1, c.1]) c.2 r3) h
       rw [Qa1 n .expr d b.2 r2.tail f3]
      rw [iN h3, iN h3]
    rw [iN h2, iN h2]
  ·rw [iN h1] at h ⊢
   rw [iN h1]
   exact Qa1 n (.chain 1) d p r h
 | n + 1, .chain k, d, p, r, h => by
  rw [parX.eq_def (n + 1 + 1), parX.eq_def (n + 1)]
  rw [parX.eq_def (n + 1)] at h
  simp only at h ⊢
  by_cases h1 : k = 6
  ·rw [iP h1] at h ⊢
   rw [iP h1]
   exact Qa1 n .signed d p r h
  ·rw [iN h1] at h ⊢
   rw [iN h1]
   rw [Qa1 n (.chain (k + 1)) d p r (Qbc h)]
   cases ha : parX n (.chain (k + 1)) d p r with
   | bad q e => rfl
   | ok a r1 =>
    rw [ha] at h
    simp only [bndX] at h ⊢
    exact Qa1 n (.loop k a.1) d a.2 r1 h
 | n + 1, .loop k a, d, p, r, h => by
  rw [parX.eq_def (n + 1 + 1), parX.eq_def (n + 1)]
  rw [parX.eq_def (n + 1)] at h
  simp only at h ⊢
  cases ho : opR k r with
  | none => rfl
  | some o =>
   rw [ho] at h
   simp only at h ⊢
   rw [Qa1 n (.chain (k + 1)) d p r.tail (Qbc h)]
   cases hb : parX n (.chain (k + 1)) d p r.tail with
   | bad q e => rfl
   | ok b r1 =>
    rw [hb] at h
    simp only [bndX] at h ⊢
    cases hc : cmpX (.mk o zv [] [a, b.1]) b.2 r1 with
    | bad q e => rfl
    | ok y r2 =>
     rw [hc] at h
     simp only at h ⊢
     by_cases h3 : k = 3
     ·rw [iP h3, iP h3]
     ·rw [iN h3] at h ⊢
      rw [iN h3]
      exact Qa1 n (.loop k y.1) d y.2 r2 h
 | n + 1, .signed, d, p, r, h => by
  rw [parX.eq_def (n + 1 + 1), parX.eq_def (n + 1)]
  rw [parX.eq_def (n + 1)] at h
  simp only at h ⊢
  rw [Qa1 n .operand d p _ (Qbc h)]
 | n + 1, .operand, d, p, r, h => by
  rw [parX.eq_def (n + 1 + 1), parX.eq_def (n + 1)]
  rw [parX.eq_def (n + 1)] at h
  simp only at h ⊢
  by_cases h1 : isS [40] r = true
  ·rw [iP h1] at h ⊢
   rw [iP h1]
   rw [Qa1 n .inner d p r.tail (Qgy h)]
  ·rw [iN h1] at h ⊢
   rw [iN h1]
   by_cases h2 : isK 4 wNOT r = true
   ·rw [iP h2] at h ⊢
    rw [iP h2]
    by_cases h3 : isS [40] r.tail = true
    ·rw [iP h3] at h ⊢
     rw [iP h3]
     rw [Qa1 n .inner d p r.tail.tail (Qgy (Qbc h))]
    rw [iN h3, iN h3]
   ·rw [iN h2, iN h2]
 | n + 1, .inner, d, p, r, h => by
  rw [parX.eq_def (n + 1 + 1), parX.eq_def (n + 1)]
  rw [parX.eq_def (n + 1)] at h
  simp only at h ⊢
  by_cases h1 : 64 < d + 1
  ·rw [iP h1, iP h1]
  rw [iN h1] at h ⊢
  rw [iN h1]
  exact Qa1 n .expr (d + 1) p r h
theorem Qns {n k : Nat} {m : Md} {d p : Nat} {r : List Tok} (h : (parX n m d p r).fine) (hk : n <= k) : parX k m d p r = parX n m d p r := by
 induction k with
 | zero => obtain rfl : n = 0 := by omega
           rfl
 | succ k ih =>
  rcases Nat.lt_or_ge k n with h1 | h1
  ·obtain rfl : n = k + 1 := by omega
   rfl
  have e := ih h1
  rw [Qa1 k m d p r (by rw [e]; exact h), e]
def PR.suf {α : Type} (q : PR α) (r : List Tok) : Prop := match q with
 | .bad s _ => s <:+ r
 | .ok _ s => s <:+ r
theorem PR.suf.trans {α : Type} {q : PR α} {r s : List Tok} (h : q.suf r) (hr : r <:+ s) : q.suf s := by
 cases q with
 | bad t e => exact List.IsSuffix.trans h hr
 | ok y t => exact List.IsSuffix.trans h hr
theorem Qct {α β : Type} {q : PR α} {f : α -> List Tok -> PR β} {r : List Tok} (h : q.suf r) (hf : ∀ y s, q = .ok y s -> (f y s).suf s) : (bndX q f).suf r := by
 cases q with
 | bad t e => exact h
 | ok y t => exact (hf y t rfl).trans h
theorem Qi0 {q : PR (Ex × Nat)} {r : List Tok} (h : q.suf r) : (encX q).suf r := by
 cases q with
 | bad t e => exact h
 | ok y t =>
  unfold encX
  simp only
  by_cases h1 : isS [41] t = true
  ·rw [iP h1]; exact (List.tail_suffix t).trans h
  rw [iN h1]; exact h
theorem Qdr (x : Ex) (p : Nat) (r : List Tok) : (cmpX x p r).suf r := by
 unfold cmpX
 split <;> exact List.suffix_refl r
theorem Qi1 : ∀ (m : Nat) (x : Ex) (p : Nat) (r : List Tok), (negX m x p r).suf r
 | 0, x, p, r => List.suffix_refl r
 | m + 1, x, p, r => by
  unfold negX
  have h := Qdr (.mk 3 zv [] [x]) p r
  cases hc : cmpX (.mk 3 zv [] [x]) p r with
  | bad t e => rw [hc] at h; exact h
  | ok y t => rw [hc] at h; exact (Qi1 m y.1 y.2 t).trans h
theorem Qt4 (p : Nat) (r : List Tok) : (litX p r).suf r := by
 unfold litX
 cases r with
 | nil => exact List.suffix_refl []
 | cons t r =>
  simp only
  cases valT t with
  | some v => exact (Qdr _ _ _).trans (List.suffix_cons t r)
  | none =>
   simp only
   split
   ·exact (Qdr _ _ _).trans (List.suffix_cons t r)
   exact List.suffix_refl _
theorem Qak : ∀ (n : Nat) (m : Md) (d p : Nat) (r : List Tok), (parX n m d p r).suf r
 | 0, m, d, p, r => List.nil_suffix
 | n + 1, .expr, d, p, r => by
  rw [parX.eq_def]
  simp only
  split
  ·refine Qct ((Qak n .expr d p r.tail).trans (List.tail_suffix r)) fun a r1 _ => ?_
   split
   ·refine Qct ((Qak n .expr d a.2 r1.tail).trans (List.tail_suffix r1)) fun b r2 _ => ?_
    split
    ·exact Qct ((Qak n .expr d b.2 r2.tail).trans (List.tail_suffix r2)) fun c r3 _ => Qdr _ _ _
    exact List.suffix_refl _
   exact List.suffix_refl _
  ·exact Qak n (.chain 1) d p r
 | n + 1, .chain k, d, p, r => by
  rw [parX.eq_def]
  simp only
  split
  ·exact Qak n .signed d p r
  ·exact Qct (Qak n (.chain (k + 1)) d p r) fun a r1 _ => Qak n (.loop k a.1) d a.2 r1
 | n + 1, .loop k a, d, p, r => by
  rw [parX.eq_def]
  simp only
  cases ho : opR k r with
  | none => exact List.suffix_refl _
  | some o =>
   simp only
   refine Qct ((Qak n (.chain (k + 1)) d p r.tail).trans (List.tail_suffix r)) fun b r1 _ => Qct (Qdr _ _ _) fun y r2 _ => ?_
   split
   ·exact List.suffix_refl _
   ·exact Qak n (.loop k y.1) d y.2 r2
 | n + 1, .signed, d, p, r => by
  rw [parX.eq_def]
  simp only
  exact Qct ((Qak n .operand d p _).trans (List.drop_suffix _ r)) fun x r1 _ => Qi1 _ _ _ _
 | n + 1, .operand, d, p, r => by
  rw [parX.eq_def]
  simp only
  split
  ·exact Qi0 ((Qak n .inner d p r.tail).trans (List.tail_suffix r))
  ·split
   ·split
    ·exact Qct (Qi0 ((Qak n .inner d p r.tail.tail).trans ((List.tail_suffix _).trans (List.tail_suffix r)))) fun x r1 _ => Qdr _ _ _
    exact List.tail_suffix r
   ·exact Qt4 p r
 | n + 1, .inner, d, p, r => by
  rw [parX.eq_def]
  simp only
  split
  ·exact List.suffix_refl r
  exact Qak n .expr (d + 1) p r
theorem Qb7 {k : Int} {x : List UInt8} {r : List Tok} (h : isK k x r = true) : r.tail.length + 1 = r.length := by
 cases r with
 | nil => cases h
 | cons t r => simp
theorem Qt5 {k : Nat} {r : List Tok} {o : Int} (h : opR k r = some o) : r.tail.length + 1 = r.length := by
 cases r with
 | nil =>
  have e : opR k [] = none := by
   unfold opR
   simp [isK]
  rw [e] at h
  cases h
 | cons t r => simp
def levM : Md -> Nat
 | .expr => 10
 | .chain k => 9 - k
 | .loop _ _ => 11
 | .signed => 2
 | .operand => 1
 | .inner => 11
def modM : Md -> Prop
 | .chain k => k <= 6
 | .loop k _ => k <= 5
 | _ => True
theorem Qcu {α : Type} {q : PR α} {r : List Tok} {y : α} {s : List Tok} (h : q.suf r) (e : q = .ok y s) : s.length <= r.length := by
 rw [e] at h
 exact List.IsSuffix.length_le h
theorem Qi2 {m p : Nat} {x y : Ex × Nat} {r s : List Tok} (e : negX m x.1 p r = .ok y s) : s.length <= r.length := Qcu (Qi1 m x.1 p r) e
theorem Qsn {q : PR (Ex × Nat)} {r s : List Tok} {y : Ex × Nat} (h : q.suf r) (e : encX q = .ok y s) : s.length < r.length := by
 cases q with
 | bad t er => cases e
 | ok z t =>
  unfold encX at e
  simp only at e
  have h' : t <:+ r := h
  have l1 := List.IsSuffix.length_le h'
  by_cases h1 : isS [41] t = true
  ·rw [iP h1] at e
   cases e
   have := Qb7 h1
   omega
  rw [iN h1] at e; cases e
theorem Qhr {x : Ex} {p : Nat} {r s : List Tok} {y : Ex × Nat} (e : cmpX x p r = .ok y s) : y = (x, p + 1) /\ s = r := by
 unfold cmpX at e
 split at e
 ·cases e
 cases e; exact ⟨rfl, rfl⟩
theorem Qwa {p : Nat} {r s : List Tok} {y : Ex × Nat} (e : litX p r = .ok y s) : s.length < r.length := by
 unfold litX at e
 cases r with
 | nil => cases e
 | cons t r =>
  simp only at e
  cases hv : valT t with
  | some v =>
   rw [hv] at e
   obtain ⟨_, rfl⟩ := Qhr e
   simp
  | none =>
   rw [hv] at e
   simp only at e
   split at e
   ·obtain ⟨_, rfl⟩ := Qhr e
    simp
   cases e
theorem Qf8 {α β : Type} {q : PR α} {f : α -> List Tok -> PR β} {y : β} {s : List Tok} (e : bndX q f = .ok y s) : ∃ z t, q = .ok z t /\ f z t = .ok y s := by
 cases q with
 | bad r er => cases e
 | ok z t => exact ⟨z, t, rfl, e⟩
theorem Qel : ∀ (n : Nat) (m : Md) (d p : Nat) (r s : List Tok) (y : Ex × Nat), (∀ k a, m ≠ .loop k a) -> parX n m d p r = .ok y s -> s.length < r.length
 | 0, m, d, p, r, s, y, _, h => by cases h
 | n + 1, .expr, d, p, r, s, y, _, h => by
  rw [parX.eq_def] at h
  simp only at h
  split at h
  ·rename_i h1
   have l1 := Qb7 h1
   obtain ⟨a, r1, e1, h⟩ := Qf8 h
   have k1 := Qcu (Qak n .expr d p r.tail) e1
   split at h
   ·rename_i h2
    have l2 := Qb7 h2
    obtain ⟨b, r2, e2, h⟩ := Qf8 h
    have k2 := Qcu (Qak n .expr d a.2 r1.tail) e2
    split at h
    ·rename_i h3
     have l3 := Qb7 h3
     obtain ⟨c, r3, e3, h⟩ := Qf8 h
     have k3 := Qcu (Qak n .expr d b.2 r2.tail) e3
     obtain ⟨_, rfl⟩ := Qhr h
     omega
    cases h
   cases h
  ·exact Qel n (.chain 1) d p r s y (fun k a e => by cases e) h
 | n + 1, .chain k, d, p, r, s, y, _, h => by
  rw [parX.eq_def] at h
  simp only at h
  split at h
  ·exact Qel n .signed d p r s y (fun k a e => by cases e) h
  ·obtain ⟨a, r1, e1, h⟩ := Qf8 h
   have k1 := Qel n (.chain (k + 1)) d p r r1 a (fun k a e => by cases e) e1
   have k2 := Qcu (Qak n (.loop k a.1) d a.2 r1) h
   omega
 | n + 1, .loop k a, d, p, r, s, y, hm, h => absurd rfl (hm k a)
 | n + 1, .signed, d, p, r, s, y, _, h => by
  rw [parX.eq_def] at h
  simp only at h
  obtain ⟨a, r1, e1, h⟩ := Qf8 h
  have k1 := Qel n .operand d p _ r1 a (fun k a e => by cases e) e1
  have k2 := Qi2 h
  rw [List.length_drop] at k1
  omega
 | n + 1, .operand, d, p, r, s, y, _, h => by
  rw [parX.eq_def] at h
  simp only at h
  split at h
  ·have := Qsn (Qak n .inner d p r.tail) h
   have := List.IsSuffix.length_le (List.tail_suffix r)
   omega
  ·split at h
   ·split at h
    ·obtain ⟨a, r1, e1, h⟩ := Qf8 h
     have k1 := Qsn (Qak n .inner d p r.tail.tail) e1
     obtain ⟨_, rfl⟩ := Qhr h
     have := List.IsSuffix.length_le (List.tail_suffix r)
     have := List.IsSuffix.length_le (List.tail_suffix r.tail)
     omega
    cases h
   ·exact Qwa h
 | n + 1, .inner, d, p, r, s, y, _, h => by
  rw [parX.eq_def] at h
  simp only at h
  split at h
  ·cases h
  exact Qel n .expr (d + 1) p r s y (fun k a e => by cases e) h
theorem Qb5 {α β : Type} {q : PR α} {f : α -> List Tok -> PR β} (h : q.fine) (hf : ∀ y s, q = .ok y s -> (f y s).fine) : (bndX q f).fine := by
 cases q with
 | bad r e => exact h
 | ok y s => exact hf y s rfl
theorem Qc9 (x : Ex) (p : Nat) (r : List Tok) : (cmpX x p r).fine := by
 unfold cmpX
 split
 ·show (10 : Nat) ≠ 99; decide
 trivial
theorem Qgz : ∀ (m : Nat) (x : Ex) (p : Nat) (r : List Tok), (negX m x p r).fine
 | 0, x, p, r => trivial
 | m + 1, x, p, r => by
  unfold negX
  have h := Qc9 (.mk 3 zv [] [x]) p r
  cases hc : cmpX (.mk 3 zv [] [x]) p r with
  | bad t e => rw [hc] at h; exact h
  | ok y t => exact Qgz m y.1 y.2 t
theorem Qkg {q : PR (Ex × Nat)} (h : q.fine) : (encX q).fine := by
 cases q with
 | bad r e => exact h
 | ok y s =>
  unfold encX
  simp only
  split
  ·trivial
  show (5 : Nat) ≠ 99; decide
theorem Qqv (p : Nat) (r : List Tok) : (litX p r).fine := by
 unfold litX
 cases r with
 | nil => show (5 : Nat) ≠ 99; decide
 | cons t r =>
  simp only
  cases valT t with
  | some v => exact Qc9 _ _ _
  | none =>
   simp only
   split
   ·exact Qc9 _ _ _
   show (5 : Nat) ≠ 99; decide
theorem Qao : ∀ (n : Nat) (m : Md) (d p : Nat) (r : List Tok), modM m -> 12 * r.length + levM m <= n -> (parX n m d p r).fine
 | 0, m, d, p, r, hm, h => by
  cases m <;> simp only [levM, modM] at h hm <;> omega
 | n + 1, .expr, d, p, r, _, h => by
  simp only [levM] at h
  rw [parX.eq_def]
  simp only
  split
  ·rename_i h1
   have l1 := Qb7 h1
   refine Qb5 (Qao n .expr d p r.tail trivial (by simp only [levM]; omega)) fun a r1 e1 => ?_
   have k1 := Qcu (Qak n .expr d p r.tail) e1
   split
   ·rename_i h2
    have l2 := Qb7 h2
    refine Qb5 (Qao n .expr d a.2 r1.tail trivial (by simp only [levM]; omega)) fun b r2 e2 => ?_
    have k2 := Qcu (Qak n .expr d a.2 r1.tail) e2
    split
    ·rename_i h3
     have l3 := Qb7 h3
     exact Qb5 (Qao n .expr d b.2 r2.tail trivial (by simp only [levM]; omega)) fun c r3 e3 => Qc9 _ _ _
    show (5 : Nat) ≠ 99; decide
   show (5 : Nat) ≠ 99; decide
  ·exact Qao n (.chain 1) d p r (by show 1 <= 6; omega) (by simp only [levM]; omega)
 | n + 1, .chain k, d, p, r, hm, h => by
  have hk : k <= 6 := hm
  simp only [levM] at h
  rw [parX.eq_def]
  simp only
  split
  ·exact Qao n .signed d p r trivial (by simp only [levM]; omega)
  ·refine Qb5 (Qao n (.chain (k + 1)) d p r (by show k + 1 <= 6; omega) (by simp only [levM]; omega)) fun a r1 e1 => ?_
   have k1 := Qel n (.chain (k + 1)) d p r r1 a (fun k a e => by cases e) e1
   exact Qao n (.loop k a.1) d a.2 r1 (by show k <= 5; omega) (by simp only [levM]; omega)
 | n + 1, .loop k a, d, p, r, hm, h => by
  have hk : k <= 5 := hm
  simp only [levM] at h
  rw [parX.eq_def]
  simp only
  cases ho : opR k r with
  | none => trivial
  | some o =>
   simp only
   have l1 := Qt5 ho
   refine Qb5 (Qao n (.chain (k + 1)) d p r.tail (by show k + 1 <= 6; omega) (by simp only [levM]; omega)) fun b r1 e1 => ?_
   have k1 := Qcu (Qak n (.chain (k + 1)) d p r.tail) e1
   refine Qb5 (Qc9 _ _ _) fun y r2 e2 => ?_
   obtain ⟨_, rfl⟩ := Qhr e2
   split
   ·trivial
   ·exact Qao n (.loop k y.1) d y.2 r2 hm (by simp only [levM]; omega)
 | n + 1, .signed, d, p, r, _, h => by
  simp only [levM] at h
  rw [parX.eq_def]
  simp only
  exact Qb5 (Qao n .operand d p _ trivial (by simp only [levM]; rw [List.length_drop]; omega)) fun x r1 e1 => Qgz _ _ _ _
 | n + 1, .operand, d, p, r, _, h => by
  simp only [levM] at h
  rw [parX.eq_def]
  simp only
  split
  ·rename_i h1
   have l1 := Qb7 h1
   exact Qkg (Qao n .inner d p r.tail trivial (by simp only [levM]; omega))
  ·split
   ·rename_i h2
    have l2 := Qb7 h2
    split
    ·rename_i h3
     have l3 := Qb7 h3
     exact Qb5 (Qkg (Qao n .inner d p r.tail.tail trivial (by simp only [levM]; omega))) fun x r1 e1 => Qc9 _ _ _
    show (5 : Nat) ≠ 99; decide
   ·exact Qqv p r
 | n + 1, .inner, d, p, r, _, h => by
  simp only [levM] at h
  rw [parX.eq_def]
  simp only
  split
  ·show (9 : Nat) ≠ 99; decide
  exact Qao n .expr (d + 1) p r trivial (by simp only [levM]; omega)
def Par (m : Md) (d p : Nat) (r : List Tok) (q : PR (Ex × Nat)) : Prop := q.fine /\ ∃ n, ∀ k, n <= k -> parX k m d p r = q
theorem Par.at {m : Md} {d p : Nat} {r : List Tok} {q : PR (Ex × Nat)} (h : Par m d p r q) {n : Nat} (hm : modM m) (hn : 12 * r.length + levM m <= n) : parX n m d p r = q := by
 obtain ⟨hf, k, hk⟩ := h
 have h1 := Qao n m d p r hm hn
 have h2 := Qns h1 (Nat.le_max_left n k)
 rw [← h2, hk _ (Nat.le_max_right n k)]
theorem Par.of {m : Md} {d p : Nat} {r : List Tok} {n : Nat} (h : (parX n m d p r).fine) : Par m d p r (parX n m d p r) := ⟨h, n, fun _ hk => Qns h hk⟩
theorem Par.uniq {m : Md} {d p : Nat} {r : List Tok} {q q' : PR (Ex × Nat)} (h : Par m d p r q) (h' : Par m d p r q') : q = q' := by
 obtain ⟨_, n, hn⟩ := h
 obtain ⟨_, k, hk⟩ := h'
 rw [← hn (max n k) (Nat.le_max_left n k), hk (max n k) (Nat.le_max_right n k)]
theorem Par.any (m : Md) (d p : Nat) (r : List Tok) (hm : modM m) : ∃ q, Par m d p r q := ⟨_, Par.of (Qao _ m d p r hm (Nat.le_refl _))⟩
theorem Par.expr {d p : Nat} {r : List Tok} {q : PR (Ex × Nat)} (h1 : isK 4 wIF r = false) (h : Par (.chain 1) d p r q) : Par .expr d p r q := by
 obtain ⟨hf, n, hn⟩ := h
 refine ⟨hf, n + 1, fun k hk => ?_⟩
 obtain ⟨j, rfl⟩ : ∃ j, k = j + 1 := ⟨k - 1, by omega⟩
 rw [parX.eq_def]
 simp only
 rw [iN (by rw [h1]; decide)]
 exact hn j (by omega)
theorem Par.chain {k d p : Nat} {r r1 : List Tok} {a : Ex × Nat} {q : PR (Ex × Nat)} (hk : k ≠ 6) (ha : Par (.chain (k + 1)) d p r (.ok a r1)) (hl : Par (.loop k a.1) d a.2 r1 q) : Par (.chain k) d p r q := by
 obtain ⟨_, n1, k1⟩ := ha
 obtain ⟨hf, n2, k2⟩ := hl
 refine ⟨hf, n1 + n2 + 1, fun i hi => ?_⟩
 obtain ⟨j, rfl⟩ : ∃ j, i = j + 1 := ⟨i - 1, by omega⟩
 rw [parX.eq_def]
 simp only
 rw [iN hk, k1 j (by omega)]
 exact k2 j (by omega)
theorem Par.go {k d p : Nat} {a : Ex} {o : Int} {b y : Ex × Nat} {r r1 r2 : List Tok} {q : PR (Ex × Nat)} (h : opR k r = some o) (hb : Par (.chain (k + 1)) d p r.tail (.ok b r1)) (hc : cmpX (.mk o zv [] [a, b.1]) b.2 r1 = .ok y r2) (h3 : k = 3 -> q = .ok y r2) (hl : k ≠ 3 -> Par (.loop k y.1) d y.2 r2 q) : Par (.loop k a) d p r q := by
 obtain ⟨_, n1, k1⟩ := hb
 by_cases hk : k = 3
 ·refine ⟨by rw [h3 hk]; trivial, n1 + 1, fun i hi => ?_⟩
  obtain ⟨j, rfl⟩ : ∃ j, i = j + 1 := ⟨i - 1, by omega⟩
  rw [parX.eq_def]
  simp only
  rw [h]
  simp only
  rw [k1 j (by omega)]
  simp only [bndX]
  rw [hc]
  simp only
  rw [iP hk, h3 hk]
 obtain ⟨hf, n2, k2⟩ := hl hk
 refine ⟨hf, n1 + n2 + 1, fun i hi => ?_⟩
 obtain ⟨j, rfl⟩ : ∃ j, i = j + 1 := ⟨i - 1, by omega⟩
 rw [parX.eq_def]
 simp only
 rw [h]
 simp only
 rw [k1 j (by omega)]
 simp only [bndX]
 rw [hc]
 simp only
 rw [iN hk]
 exact k2 j (by omega)
theorem Par.signed {d p : Nat} {r r1 : List Tok} {x : Ex × Nat} (h : Par .operand d p (r.drop (mnR r)) (.ok x r1)) : Par .signed d p r (negX (mnR r) x.1 x.2 r1) := by
 obtain ⟨_, n, hn⟩ := h
 refine ⟨Qgz _ _ _ _, n + 1, fun k hk => ?_⟩
 obtain ⟨j, rfl⟩ : ∃ j, k = j + 1 := ⟨k - 1, by omega⟩
 rw [parX.eq_def]
 simp only
 rw [hn j (by omega)]
 rfl
theorem Par.inner {d p : Nat} {r : List Tok} {q : PR (Ex × Nat)} (hd : d + 1 <= 64) (h : Par .expr (d + 1) p r q) : Par .inner d p r q := by
 obtain ⟨hf, n, hn⟩ := h
 refine ⟨hf, n + 1, fun k hk => ?_⟩
 obtain ⟨j, rfl⟩ : ∃ j, k = j + 1 := ⟨k - 1, by omega⟩
 rw [parX.eq_def]
 simp only
 rw [iN (by omega)]
 exact hn j (by omega)
theorem Par.deep {d p : Nat} {r : List Tok} (hd : 64 < d + 1) : Par .inner d p r (.bad r 9) := by
 refine ⟨by show (9 : Nat) ≠ 99; decide, 1, fun k hk => ?_⟩
 obtain ⟨j, rfl⟩ : ∃ j, k = j + 1 := ⟨k - 1, by omega⟩
 rw [parX.eq_def]
 simp only
 rw [iP hd]
theorem Qbt {o : Int} {v : Val} {nm : List UInt8} {n : Nat} (h : prtB o v nm n = true) : 1 <= o /\ o <= 17 /\ n = kidN o /\ (o = 1 -> nm = [] /\ vsnd v = true /\ 0 <= v.n) /\ (o = 2 -> v = zv /\ wordB (Qaa nm) = true) /\ (o ≠ 1 -> o ≠ 2 -> v = zv /\ nm = []) := by
 unfold prtB at h
 rw [bA, decide_eq_true_eq] at h
 obtain ⟨⟨h1, h2, h3⟩, h4⟩ := h
 refine ⟨h1, h2, h3, ?_, ?_, ?_⟩
 ·intro e
  rw [iP e] at h4
  simpa [bA] using h4
 ·intro e
  rw [iN (by omega), iP e, bA, Qa8] at h4
  exact h4
 intro a b
 rw [iN a, iN b, bA, Qa8, decide_eq_true_eq] at h4
 exact h4
def Oper (x : Ex) : Prop := ∀ d p rest, d + dpX x <= 64 -> p + szX x <= 4096 -> Par .operand d p (brkK (decide (x.ks.length = 0), tkX x) ++ rest) (.ok (x, p + szX x) rest)
def zx : Ex := .mk 0 zv [] []
noncomputable def parE (s : ByteArray) : Ex × Int × Nat :=
 if (tokS s).2.2 = 0 then (match parX (12 * (tokS s).1.length + 11) .inner 0 0 (tokS s).1 with
  | .bad r e => (zx, posT s.size r, e)
  | .ok y r => if r = [] then (if sndX y.1 = true then (y.1, 0, 0) else (zx, 0, 9)) else (zx, posT s.size r, 5))
 else (zx, (tokS s).2.1, (tokS s).2.2)
def PR.errs {α : Type} (q : PR α) : Prop := match q with
 | .bad _ e => e ≠ 0
 | .ok _ _ => True
theorem Qcv {α β : Type} {q : PR α} {f : α -> List Tok -> PR β} (h : q.errs) (hf : ∀ y s, (f y s).errs) : (bndX q f).errs := by
 cases q with
 | bad r e => exact h
 | ok y s => exact hf y s
theorem Qem (x : Ex) (p : Nat) (r : List Tok) : (cmpX x p r).errs := by
 unfold cmpX
 split
 ·show (10 : Nat) ≠ 0; decide
 trivial
theorem Qnt : ∀ (m : Nat) (x : Ex) (p : Nat) (r : List Tok), (negX m x p r).errs
 | 0, x, p, r => trivial
 | m + 1, x, p, r => by
  unfold negX
  have h := Qem (.mk 3 zv [] [x]) p r
  cases hc : cmpX (.mk 3 zv [] [x]) p r with
  | bad t e => rw [hc] at h; exact h
  | ok y t => exact Qnt m y.1 y.2 t
theorem Qnu {q : PR (Ex × Nat)} (h : q.errs) : (encX q).errs := by
 cases q with
 | bad r e => exact h
 | ok y s =>
  unfold encX
  simp only
  split
  ·trivial
  show (5 : Nat) ≠ 0; decide
theorem Qt6 (p : Nat) (r : List Tok) : (litX p r).errs := by
 unfold litX
 cases r with
 | nil => show (5 : Nat) ≠ 0; decide
 | cons t r =>
  simp only
  cases valT t with
  | some v => exact Qem _ _ _
  | none =>
   simp only
   split
   ·exact Qem _ _ _
   show (5 : Nat) ≠ 0; decide
theorem Qa9 : ∀ (n : Nat) (m : Md) (d p : Nat) (r : List Tok), (parX n m d p r).errs
 | 0, m, d, p, r => by show (99 : Nat) ≠ 0; decide
 | n + 1, .expr, d, p, r => by
  rw [parX.eq_def]
  simp only
  split
  ·refine Qcv (Qa9 n .expr d p r.tail) fun a r1 => ?_
   split
   ·refine Qcv (Qa9 n .expr d a.2 r1.tail) fun b r2 => ?_
    split
    ·exact Qcv (Qa9 n .expr d b.2 r2.tail) fun c r3 => Qem _ _ _
    show (5 : Nat) ≠ 0; decide
   show (5 : Nat) ≠ 0; decide
  ·exact Qa9 n (.chain 1) d p r
 | n + 1, .chain k, d, p, r => by
  rw [parX.eq_def]
  simp only
  split
  ·exact Qa9 n .signed d p r
  ·exact Qcv (Qa9 n (.chain (k + 1)) d p r) fun a r1 => Qa9 n (.loop k a.1) d a.2 r1
 | n + 1, .loop k a, d, p, r => by
  rw [parX.eq_def]
  simp only
  cases ho : opR k r with
  | none => trivial
  | some o =>
   simp only
   refine Qcv (Qa9 n (.chain (k + 1)) d p r.tail) fun b r1 => Qcv (Qem _ _ _) fun y r2 => ?_
   split
   ·trivial
   ·exact Qa9 n (.loop k y.1) d y.2 r2
 | n + 1, .signed, d, p, r => by
  rw [parX.eq_def]
  simp only
  exact Qcv (Qa9 n .operand d p _) fun x r1 => Qnt _ _ _ _
 | n + 1, .operand, d, p, r => by
  rw [parX.eq_def]
  simp only
  split
  ·exact Qnu (Qa9 n .inner d p r.tail)
  ·split
   ·split
    ·exact Qcv (Qnu (Qa9 n .inner d p r.tail.tail)) fun x r1 => Qem _ _ _
    show (5 : Nat) ≠ 0; decide
   ·exact Qt6 p r
 | n + 1, .inner, d, p, r => by
  rw [parX.eq_def]
  simp only
  split
  ·show (9 : Nat) ≠ 0; decide
  exact Qa9 n .expr (d + 1) p r
theorem Qi3 {s : ByteArray} {x : Ex} {n : Int} (h : parE s = (x, n, 0)) : n = 0 /\ sndX x = true /\ (tokS s).2.2 = 0 /\ ∃ p, Par .inner 0 0 (tokS s).1 (.ok (x, p) []) := by
 unfold parE at h
 split at h
 ·rename_i ht
  have hf := Qao (12 * (tokS s).1.length + 11) .inner 0 0 (tokS s).1 trivial (by simp only [levM]; omega)
  have hP := Par.of hf
  cases hc : parX (12 * (tokS s).1.length + 11) .inner 0 0 (tokS s).1 with
  | bad r e =>
   rw [hc] at h hf
   simp only [Prod.mk.injEq] at h
   have he := Qa9 (12 * (tokS s).1.length + 11) .inner 0 0 (tokS s).1
   rw [hc] at he
   exact absurd h.2.2 he
  | ok y r =>
   rw [hc] at h hP
   simp only at h
   split at h
   ·rename_i hr
    split at h
    ·rename_i hs
     simp only [Prod.mk.injEq] at h
     obtain ⟨rfl, rfl, _⟩ := h
     exact ⟨rfl, hs, ht, y.2, by rw [← hr]; exact hP⟩
    simp at h
   simp at h
 rename_i ht
 simp only [Prod.mk.injEq] at h
 exact absurd h.2.2 ht
end
end Go.Proofs.YtjckpkamhdbcnaaGreatDoor
