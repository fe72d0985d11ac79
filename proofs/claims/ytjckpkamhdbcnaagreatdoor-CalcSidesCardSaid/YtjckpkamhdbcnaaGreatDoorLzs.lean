import Derived.Test.YtjckpkamhdbcnaaGreatDoorLxn
namespace Go.Proofs.YtjckpkamhdbcnaaGreatDoor
set_option linter.unusedSimpArgs false
set_option linter.unusedVariables false
open Go.RowKit
/-! What is read is sound, what is sound is read. -/
noncomputable def wrT (t : Tok) : List UInt8 :=
 if t.kind = 1 then txtL (decide (t.dn < 0)) t.dn.natAbs t.ds.toNat
 else if t.kind = 2 then quoL t.text
 else if t.kind = 3 then 64 :: quoL (dtx t.day).data.toList
 else t.text
theorem txt_len (neg : Bool) (x s : Nat) (hx : x ≤ 999999999999) (hs : s ≤ 6) : (txtL neg x s).length ≤ 30 := by
 have h1 := dec_len_le 11 (x / P10 s) (Nat.lt_of_le_of_lt (Nat.div_le_self _ _) (by omega))
 unfold txtL
 by_cases h : s = 0
 ·rw [if_pos h]
  cases neg <;> simp <;> omega
 ·rw [if_neg h]
  have h2 := pad_len s (x % P10 s) (Nat.mod_lt _ (P10_pos s)) (by omega)
  cases neg <;> simp <;> omega
theorem snd_parts {t : Tok} (h : ksnd t = true) :
  (t.kind = 1 ∧ t.text = [] ∧ t.day = 0 ∧ SndD t.dn t.ds ∧ 0 ≤ t.dn) ∨ (t.kind = 2 ∧ t.dn = 0 ∧ t.ds = 0 ∧ t.day = 0 ∧ strOk t.text = true) ∨
  (t.kind = 3 ∧ t.text = [] ∧ t.dn = 0 ∧ t.ds = 0 ∧ 0 ≤ t.day ∧ t.day ≤ 3652058) ∨ (t.kind = 4 ∧ t.dn = 0 ∧ t.ds = 0 ∧ t.day = 0 ∧ nmOk t.text = true) ∨
  (t.kind = 5 ∧ t.dn = 0 ∧ t.ds = 0 ∧ t.day = 0 ∧ t.text ∈ signsL) := by
 obtain ⟨k, p, x, a, b, d⟩ := t
 have e0 : ∀ x : List UInt8, bytesOf x = (⟨#[]⟩ : ByteArray) → x = [] := fun x h => bytesOf_inj (b := []) h
 rcases kinds6 k with rfl | rfl | rfl | rfl | rfl | hk
 ·rw [tsnd1, Bool.and_eq_true, teqv_iff, Bool.and_eq_true, decide_eq_true_eq] at h
  exact .inl ⟨rfl, e0 _ h.1.2.2.1, h.1.2.2.2.2.2, of_decide_eq_true h.2.1, h.2.2⟩
 ·rw [tsnd2, Bool.and_eq_true, teqv_iff] at h
  exact .inr (.inl ⟨rfl, h.1.2.2.2.1, h.1.2.2.2.2.1, h.1.2.2.2.2.2, h.2⟩)
 ·rw [tsnd3, Bool.and_eq_true, teqv_iff, decide_eq_true_eq] at h
  exact .inr (.inr (.inl ⟨rfl, e0 _ h.1.2.2.1, h.1.2.2.2.1, h.1.2.2.2.2.1, h.2.1, h.2.2⟩))
 ·rw [tsnd4, Bool.and_eq_true, teqv_iff] at h
  exact .inr (.inr (.inr (.inl ⟨rfl, h.1.2.2.2.1, h.1.2.2.2.2.1, h.1.2.2.2.2.2, h.2⟩)))
 ·rw [tsnd5, Bool.and_eq_true, teqv_iff, List.contains_iff_mem] at h
  exact .inr (.inr (.inr (.inr ⟨rfl, h.1.2.2.2.1, h.1.2.2.2.2.1, h.1.2.2.2.2.2, h.2⟩)))
 ·rw [tsnd6 k p x a b d hk] at h
  cases h
theorem quo_len (x : List UInt8) : (quoL x).length ≤ 2 * x.length + 2 := by
 unfold quoL
 have := qt_len x
 simp only [List.length_append, List.length_cons, List.length_nil]
 omega
theorem sgn_len {x : List UInt8} (h : x ∈ signsL) : x.length ≤ 2 := by
 revert x
 decide
theorem str_len {x : List UInt8} (h : strOk x = true) : x.length ≤ 256 := by
 unfold strOk at h
 rw [Bool.and_eq_true, decide_eq_true_eq] at h
 exact h.1
theorem wr_len {t : Tok} (h : ksnd t = true) : (wrT t).length ≤ 1000 := by
 rcases snd_parts h with ⟨h1, h2, h3, h4, h5⟩ | ⟨h1, h2, h3, h4, h5⟩ | ⟨h1, h2, h3, h4, h5, h6⟩ | ⟨h1, h2, h3, h4, h5⟩ | ⟨h1, h2, h3, h4, h5⟩
 ·unfold wrT
  rw [if_pos h1]
  obtain ⟨s1, s2, ⟨s3, s4⟩, _⟩ := h4
  have := txt_len (decide (t.dn < 0)) t.dn.natAbs t.ds.toNat (by omega) (by omega)
  omega
 ·unfold wrT
  rw [if_neg (by rw [h1]; decide), if_pos h1]
  have := quo_len t.text
  have := str_len h5
  omega
 ·unfold wrT
  rw [if_neg (by rw [h1]; decide), if_neg (by rw [h1]; decide), if_pos h1]
  have := quo_len (dtx t.day).data.toList
  have e : (dtx t.day).data.toList.length = 10 := rfl
  simp only [List.length_cons]
  omega
 ·unfold wrT
  rw [if_neg (by rw [h1]; decide), if_neg (by rw [h1]; decide), if_neg (by rw [h1]; decide)]
  have := (nm_form h5).1
  omega
 ·unfold wrT
  rw [if_neg (by rw [h1]; decide), if_neg (by rw [h1]; decide), if_neg (by rw [h1]; decide)]
  have := sgn_len h5
  omega
theorem tok_out {w : World} {x : List Tok × Nat × Nat} {e : Ending} {w' : World} (h : TokOut w x e w') : ∃ A c, e = .returned (.tuple #[.slice A x.1.length c, .int .i64 x.2.1, .int .i64 x.2.2]) ∧ Toks w' A x.1 ∧ Bel w w' ∧ x.1.length ≤ c ∧ (A = none → c = 0) ∧ TkRows w' w.heap.size (.slice A x.1.length c) x.1 := by
 obtain ⟨h1, v, h2, h3⟩ := h
 obtain ⟨A, c, rfl, h4, h5⟩ := h3.val
 refine ⟨A, c, h2, h4, h1, ?_, h5, h3⟩
 rcases h3.2 with ⟨hv, h0⟩ | ⟨g, cap, cur, hv, _, _, hc, _⟩
 ·rw [h0]; exact Nat.zero_le _
 ·cases hv
  exact hc
theorem len_toks (s : ByteArray) : (tokS s).1.length ≤ s.size ∧ (tokS s).1.length ≤ 65536 := by
 suffices h : (tokS s).1.length ≤ s.size ∧ (¬ s.size ≤ 65536 → (tokS s).1.length = 0) by omega
 by_cases hs : s.size ≤ 65536
 ·rcases tokS_cases s hs with ⟨ms, h1, h2⟩ | ⟨ms, l2, e, h1, _⟩
  ·rw [h1]
   have : ∀ {p : Nat} {l l2 : List UInt8} {ms : List Tok}, Run p l ms l2 → ms.length + l2.length ≤ l.length := by
    intro p l l2 ms h
    induction h with
    | nil p l => simp
    | cons hs hr ih =>
     rename_i m _ _
     obtain ⟨q, hq, hqn⟩ := step_suf hs
     have hl := congrArg List.length hq
     rw [List.length_append] at hl
     have := List.length_pos_iff.2 hqn
     rw [List.length_append]
     cases m <;> simp only [optT, List.length_nil, List.length_cons] <;> omega
   have h3 := this h2
   rw [size_list] at h3
   simp only [List.length_nil] at h3
   exact ⟨by simp only; omega, fun h => absurd hs h⟩
  ·rw [h1]; exact ⟨Nat.zero_le _, fun h => absurd hs h⟩
 ·unfold tokS
  rw [if_pos (by omega)]
  exact ⟨Nat.zero_le _, fun _ => rfl⟩
theorem trim_val (s : Nat) : ∀ m, (trim m s).1 * 10 ^ (s - (trim m s).2) ≤ m ∧ ((trim m s).2 = 0 ∨ (trim m s).1 % 10 ≠ 0) := by
 induction s with
 | zero => intro m; simp [trim]
 | succ k ih =>
  intro m
  unfold trim
  split
  ·rename_i h
   obtain ⟨h1, h2⟩ := ih (m / 10)
   refine ⟨?_, h2⟩
   have h3 := (trim_le k (m / 10)).2
   generalize (trim (m / 10) k).1 = a at *
   generalize (trim (m / 10) k).2 = b at *
   rw [show k + 1 - b = (k - b) + 1 by omega, Nat.pow_succ, ← Nat.mul_assoc]
   have := Nat.mul_le_mul_right 10 h1
   omega
  ·rename_i h
   simp only [Nat.sub_self, Nat.pow_zero, Nat.mul_one]
   exact ⟨Nat.le_refl _, .inr h⟩
theorem trimR_pre (l : List UInt8) : (trimR l).length ≤ l.length := by
 unfold trimR Lib.trimRightB
 have h := tw_lens (fun x => x == 48) l.reverse
 rw [List.length_reverse] at h
 rw [List.length_reverse]
 omega
theorem teqv_nil (k p a b d : Int) : teqv k p (bytesOf []) a b d k p ⟨#[]⟩ a b d = true := teqv_iff.2 ⟨rfl, rfl, rfl, rfl, rfl, rfl⟩
theorem dec_form (x : List UInt8) (c : UInt8) (t : List UInt8) (hx : x = c :: t) (hc : fgB c = true) (h0 : (decP x).2.2 = 0) :
  SndD (decP x).1 (decP x).2.1 ∧ 0 ≤ (decP x).1 ∧ (txtL false (decP x).1.natAbs (decP x).2.1.toNat).length ≤ x.length := by
 have hp := parse_is x
 have h45 : c ≠ 45 := by rintro rfl; revert hc; decide
 have e1 : Lib.hasPrefix x [45] = false := by
  rw [hx]
  show ([45] : List UInt8).isPrefixOf (c :: t) = false
  simp [List.isPrefixOf]
  exact fun e => h45 e.symm
 have e2 : Lib.trimPrefix x [45] = x := by
  unfold Lib.trimPrefix
  rw [e1]; rfl
 unfold parseV partsV at hp
 rw [e1, e2, h0] at hp
 have hx46 : x.length = (bef46 x).length + (x.dropWhile (· != 46)).length := (tw_lens (· != 46) x).symm
 split at hp
 ·simp [errV] at hp
 ·rename_i hg
  split at hp
  ·simp [errV] at hp
  ·rename_i hw
   have hW : digB (bef46 x) = true := by
    cases hh : digB (bef46 x) with
    | true => rfl
    | false => exact absurd (.inl hh) hg
   have hP : has46 x = true → digB (aft46 x) = true := fun h => by
    cases hh : digB (aft46 x) with
    | true => rfl
    | false => exact absurd (.inr (.inr ⟨h, hh⟩)) hg
   have hdW : dOk (bef46 x) = true := by unfold digB at hW; exact (Bool.and_eq_true_iff.1 hW).1
   have hW0 : 0 < (bef46 x).length := by
    unfold digB at hW
    have := (Bool.and_eq_true_iff.1 hW).2
    cases hb : bef46 x with
    | nil => rw [hb] at this; simp at this
    | cons _ _ => simp
   have haf : (has46 x = true ∧ dOk (aft46 x) = true ∧ x.length = (bef46 x).length + 1 + (aft46 x).length) ∨ (has46 x = false ∧ aft46 x = []) := by
    unfold has46 aft46 at *
    cases hd : x.dropWhile (· != 46) with
    | nil => right; simp
    | cons d r =>
     left
     rw [hd] at hP hx46
     simp only [List.length_cons] at hx46
     have hq := hP (by simp)
     unfold digB at hq
     exact ⟨by simp, (Bool.and_eq_true_iff.1 hq).1, by simp only [List.drop_succ_cons, List.drop_zero]; omega⟩
   have hdA : dOk (aft46 x) = true := by
    rcases haf with h | h
    ·exact h.2.1
    ·rw [h.2]; rfl
   have hdQ := trimR_ok _ hdA
   have hlQ := trimR_pre (aft46 x)
   generalize aft46 x = P at *
   generalize bef46 x = W at *
   generalize trimR P = Q at *
   have hWl : W.length ≤ x.length := by omega
   have hm := numL_bd' (W ++ Q) (by rw [dOk_app, hdW, hdQ]; rfl)
   have hQ6 : Q.length ≤ 6 := by omega
   rw [List.length_append] at hm
   generalize numL (W ++ Q) = m at *
   simp only [Bool.false_and] at hp
   obtain ⟨t1, t2⟩ := trim_val Q.length m
   have t3 := (trim_le Q.length m).2
   unfold decV at hp
   generalize (trim m Q.length).1 = a at *
   generalize (trim m Q.length).2 = b at *
   split at hp
   ·simp at hp
   ·rename_i hle
    simp only [Bool.false_eq_true, if_false, Value.tuple.injEq, Array.mk.injEq, List.cons.injEq, Value.agg.injEq, Value.int.injEq, true_and, and_true] at hp
    obtain ⟨hp1, hp2⟩ := hp.1
    rw [← hp1, ← hp2]
    have hb6 : b ≤ 6 := by omega
    refine ⟨⟨by omega, by omega, ⟨by omega, by omega⟩, by omega⟩, by omega, ?_⟩
    rw [show ((a : Int)).natAbs = a from Int.natAbs_natCast a, show ((b : Int)).toNat = b from Int.toNat_natCast b]
    have e : txtL false a b = Lib.decDigits (a / P10 b) ++ (if b = 0 then [] else 46 :: padL b (a % P10 b)) := rfl
    have hdl : (Lib.decDigits (a / P10 b)).length ≤ W.length := by
     obtain ⟨k, hk⟩ : ∃ k, W.length = k + 1 := ⟨W.length - 1, by omega⟩
     rw [hk]
     apply dec_len_le
     have h10 : 0 < 10 ^ (Q.length - b) := Nat.pow_pos (by omega)
     have ha : a < 10 ^ (W.length + b) := by
      have h2 : a * 10 ^ (Q.length - b) < 10 ^ (W.length + b) * 10 ^ (Q.length - b) := by
       rw [← Nat.pow_add, show W.length + b + (Q.length - b) = W.length + Q.length by omega]
       omega
      exact Nat.lt_of_mul_lt_mul_right h2
     rw [Nat.div_lt_iff_lt_mul (P10_pos b)]
     unfold P10
     rw [← Nat.pow_add, ← hk]
     exact ha
    rw [e]
    by_cases hb0 : b = 0
    ·rw [if_pos hb0, List.append_nil]
     omega
    ·rw [if_neg hb0, List.length_append, List.length_cons, pad_len b (a % P10 b) (Nat.mod_lt _ (P10_pos b)) (by omega)]
     rcases haf with h | h
     ·omega
     ·rw [h.2] at hlQ
      simp at hlQ
      rw [hlQ] at t3
      simp at t3
      omega
theorem strL_raw : ∀ (n : Nat) (x acc z r : List UInt8), x.length ≤ n → strL acc x = some (z, r) → ∃ v, z = acc ++ v ∧ x = v.flatMap qtB ++ 34 :: r
 | n, [], acc, z, r, _, h => by simp [strL] at h
 | 0, c :: x, acc, z, r, hn, _ => by simp at hn
 | n + 1, c :: x, acc, z, r, hn, h => by
  rw [List.length_cons] at hn
  unfold strL at h
  by_cases h1 : c = 34
  ·rw [if_pos h1] at h
   simp only [Option.some.injEq, Prod.mk.injEq] at h
   obtain ⟨rfl, rfl⟩ := h
   exact ⟨[], by simp, by rw [h1]; rfl⟩
  ·rw [if_neg h1] at h
   by_cases h2 : c = 92
   ·rw [if_pos h2] at h
    cases x with
    | nil => cases h
    | cons d x' =>
     simp only at h
     by_cases h3 : d = 34 ∨ d = 92
     ·rw [if_pos h3] at h
      rw [List.length_cons] at hn
      obtain ⟨v, e1, e2⟩ := strL_raw n x' _ z r (by omega) h
      refine ⟨d :: v, by rw [e1]; simp, ?_⟩
      rw [List.flatMap_cons, qtB, if_pos h3, e2, h2]
      rfl
     ·rw [if_neg h3] at h; cases h
   ·rw [if_neg h2] at h
    obtain ⟨v, e1, e2⟩ := strL_raw n x _ z r (by omega) h
    refine ⟨c :: v, by rw [e1]; simp, ?_⟩
    rw [List.flatMap_cons, qtB, if_neg (by rintro (e | e); exact h1 e; exact h2 e), e2]
    rfl
theorem tsnd_pos (t : Tok) (p : Int) : ksnd { t with pos := p } = ksnd t := by
 obtain ⟨k, q, x, a, b, d⟩ := t
 have e : ∀ k' c1 c2 c3 (x y : ByteArray) d1 d2 d3, teqv k' p x c1 c2 c3 k' p y d1 d2 d3 = teqv k' q x c1 c2 c3 k' q y d1 d2 d3 := by
  intros
  rw [Bool.eq_iff_iff, teqv_iff, teqv_iff]
  simp
 rcases kinds6 k with rfl | rfl | rfl | rfl | rfl | hk
 ·show ksnd ⟨1, p, x, a, b, d⟩ = _
  rw [tsnd1, tsnd1, e]
 ·show ksnd ⟨2, p, x, a, b, d⟩ = _
  rw [tsnd2, tsnd2, e]
 ·show ksnd ⟨3, p, x, a, b, d⟩ = _
  rw [tsnd3, tsnd3, e]
 ·show ksnd ⟨4, p, x, a, b, d⟩ = _
  rw [tsnd4, tsnd4, e]
 ·show ksnd ⟨5, p, x, a, b, d⟩ = _
  rw [tsnd5, tsnd5, e]
 ·show ksnd ⟨k, p, x, a, b, d⟩ = _
  rw [tsnd6 _ _ _ _ _ _ hk, tsnd6 _ _ _ _ _ _ hk]
theorem day_rng {l : List UInt8} (h : (dayP l).2 = 0) : 0 ≤ (dayP l).1 ∧ (dayP l).1 ≤ 3652058 := by
 have hd := day_is l
 rw [h] at hd
 have bad : badV = .tuple #[.int .i64 (dayP l).1, .int .i64 ((0 : Nat) : Int)] → False := by
  intro e
  simp [badV] at e
 unfold parseV_Y at hd
 split at hd
 ·split at hd
  ·unfold parseL at hd
   split at hd
   ·unfold dayV at hd
    split at hd
    ·rename_i hs
     have := num_top _ _ _ hs
     simp only [Value.tuple.injEq, Array.mk.injEq, List.cons.injEq, Value.int.injEq, true_and, and_true] at hd
     rw [← hd.1]
     exact this
    ·simp at hd
   ·exact (bad hd).elim
  ·exact (bad hd).elim
 ·exact (bad hd).elim
theorem fir_snd {c : UInt8} {l r t0 : List UInt8} {t : Tok} (hl : l = c :: t0) (h : firT c l = .ok r (some t)) : ksnd t = true ∧ (wrT t).length + r.length ≤ l.length := by
 unfold firT at h
 split at h
 ·rename_i hc
  unfold numT at h
  split at h
  ·rename_i h0
   cases h
   have hn : ∃ u, (nmbL l).1 = c :: u := by
    have h1 := nmbL_ne c t0 hc
    have h2 := nmbL_suf (c :: t0)
    rw [← hl] at h1 h2
    cases hq : (nmbL l).1 with
    | nil => exact absurd hq h1
    | cons a u =>
     rw [hq] at h2
     rw [hl] at h2
     exact ⟨u, by rw [(List.cons.inj h2).1]⟩
   obtain ⟨u, hu⟩ := hn
   obtain ⟨k1, k2, k3⟩ := dec_form _ c u hu hc h0
   refine ⟨?_, ?_⟩
   ·rw [tsnd1, teqv_nil, Bool.true_and, Bool.and_eq_true]
    exact ⟨decide_eq_true k1, decide_eq_true k2⟩
   ·have e : wrT ⟨1, 0, [], (decP (nmbL l).1).1, (decP (nmbL l).1).2.1, 0⟩ = txtL false (decP (nmbL l).1).1.natAbs (decP (nmbL l).1).2.1.toNat := by
     unfold wrT
     rw [if_pos rfl, decide_eq_false (by simp only; omega)]
    rw [e]
    have := congrArg List.length (nmbL_suf l)
    rw [List.length_append] at this
    omega
  ·cases h
 ·split at h
  ·rename_i h34
   unfold strT at h
   split at h
   ·rename_i z r' hz
    split at h
    ·rename_i ho
     cases h
     refine ⟨by rw [tsnd_str]; exact ho, ?_⟩
     rw [hl, List.drop_succ_cons, List.drop_zero] at hz
     obtain ⟨v, e1, e2⟩ := strL_raw _ t0 [] z r (Nat.le_refl _) hz
     rw [List.nil_append] at e1
     subst e1
     have e : wrT ⟨2, 0, z, 0, 0, 0⟩ = 34 :: (z.flatMap qtB ++ [34]) := by
      unfold wrT
      rw [if_neg (show ¬ (2 : Int) = 1 by decide), if_pos rfl]
      rfl
     rw [e, hl, e2]
     simp only [List.length_cons, List.length_append, List.length_nil]
     omega
    ·cases h
   ·cases h
  ·split at h
   ·unfold dayT at h
    split at h
    ·rename_i hd
     cases h
     obtain ⟨k1, k2⟩ := day_rng hd.2.2
     have hlen := (day_form hd.2.2).1
     refine ⟨?_, ?_⟩
     ·rw [tsnd3, teqv_nil, Bool.true_and]
      exact decide_eq_true ⟨k1, k2⟩
     ·have e : ∀ n, (wrT ⟨3, 0, [], 0, 0, n⟩).length = 13 := by
       intro n
       unfold wrT
       rw [if_neg (show ¬ (3 : Int) = 1 by decide), if_neg (show ¬ (3 : Int) = 2 by decide), if_pos rfl]
       simp only
       rw [dtx_quo]
       rfl
      rw [e]
      have h1 := tw_lens (· != 34) (l.drop 2)
      rw [hlen, List.length_drop] at h1
      have h2 := List.length_pos_iff.2 hd.2.1
      rw [List.length_drop]
      omega
    ·cases h
   ·split at h
    ·unfold namT at h
     split at h
     ·rename_i hn
      cases h
      refine ⟨?_, ?_⟩
      ·rw [tsnd4, teqv_iff.2 ⟨rfl, rfl, rfl, rfl, rfl, rfl⟩, Bool.true_and]
       exact hn
      ·have e : wrT ⟨4, 0, l.takeWhile nbB, 0, 0, 0⟩ = l.takeWhile nbB := rfl
       rw [e]
       have := tw_lens nbB l
       omega
     ·cases h
    ·unfold sigT at h
     split at h
     ·cases h
     ·rename_i hs
      cases h
      have hm : sigL l ∈ signsL := by
       rw [sig_find] at hs ⊢
       cases hf : signsL.find? (fun g => g.isPrefixOf l) with
       | none => rw [hf] at hs; exact absurd rfl hs
       | some g => exact List.mem_of_find?_eq_some hf
      refine ⟨?_, ?_⟩
      ·rw [tsnd5, teqv_iff.2 ⟨rfl, rfl, rfl, rfl, rfl, rfl⟩, Bool.true_and]
       exact List.contains_iff_mem.2 hm
      ·have e : wrT ⟨5, 0, sigL l, 0, 0, 0⟩ = sigL l := rfl
       rw [e, List.length_drop]
       have := sigL_len l
       omega
theorem wrT_pos (t : Tok) (p : Int) : wrT { t with pos := p } = wrT t := rfl
theorem run_snd {p : Nat} {l l2 : List UInt8} {ms : List Tok} (h : Run p l ms l2) : ms.all ksnd = true ∧ ((ms.map wrT).map fun x => x.length + 1).sum + 2 * l2.length ≤ 2 * l.length := by
 induction h with
 | nil p l => exact ⟨rfl, by simp⟩
 | @cons p l r m ms l2 hs hr ih =>
  obtain ⟨q, hq, hqn⟩ := step_suf hs
  have hl := congrArg List.length hq
  rw [List.length_append] at hl
  have hq0 := List.length_pos_iff.2 hqn
  cases l with
  | nil => cases hs
  | cons c t0 =>
   rw [stepT_cons] at hs
   cases m with
   | none => exact ⟨ih.1, by have := ih.2; simp only [optT, List.nil_append]; omega⟩
   | some t =>
    split at hs
    ·cases hs
    ·obtain ⟨k1, k2⟩ := fir_snd rfl hs
     refine ⟨?_, ?_⟩
     ·show ([{ t with pos := (p : Int) }] ++ ms).all ksnd = true
      rw [List.all_append, ih.1, Bool.and_true]
      simp only [List.all_cons, List.all_nil, Bool.and_true]
      rw [tsnd_pos]
      exact k1
     ·have := ih.2
      simp only [optT, List.singleton_append, List.map_cons, List.sum_cons]
      rw [wrT_pos]
      omega
end Go.Proofs.YtjckpkamhdbcnaaGreatDoor
