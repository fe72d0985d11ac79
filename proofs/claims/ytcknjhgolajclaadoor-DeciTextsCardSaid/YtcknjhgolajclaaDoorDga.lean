import Derived.Test.YtcknjhgolajclaaDoorDer
namespace Go.Proofs.YtcknjhgolajclaaDoor
set_option linter.unusedSimpArgs false
set_option linter.unusedVariables false
open Go.RowKit

/-! Deci: what a number's text is read as. -/
theorem dgt_val (n k : Nat) : (dgt n k).toNat = 48 + n / k % 10 := by
  unfold dgt
  rw [UInt8.toNat_ofNat']
  omega
theorem dgt_dB (n k : Nat) : dB (dgt n k) = true := by
  unfold dB
  rw [decide_eq_true_eq, dgt_val]
  omega
theorem dec_ok : ∀ n, dOk (Lib.decDigits n) = true := by
  intro n
  induction n using Nat.strongRecOn with
  | _ n ih =>
    by_cases h : n < 10
    · rw [dec1 n h]; simp [dOk, dgt_dB]
    · rw [decS n (by omega), dOk_app, ih (n / 10) (by omega)]; simp [dOk, dgt_dB]
theorem dec_digB (n : Nat) : digB (Lib.decDigits n) = true := by
  have := dec_pos n
  unfold digB
  rw [dec_ok, Bool.true_and]
  cases h : Lib.decDigits n with
  | nil => rw [h] at this; simp at this
  | cons a b => rfl
theorem dec_no0 : ∀ n, 1 < (Lib.decDigits n).length → (Lib.decDigits n)[0]? ≠ some 48 := by
  intro n
  induction n using Nat.strongRecOn with
  | _ n ih =>
    intro hl
    by_cases h : n < 10
    · rw [dec1 n h] at hl; simp at hl
    · rw [decS n (by omega)]
      have hp := dec_pos (n / 10)
      rw [List.getElem?_append_left (by omega)]
      by_cases h2 : 1 < (Lib.decDigits (n / 10)).length
      · exact ih _ (by omega) h2
      · have h3 : n / 10 < 10 := by
          rcases Nat.lt_or_ge (n / 10) 10 with h3 | h3
          · exact h3
          · rw [decS _ h3, List.length_append, List.length_singleton] at h2
            have := dec_pos (n / 10 / 10)
            omega
        rw [dec1 _ h3]
        simp only [List.getElem?_cons_zero, ne_eq, Option.some.injEq]
        intro hh
        have := dgt_val (n / 10) 1
        rw [hh] at this
        simp at this
        omega
theorem fold_app (l : List UInt8) (x a : Nat) : l.foldl (fun a c => a * 10 + (c.toNat - 48)) (x + a) = x * 10 ^ l.length + l.foldl (fun a c => a * 10 + (c.toNat - 48)) a := by
  induction l generalizing x a with
  | nil => simp
  | cons c r ih =>
    rw [List.foldl_cons, List.foldl_cons, show (x + a) * 10 + (c.toNat - 48) = x * 10 + (a * 10 + (c.toNat - 48)) by omega, ih, List.length_cons, Nat.pow_succ]
    rw [Nat.mul_assoc, Nat.mul_comm 10]
theorem numL_app (a b : List UInt8) : numL (a ++ b) = numL a * 10 ^ b.length + numL b := by
  unfold numL
  rw [List.foldl_append]
  have := fold_app b (a.foldl (fun a c => a * 10 + (c.toNat - 48)) 0) 0
  simpa using this
theorem numL_one (n : Nat) (h : n < 10) : numL [dgt n 1] = n := by
  simp [numL, dgt_val]; omega
theorem numL_dec : ∀ n, numL (Lib.decDigits n) = n := by
  intro n
  induction n using Nat.strongRecOn with
  | _ n ih =>
    by_cases h : n < 10
    · rw [dec1 n h, numL_one n h]
    · rw [decS n (by omega), numL_app, ih (n / 10) (by omega)]
      simp [numL, dgt_val]; omega
theorem rep_num (c : Nat) : numL (Lib.repeatL [48] c) = 0 := by
  induction c with
  | zero => rfl
  | succ c ih => 
    show numL ([48] ++ Lib.repeatL [48] c) = 0
    rw [numL_app, ih]; simp [numL]
theorem rep_len (c : Nat) : (Lib.repeatL [48] c).length = c := by rw [Lib.repeatL_length]; simp
theorem rep_ok (c : Nat) : dOk (Lib.repeatL [48] c) = true := by
  induction c with
  | zero => rfl
  | succ c ih => 
    show dOk ([48] ++ Lib.repeatL [48] c) = true
    rw [dOk_app, ih]; rfl
theorem pad_ok (k n : Nat) : dOk (padL k n) = true := by unfold padL; rw [dOk_app, rep_ok, dec_ok]; rfl
theorem pad_num (k n : Nat) : numL (padL k n) = n := by unfold padL; rw [numL_app, rep_num, numL_dec]; omega
theorem pad_len (k n : Nat) (h : n < 10 ^ k) (hk : 0 < k) : (padL k n).length = k := by
  obtain ⟨j, rfl⟩ : ∃ j, k = j + 1 := ⟨k - 1, by omega⟩
  have := dec_len_le j n h
  unfold padL
  rw [List.length_append, rep_len]; omega
theorem dec_last (n : Nat) : ∃ r, Lib.decDigits n = r ++ [dgt n 1] := by
  by_cases h : n < 10
  · exact ⟨[], dec1 n h⟩
  · exact ⟨_, decS n (by omega)⟩
theorem trimR_last (r : List UInt8) (c : UInt8) (h : c ≠ 48) : trimR (r ++ [c]) = r ++ [c] := by
  unfold trimR Lib.trimRightB
  rw [List.reverse_append]
  simp only [List.reverse_cons, List.reverse_nil, List.nil_append, List.singleton_append, List.dropWhile_cons]
  rw [if_neg (by simpa using h)]
  simp
theorem pad_trim (k n : Nat) (h : n % 10 ≠ 0) : trimR (padL k n) = padL k n := by
  obtain ⟨r, hr⟩ := dec_last n
  unfold padL
  rw [hr, ← List.append_assoc]
  refine trimR_last _ _ fun hh => ?_
  have := dgt_val n 1
  rw [hh] at this
  simp at this
  omega
theorem dB_46 {c : UInt8} (h : dB c = true) : (c != 46) = true := by
  unfold dB at h
  rw [decide_eq_true_eq] at h
  rw [bne_iff_ne]
  rintro rfl
  simp at h
theorem cut_at (a b : List UInt8) (h : dOk a = true) : bef46 (a ++ 46 :: b) = a ∧ aft46 (a ++ 46 :: b) = b ∧ has46 (a ++ 46 :: b) = true := by
  have h1 : ∀ x ∈ a, (x != 46) = true := fun x hx => dB_46 (by simp only [dOk, List.all_eq_true] at h; exact h x hx)
  unfold bef46 aft46 has46
  rw [List.takeWhile_append_of_pos h1, List.dropWhile_append_of_pos h1]
  simp
theorem cut_none (a : List UInt8) (h : dOk a = true) : bef46 a = a ∧ aft46 a = [] ∧ has46 a = false := by
  have h1 : ∀ x ∈ a, (x != 46) = true := fun x hx => dB_46 (by simp only [dOk, List.all_eq_true] at h; exact h x hx)
  have h2 : a.takeWhile (· != 46) = a := by
    have := List.takeWhile_append_of_pos (l₂ := []) h1
    simpa using this
  have h3 : a.dropWhile (· != 46) = [] := by
    have := List.dropWhile_append_of_pos (l₂ := []) h1
    simpa using this
  unfold bef46 aft46 has46
  rw [h2, h3]
  simp
/-- The text behind the sign. -/
def bodyL (x s : Nat) : List UInt8 := Lib.decDigits (x / P10 s) ++ (if s = 0 then [] else 46 :: padL s (x % P10 s))
theorem body_cut (x s : Nat) : bef46 (bodyL x s) = Lib.decDigits (x / P10 s) ∧ aft46 (bodyL x s) = (if s = 0 then [] else padL s (x % P10 s)) ∧ has46 (bodyL x s) = decide (s ≠ 0) := by
  unfold bodyL
  by_cases h : s = 0
  · subst h
    simp only [if_true, List.append_nil]
    have := cut_none _ (dec_ok (x / P10 0))
    simp [this]
  · simp only [if_neg h]
    obtain ⟨a, b, c⟩ := cut_at _ (padL s (x % P10 s)) (dec_ok (x / P10 s))
    rw [a, b, c]; simp [h]
theorem body_pre (x s : Nat) : Lib.hasPrefix (bodyL x s) [45] = false := by
  unfold Lib.hasPrefix bodyL
  have h1 := dec_digB (x / P10 s)
  cases h : Lib.decDigits (x / P10 s) with
  | nil => rw [h] at h1; simp [digB] at h1
  | cons c r =>
    rw [h] at h1
    have hc : dB c = true := by simp [digB, dOk] at h1; exact h1.1
    simp only [List.cons_append, List.isPrefixOf, Bool.and_true]
    rw [beq_eq_false_iff_ne]
    rintro rfl
    simp [dB] at hc
theorem txt_pre (neg : Bool) (x s : Nat) : Lib.hasPrefix (txtL neg x s) [45] = neg ∧ Lib.trimPrefix (txtL neg x s) [45] = bodyL x s := by
  cases neg with
  | false =>
    have h := body_pre x s
    have e : txtL false x s = bodyL x s := rfl
    rw [e, h]
    refine ⟨rfl, ?_⟩
    unfold Lib.trimPrefix
    rw [h]; rfl
  | true =>
    have e : txtL true x s = 45 :: bodyL x s := rfl
    have h : Lib.hasPrefix (45 :: bodyL x s) [45] = true := by simp [Lib.hasPrefix]
    rw [e, h]
    refine ⟨rfl, ?_⟩
    unfold Lib.trimPrefix
    rw [h]; rfl
theorem trim_exact (m s : Nat) (hs : s ≤ 6) (h : s = 0 ∨ m % 10 ≠ 0) : trim (m * P10 (6 - s)) 6 = (m, s) := by
  have h1 := trim_up s (6 - s) m
  rw [show s + (6 - s) = 6 by omega] at h1
  unfold P10
  rw [h1]
  cases s with
  | zero => rfl
  | succ k => rcases h with h | h
              · omega
              · rw [trim_stop _ _ h]
theorem trim_stay (m s : Nat) (h : s = 0 ∨ m % 10 ≠ 0) : trim m s = (m, s) := by
  cases s with
  | zero => rfl
  | succ k => rcases h with h | h
              · omega
              · rw [trim_stop _ _ h]
theorem heven_exact (a b : Nat) (hb : 0 < b) : heven (a * b) b = a := by
  have := heven_mul a 1 b hb
  rw [Nat.one_mul, heven_one] at this
  exact this
theorem num_split (x s : Nat) : x / P10 s * 10 ^ s + x % P10 s = x := by
  have := Nat.div_add_mod x (P10 s)
  unfold P10 at *
  rw [Nat.mul_comm] at this
  exact this
theorem mod10_P10 (x s : Nat) (hs : 0 < s) : x % P10 s % 10 = x % 10 := by
  obtain ⟨j, rfl⟩ : ∃ j, s = j + 1 := ⟨s - 1, by omega⟩
  exact Nat.mod_mod_of_dvd _ ⟨10 ^ j, by unfold P10; rw [Nat.pow_succ, Nat.mul_comm]⟩
theorem decV_stay (x : Bool) (n s : Int) (h : SndD n s) (hx : n ≠ 0 → x = decide (n < 0)) : decV x n.natAbs s.toNat = .tuple #[decA n s, .int .i64 0] := by
  obtain ⟨h1, h2, ⟨h3, h4⟩, h5⟩ := h
  have ht := trim_stay n.natAbs s.toNat (by omega)
  have e2 : ((s.toNat : Nat) : Int) = s := by omega
  unfold decV
  rw [ht]
  simp only [e2]
  rw [if_neg (by omega)]
  by_cases h0 : n = 0
  · subst h0; cases x <;> rfl
  · rw [hx h0]
    by_cases hn : n < 0
    · have : -(n.natAbs : Int) = n := by omega
      simp [hn, this]
    · have : (n.natAbs : Int) = n := by omega
      simp [hn, this]
theorem decV_six (x : Bool) (n s : Int) (h : SndD n s) (hx : n ≠ 0 → x = decide (n < 0)) : decV x (n.natAbs * P10 (6 - s).toNat) 6 = .tuple #[decA n s, .int .i64 0] := by
  rw [← decV_stay x n s h hx]
  obtain ⟨h1, h2, ⟨h3, h4⟩, h5⟩ := h
  have ht := trim_exact n.natAbs s.toNat (by omega) (by omega)
  rw [show 6 - s.toNat = (6 - s).toNat by omega] at ht
  have ht2 := trim_stay n.natAbs s.toNat (by omega)
  unfold decV
  rw [ht, ht2]
theorem unt_abs (n s : Int) : (unt n s).natAbs = n.natAbs * P10 (6 - s).toNat := by
  unfold unt
  rw [Int.natAbs_mul]; rfl
theorem unt_neg (n s : Int) : unt (-n) s = - unt n s := by unfold unt; rw [Int.neg_mul]
theorem unt_sign (n s : Int) : (unt n s < 0 ↔ n < 0) ∧ (unt n s = 0 ↔ n = 0) := by
  have hp := P10_pos (6 - s).toNat
  unfold unt
  generalize P10 (6 - s).toNat = p at *
  constructor
  · constructor
    · intro h
      rcases Int.lt_or_le n 0 with h1 | h1
      · exact h1
      · have := Int.mul_nonneg h1 (show (0 : Int) ≤ p by omega); omega
    · intro h
      exact Int.mul_neg_of_neg_of_pos h (by omega)
  · rw [Int.mul_eq_zero]; omega
/-- What came out of it is sound and is that number. -/
theorem decV_inv {x : Bool} {M S : Nat} {a b : Int} (hS : S ≤ 6) (h : decV x M S = .tuple #[decA a b, .int .i64 0]) :
    SndD a b ∧ a.natAbs * P10 (S - b.toNat) = M ∧ b.toNat ≤ S ∧ (a ≠ 0 → x = decide (a < 0)) ∧ (a = if x = true then -(a.natAbs : Int) else a.natAbs) := by
  unfold decV at h
  have h1 := trim_le S M
  have h2 := trim_val S M
  have h3 := trim_snd S M
  generalize trim M S = p at *
  obtain ⟨m', s'⟩ := p
  simp only at h h1 h2 h3
  by_cases hb : 999999999999 < m'
  · rw [if_pos hb] at h; simp at h
  · rw [if_neg hb] at h
    simp only [Value.tuple.injEq, Array.mk.injEq, List.cons.injEq, Value.agg.injEq, Value.int.injEq, true_and, and_true] at h
    obtain ⟨ha, hb2⟩ := h
    subst hb2
    have e : a.natAbs = m' := by cases x <;> simp at ha <;> omega
    refine ⟨⟨by omega, by omega, ⟨?_, ?_⟩, ?_⟩, by rw [e]; exact h2, by simpa using h1.2, ?_, ?_⟩
    · cases x <;> simp at ha <;> omega
    · cases x <;> simp at ha <;> omega
    · cases x <;> simp at ha <;> omega
    · intro h0
      cases x <;> simp at ha <;> simp <;> omega
    · rw [e, ha]
theorem decV_cases (x : Bool) (M S : Nat) : decV x M S = errV 3 ∨ ∃ a b, decV x M S = .tuple #[decA a b, .int .i64 0] := by
  unfold decV
  split
  · exact .inl rfl
  · exact .inr ⟨_, _, rfl⟩
theorem addV_inv {n s m t a b : Int} (h : addV n s m t = .tuple #[decA a b, .int .i64 0]) : SndD a b ∧ unt a b = unt n s + unt m t ∧ SndD n s ∧ SndD m t := by
  by_cases hs : SndD n s ∧ SndD m t
  · rw [show addV n s m t = _ from if_pos hs] at h
    obtain ⟨h1, h2, h3, h4, h5⟩ := decV_inv (by omega) h
    refine ⟨h1, ?_, hs⟩
    obtain ⟨b1, b2, -, -⟩ := h1
    rw [show 6 - b.toNat = (6 - b).toNat by omega, ← unt_abs] at h2
    obtain ⟨z1, z2⟩ := unt_sign a b
    generalize unt a b = u at *
    generalize unt n s + unt m t = v at *
    by_cases h0 : a = 0
    · have := z2.2 h0; omega
    · have hx := h4 h0
      rw [decide_eq_decide] at hx
      omega
  · rw [show addV n s m t = _ from if_neg hs] at h
    simp at h
theorem addV_cases (n s m t : Int) : addV n s m t = errV 3 ∨ addV n s m t = errV 2 ∨ ∃ a b, addV n s m t = .tuple #[decA a b, .int .i64 0] := by
  unfold addV
  split
  · rcases decV_cases (decide (unt n s + unt m t < 0)) (unt n s + unt m t).natAbs 6 with h | h
    · exact .inl h
    · exact .inr (.inr h)
  · exact .inr (.inl rfl)
theorem addV_val {n s m t a b : Int} (h : SndD n s) (h' : SndD m t) (ha : SndD a b) (hu : unt a b = unt n s + unt m t) : addV n s m t = .tuple #[decA a b, .int .i64 0] := by
  rw [show addV n s m t = _ from if_pos ⟨h, h'⟩, ← hu, unt_abs]
  refine decV_six _ _ _ ha fun h0 => ?_
  rw [decide_eq_decide]
  exact (unt_sign a b).1
theorem snd_neg {n s : Int} (h : SndD n s) : SndD (-n) s := by
  obtain ⟨h1, h2, ⟨h3, h4⟩, h5⟩ := h
  exact ⟨h1, h2, ⟨by omega, by omega⟩, by omega⟩
theorem back_add {n s m t a b : Int} (h : addV n s m t = .tuple #[decA a b, .int .i64 0]) : negV m t = .tuple #[decA (-m) t, .int .i64 0] ∧ addV a b (-m) t = .tuple #[decA n s, .int .i64 0] := by
  obtain ⟨h1, h2, h3, h4⟩ := addV_inv h
  refine ⟨if_pos h4, addV_val h1 (snd_neg h4) h3 ?_⟩
  rw [h2, unt_neg]; omega
theorem parse_text (n s : Int) (h : SndD n s) : parseV (txtL (decide (n < 0)) n.natAbs s.toNat) = .tuple #[decA n s, .int .i64 0] := by
  have h' := h
  obtain ⟨h1, h2, ⟨h3, h4⟩, h5⟩ := h
  obtain ⟨t1, t2⟩ := txt_pre (decide (n < 0)) n.natAbs s.toNat
  obtain ⟨c1, c2, c3⟩ := body_cut n.natAbs s.toNat
  unfold parseV
  rw [t1, t2, c1, c2, c3]
  have hd := dec_digB (n.natAbs / P10 s.toNat)
  have hl := dec_len_le 11 (n.natAbs / P10 s.toNat) (Nat.lt_of_le_of_lt (Nat.div_le_self _ _) (by omega))
  have hn0 := dec_no0 (n.natAbs / P10 s.toNat)
  have hx : ∀ x : Nat, x = n.natAbs → (n ≠ 0 → (decide (n < 0) && decide (0 < x)) = decide (n < 0)) := by
    rintro x rfl h0
    by_cases hn : n < 0
    · simp [hn]; omega
    · simp [hn]
  by_cases hs : s = 0
  · subst hs
    have e : trimR (if ((0 : Int).toNat) = 0 then [] else padL (0 : Int).toNat (n.natAbs % P10 (0 : Int).toNat)) = [] := rfl
    unfold partsV
    rw [e, List.append_nil, numL_dec, if_neg (by
      rintro (hh | hh | hh)
      · rw [hd] at hh; cases hh
      · exact hn0 hh.1 hh.2
      · simp at hh), if_neg (by
      rintro (hh | hh)
      · omega
      · simp at hh)]
    have e2 : n.natAbs / P10 (0 : Int).toNat = n.natAbs := Nat.div_one _
    rw [e2]
    exact decV_stay _ n 0 h' (hx _ rfl)
  · have hz : s.toNat ≠ 0 := by omega
    have hp := P10_pos s.toNat
    have hmod : n.natAbs % P10 s.toNat < P10 s.toNat := Nat.mod_lt _ hp
    have e : trimR (if s.toNat = 0 then [] else padL s.toNat (n.natAbs % P10 s.toNat)) = padL s.toNat (n.natAbs % P10 s.toNat) := by
      rw [if_neg hz]
      refine pad_trim _ _ ?_
      rw [mod10_P10 _ _ (by omega)]; omega
    have hpl := pad_len s.toNat (n.natAbs % P10 s.toNat) hmod (by omega)
    have hpd : digB (padL s.toNat (n.natAbs % P10 s.toNat)) = true := by
      unfold digB
      rw [pad_ok, Bool.true_and]
      cases hc : padL s.toNat (n.natAbs % P10 s.toNat) with
      | nil => rw [hc] at hpl; simp at hpl; omega
      | cons c r => rfl
    unfold partsV
    rw [e, if_neg hz, numL_app, numL_dec, pad_num, hpl, num_split, if_neg (by
      rintro (hh | hh | hh)
      · rw [hd] at hh; cases hh
      · exact hn0 hh.1 hh.2
      · rw [hpd] at hh; simp at hh), if_neg (by omega)]
    exact decV_stay _ n s h' (hx _ rfl)
end Go.Proofs.YtcknjhgolajclaaDoor
