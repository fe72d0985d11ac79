import Derived.Test.YtladmlnopbnlgaaDoorVdi
import Derived.Lib.TrimByte
import Derived.Test.YtladmlnopbnlgaaDoorShelf
import Derived.Lib.AtoiErrMem
namespace Go.Proofs.YtladmlnopbnlgaaDoor
set_option linter.unusedSimpArgs false
set_option linter.unusedVariables false
/-! Merged out of the texts of the layers below: only what is used. -/
section
open Go.RowKit
theorem dec_pos (n : Nat) : 1 ≤ (Lib.decDigits n).length := by
  by_cases h1 : n < 10
  · rw [dec1 n h1]; simp
  · rw [decS n (by omega)]; simp
def bef46 (l : List UInt8) : List UInt8 := l.takeWhile (· != 46)
def aft46 (l : List UInt8) : List UInt8 := (l.dropWhile (· != 46)).drop 1
def has46 (l : List UInt8) : Bool := !(l.dropWhile (· != 46)).isEmpty
def dB (c : UInt8) : Bool := decide (48 ≤ c.toNat ∧ c.toNat ≤ 57)
def dOk (l : List UInt8) : Bool := l.all dB
def digB (l : List UInt8) : Bool := dOk l && !l.isEmpty
def trimR (l : List UInt8) : List UInt8 := Lib.trimRightB l 48
def numL (l : List UInt8) : Nat := l.foldl (fun a c => a * 10 + (c.toNat - 48)) 0
theorem dOk_app (a b : List UInt8) : dOk (a ++ b) = (dOk a && dOk b) := by simp [dOk]
/-- What a whole part and a part behind the point are. -/
def partsV (mn : Bool) (W P : List UInt8) (pt : Bool) : Value :=
  if digB W = false ∨ (1 < W.length ∧ W[0]? = some 48) ∨ (pt = true ∧ digB P = false) then errV 5
  else if 12 < W.length ∨ 6 < (trimR P).length then errV 3
  else decV (mn && decide (0 < numL (W ++ trimR P))) (numL (W ++ trimR P)) (trimR P).length
def parseV (l : List UInt8) : Value :=
  partsV (Lib.hasPrefix l [45]) (bef46 (Lib.trimPrefix l [45])) (aft46 (Lib.trimPrefix l [45])) (has46 (Lib.trimPrefix l [45]))
theorem dgt_dB (n k : Nat) : dB (dgt n k) = true := by
  unfold dB
  rw [decide_eq_true_eq, dgt_val]
  omega
theorem dec_ok : ∀ n, dOk (Lib.decDigits n) = true := by
  intro n
  induction n using Nat.strongRecOn with
  | _ n ih =>
    by_cases h : n < 10
    · rw [dec1 n h]; simp [dOk, dgt_dB]
    · rw [decS n (by omega), dOk_app, ih (n / 10) (by omega)]; simp [dOk, dgt_dB]
theorem dec_digB (n : Nat) : digB (Lib.decDigits n) = true := by
  have := dec_pos n
  unfold digB
  rw [dec_ok, Bool.true_and]
  cases h : Lib.decDigits n with
  | nil => rw [h] at this; simp at this
  | cons a b => rfl
theorem dec_no0 : ∀ n, 1 < (Lib.decDigits n).length → (Lib.decDigits n)[0]? ≠ some 48 := by
  intro n
  induction n using Nat.strongRecOn with
  | _ n ih =>
    intro hl
    by_cases h : n < 10
    · rw [dec1 n h] at hl; simp at hl
    · rw [decS n (by omega)]
      have hp := dec_pos (n / 10)
      rw [List.getElem?_append_left (by omega)]
      by_cases h2 : 1 < (Lib.decDigits (n / 10)).length
      · exact ih _ (by omega) h2
      · have h3 : n / 10 < 10 := by
          rcases Nat.lt_or_ge (n / 10) 10 with h3 | h3
          · exact h3
          · rw [decS _ h3, List.length_append, List.length_singleton] at h2
            have := dec_pos (n / 10 / 10)
            omega
        rw [dec1 _ h3]
        simp only [List.getElem?_cons_zero, ne_eq, Option.some.injEq]
        intro hh
        have := dgt_val (n / 10) 1
        rw [hh] at this
        simp at this
        omega
theorem fold_app (l : List UInt8) (x a : Nat) : l.foldl (fun a c => a * 10 + (c.toNat - 48)) (x + a) = x * 10 ^ l.length + l.foldl (fun a c => a * 10 + (c.toNat - 48)) a := by
  induction l generalizing x a with
  | nil => simp
  | cons c r ih =>
    rw [List.foldl_cons, List.foldl_cons, show (x + a) * 10 + (c.toNat - 48) = x * 10 + (a * 10 + (c.toNat - 48)) by omega, ih, List.length_cons, Nat.pow_succ]
    rw [Nat.mul_assoc, Nat.mul_comm 10]
theorem numL_app (a b : List UInt8) : numL (a ++ b) = numL a * 10 ^ b.length + numL b := by
  unfold numL
  rw [List.foldl_append]
  have := fold_app b (a.foldl (fun a c => a * 10 + (c.toNat - 48)) 0) 0
  simpa using this
theorem numL_one (n : Nat) (h : n < 10) : numL [dgt n 1] = n := by
  simp [numL, dgt_val]; omega
theorem numL_dec : ∀ n, numL (Lib.decDigits n) = n := by
  intro n
  induction n using Nat.strongRecOn with
  | _ n ih =>
    by_cases h : n < 10
    · rw [dec1 n h, numL_one n h]
    · rw [decS n (by omega), numL_app, ih (n / 10) (by omega)]
      simp [numL, dgt_val]; omega
theorem rep_num (c : Nat) : numL (Lib.repeatL [48] c) = 0 := by
  induction c with
  | zero => rfl
  | succ c ih => 
    show numL ([48] ++ Lib.repeatL [48] c) = 0
    rw [numL_app, ih]; simp [numL]
theorem rep_len (c : Nat) : (Lib.repeatL [48] c).length = c := by rw [Lib.repeatL_length]; simp
theorem rep_ok (c : Nat) : dOk (Lib.repeatL [48] c) = true := by
  induction c with
  | zero => rfl
  | succ c ih => 
    show dOk ([48] ++ Lib.repeatL [48] c) = true
    rw [dOk_app, ih]; rfl
theorem pad_ok (k n : Nat) : dOk (padL k n) = true := by unfold padL; rw [dOk_app, rep_ok, dec_ok]; rfl
theorem pad_num (k n : Nat) : numL (padL k n) = n := by unfold padL; rw [numL_app, rep_num, numL_dec]; omega
theorem pad_len (k n : Nat) (h : n < 10 ^ k) (hk : 0 < k) : (padL k n).length = k := by
  obtain ⟨j, rfl⟩ : ∃ j, k = j + 1 := ⟨k - 1, by omega⟩
  have := dec_len_le j n h
  unfold padL
  rw [List.length_append, rep_len]; omega
theorem dec_last (n : Nat) : ∃ r, Lib.decDigits n = r ++ [dgt n 1] := by
  by_cases h : n < 10
  · exact ⟨[], dec1 n h⟩
  · exact ⟨_, decS n (by omega)⟩
theorem trimR_last (r : List UInt8) (c : UInt8) (h : c ≠ 48) : trimR (r ++ [c]) = r ++ [c] := by
  unfold trimR Lib.trimRightB
  rw [List.reverse_append]
  simp only [List.reverse_cons, List.reverse_nil, List.nil_append, List.singleton_append, List.dropWhile_cons]
  rw [if_neg (by simpa using h)]
  simp
theorem pad_trim (k n : Nat) (h : n % 10 ≠ 0) : trimR (padL k n) = padL k n := by
  obtain ⟨r, hr⟩ := dec_last n
  unfold padL
  rw [hr, ← List.append_assoc]
  refine trimR_last _ _ fun hh => ?_
  have := dgt_val n 1
  rw [hh] at this
  simp at this
  omega
theorem dB_46 {c : UInt8} (h : dB c = true) : (c != 46) = true := by
  unfold dB at h
  rw [decide_eq_true_eq] at h
  rw [bne_iff_ne]
  rintro rfl
  simp at h
theorem cut_at (a b : List UInt8) (h : dOk a = true) : bef46 (a ++ 46 :: b) = a ∧ aft46 (a ++ 46 :: b) = b ∧ has46 (a ++ 46 :: b) = true := by
  have h1 : ∀ x ∈ a, (x != 46) = true := fun x hx => dB_46 (by simp only [dOk, List.all_eq_true] at h; exact h x hx)
  unfold bef46 aft46 has46
  rw [List.takeWhile_append_of_pos h1, List.dropWhile_append_of_pos h1]
  simp
theorem cut_none (a : List UInt8) (h : dOk a = true) : bef46 a = a ∧ aft46 a = [] ∧ has46 a = false := by
  have h1 : ∀ x ∈ a, (x != 46) = true := fun x hx => dB_46 (by simp only [dOk, List.all_eq_true] at h; exact h x hx)
  have h2 : a.takeWhile (· != 46) = a := by
    have := List.takeWhile_append_of_pos (l₂ := []) h1
    simpa using this
  have h3 : a.dropWhile (· != 46) = [] := by
    have := List.dropWhile_append_of_pos (l₂ := []) h1
    simpa using this
  unfold bef46 aft46 has46
  rw [h2, h3]
  simp
/-- The text behind the sign. -/
def bodyL (x s : Nat) : List UInt8 := Lib.decDigits (x / P10 s) ++ (if s = 0 then [] else 46 :: padL s (x % P10 s))
theorem body_cut (x s : Nat) : bef46 (bodyL x s) = Lib.decDigits (x / P10 s) ∧ aft46 (bodyL x s) = (if s = 0 then [] else padL s (x % P10 s)) ∧ has46 (bodyL x s) = decide (s ≠ 0) := by
  unfold bodyL
  by_cases h : s = 0
  · subst h
    simp only [if_true, List.append_nil]
    have := cut_none _ (dec_ok (x / P10 0))
    simp [this]
  · simp only [if_neg h]
    obtain ⟨a, b, c⟩ := cut_at _ (padL s (x % P10 s)) (dec_ok (x / P10 s))
    rw [a, b, c]; simp [h]
theorem body_pre (x s : Nat) : Lib.hasPrefix (bodyL x s) [45] = false := by
  unfold Lib.hasPrefix bodyL
  have h1 := dec_digB (x / P10 s)
  cases h : Lib.decDigits (x / P10 s) with
  | nil => rw [h] at h1; simp [digB] at h1
  | cons c r =>
    rw [h] at h1
    have hc : dB c = true := by simp [digB, dOk] at h1; exact h1.1
    simp only [List.cons_append, List.isPrefixOf, Bool.and_true]
    rw [beq_eq_false_iff_ne]
    rintro rfl
    simp [dB] at hc
theorem txt_pre (neg : Bool) (x s : Nat) : Lib.hasPrefix (txtL neg x s) [45] = neg ∧ Lib.trimPrefix (txtL neg x s) [45] = bodyL x s := by
  cases neg with
  | false =>
    have h := body_pre x s
    have e : txtL false x s = bodyL x s := rfl
    rw [e, h]
    refine ⟨rfl, ?_⟩
    unfold Lib.trimPrefix
    rw [h]; rfl
  | true =>
    have e : txtL true x s = 45 :: bodyL x s := rfl
    have h : Lib.hasPrefix (45 :: bodyL x s) [45] = true := by simp [Lib.hasPrefix]
    rw [e, h]
    refine ⟨rfl, ?_⟩
    unfold Lib.trimPrefix
    rw [h]; rfl
theorem trim_stay (m s : Nat) (h : s = 0 ∨ m % 10 ≠ 0) : trim m s = (m, s) := by
  cases s with
  | zero => rfl
  | succ k => rcases h with h | h
              · omega
              · rw [trim_stop _ _ h]
theorem num_split (x s : Nat) : x / P10 s * 10 ^ s + x % P10 s = x := by
  have := Nat.div_add_mod x (P10 s)
  unfold P10 at *
  rw [Nat.mul_comm] at this
  exact this
theorem mod10_P10 (x s : Nat) (hs : 0 < s) : x % P10 s % 10 = x % 10 := by
  obtain ⟨j, rfl⟩ : ∃ j, s = j + 1 := ⟨s - 1, by omega⟩
  exact Nat.mod_mod_of_dvd _ ⟨10 ^ j, by unfold P10; rw [Nat.pow_succ, Nat.mul_comm]⟩
theorem decV_stay (x : Bool) (n s : Int) (h : SndD n s) (hx : n ≠ 0 → x = decide (n < 0)) : decV x n.natAbs s.toNat = .tuple #[decA n s, .int .i64 0] := by
  obtain ⟨h1, h2, ⟨h3, h4⟩, h5⟩ := h
  have ht := trim_stay n.natAbs s.toNat (by omega)
  have e2 : ((s.toNat : Nat) : Int) = s := by omega
  unfold decV
  rw [ht]
  simp only [e2]
  rw [if_neg (by omega)]
  by_cases h0 : n = 0
  · subst h0; cases x <;> rfl
  · rw [hx h0]
    by_cases hn : n < 0
    · have : -(n.natAbs : Int) = n := by omega
      simp [hn, this]
    · have : (n.natAbs : Int) = n := by omega
      simp [hn, this]
theorem parse_text (n s : Int) (h : SndD n s) : parseV (txtL (decide (n < 0)) n.natAbs s.toNat) = .tuple #[decA n s, .int .i64 0] := by
  have h' := h
  obtain ⟨h1, h2, ⟨h3, h4⟩, h5⟩ := h
  obtain ⟨t1, t2⟩ := txt_pre (decide (n < 0)) n.natAbs s.toNat
  obtain ⟨c1, c2, c3⟩ := body_cut n.natAbs s.toNat
  unfold parseV
  rw [t1, t2, c1, c2, c3]
  have hd := dec_digB (n.natAbs / P10 s.toNat)
  have hl := dec_len_le 11 (n.natAbs / P10 s.toNat) (Nat.lt_of_le_of_lt (Nat.div_le_self _ _) (by omega))
  have hn0 := dec_no0 (n.natAbs / P10 s.toNat)
  have hx : ∀ x : Nat, x = n.natAbs → (n ≠ 0 → (decide (n < 0) && decide (0 < x)) = decide (n < 0)) := by
    rintro x rfl h0
    by_cases hn : n < 0
    · simp [hn]; omega
    · simp [hn]
  by_cases hs : s = 0
  · subst hs
    have e : trimR (if ((0 : Int).toNat) = 0 then [] else padL (0 : Int).toNat (n.natAbs % P10 (0 : Int).toNat)) = [] := rfl
    unfold partsV
    rw [e, List.append_nil, numL_dec, if_neg (by
      rintro (hh | hh | hh)
      · rw [hd] at hh; cases hh
      · exact hn0 hh.1 hh.2
      · simp at hh), if_neg (by
      rintro (hh | hh)
      · omega
      · simp at hh)]
    have e2 : n.natAbs / P10 (0 : Int).toNat = n.natAbs := Nat.div_one _
    rw [e2]
    exact decV_stay _ n 0 h' (hx _ rfl)
  · have hz : s.toNat ≠ 0 := by omega
    have hp := P10_pos s.toNat
    have hmod : n.natAbs % P10 s.toNat < P10 s.toNat := Nat.mod_lt _ hp
    have e : trimR (if s.toNat = 0 then [] else padL s.toNat (n.natAbs % P10 s.toNat)) = padL s.toNat (n.natAbs % P10 s.toNat) := by
      rw [if_neg hz]
      refine pad_trim _ _ ?_
      rw [mod10_P10 _ _ (by omega)]; omega
    have hpl := pad_len s.toNat (n.natAbs % P10 s.toNat) hmod (by omega)
    have hpd : digB (padL s.toNat (n.natAbs % P10 s.toNat)) = true := by
      unfold digB
      rw [pad_ok, Bool.true_and]
      cases hc : padL s.toNat (n.natAbs % P10 s.toNat) with
      | nil => rw [hc] at hpl; simp at hpl; omega
      | cons c r => rfl
    unfold partsV
    rw [e, if_neg hz, numL_app, numL_dec, pad_num, hpl, num_split, if_neg (by
      rintro (hh | hh | hh)
      · rw [hd] at hh; cases hh
      · exact hn0 hh.1 hh.2
      · rw [hpd] at hh; simp at hh), if_neg (by omega)]
    exact decV_stay _ n s h' (hx _ rfl)
theorem bl_dig (a b : Nat) (ha : a < 10) (hb : b < 10) (l r : List UInt8) : Op.bytesLess (UInt8.ofNat (48 + a) :: l) (UInt8.ofNat (48 + b) :: r) = if a < b then true else if a = b then Op.bytesLess l r else false := by
  have h1 : (UInt8.ofNat (48 + a)).toNat = 48 + a := by rw [UInt8.toNat_ofNat']; omega
  have h2 : (UInt8.ofNat (48 + b)).toNat = 48 + b := by rw [UInt8.toNat_ofNat']; omega
  have h3 : (UInt8.ofNat (48 + a) < UInt8.ofNat (48 + b)) ↔ a < b := by rw [UInt8.lt_iff_toNat_lt, h1, h2]; omega
  have h4 : (UInt8.ofNat (48 + a) = UInt8.ofNat (48 + b)) ↔ a = b := by rw [← UInt8.toNat_inj, h1, h2]; omega
  rw [Op.bytesLess]
  by_cases x : a < b
  · rw [if_pos x, decide_eq_true (h3.mpr x)]; rfl
  · by_cases y : a = b
    · subst y; simp
    · rw [if_neg x, if_neg y]
      simp only [h3, x, decide_false, Bool.false_or, Bool.and_eq_false_iff, beq_eq_false_iff_ne, ne_eq, h4, y, not_false_eq_true, true_or]
theorem bl_sep (l r : List UInt8) : Op.bytesLess (45 :: l) (45 :: r) = Op.bytesLess l r := by rw [Op.bytesLess]; simp
theorem bl_2 (m m' : Nat) (h : m < 100) (h' : m' < 100) (l r : List UInt8) : Op.bytesLess (dgt_Y m 10 :: dgt_Y m 1 :: l) (dgt_Y m' 10 :: dgt_Y m' 1 :: r) = if m < m' then true else if m = m' then Op.bytesLess l r else false := by
  unfold dgt_Y
  rw [bl_dig _ _ (by omega) (by omega), bl_dig _ _ (by omega) (by omega)]
  by_cases x : m < m'
  · rw [if_pos x]
    by_cases a : m / 10 % 10 < m' / 10 % 10
    · rw [if_pos a]
    · rw [if_neg a, if_pos (by omega), if_pos (by omega)]
  · rw [if_neg x]
    by_cases y : m = m'
    · subst y; simp
    · rw [if_neg y, if_neg (by omega)]
      by_cases a : m / 10 % 10 = m' / 10 % 10
      · rw [if_pos a, if_neg (by omega), if_neg (by omega)]
      · rw [if_neg a]
theorem dgt_hi (y : Nat) (h : y < 10000) : dgt_Y y 1000 = dgt_Y (y / 100) 10 ∧ dgt_Y y 100 = dgt_Y (y / 100) 1 ∧ dgt_Y y 10 = dgt_Y (y % 100) 10 ∧ dgt_Y y 1 = dgt_Y (y % 100) 1 := by
  unfold dgt_Y
  refine ⟨?_, ?_, ?_, ?_⟩ <;> congr 2 <;> omega
theorem bl_4 (y y' : Nat) (h : y < 10000) (h' : y' < 10000) (l r : List UInt8) : Op.bytesLess (dgt_Y y 1000 :: dgt_Y y 100 :: dgt_Y y 10 :: dgt_Y y 1 :: l) (dgt_Y y' 1000 :: dgt_Y y' 100 :: dgt_Y y' 10 :: dgt_Y y' 1 :: r) =
    if y < y' then true else if y = y' then Op.bytesLess l r else false := by
  obtain ⟨a1, a2, a3, a4⟩ := dgt_hi y h
  obtain ⟨b1, b2, b3, b4⟩ := dgt_hi y' h'
  rw [a1, a2, a3, a4, b1, b2, b3, b4, bl_2 _ _ (by omega) (by omega), bl_2 _ _ (by omega) (by omega)]
  by_cases x : y < y'
  · rw [if_pos x]
    by_cases a : y / 100 < y' / 100
    · rw [if_pos a]
    · rw [if_neg a, if_pos (by omega), if_pos (by omega)]
  · rw [if_neg x]
    by_cases z : y = y'
    · subst z; simp
    · rw [if_neg z, if_neg (by omega)]
      by_cases a : y / 100 = y' / 100
      · rw [if_pos a, if_neg (by omega), if_neg (by omega)]
      · rw [if_neg a]
theorem bl_txt (y m d y' m' d' : Nat) (hy : y < 10000) (hm : m < 100) (hd : d < 100) (hy' : y' < 10000) (hm' : m' < 100) (hd' : d' < 100) :
    Op.bytesLess (txt y m d).toList (txt y' m' d').toList = if y < y' then true else if y = y' then (if m < m' then true else if m = m' then (if d < d' then true else false) else false) else false := by
  rw [ByteArray.toList_eq, ByteArray.toList_eq]
  show Op.bytesLess [dgt_Y y 1000, dgt_Y y 100, dgt_Y y 10, dgt_Y y 1, 45, dgt_Y m 10, dgt_Y m 1, 45, dgt_Y d 10, dgt_Y d 1] [dgt_Y y' 1000, dgt_Y y' 100, dgt_Y y' 10, dgt_Y y' 1, 45, dgt_Y m' 10, dgt_Y m' 1, 45, dgt_Y d' 10, dgt_Y d' 1] = _
  rw [bl_4 y y' hy hy', bl_sep, bl_2 m m' hm hm', bl_sep, bl_2 d d' hd hd']
  simp [Op.bytesLess]
theorem order (k j : Int) (k0 : 0 ≤ k) (k1 : k ≤ 3652058) (j0 : 0 ≤ j) (j1 : j ≤ 3652058) : Op.bytesLess (dtx k).toList (dtx j).toList = decide (k < j) := by
  obtain ⟨hs, hn⟩ := date_spec k k0 k1
  obtain ⟨hs', hn'⟩ := date_spec j j0 j1
  have hs0 := hs
  have hs0' := hs'
  obtain ⟨s1, s2, s3, s4, s5, s6⟩ := hs0
  obtain ⟨t1, t2, t3, t4, t5, t6⟩ := hs0'
  have s7 := lenM_bd (dY k) (dM k)
  have t7 := lenM_bd (dY j) (dM j)
  unfold dtx
  rw [bl_txt _ _ _ _ _ _ (by omega) (by omega) (by omega) (by omega) (by omega) (by omega)]
  by_cases a : (dY k).toNat < (dY j).toNat
  · rw [if_pos a]
    have := num_lt _ _ _ _ _ _ hs hs' (.inl (by omega))
    simp; omega
  · rw [if_neg a]
    by_cases a' : (dY k).toNat = (dY j).toNat
    · rw [if_pos a']
      by_cases b : (dM k).toNat < (dM j).toNat
      · rw [if_pos b]
        have := num_lt _ _ _ _ _ _ hs hs' (.inr ⟨by omega, .inl (by omega)⟩)
        simp; omega
      · rw [if_neg b]
        by_cases b' : (dM k).toNat = (dM j).toNat
        · rw [if_pos b']
          by_cases c : (dD k).toNat < (dD j).toNat
          · rw [if_pos c]
            have := num_lt _ _ _ _ _ _ hs hs' (.inr ⟨by omega, .inr ⟨by omega, by omega⟩⟩)
            simp; omega
          · rw [if_neg c]
            by_cases c' : dD k = dD j
            · have : k = j := by rw [← hn, ← hn', show dY k = dY j by omega, show dM k = dM j by omega, c']
              simp; omega
            · have := num_lt _ _ _ _ _ _ hs' hs (.inr ⟨by omega, .inr ⟨by omega, by omega⟩⟩)
              simp; omega
        · rw [if_neg b']
          have := num_lt _ _ _ _ _ _ hs' hs (.inr ⟨by omega, .inl (by omega)⟩)
          simp; omega
    · rw [if_neg a']
      have := num_lt _ _ _ _ _ _ hs' hs (.inl (by omega))
      simp; omega
end
end Go.Proofs.YtladmlnopbnlgaaDoor
