import Derived.Test.YtcknjhgolajclaaDoorDgo
import Derived.Test.YtcknjhgolajclaaDoorDes
namespace Go.Proofs.YtcknjhgolajclaaDoor
set_option linter.unusedSimpArgs false
set_option linter.unusedVariables false
open Go.RowKit

/-! Deci: reading a number, sign by sign. -/
theorem trim_z (s : Nat) : trim 0 s = (0, 0) := by
  induction s with
  | zero => rfl
  | succ k ih => rw [trim_step _ _ rfl]; exact ih
/-- What has been read: digits alone; or digits, a point, digits. -/
def StA (l : List UInt8) (k : Nat) : Prop := dOk (l.take k) = true
def StB (l : List UInt8) (d k : Nat) : Prop := d < k ∧ d < l.length ∧ dOk (l.take d) = true ∧ l[d]? = some 46 ∧ dOk ((l.take k).drop (d + 1)) = true
theorem stA_0 (l : List UInt8) : StA l 0 := rfl
theorem stA_next {l : List UInt8} {k : Nat} (h : StA l k) (hk : k < l.length) (hc : dB l[k] = true) : StA l (k + 1) := by
  unfold StA dOk at *
  rw [all_take_succ _ _ _ hk, h, hc]; rfl
theorem stA_dot {l : List UInt8} {k : Nat} (h : StA l k) (hk : k < l.length) (hc : l[k] = 46) : StB l k (k + 1) := by
  refine ⟨by omega, hk, h, by rw [List.getElem?_eq_getElem hk, hc], ?_⟩
  rw [List.drop_of_length_le (by simp; omega)]; rfl
theorem split_at {l : List UInt8} {k : Nat} (hk : k < l.length) : l = l.take k ++ l[k] :: l.drop (k + 1) := by
  rw [List.getElem_cons_drop, List.take_append_drop]
theorem ne46 {a : List UInt8} (h : dOk a = true) : ∀ x ∈ a, (x != 46) = true := fun x hx => dB_46 (by simp only [dOk, List.all_eq_true] at h; exact h x hx)
theorem bef_bad {a r : List UInt8} {c : UInt8} (ha : dOk a = true) (h46 : c ≠ 46) (hc : dB c = false) : digB (bef46 (a ++ c :: r)) = false := by
  have e : bef46 (a ++ c :: r) = a ++ c :: bef46 r := by
    unfold bef46
    rw [List.takeWhile_append_of_pos (ne46 ha), List.takeWhile_cons, if_pos (by simpa using h46)]
  rw [e]
  exact digB_no (by rw [dOk_app]; simp [dOk, hc])
theorem stA_bad {l : List UInt8} {k : Nat} (h : StA l k) (hk : k < l.length) (h46 : l[k] ≠ 46) (hc : dB l[k] = false) : digB (bef46 l) = false := by
  rw [split_at hk]
  exact bef_bad h h46 hc
theorem stB_next {l : List UInt8} {d k : Nat} (h : StB l d k) (hk : k < l.length) (hc : dB l[k] = true) : StB l d (k + 1) := by
  obtain ⟨h1, h2, h3, h4, h5⟩ := h
  refine ⟨by omega, h2, h3, h4, ?_⟩
  rw [List.take_succ_eq_append_getElem hk, List.drop_append_of_le_length (by simp; omega), dOk_app, h5]
  simp [dOk, hc]
theorem stB_cut {l : List UInt8} {d k : Nat} (h : StB l d k) : bef46 l = l.take d ∧ aft46 l = l.drop (d + 1) ∧ has46 l = true := by
  obtain ⟨h1, h2, h3, h4, h5⟩ := h
  have e : l[d] = 46 := by rw [List.getElem?_eq_getElem h2] at h4; exact Option.some.inj h4
  have h6 := cut_at (l.take d) (l.drop (d + 1)) h3
  rw [← e, ← split_at h2] at h6
  exact h6
theorem stB_bad {l : List UInt8} {d k : Nat} (h : StB l d k) (hk : k < l.length) (hc : dB l[k] = false) : has46 l = true ∧ digB (aft46 l) = false := by
  obtain ⟨c1, c2, c3⟩ := stB_cut h
  refine ⟨c3, ?_⟩
  rw [c2]
  refine digB_no (dOk_no _ (k - (d + 1)) (by have := h.1; simp; omega) ?_)
  have e : (l.drop (d + 1))[k - (d + 1)]'(by have := h.1; simp; omega) = l[k] := by
    rw [List.getElem_drop]
    congr 1
    have := h.1; omega
  rw [e]; exact hc
theorem stA_end {l : List UInt8} {k : Nat} (h : StA l k) (hk : l.length ≤ k) : bef46 l = l ∧ aft46 l = [] ∧ has46 l = false ∧ dOk l = true := by
  have h' : dOk l = true := by
    unfold StA at h
    rwa [List.take_of_length_le hk] at h
  obtain ⟨a, b, c⟩ := cut_none l h'
  exact ⟨a, b, c, h'⟩
theorem stB_end {l : List UInt8} {d k : Nat} (h : StB l d k) (hk : l.length ≤ k) : bef46 l = l.take d ∧ aft46 l = l.drop (d + 1) ∧ has46 l = true ∧ dOk (l.take d) = true ∧ dOk (l.drop (d + 1)) = true := by
  obtain ⟨c1, c2, c3⟩ := stB_cut h
  refine ⟨c1, c2, c3, h.2.2.1, ?_⟩
  have := h.2.2.2.2
  rwa [List.take_of_length_le hk] at this
theorem trimR_drop (r : List UInt8) : trimR (r ++ [48]) = trimR r := by
  unfold trimR Lib.trimRightB
  rw [List.reverse_append]
  simp
theorem trimR_nil : trimR [] = [] := rfl
theorem numL_bd' (l : List UInt8) (h : dOk l = true) : numL l < 10 ^ l.length := by
  have := fold_bd l 0 h
  unfold numL
  omega
theorem numL_at (l : List UInt8) (h : dOk l = true) (i : Nat) (hi : i < l.length) : dg (numL l) (l.length - 1 - i) = l[i].toNat - 48 := by
  have e := split_at hi
  have h1 : dOk (l.take i) = true ∧ dB l[i] = true ∧ dOk (l.drop (i + 1)) = true := by
    rw [e, dOk_app] at h
    simp only [dOk, List.all_cons, Bool.and_eq_true] at h
    exact ⟨h.1, h.2.1, h.2.2⟩
  obtain ⟨h1, h2, h3⟩ := h1
  have hb := numL_bd' _ h3
  have hlen : (l.drop (i + 1)).length = l.length - 1 - i := by simp; omega
  rw [hlen] at hb
  have hn : numL l = (numL (l.take i) * 10 + (l[i].toNat - 48)) * 10 ^ (l.length - 1 - i) + numL (l.drop (i + 1)) := by
    conv => lhs; rw [e]
    rw [show l.take i ++ l[i] :: l.drop (i + 1) = (l.take i ++ [l[i]]) ++ l.drop (i + 1) by simp, numL_app, numL_app, hlen]
    simp [numL]
  have hd : l[i].toNat - 48 < 10 := by
    unfold dB at h2
    rw [decide_eq_true_eq] at h2
    omega
  rw [hn, dg, Nat.mul_comm, Nat.mul_add_div (p10 _), Nat.div_eq_of_lt hb, Nat.add_zero]
  omega
theorem decV_zero (x y : Bool) (s : Nat) : decV x 0 s = decV y 0 s := by
  unfold decV
  rw [trim_z]
  cases x <;> cases y <;> rfl
theorem decV_sgn (mn : Bool) (V s : Nat) : decV (mn && decide (0 < V)) V s = decV mn V s := by
  by_cases h : V = 0
  · subst h; exact decV_zero _ _ _
  · rw [decide_eq_true (by omega), Bool.and_true]
theorem parts_bad {mn : Bool} {W P : List UInt8} {pt : Bool} (h : digB W = false ∨ (1 < W.length ∧ W[0]? = some 48) ∨ (pt = true ∧ digB P = false)) : partsV mn W P pt = errV 5 := if_pos h
/-- What may be a number's parts. -/
def GoodP (W P : List UInt8) (pt : Bool) : Prop := ¬ (digB W = false ∨ (1 < W.length ∧ W[0]? = some 48) ∨ (pt = true ∧ digB P = false))
theorem parts_far {mn : Bool} {W P : List UInt8} {pt : Bool} (h : GoodP W P pt) (h2 : 12 < W.length ∨ 6 < (trimR P).length) : partsV mn W P pt = errV 3 := by
  unfold partsV
  rw [if_neg h, if_pos h2]
theorem parts_good {mn : Bool} {W P : List UInt8} {pt : Bool} (h : GoodP W P pt) (h2 : ¬ (12 < W.length ∨ 6 < (trimR P).length)) :
    partsV mn W P pt = decV mn (numL (W ++ trimR P)) (trimR P).length := by
  unfold partsV
  rw [if_neg h, if_neg h2, decV_sgn]
theorem ext_end (s : ByteArray) (a : Nat) : (s.extract a s.size).data.toList = s.data.toList.drop a := by
  rw [Lib.extract_data, List.take_of_length_le]
  rw [List.length_drop, Array.length_toList]
  exact Nat.le_refl _
theorem ext_start (s : ByteArray) (b : Nat) : (s.extract 0 b).data.toList = s.data.toList.take b := by
  rw [Lib.extract_data]; simp
theorem size_list (s : ByteArray) : s.data.toList.length = s.size := by rw [Array.length_toList]; rfl
/-- The sign ahead. -/
theorem pre_cases (s : ByteArray) : ∃ (mn : Bool) (B : ByteArray), Lib.hasPrefix s.data.toList [45] = mn ∧ Lib.trimPrefix s.data.toList [45] = B.data.toList ∧ B.size ≤ s.size ∧
    (mn = true → ∃ h : 0 < s.size, s[0] = 45 ∧ B = s.extract 1 s.size) ∧ (mn = false → B = s ∧ ∀ h : 0 < s.size, s[0] ≠ 45) := by
  by_cases h0 : 0 < s.size
  · have hl : 0 < s.data.toList.length := by rw [Array.length_toList]; exact h0
    have hg : s.data.toList[0] = s[0] := rfl
    obtain ⟨c, r, hr⟩ : ∃ c r, s.data.toList = c :: r := by
      cases h : s.data.toList with
      | nil => rw [h] at hl; simp at hl
      | cons c r => exact ⟨c, r, rfl⟩
    have hc : s[0] = c := by rw [← hg]; simp [hr]
    by_cases h1 : c = 45
    · refine ⟨true, s.extract 1 s.size, ?_, ?_, by simp [ByteArray.size_extract], fun _ => ⟨h0, hc.trans h1, rfl⟩, (fun h => by cases h)⟩
      · rw [hr, h1]; simp [Lib.hasPrefix]
      · unfold Lib.trimPrefix
        rw [hr, h1, if_pos (by simp [Lib.hasPrefix]), ext_end, hr]; rfl
    · refine ⟨false, s, ?_, ?_, Nat.le_refl _, (fun h => by cases h), fun _ => ⟨rfl, fun _ => by rw [hc]; exact h1⟩⟩
      · rw [hr]; simp [Lib.hasPrefix, List.isPrefixOf]; exact fun h => h1 h.symm
      · unfold Lib.trimPrefix
        rw [hr, if_neg (by simp [Lib.hasPrefix, List.isPrefixOf]; exact fun h => h1 h.symm)]
  · have he : s.data.toList = [] := List.eq_nil_of_length_eq_zero (by rw [Array.length_toList]; show s.size = 0; omega)
    refine ⟨false, s, ?_, ?_, Nat.le_refl _, (fun h => by cases h), fun _ => ⟨rfl, fun h => absurd h h0⟩⟩
    · rw [he]; rfl
    · rw [he]; rfl
end Go.Proofs.YtcknjhgolajclaaDoor
