import Derived.Test.YtjckpkamhdbcnaaGreatDoorLxd
namespace Go.Proofs.YtjckpkamhdbcnaaGreatDoor
set_option linter.unusedSimpArgs false
set_option linter.unusedVariables false
open Go.RowKit
/-! Dates, signs and names: plain words. -/
theorem day_form {l : List UInt8} (h : (dayP l).2 = 0) : l.length = 10 ∧ ∀ c ∈ l, c ≠ 34 ∧ c ≠ 92 := by
 have hd := day_is l
 rw [h] at hd
 have bad : ∀ n : Int, badV = .tuple #[.int .i64 n, .int .i64 ((0 : Nat) : Int)] → False := by
  intro n e
  simp [badV] at e
 generalize (dayP l).1 = n at hd
 clear h
 by_cases hlen : l.length = 10
 ·refine ⟨hlen, ?_⟩
  unfold parseV_Y at hd
  rw [bytes_toList] at hd
  match l, hlen, hd with
  | [a, b, c, d, e, f, g, i, j, k], _, hd =>
   simp only at hd
   split at hd
   ·rename_i h45
    obtain ⟨rfl, rfl⟩ := h45
    unfold parseL at hd
    split at hd
    ·rename_i hk
     obtain ⟨k1, k2, k3⟩ := hk
     simp only [dOk_Y, List.all_cons, List.all_nil, Bool.and_true, Bool.and_eq_true] at k1 k2 k3
     have q : ∀ c, dB_Y c = true → c ≠ 34 ∧ c ≠ 92 := by
      intro c hc
      constructor <;> (rintro rfl; revert hc; decide)
     intro x hx
     simp only [List.mem_cons, List.not_mem_nil, or_false] at hx
     rcases hx with h | h | h | h | h | h | h | h | h | h <;> rw [h]
     ·exact q _ k1.1
     ·exact q _ k1.2.1
     ·exact q _ k1.2.2.1
     ·exact q _ k1.2.2.2
     ·decide
     ·exact q _ k2.1
     ·exact q _ k2.2
     ·decide
     ·exact q _ k3.1
     ·exact q _ k3.2
    ·exact absurd hd (bad _)
   ·exact absurd hd (bad _)
 ·rw [parseV_no _ (by rw [bytesOf_size]; exact hlen)] at hd
  exact absurd hd (bad _)
theorem day_none {l : List UInt8} (h : [64, 34].isPrefixOf l = false) : dayT l = .bad 5 := by
 unfold dayT
 rw [if_neg (by rw [h]; simp)]
/-! Signs. -/
def signsL : List (List UInt8) := sg2 ++ sg1.map fun c => [c]
theorem find_pre (k : Nat) (l : List UInt8) : ∀ L : List (List UInt8), (∀ g ∈ L, g.length = k) → L.find? (fun g => g.isPrefixOf l) = if L.contains (l.take k) = true then some (l.take k) else none
 | [], _ => rfl
 | g :: L, h => by
  have ih := find_pre k l L (fun x hx => h x (by simp [hx]))
  have hg := h g (by simp)
  have hp : g.isPrefixOf l = true ↔ l.take k = g := by
   rw [List.isPrefixOf_iff_prefix, List.prefix_iff_eq_take, hg]
   exact eq_comm
  by_cases hq : l.take k = g
  ·have hp' := hp.2 hq
   simp only [List.find?_cons, hp']
   rw [hq]
   simp
  ·have hp' : g.isPrefixOf l = false := by
    rw [Bool.eq_false_iff]
    exact fun e => hq (hp.1 e)
   simp only [List.find?_cons, hp']
   rw [ih]
   have : (g :: L).contains (l.take k) = L.contains (l.take k) := by
    rw [List.contains_cons, beq_eq_false_iff_ne.2 hq, Bool.false_or]
   rw [this]
theorem sig_find (l : List UInt8) : sigL l = (signsL.find? (fun g => g.isPrefixOf l)).getD [] := by
 unfold sigL signsL
 rw [List.find?_append, find_pre 2 l sg2 (by decide), find_pre 1 l (sg1.map fun c => [c]) (by decide)]
 have e : (sg1.map fun c => [c]).contains (l.take 1) = true ↔ ∃ c ∈ sg1, l.take 1 = [c] := by
  rw [List.contains_iff_mem, List.mem_map]
  constructor
  ·rintro ⟨c, hc, h⟩; exact ⟨c, hc, h.symm⟩
  ·rintro ⟨c, hc, h⟩; exact ⟨c, hc, h.symm⟩
 by_cases h2 : sg2.contains (l.take 2) = true
 ·rw [if_pos h2, if_pos h2]; rfl
 ·rw [if_neg h2, if_neg h2]
  by_cases h1 : ∃ c ∈ sg1, l.take 1 = [c]
  ·rw [if_pos h1, if_pos (e.2 h1)]; rfl
  ·rw [if_neg h1, if_neg (fun h => h1 (e.1 h))]; rfl
theorem sig_mem (l : List UInt8) : (l ≠ [] ∧ sigL l = l) ↔ l ∈ signsL := by
 constructor
 ·rintro ⟨h0, h⟩
  rw [sig_find] at h
  cases hf : signsL.find? (fun g => g.isPrefixOf l) with
  | none => rw [hf] at h; exact absurd h.symm h0
  | some g =>
   rw [hf] at h
   have : g = l := h
   subst this
   exact List.mem_of_find?_eq_some hf
 ·intro h
  revert l
  decide
/-! Names. -/
theorem nm_gof (l : List UInt8) (i : Nat) : gOf (bytesOf l) 0 i = (l.getD i 0).toNat := by
 rw [gOf_list, bytes_toList, List.drop_zero]
theorem okN_is (i : Nat) (c : UInt8) : okN i c.toNat = if i = 0 then ltB c else nbB c := by
 have e1 : letB c.toNat = ltB c := rfl
 have e2 : dgB c.toNat = fgB c := rfl
 unfold okN
 rw [e1, e2]
 by_cases h : i = 0
 ·rw [if_pos h, h]; simp
 ·rw [if_neg h, decide_eq_true h, Bool.true_and]; rfl
theorem nm_is (l : List UInt8) : nmOk l = true ↔ (0 < l.length ∧ l.length ≤ 32) ∧ ∀ i c, l[i]? = some c → (if i = 0 then ltB c else nbB c) = true := by
 unfold nmOk nameB
 rw [bytesOf_size, Bool.and_eq_true, decide_eq_true_eq, List.all_eq_true]
 refine and_congr Iff.rfl ⟨fun h i c hc => ?_, fun h i hi => ?_⟩
 ·have hlt := (List.getElem?_eq_some_iff.1 hc).1
  have := h i (List.mem_range.2 hlt)
  rw [nm_gof, okN_is, List.getD_eq_getElem?_getD, hc] at this
  exact this
 ·have hlt := List.mem_range.1 hi
  have := h i l[i] (List.getElem?_eq_getElem hlt)
  rw [nm_gof, okN_is, List.getD_eq_getElem?_getD, List.getElem?_eq_getElem hlt]
  exact this
theorem nm_form {l : List UInt8} (h : nmOk l = true) : l.length ≤ 32 ∧ ∃ c t, l = c :: t ∧ ltB c = true ∧ ∀ b ∈ l, nbB b = true := by
 rw [nm_is] at h
 obtain ⟨⟨h0, h1⟩, h2⟩ := h
 refine ⟨h1, ?_⟩
 cases l with
 | nil => simp at h0
 | cons c t =>
  have hc := h2 0 c rfl
  simp only [if_true] at hc
  refine ⟨c, t, rfl, hc, fun b hb => ?_⟩
  obtain ⟨i, hi⟩ := List.mem_iff_getElem?.1 hb
  have := h2 i b hi
  split at this
  ·unfold nbB; rw [this]; rfl
  ·exact this
end Go.Proofs.YtjckpkamhdbcnaaGreatDoor
