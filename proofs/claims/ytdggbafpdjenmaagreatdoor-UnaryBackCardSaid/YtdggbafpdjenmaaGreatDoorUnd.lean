import Derived.Test.YtdggbafpdjenmaaGreatDoorUnc
namespace Go.Proofs.YtdggbafpdjenmaaGreatDoor
set_option linter.unusedSimpArgs false
set_option linter.unusedVariables false
open Go.RowKit
/-! Where a cell is wrong: a place in its text. -/
def PR.sub {α : Type} (p : PR α) (r : List Tok) : Prop := match p with
  | .bad q _ => ∀ t ∈ q, t ∈ r
  | .ok _ q => ∀ t ∈ q, t ∈ r
theorem valP_in (may : Int → Bool) (r : List Tok) : (valP may r).sub r := by
  unfold valP
  by_cases hs : isS [45] r = true
  · rw [if_pos hs]
    cases hr : r.tail with
    | nil => simp only; exact fun t ht => nomatch ht
    | cons t r2 =>
      have hsub : ∀ u ∈ t :: r2, u ∈ r := fun u hu => mem_tail (by rw [hr]; exact hu)
      simp only
      by_cases h1 : t.kind = 1
      · rw [if_pos h1]
        cases valT t with
        | none => exact hsub
        | some v =>
          simp only
          by_cases hm : may v.kind = true
          · rw [if_pos hm]; exact fun u hu => hsub u (List.mem_cons_of_mem _ hu)
          · rw [if_neg hm]; exact fun u hu => hu
      · rw [if_neg h1]; exact hsub
  · rw [if_neg hs]
    cases r with
    | nil => exact fun t ht => nomatch ht
    | cons t r2 =>
      simp only
      cases valT t with
      | none => exact fun u hu => hu
      | some v =>
        simp only
        by_cases hm : may v.kind = true
        · rw [if_pos hm]; exact fun u hu => List.mem_cons_of_mem _ hu
        · rw [if_neg hm]; exact fun u hu => hu
theorem PR.sub.tail {α : Type} {p : PR α} {r : List Tok} (h : p.sub r.tail) : p.sub r := by
  cases p with
  | bad q e => exact fun t ht => mem_tail (h t ht)
  | ok x q => exact fun t ht => mem_tail (h t ht)
theorem PR.sub.trans {α : Type} {p : PR α} {q r : List Tok} (h : p.sub q) (hq : ∀ t ∈ q, t ∈ r) : p.sub r := by
  cases p with
  | bad q e => exact fun t ht => hq t (h t ht)
  | ok x q => exact fun t ht => hq t (h t ht)
theorem intP_in (op : Bool) (r : List Tok) : (intP op r).sub r := by
  unfold intP
  have h1 := valP_in ordk r
  cases hv : valP ordk r with
  | bad q e => rw [hv] at h1; exact h1
  | ok lo a =>
    rw [hv] at h1
    simp only
    by_cases hs : isS [46, 46] a = true
    · rw [if_pos hs]
      have h2 := (valP_in (fun k => decide (k = lo.kind)) a.tail).tail
      cases hw : valP (fun k => decide (k = lo.kind)) a.tail with
      | bad q e => rw [hw] at h2; exact fun t ht => h1 t (h2 t ht)
      | ok hi b =>
        rw [hw] at h2
        simp only
        have h3 : ∀ t ∈ b, t ∈ r := fun t ht => h1 t (h2 t ht)
        by_cases k1 : isS [93] b = true
        · rw [if_pos k1]; exact fun t ht => h3 t (mem_tail ht)
        · rw [if_neg k1]
          by_cases k2 : isS [41] b = true ∨ isS [91] b = true
          · rw [if_pos k2]; exact fun t ht => h3 t (mem_tail ht)
          · rw [if_neg k2]; exact h3
    · rw [if_neg hs]; exact h1
theorem oneP_in {k : Int} {p : PR Val} {r : List Tok} (h : p.sub r) : (oneP k p).sub r := by
  cases p with
  | bad q e => exact h
  | ok v q => exact h
theorem tstP_in (r : List Tok) : (tstP r).sub r := by
  unfold tstP
  repeat' split
  all_goals first | exact oneP_in (valP_in _ r.tail).tail | exact (intP_in _ r.tail).tail | exact oneP_in (valP_in _ r)
theorem lstP_in : ∀ (n : Nat) (acc : List Tst) (r : List Tok), (lstP n acc r).sub r
  | 0, _, r => fun t ht => ht
  | n + 1, acc, r => by
    unfold lstP
    have h1 := tstP_in r
    cases hv : tstP r with
    | bad q e => rw [hv] at h1; exact h1
    | ok x a =>
      rw [hv] at h1
      simp only
      by_cases hs : isS [44] a = true
      · rw [if_pos hs]
        by_cases hn : n = 0
        · rw [if_pos hn]; exact h1
        · rw [if_neg hn]; exact (lstP_in n _ a.tail).tail.trans h1
      · rw [if_neg hs]; exact h1
theorem endP_in {no : Bool} {p : PR (List Tst)} {r : List Tok} (h : p.sub r) : (endP no p).sub r := by
  cases p with
  | bad q e => exact h
  | ok l q =>
    unfold endP
    simp only
    repeat' split
    all_goals first | exact h | exact (fun t ht => h t (mem_tail ht)) | exact (fun t ht => absurd ht (List.not_mem_nil))
theorem whoP_in (r : List Tok) : (whoP r).sub r := by
  unfold whoP
  repeat' split
  all_goals first | exact (endP_in (lstP_in 8 [] r.tail.tail)).tail.tail | exact endP_in (lstP_in 8 [] r) | exact (fun t ht => mem_tail ht)
/-- Where a cell is wrong lies in its text. -/
theorem parU_at (s : ByteArray) : 0 ≤ (parU s).2.1 ∧ (parU s).2.1 ≤ s.size := by
  obtain ⟨h1, h2⟩ := toks_pos s
  unfold parU
  split
  · simp only; omega
  · split
    · have h3 := whoP_in (tokS s).1
      cases hw : whoP (tokS s).1 with
      | bad q e =>
        rw [hw] at h3
        simp only
        cases q with
        | nil => show (0 : Int) ≤ (s.size : Int) ∧ (s.size : Int) ≤ s.size; omega
        | cons t q => exact h1 t (h3 t (by simp))
      | ok x q => simp only; omega
    · simp only; omega
end Go.Proofs.YtdggbafpdjenmaaGreatDoor
