
import Derived.Test.YtjckpkamhdbcnaaGreatDoorLxd
namespace Go.Proofs.YtjckpkamhdbcnaaGreatDoor
set_option linter.unusedSimpArgs false
set_option linter.unusedVariables false
open Go.RowKit

/-! Dates, signs and names: plain words. -/
theorem day_form {l : List UInt8} (h : (dayP l).2 = 0) : l.length = 10 ∧ ∀ c ∈ l, c ≠ 34 ∧ c ≠ 92 := by
  have hd := day_is l
  rw [h] at hd
  have bad : ∀ n : Int, badV = .tuple #[.int .i64 n, .int .i64 ((0 : Nat) : Int)] → False := by
    intro n e
    simp [badV] at e
  generalize (dayP l).1 = n at hd
  clear h
  by_cases hlen : l.length = 10
  · refine ⟨hlen, ?_⟩
    unfold parseV_Y at hd
    rw [bytes_toList] at hd
    match l, hlen, hd with
    | [a, b, c, d, e, f, g, i, j, k], _, hd =>
      simp only at hd
      split at hd
      · rename_i h45
        obtain ⟨rfl, rfl⟩ := h45
        unfold parseL at hd
        split at hd
        · rename_i hk
          obtain ⟨k1, k2, k3⟩ := hk
          simp only [dOk_Y, List.all_cons, List.all_nil, Bool.and_true, Bool.and_eq_true] at k1 k2 k3
          have q : ∀ c, dB_Y c = true → c ≠ 34 ∧ c ≠ 92 := by
            intro c hc
            constructor <;> (rintro rfl; revert hc; decide)
          intro x hx
          simp only [List.mem_cons, List.not_mem_nil, or_false] at hx
          rcases hx with h | h | h | h | h | h | h | h | h | h <;> rw [h]
          · exact q _ k1.1
          · exact q _ k1.2.1
          · exact q _ k1.2.2.1
          · exact q _ k1.2.2.2
          · decide
          · exact q _ k2.1
          · exact q _ k2.2
          · decide
          · exact q _ k3.1
          · exact q _ k3.2
        · exact absurd hd (bad _)
      · exact absurd hd (bad _)
  · rw [parseV_no _ (by rw [bytesOf_size]; exact hlen)] at hd
    exact absurd hd (bad _)
theorem strL_plain : ∀ (x acc r : List UInt8), (∀ c ∈ x, c ≠ 34 ∧ c ≠ 92) → strL acc (x ++ 34 :: r) = some (acc ++ x, r)
  | [], acc, r, _ => by
    show strL acc (34 :: r) = _
    unfold strL
    rw [if_pos rfl, List.append_nil]
  | c :: x, acc, r, h => by
    have ih := strL_plain x (acc ++ [c]) r (fun d hd => h d (by simp [hd]))
    have hc := h c (by simp)
    rw [List.cons_append]
    unfold strL
    rw [if_neg hc.1, if_neg hc.2, ih]
    simp
theorem strL_exact : ∀ (n : Nat) (x acc z r : List UInt8), x.length ≤ n → strL acc x = some (z, r) → ∃ v, z = acc ++ v ∧ v.length + 1 + r.length ≤ x.length ∧ (v.length + 1 + r.length = x.length → x = v ++ 34 :: r ∧ ∀ c ∈ v, c ≠ 34 ∧ c ≠ 92)
  | n, [], acc, z, r, _, h => by simp [strL] at h
  | 0, c :: x, acc, z, r, hn, _ => by simp at hn
  | n + 1, c :: x, acc, z, r, hn, h => by
    rw [List.length_cons] at hn
    unfold strL at h
    by_cases h1 : c = 34
    · rw [if_pos h1] at h
      simp only [Option.some.injEq, Prod.mk.injEq] at h
      obtain ⟨rfl, rfl⟩ := h
      exact ⟨[], by simp, by simp; omega, fun _ => ⟨by rw [h1]; rfl, by simp⟩⟩
    · rw [if_neg h1] at h
      by_cases h2 : c = 92
      · rw [if_pos h2] at h
        cases x with
        | nil => cases h
        | cons d x' =>
          simp only at h
          by_cases h3 : d = 34 ∨ d = 92
          · rw [if_pos h3] at h
            rw [List.length_cons] at hn
            obtain ⟨v, e1, e2, e3⟩ := strL_exact n x' _ z r (by omega) h
            refine ⟨d :: v, by rw [e1]; simp, by simp only [List.length_cons]; omega, fun e => ?_⟩
            simp only [List.length_cons] at e
            omega
          · rw [if_neg h3] at h; cases h
      · rw [if_neg h2] at h
        obtain ⟨v, e1, e2, e3⟩ := strL_exact n x _ z r (by omega) h
        refine ⟨c :: v, by rw [e1]; simp, by simp only [List.length_cons]; omega, fun e => ?_⟩
        simp only [List.length_cons] at e
        obtain ⟨f1, f2⟩ := e3 (by omega)
        refine ⟨by rw [f1]; rfl, ?_⟩
        intro b hb
        rcases List.mem_cons.1 hb with rfl | hb
        · exact ⟨h1, h2⟩
        · exact f2 b hb
/-- A date by the rule of strings. -/
def dayR (u : List UInt8) : TRes :=
  match strL [] u with
  | some (x, r) => if u.length - r.length = 11 ∧ (dayP x).2 = 0 then .ok r (some ⟨3, 0, [], 0, 0, (dayP x).1⟩) else .bad 5
  | none => .bad 5
theorem day_two (u : List UInt8) : dayT (64 :: 34 :: u) = dayR u := by
  unfold dayT dayR
  rw [show ([64, 34] : List UInt8).isPrefixOf (64 :: 34 :: u) = true by simp [List.isPrefixOf], show (64 :: 34 :: u).drop 2 = u from rfl]
  obtain ⟨h1, h2, h3⟩ := span_is (· != 34) u
  have key : ∀ x r, strL [] u = some (x, r) → u.length - r.length = 11 → (dayP x).2 = 0 → u.takeWhile (· != 34) = x ∧ u.dropWhile (· != 34) = 34 :: r := by
    intro x r hs hl hd
    obtain ⟨d1, d2⟩ := day_form hd
    obtain ⟨v, e1, e2, e3⟩ := strL_exact _ u [] x r (Nat.le_refl _) hs
    rw [List.nil_append] at e1
    subst e1
    obtain ⟨e4, e5⟩ := e3 (by omega)
    have hp : ∀ c ∈ x, (c != 34) = true := fun c hc => by simpa using (e5 c hc).1
    constructor
    · rw [e4, List.takeWhile_append_of_pos hp]
      simp [List.takeWhile_cons]
    · rw [e4, List.dropWhile_append_of_pos hp]
      simp [List.dropWhile_cons]
  by_cases hy : u.dropWhile (· != 34) ≠ [] ∧ (dayP (u.takeWhile (· != 34))).2 = 0
  · rw [if_pos ⟨rfl, hy⟩]
    obtain ⟨hy1, hy2⟩ := hy
    obtain ⟨d1, d2⟩ := day_form hy2
    rcases h3 with h3 | ⟨c, t, h3, hc⟩
    · exact absurd h3 hy1
    have hc' : c = 34 := by simpa using hc
    subst hc'
    generalize u.takeWhile (· != 34) = y at *
    rw [h3] at h1 ⊢
    have hs := strL_plain y [] t d2
    rw [← h1, List.nil_append] at hs
    rw [hs]
    simp only
    have hl := congrArg List.length h1
    simp only [List.length_append, List.length_cons] at hl
    rw [if_pos ⟨by omega, hy2⟩]
    rfl
  · rw [if_neg (fun h => hy h.2)]
    split
    · rename_i x r hs
      split
      · rename_i hh
        obtain ⟨k1, k2⟩ := key x r hs hh.1 hh.2
        exact absurd ⟨by rw [k2]; simp, by rw [k1]; exact hh.2⟩ hy
      · rfl
    · rfl
theorem day_none {l : List UInt8} (h : [64, 34].isPrefixOf l = false) : dayT l = .bad 5 := by
  unfold dayT
  rw [if_neg (by rw [h]; simp)]
/-! Signs. -/
def signsL : List (List UInt8) := sg2 ++ sg1.map fun c => [c]
theorem find_pre (k : Nat) (l : List UInt8) : ∀ L : List (List UInt8), (∀ g ∈ L, g.length = k) → L.find? (fun g => g.isPrefixOf l) = if L.contains (l.take k) = true then some (l.take k) else none
  | [], _ => rfl
  | g :: L, h => by
    have ih := find_pre k l L (fun x hx => h x (by simp [hx]))
    have hg := h g (by simp)
    have hp : g.isPrefixOf l = true ↔ l.take k = g := by
      rw [List.isPrefixOf_iff_prefix, List.prefix_iff_eq_take, hg]
      exact eq_comm
    by_cases hq : l.take k = g
    · have hp' := hp.2 hq
      simp only [List.find?_cons, hp']
      rw [hq]
      simp
    · have hp' : g.isPrefixOf l = false := by
        rw [Bool.eq_false_iff]
        exact fun e => hq (hp.1 e)
      simp only [List.find?_cons, hp']
      rw [ih]
      have : (g :: L).contains (l.take k) = L.contains (l.take k) := by
        rw [List.contains_cons, beq_eq_false_iff_ne.2 hq, Bool.false_or]
      rw [this]
theorem sig_find (l : List UInt8) : sigL l = (signsL.find? (fun g => g.isPrefixOf l)).getD [] := by
  unfold sigL signsL
  rw [List.find?_append, find_pre 2 l sg2 (by decide), find_pre 1 l (sg1.map fun c => [c]) (by decide)]
  have e : (sg1.map fun c => [c]).contains (l.take 1) = true ↔ ∃ c ∈ sg1, l.take 1 = [c] := by
    rw [List.contains_iff_mem, List.mem_map]
    constructor
    · rintro ⟨c, hc, h⟩; exact ⟨c, hc, h.symm⟩
    · rintro ⟨c, hc, h⟩; exact ⟨c, hc, h.symm⟩
  by_cases h2 : sg2.contains (l.take 2) = true
  · rw [if_pos h2, if_pos h2]; rfl
  · rw [if_neg h2, if_neg h2]
    by_cases h1 : ∃ c ∈ sg1, l.take 1 = [c]
    · rw [if_pos h1, if_pos (e.2 h1)]; rfl
    · rw [if_neg h1, if_neg (fun h => h1 (e.1 h))]; rfl
theorem sig_mem (l : List UInt8) : (l ≠ [] ∧ sigL l = l) ↔ l ∈ signsL := by
  constructor
  · rintro ⟨h0, h⟩
    rw [sig_find] at h
    cases hf : signsL.find? (fun g => g.isPrefixOf l) with
    | none => rw [hf] at h; exact absurd h.symm h0
    | some g =>
      rw [hf] at h
      have : g = l := h
      subst this
      exact List.mem_of_find?_eq_some hf
  · intro h
    revert l
    decide
/-! Names. -/
theorem nm_gof (l : List UInt8) (i : Nat) : gOf (bytesOf l) 0 i = (l.getD i 0).toNat := by
  rw [gOf_list, bytes_toList, List.drop_zero]
theorem okN_is (i : Nat) (c : UInt8) : okN i c.toNat = if i = 0 then ltB c else nbB c := by
  have e1 : letB c.toNat = ltB c := rfl
  have e2 : dgB c.toNat = fgB c := rfl
  unfold okN
  rw [e1, e2]
  by_cases h : i = 0
  · rw [if_pos h, h]; simp
  · rw [if_neg h, decide_eq_true h, Bool.true_and]; rfl
theorem nm_is (l : List UInt8) : nmOk l = true ↔ (0 < l.length ∧ l.length ≤ 32) ∧ ∀ i c, l[i]? = some c → (if i = 0 then ltB c else nbB c) = true := by
  unfold nmOk nameB
  rw [bytesOf_size, Bool.and_eq_true, decide_eq_true_eq, List.all_eq_true]
  refine and_congr Iff.rfl ⟨fun h i c hc => ?_, fun h i hi => ?_⟩
  · have hlt := (List.getElem?_eq_some_iff.1 hc).1
    have := h i (List.mem_range.2 hlt)
    rw [nm_gof, okN_is, List.getD_eq_getElem?_getD, hc] at this
    exact this
  · have hlt := List.mem_range.1 hi
    have := h i l[i] (List.getElem?_eq_getElem hlt)
    rw [nm_gof, okN_is, List.getD_eq_getElem?_getD, List.getElem?_eq_getElem hlt]
    exact this
theorem nm_one (c : UInt8) : nmOk [c] = ltB c := by
  rw [Bool.eq_iff_iff, nm_is]
  constructor
  · intro h
    have := h.2 0 c rfl
    simpa using this
  · intro h
    refine ⟨by simp, fun i d hd => ?_⟩
    cases i with
    | zero => simp at hd; subst hd; simpa using h
    | succ i => simp at hd
theorem nm_x (c : UInt8) : nmOk [120, c] = nbB c := by
  rw [Bool.eq_iff_iff, nm_is]
  constructor
  · intro h
    have := h.2 1 c rfl
    simpa using this
  · intro h
    refine ⟨by simp, fun i d hd => ?_⟩
    match i, hd with
    | 0, hd => simp at hd; subst hd; decide
    | 1, hd => simp at hd; subst hd; simpa using h
    | i + 2, hd => simp at hd
theorem nm_form {l : List UInt8} (h : nmOk l = true) : l.length ≤ 32 ∧ ∃ c t, l = c :: t ∧ ltB c = true ∧ ∀ b ∈ l, nbB b = true := by
  rw [nm_is] at h
  obtain ⟨⟨h0, h1⟩, h2⟩ := h
  refine ⟨h1, ?_⟩
  cases l with
  | nil => simp at h0
  | cons c t =>
    have hc := h2 0 c rfl
    simp only [if_true] at hc
    refine ⟨c, t, rfl, hc, fun b hb => ?_⟩
    obtain ⟨i, hi⟩ := List.mem_iff_getElem?.1 hb
    have := h2 i b hi
    split at this
    · unfold nbB; rw [this]; rfl
    · exact this
theorem nm_len {l : List UInt8} {c : UInt8} {t : List UInt8} (hl : l = c :: t) (hc : ltB c = true) (ha : ∀ b ∈ l, nbB b = true) : nmOk l = decide (l.length ≤ 32) := by
  rw [Bool.eq_iff_iff, nm_is, decide_eq_true_eq]
  constructor
  · exact fun h => h.1.2
  · intro h
    refine ⟨⟨by rw [hl]; simp, h⟩, fun i b hb => ?_⟩
    have hm := ha b (List.mem_of_getElem? hb)
    split
    · rename_i h0
      subst h0
      rw [hl] at hb
      simp at hb
      subst hb
      exact hc
    · exact hm
end Go.Proofs.YtjckpkamhdbcnaaGreatDoor
