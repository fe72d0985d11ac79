import Derived.Test.YtdggbafpdjenmaaGreatDoorLxn
import Derived.Test.YtdggbafpdjenmaaGreatDoorMtc
namespace Go.Proofs.YtdggbafpdjenmaaGreatDoor
set_option linter.unusedSimpArgs false
set_option linter.unusedVariables false
open Go.RowKit
/-! Cells of tables: plain words. -/
def isK (k : Int) (x : List UInt8) (r : List Tok) : Bool := match r with
  | [] => false
  | t :: _ => decide (t.kind = k) && decide (t.text = x)
abbrev isS (x : List UInt8) (r : List Tok) : Bool := isK 5 x r
def valT (t : Tok) : Option Val :=
  if t.kind = 1 then some ⟨1, t.dn, t.ds, ⟨#[]⟩, 0⟩
  else if t.kind = 2 then some ⟨2, 0, 0, bytesOf t.text, 0⟩
  else if t.kind = 3 then some ⟨4, 0, 0, ⟨#[]⟩, t.day⟩
  else if t.kind = 4 then
    (if t.text = [110, 117, 108, 108] then some ⟨0, 0, 0, ⟨#[]⟩, 0⟩
     else if t.text = [116, 114, 117, 101] then some ⟨3, 0, 0, ⟨#[]⟩, 1⟩
     else if t.text = [102, 97, 108, 115, 101] then some ⟨3, 0, 0, ⟨#[]⟩, 0⟩ else none)
  else none
inductive PR (α : Type) where
  | bad (r : List Tok) (e : Nat)
  | ok (x : α) (r : List Tok)
def negVal (v : Val) : Val := ⟨v.kind, -v.n, v.scale, v.text, v.num⟩
def valP (may : Int → Bool) (r : List Tok) : PR Val :=
  if isS [45] r = true then
    (match r.tail with
    | [] => .bad [] 5
    | t :: r2 => if t.kind = 1 then
        (match valT t with
        | none => .bad (t :: r2) 5
        | some v => if may v.kind = true then .ok (negVal v) r2 else .bad r 5)
        else .bad (t :: r2) 5)
  else
    (match r with
    | [] => .bad [] 5
    | t :: r2 => match valT t with
      | none => .bad (t :: r2) 5
      | some v => if may v.kind = true then .ok v r2 else .bad r 5)
def intP (op : Bool) (r : List Tok) : PR Tst :=
  match valP ordk r with
  | .bad q e => .bad q e
  | .ok lo r2 => if isS [46, 46] r2 = true then
      (match valP (fun k => decide (k = lo.kind)) r2.tail with
      | .bad q e => .bad q e
      | .ok hi r3 => if isS [93] r3 = true then .ok ⟨6, lo, hi, op, false⟩ r3.tail
        else if isS [41] r3 = true ∨ isS [91] r3 = true then .ok ⟨6, lo, hi, op, true⟩ r3.tail else .bad r3 5)
      else .bad r2 5
def oneP (k : Int) (q : PR Val) : PR Tst := match q with
  | .bad q e => .bad q e
  | .ok v r => .ok ⟨k, v, zv, false, false⟩ r
def tstP (r : List Tok) : PR Tst :=
  if isS [60] r = true then oneP 2 (valP ordk r.tail)
  else if isS [60, 61] r = true then oneP 3 (valP ordk r.tail)
  else if isS [62] r = true then oneP 4 (valP ordk r.tail)
  else if isS [62, 61] r = true then oneP 5 (valP ordk r.tail)
  else if isS [91] r = true then intP false r.tail
  else if isS [40] r = true ∨ isS [93] r = true then intP true r.tail
  else oneP 1 (valP (fun _ => true) r)
/-- Tests with commas between: so many may still come. -/
def lstP : Nat → List Tst → List Tok → PR (List Tst)
  | 0, _, r => .bad r 10
  | n + 1, acc, r => match tstP r with
    | .bad q e => .bad q e
    | .ok x r2 => if isS [44] r2 = true then (if n = 0 then .bad r2 10 else lstP n (acc ++ [x]) r2.tail) else .ok (acc ++ [x]) r2
def endP (no : Bool) (q : PR (List Tst)) : PR (Bool × List Tst) := match q with
  | .bad q e => .bad q e
  | .ok l r => if no = true then (if isS [41] r = true then (if r.tail = [] then .ok (true, l) [] else .bad r.tail 5) else .bad r 5)
    else (if r = [] then .ok (false, l) [] else .bad r 5)
def whoP (r : List Tok) : PR (Bool × List Tst) :=
  if isK 4 [110, 111, 116] r = true then (if isS [40] r.tail = true then endP true (lstP 8 [] r.tail.tail) else .bad r.tail 5)
  else endP false (lstP 8 [] r)
def posT (n : Nat) (r : List Tok) : Int := match r with
  | [] => n
  | t :: _ => t.pos
/-- White taken off both ends. -/
def trimL (l : List UInt8) : List UInt8 := (l.reverse.dropWhile wsB).reverse.dropWhile wsB
structure Uts where
  any : Bool
  no : Bool
  list : List Tst
noncomputable def parU (s : ByteArray) : Uts × Int × Nat :=
  if trimL s.data.toList = [45] then (⟨true, false, []⟩, 0, 0)
  else if (tokS s).2.2 = 0 then (match whoP (tokS s).1 with
    | .bad r e => (⟨false, false, []⟩, posT s.size r, e)
    | .ok (no, l) _ => (⟨false, no, l⟩, 0, 0))
  else (⟨false, false, []⟩, (tokS s).2.1, (tokS s).2.2)
/-! Positions do not matter. -/
def eqT (r q : List Tok) : Prop := r.map ters = q.map ters
theorem eqT.tail {r q : List Tok} (h : eqT r q) : eqT r.tail q.tail := by
  unfold eqT at h ⊢
  cases r with
  | nil => cases q with
    | nil => rfl
    | cons u q => simp at h
  | cons t r => cases q with
    | nil => simp at h
    | cons u q =>
      simp only [List.map_cons, List.cons.injEq] at h
      exact h.2
theorem eqT.nil {r q : List Tok} (h : eqT r q) : r = [] ↔ q = [] := by
  unfold eqT at h
  constructor
  · rintro rfl
    exact List.map_eq_nil_iff.1 h.symm
  · rintro rfl
    exact List.map_eq_nil_iff.1 h
theorem isK_ters (k : Int) (x : List UInt8) (r : List Tok) : isK k x (r.map ters) = isK k x r := by cases r <;> rfl
theorem eqT.isK {r q : List Tok} (h : eqT r q) (k : Int) (x : List UInt8) : isK k x r = isK k x q := by
  rw [← isK_ters k x r, ← isK_ters k x q, h]
theorem valT_ters (t : Tok) : valT (ters t) = valT t := rfl
/-- Two answers are alike: both wrong, or the same, and what is left alike. -/
def PR.like {α : Type} (p q : PR α) : Prop := match p, q with
  | .bad _ e, .bad _ f => e = f
  | .ok x r, .ok y s => x = y ∧ eqT r s
  | _, _ => False
theorem eqT.cons {t u : Tok} {r q : List Tok} (h : eqT (t :: r) (u :: q)) : ters t = ters u ∧ eqT r q := by
  unfold eqT at h ⊢
  simpa using h
theorem valP_like (may : Int → Bool) {r q : List Tok} (h : eqT r q) : (valP may r).like (valP may q) := by
  have one : ∀ (r q : List Tok) (f : Val → Val), eqT r q → ∀ (b : Prop) (r0 q0 : List Tok), PR.like (match (motive := List Tok → PR Val) r with
    | [] => .bad [] 5
    | t :: r2 => match valT t with
      | none => .bad (t :: r2) 5
      | some v => if may v.kind = true then .ok v r2 else .bad r0 5) (match (motive := List Tok → PR Val) q with
    | [] => .bad [] 5
    | t :: r2 => match valT t with
      | none => .bad (t :: r2) 5
      | some v => if may v.kind = true then .ok v r2 else .bad q0 5) := by
    intro r q f h b r0 q0
    match r, q, h with
    | [], [], _ => exact rfl
    | [], _ :: _, h => simp [eqT] at h
    | _ :: _, [], h => simp [eqT] at h
    | t :: r, u :: q, h =>
      obtain ⟨h1, h2⟩ := h.cons
      have e : valT t = valT u := by rw [← valT_ters t, ← valT_ters u, h1]
      simp only [e]
      cases valT u with
      | none => exact rfl
      | some v =>
        simp only
        by_cases hm : may v.kind = true
        · rw [if_pos hm, if_pos hm]; exact ⟨rfl, h2⟩
        · rw [if_neg hm, if_neg hm]; exact rfl
  unfold valP
  have hk := h.isK 5 [45]
  by_cases hs : isS [45] q = true
  · rw [if_pos (by rw [show isS [45] r = isS [45] q from hk]; exact hs), if_pos hs]
    have ht := h.tail
    match hr : r.tail, hq : q.tail, ht with
    | [], [], _ => exact rfl
    | [], _ :: _, ht => simp [eqT] at ht
    | _ :: _, [], ht => simp [eqT] at ht
    | t :: r2, u :: q2, ht =>
      obtain ⟨h1, h2⟩ := ht.cons
      have e : valT t = valT u := by rw [← valT_ters t, ← valT_ters u, h1]
      have ek : t.kind = u.kind := by
        have := congrArg Tok.kind h1
        exact this
      simp only [e, ek]
      by_cases h3 : u.kind = 1
      · rw [if_pos h3, if_pos h3]
        cases valT u with
        | none => exact rfl
        | some v =>
          simp only
          by_cases hm : may v.kind = true
          · rw [if_pos hm, if_pos hm]; exact ⟨rfl, h2⟩
          · rw [if_neg hm, if_neg hm]; exact rfl
      · rw [if_neg h3, if_neg h3]; exact rfl
  · rw [if_neg (by rw [show isS [45] r = isS [45] q from hk]; exact hs), if_neg hs]
    exact one r q id h True r q
theorem like_cases {α : Type} {p q : PR α} (h : p.like q) : (∃ r s e, p = .bad r e ∧ q = .bad s e) ∨ ∃ x r s, p = .ok x r ∧ q = .ok x s ∧ eqT r s := by
  cases p with
  | bad r e => cases q with
    | bad s f => exact .inl ⟨r, s, e, rfl, by rw [show e = f from h]⟩
    | ok y s => exact h.elim
  | ok x r => cases q with
    | bad s f => exact h.elim
    | ok y s => exact .inr ⟨x, r, s, rfl, by rw [h.1], h.2⟩
theorem intP_like (op : Bool) {r q : List Tok} (h : eqT r q) : (intP op r).like (intP op q) := by
  unfold intP
  rcases like_cases (valP_like ordk h) with ⟨a, b, e, h1, h2⟩ | ⟨lo, a, b, h1, h2, h3⟩
  · rw [h1, h2]; exact rfl
  · rw [h1, h2]
    simp only
    rw [show isS [46, 46] a = isS [46, 46] b from h3.isK _ _]
    by_cases hs : isS [46, 46] b = true
    · rw [if_pos hs, if_pos hs]
      rcases like_cases (valP_like (fun k => decide (k = lo.kind)) h3.tail) with ⟨c, d, e, h4, h5⟩ | ⟨hi, c, d, h4, h5, h6⟩
      · rw [h4, h5]; exact rfl
      · rw [h4, h5]
        simp only
        rw [show isS [93] c = isS [93] d from h6.isK _ _, show isS [41] c = isS [41] d from h6.isK _ _, show isS [91] c = isS [91] d from h6.isK _ _]
        by_cases k1 : isS [93] d = true
        · rw [if_pos k1, if_pos k1]; exact ⟨rfl, h6.tail⟩
        · rw [if_neg k1, if_neg k1]
          by_cases k2 : isS [41] d = true ∨ isS [91] d = true
          · rw [if_pos k2, if_pos k2]; exact ⟨rfl, h6.tail⟩
          · rw [if_neg k2, if_neg k2]; exact rfl
    · rw [if_neg hs, if_neg hs]; exact rfl
theorem oneP_like (k : Int) {p q : PR Val} (h : p.like q) : (oneP k p).like (oneP k q) := by
  rcases like_cases h with ⟨a, b, e, rfl, rfl⟩ | ⟨lo, a, b, rfl, rfl, h3⟩
  · exact rfl
  · exact ⟨rfl, h3⟩
theorem tstP_like {r q : List Tok} (h : eqT r q) : (tstP r).like (tstP q) := by
  unfold tstP
  rw [show isS [60] r = isS [60] q from h.isK _ _, show isS [60, 61] r = isS [60, 61] q from h.isK _ _, show isS [62] r = isS [62] q from h.isK _ _, show isS [62, 61] r = isS [62, 61] q from h.isK _ _, show isS [91] r = isS [91] q from h.isK _ _, show isS [40] r = isS [40] q from h.isK _ _, show isS [93] r = isS [93] q from h.isK _ _]
  by_cases k1 : isS [60] q = true
  · rw [if_pos k1, if_pos k1]; exact oneP_like _ (valP_like _ h.tail)
  rw [if_neg k1, if_neg k1]
  by_cases k2 : isS [60, 61] q = true
  · rw [if_pos k2, if_pos k2]; exact oneP_like _ (valP_like _ h.tail)
  rw [if_neg k2, if_neg k2]
  by_cases k3 : isS [62] q = true
  · rw [if_pos k3, if_pos k3]; exact oneP_like _ (valP_like _ h.tail)
  rw [if_neg k3, if_neg k3]
  by_cases k4 : isS [62, 61] q = true
  · rw [if_pos k4, if_pos k4]; exact oneP_like _ (valP_like _ h.tail)
  rw [if_neg k4, if_neg k4]
  by_cases k5 : isS [91] q = true
  · rw [if_pos k5, if_pos k5]; exact intP_like _ h.tail
  rw [if_neg k5, if_neg k5]
  by_cases k6 : isS [40] q = true ∨ isS [93] q = true
  · rw [if_pos k6, if_pos k6]; exact intP_like _ h.tail
  rw [if_neg k6, if_neg k6]
  exact oneP_like _ (valP_like _ h)
theorem lstP_like : ∀ (n : Nat) (acc : List Tst) {r q : List Tok}, eqT r q → (lstP n acc r).like (lstP n acc q)
  | 0, _, _, _, _ => rfl
  | n + 1, acc, r, q, h => by
    unfold lstP
    rcases like_cases (tstP_like h) with ⟨a, b, e, h1, h2⟩ | ⟨x, a, b, h1, h2, h3⟩
    · rw [h1, h2]; exact rfl
    · rw [h1, h2]
      simp only
      rw [show isS [44] a = isS [44] b from h3.isK _ _]
      by_cases k : isS [44] b = true
      · rw [if_pos k, if_pos k]
        by_cases hn : n = 0
        · rw [if_pos hn, if_pos hn]; exact rfl
        · rw [if_neg hn, if_neg hn]; exact lstP_like n _ h3.tail
      · rw [if_neg k, if_neg k]; exact ⟨rfl, h3⟩
theorem endP_like (no : Bool) {p q : PR (List Tst)} (h : p.like q) : (endP no p).like (endP no q) := by
  rcases like_cases h with ⟨a, b, e, rfl, rfl⟩ | ⟨l, a, b, rfl, rfl, h3⟩
  · exact rfl
  · unfold endP
    simp only
    cases no with
    | true =>
      simp only [if_true]
      rw [show isS [41] a = isS [41] b from h3.isK _ _]
      by_cases k : isS [41] b = true
      · rw [if_pos k, if_pos k]
        by_cases hn : b.tail = []
        · rw [if_pos hn, if_pos (h3.tail.nil.2 hn)]; exact ⟨rfl, rfl⟩
        · rw [if_neg hn, if_neg (fun h => hn (h3.tail.nil.1 h))]; exact rfl
      · rw [if_neg k, if_neg k]; exact rfl
    | false =>
      simp only [Bool.false_eq_true, if_false]
      by_cases hn : b = []
      · rw [if_pos hn, if_pos (h3.nil.2 hn)]; exact ⟨rfl, rfl⟩
      · rw [if_neg hn, if_neg (fun h => hn (h3.nil.1 h))]; exact rfl
theorem whoP_like {r q : List Tok} (h : eqT r q) : (whoP r).like (whoP q) := by
  unfold whoP
  rw [show isK 4 [110, 111, 116] r = isK 4 [110, 111, 116] q from h.isK _ _, show isS [40] r.tail = isS [40] q.tail from h.tail.isK _ _]
  by_cases k1 : isK 4 [110, 111, 116] q = true
  · rw [if_pos k1, if_pos k1]
    by_cases k2 : isS [40] q.tail = true
    · rw [if_pos k2, if_pos k2]; exact endP_like _ (lstP_like 8 _ h.tail.tail)
    · rw [if_neg k2, if_neg k2]; exact rfl
  · rw [if_neg k1, if_neg k1]; exact endP_like _ (lstP_like 8 _ h)
/-! What is right stays right when more stands behind. -/
theorem isK_app (k : Int) (x : List UInt8) {r : List Tok} (h : r ≠ []) (y : List Tok) : isK k x (r ++ y) = isK k x r := by
  cases r with
  | nil => exact absurd rfl h
  | cons t r => rfl
theorem tail_app {r : List Tok} (h : r ≠ []) (y : List Tok) : (r ++ y).tail = r.tail ++ y := by
  cases r with
  | nil => exact absurd rfl h
  | cons t r => rfl
theorem isK_ne {k : Int} {x : List UInt8} {r : List Tok} (h : isK k x r = true) : r ≠ [] := by rintro rfl; cases h
theorem valP_ne {may : Int → Bool} {r r2 : List Tok} {v : Val} (h : valP may r = .ok v r2) : r ≠ [] := by rintro rfl; cases h
theorem valP_app {may : Int → Bool} {r r2 : List Tok} {v : Val} (h : valP may r = .ok v r2) (y : List Tok) : valP may (r ++ y) = .ok v (r2 ++ y) := by
  have hne := valP_ne h
  unfold valP at h ⊢
  rw [show isS [45] (r ++ y) = isS [45] r from isK_app _ _ hne y, tail_app hne y]
  by_cases hs : isS [45] r = true
  · rw [if_pos hs] at h ⊢
    match hr : r.tail, h with
    | [], h => cases h
    | t :: r3, h =>
      simp only [List.cons_append] at h ⊢
      by_cases h3 : t.kind = 1
      · rw [if_pos h3] at h ⊢
        cases hv : valT t with
        | none => rw [hv] at h; cases h
        | some v =>
          rw [hv] at h
          simp only at h ⊢
          by_cases hm : may v.kind = true
          · rw [if_pos hm] at h ⊢; cases h; rfl
          · rw [if_neg hm] at h; cases h
      · rw [if_neg h3] at h; cases h
  · rw [if_neg hs] at h ⊢
    match r, h with
    | [], h => cases h
    | t :: r3, h =>
      simp only [List.cons_append] at h ⊢
      cases hv : valT t with
      | none => rw [hv] at h; cases h
      | some v =>
        rw [hv] at h
        simp only at h ⊢
        by_cases hm : may v.kind = true
        · rw [if_pos hm] at h ⊢; cases h; rfl
        · rw [if_neg hm] at h; cases h
theorem intP_app {op : Bool} {r r2 : List Tok} {x : Tst} (h : intP op r = .ok x r2) (y : List Tok) : intP op (r ++ y) = .ok x (r2 ++ y) := by
  unfold intP at h ⊢
  cases h1 : valP ordk r with
  | bad q e => rw [h1] at h; cases h
  | ok lo a =>
    rw [h1] at h
    rw [valP_app h1 y]
    simp only at h ⊢
    by_cases hs : isS [46, 46] a = true
    · have ha := isK_ne hs
      rw [if_pos hs] at h
      rw [show isS [46, 46] (a ++ y) = isS [46, 46] a from isK_app _ _ ha y, if_pos hs, tail_app ha]
      cases h2 : valP (fun k => decide (k = lo.kind)) a.tail with
      | bad q e => rw [h2] at h; cases h
      | ok hi b =>
        rw [h2] at h
        rw [valP_app h2 y]
        simp only at h ⊢
        have hb : b ≠ [] := by
          rintro rfl
          simp [isS, isK] at h
        rw [show isS [93] (b ++ y) = isS [93] b from isK_app _ _ hb y, show isS [41] (b ++ y) = isS [41] b from isK_app _ _ hb y, show isS [91] (b ++ y) = isS [91] b from isK_app _ _ hb y, tail_app hb]
        by_cases k1 : isS [93] b = true
        · rw [if_pos k1] at h ⊢; cases h; rfl
        · rw [if_neg k1] at h ⊢
          by_cases k2 : isS [41] b = true ∨ isS [91] b = true
          · rw [if_pos k2] at h ⊢; cases h; rfl
          · rw [if_neg k2] at h; cases h
    · rw [if_neg hs] at h; cases h
theorem oneP_ok {k : Int} {p : PR Val} {x : Tst} {r : List Tok} (h : oneP k p = .ok x r) : ∃ v, p = .ok v r ∧ x = ⟨k, v, zv, false, false⟩ := by
  cases p with
  | bad q e => cases h
  | ok v q => cases h; exact ⟨v, rfl, rfl⟩
theorem tstP_ne {r r2 : List Tok} {x : Tst} (h : tstP r = .ok x r2) : r ≠ [] := by rintro rfl; cases h
theorem tstP_app {r r2 : List Tok} {x : Tst} (h : tstP r = .ok x r2) (y : List Tok) : tstP (r ++ y) = .ok x (r2 ++ y) := by
  have hne := tstP_ne h
  have hk : ∀ z, isS z (r ++ y) = isS z r := fun z => isK_app _ _ hne y
  unfold tstP at h ⊢
  simp only [hk, tail_app hne y]
  have o : ∀ (k : Int) (m : Int → Bool) (q : List Tok), oneP k (valP m q) = .ok x r2 → oneP k (valP m (q ++ y)) = .ok x (r2 ++ y) := by
    intro k m q hh
    obtain ⟨v, h1, rfl⟩ := oneP_ok hh
    rw [valP_app h1 y]
    rfl
  by_cases k1 : isS [60] r = true
  · rw [if_pos k1] at h ⊢; exact o _ _ _ h
  rw [if_neg k1] at h ⊢
  by_cases k2 : isS [60, 61] r = true
  · rw [if_pos k2] at h ⊢; exact o _ _ _ h
  rw [if_neg k2] at h ⊢
  by_cases k3 : isS [62] r = true
  · rw [if_pos k3] at h ⊢; exact o _ _ _ h
  rw [if_neg k3] at h ⊢
  by_cases k4 : isS [62, 61] r = true
  · rw [if_pos k4] at h ⊢; exact o _ _ _ h
  rw [if_neg k4] at h ⊢
  by_cases k5 : isS [91] r = true
  · rw [if_pos k5] at h ⊢; exact intP_app h y
  rw [if_neg k5] at h ⊢
  by_cases k6 : isS [40] r = true ∨ isS [93] r = true
  · rw [if_pos k6] at h ⊢; exact intP_app h y
  rw [if_neg k6] at h ⊢
  exact o _ _ _ h
theorem lstP_app (y : List Tok) (hy : isS [44] y = false) : ∀ (n : Nat) (acc : List Tst) {r r2 : List Tok} {l : List Tst}, lstP n acc r = .ok l r2 → lstP n acc (r ++ y) = .ok l (r2 ++ y)
  | 0, _, _, _, _, h => by cases h
  | n + 1, acc, r, r2, l, h => by
    unfold lstP at h ⊢
    cases h1 : tstP r with
    | bad q e => rw [h1] at h; cases h
    | ok x a =>
      rw [h1] at h
      rw [tstP_app h1 y]
      simp only at h ⊢
      by_cases ha : a = []
      · subst ha
        have e : isS [44] ([] : List Tok) = false := rfl
        rw [if_neg (by rw [e]; decide)] at h
        cases h
        rw [List.nil_append, if_neg (by rw [hy]; decide)]
      · rw [show isS [44] (a ++ y) = isS [44] a from isK_app _ _ ha y, tail_app ha]
        by_cases k : isS [44] a = true
        · rw [if_pos k] at h ⊢
          by_cases hn : n = 0
          · rw [if_pos hn] at h; cases h
          · rw [if_neg hn] at h ⊢; exact lstP_app y hy n _ h
        · rw [if_neg k] at h ⊢; cases h; rfl
/-- not( ) around tests. -/
theorem whoP_not {ts : List Tok} {l : List Tst} {q : List Tok} (h : whoP ts = .ok (false, l) q) (t u v : Tok) (ht : isK 4 [110, 111, 116] [t] = true) (hu : isS [40] [u] = true) (hv : isS [41] [v] = true) (hv2 : isS [44] [v] = false) :
    whoP (t :: u :: (ts ++ [v])) = .ok (true, l) [] := by
  unfold whoP at h
  have hn : ¬ isK 4 [110, 111, 116] ts = true := by
    intro hk
    rw [if_pos hk] at h
    by_cases h2 : isS [40] ts.tail = true
    · rw [if_pos h2] at h
      unfold endP at h
      cases h3 : lstP 8 [] ts.tail.tail with
      | bad q e => rw [h3] at h; cases h
      | ok l r =>
        rw [h3] at h
        simp only [if_true] at h
        by_cases h4 : isS [41] r = true
        · rw [if_pos h4] at h
          by_cases h5 : r.tail = []
          · rw [if_pos h5] at h; cases h
          · rw [if_neg h5] at h; cases h
        · rw [if_neg h4] at h; cases h
    · rw [if_neg h2] at h; cases h
  rw [if_neg hn] at h
  unfold endP at h
  cases h3 : lstP 8 [] ts with
  | bad q e => rw [h3] at h; cases h
  | ok l' r =>
    rw [h3] at h
    simp only [Bool.false_eq_true, if_false] at h
    by_cases h5 : r = []
    · rw [if_pos h5] at h
      subst h5
      cases h
      unfold whoP
      have e1 : isK 4 [110, 111, 116] (t :: u :: (ts ++ [v])) = true := ht
      have e2 : isS [40] (t :: u :: (ts ++ [v])).tail = true := hu
      rw [if_pos e1, if_pos e2]
      simp only [List.tail_cons]
      rw [lstP_app [v] hv2 8 [] h3]
      unfold endP
      simp only [List.nil_append, if_true]
      rw [if_pos hv, List.tail_cons, if_pos rfl]
    · rw [if_neg h5] at h; cases h
/-! What is read is sound. -/
def TokGood (t : Tok) : Prop := ∀ v, valT t = some v → vsnd v = true ∧ (t.kind = 1 → vsnd (negVal v) = true)
theorem valT_kind {t : Tok} {v : Val} (h : valT t = some v) (hk : t.kind = 1) : v.kind = 1 := by
  unfold valT at h
  rw [if_pos hk] at h
  cases h
  rfl
theorem mem_tail {α : Type} {x : α} {l : List α} (h : x ∈ l.tail) : x ∈ l := by
  cases l with
  | nil => cases h
  | cons a l => exact List.mem_cons_of_mem _ h
theorem valP_good {may : Int → Bool} {r r2 : List Tok} {v : Val} (hg : ∀ t ∈ r, TokGood t) (h : valP may r = .ok v r2) : vsnd v = true ∧ may v.kind = true ∧ ∀ t ∈ r2, t ∈ r := by
  unfold valP at h
  by_cases hs : isS [45] r = true
  · rw [if_pos hs] at h
    match hr : r.tail, h with
    | [], h => cases h
    | t :: r3, h =>
      have htr : t ∈ r := mem_tail (by rw [hr]; simp)
      simp only at h
      by_cases h3 : t.kind = 1
      · rw [if_pos h3] at h
        cases hv : valT t with
        | none => rw [hv] at h; cases h
        | some v =>
          rw [hv] at h
          simp only at h
          by_cases hm : may v.kind = true
          · rw [if_pos hm] at h
            cases h
            exact ⟨(hg t htr v hv).2 h3, hm, fun u hu => mem_tail (by rw [hr]; exact List.mem_cons_of_mem _ hu)⟩
          · rw [if_neg hm] at h; cases h
      · rw [if_neg h3] at h; cases h
  · rw [if_neg hs] at h
    match r, hg, h with
    | [], _, h => cases h
    | t :: r3, hg, h =>
      simp only at h
      cases hv : valT t with
      | none => rw [hv] at h; cases h
      | some v =>
        rw [hv] at h
        simp only at h
        by_cases hm : may v.kind = true
        · rw [if_pos hm] at h
          cases h
          exact ⟨(hg t (by simp) v hv).1, hm, fun u hu => List.mem_cons_of_mem _ hu⟩
        · rw [if_neg hm] at h; cases h
theorem tsnd_bet {lo hi : Val} {a b : Bool} (h1 : vsnd lo = true) (h2 : vsnd hi = true) (h3 : ordk lo.kind = true) (h4 : hi.kind = lo.kind) : tsnd ⟨6, lo, hi, a, b⟩ = true := by
  show (if (6 : Int) = 1 then _ else if (6 : Int) = 2 ∨ (6 : Int) = 3 ∨ (6 : Int) = 4 ∨ (6 : Int) = 5 then _ else if (6 : Int) = 6 then (vsnd lo && vsnd hi && ordk lo.kind && decide (hi.kind = lo.kind)) else false) = true
  rw [if_neg (by decide), if_neg (by decide), if_pos rfl, h1, h2, h3, h4]
  simp
theorem tsnd_low2 {k : Int} {v : Val} (hk : k = 2 ∨ k = 3 ∨ k = 4 ∨ k = 5) (h1 : vsnd v = true) (h3 : ordk v.kind = true) : tsnd ⟨k, v, zv, false, false⟩ = true := by
  show (if k = 1 then _ else if k = 2 ∨ k = 3 ∨ k = 4 ∨ k = 5 then (teq ⟨k, v, zv, false, false⟩ ⟨k, v, zv, false, false⟩ && vsnd v && ordk v.kind) else _) = true
  rw [if_neg (by omega), if_pos hk, h1, h3, (teq_iff _ _).2 rfl]
  rfl
theorem tsnd_val {v : Val} (h1 : vsnd v = true) : tsnd ⟨1, v, zv, false, false⟩ = true := by
  show (if (1 : Int) = 1 then (teq ⟨1, v, zv, false, false⟩ ⟨1, v, zv, false, false⟩ && vsnd v) else _) = true
  rw [if_pos rfl, h1, (teq_iff _ _).2 rfl]
  rfl
theorem intP_good {op : Bool} {r r2 : List Tok} {x : Tst} (hg : ∀ t ∈ r, TokGood t) (h : intP op r = .ok x r2) : tsnd x = true ∧ ∀ t ∈ r2, t ∈ r := by
  unfold intP at h
  cases h1 : valP ordk r with
  | bad q e => rw [h1] at h; cases h
  | ok lo a =>
    rw [h1] at h
    obtain ⟨g1, g2, g3⟩ := valP_good hg h1
    simp only at h
    by_cases hs : isS [46, 46] a = true
    · rw [if_pos hs] at h
      cases h2 : valP (fun k => decide (k = lo.kind)) a.tail with
      | bad q e => rw [h2] at h; cases h
      | ok hi b =>
        rw [h2] at h
        obtain ⟨g4, g5, g6⟩ := valP_good (fun t ht => hg t (g3 t (mem_tail ht))) h2
        simp only at h
        by_cases k1 : isS [93] b = true
        · rw [if_pos k1] at h
          cases h
          exact ⟨tsnd_bet g1 g4 g2 (of_decide_eq_true g5), fun t ht => g3 t (mem_tail (g6 t (mem_tail ht)))⟩
        · rw [if_neg k1] at h
          by_cases k2 : isS [41] b = true ∨ isS [91] b = true
          · rw [if_pos k2] at h
            cases h
            exact ⟨tsnd_bet g1 g4 g2 (of_decide_eq_true g5), fun t ht => g3 t (mem_tail (g6 t (mem_tail ht)))⟩
          · rw [if_neg k2] at h; cases h
    · rw [if_neg hs] at h; cases h
theorem tstP_good {r r2 : List Tok} {x : Tst} (hg : ∀ t ∈ r, TokGood t) (h : tstP r = .ok x r2) : tsnd x = true ∧ ∀ t ∈ r2, t ∈ r := by
  have hgt : ∀ t ∈ r.tail, TokGood t := fun t ht => hg t (mem_tail ht)
  have o : ∀ k : Int, k = 2 ∨ k = 3 ∨ k = 4 ∨ k = 5 → oneP k (valP ordk r.tail) = .ok x r2 → tsnd x = true ∧ ∀ t ∈ r2, t ∈ r := by
    intro k hk hh
    obtain ⟨v, h1, rfl⟩ := oneP_ok hh
    obtain ⟨g1, g2, g3⟩ := valP_good hgt h1
    exact ⟨tsnd_low2 hk g1 g2, fun t ht => mem_tail (g3 t ht)⟩
  have i : ∀ op, intP op r.tail = .ok x r2 → tsnd x = true ∧ ∀ t ∈ r2, t ∈ r := by
    intro op hh
    obtain ⟨g1, g2⟩ := intP_good hgt hh
    exact ⟨g1, fun t ht => mem_tail (g2 t ht)⟩
  unfold tstP at h
  by_cases k1 : isS [60] r = true
  · rw [if_pos k1] at h; exact o _ (by decide) h
  rw [if_neg k1] at h
  by_cases k2 : isS [60, 61] r = true
  · rw [if_pos k2] at h; exact o _ (by decide) h
  rw [if_neg k2] at h
  by_cases k3 : isS [62] r = true
  · rw [if_pos k3] at h; exact o _ (by decide) h
  rw [if_neg k3] at h
  by_cases k4 : isS [62, 61] r = true
  · rw [if_pos k4] at h; exact o _ (by decide) h
  rw [if_neg k4] at h
  by_cases k5 : isS [91] r = true
  · rw [if_pos k5] at h; exact i _ h
  rw [if_neg k5] at h
  by_cases k6 : isS [40] r = true ∨ isS [93] r = true
  · rw [if_pos k6] at h; exact i _ h
  rw [if_neg k6] at h
  obtain ⟨v, h1, rfl⟩ := oneP_ok h
  obtain ⟨g1, g2, g3⟩ := valP_good hg h1
  exact ⟨tsnd_val g1, g3⟩
theorem lstP_good : ∀ (n : Nat) (acc : List Tst) {r r2 : List Tok} {l : List Tst}, (∀ t ∈ r, TokGood t) → (∀ x ∈ acc, tsnd x = true) → lstP n acc r = .ok l r2 → (∀ x ∈ l, tsnd x = true) ∧ acc.length < l.length ∧ l.length ≤ acc.length + n
  | 0, _, _, _, _, _, _, h => by cases h
  | n + 1, acc, r, r2, l, hg, ha, h => by
    unfold lstP at h
    cases h1 : tstP r with
    | bad q e => rw [h1] at h; cases h
    | ok x a =>
      rw [h1] at h
      obtain ⟨g1, g2⟩ := tstP_good hg h1
      have ha2 : ∀ z ∈ acc ++ [x], tsnd z = true := by
        intro z hz
        rcases List.mem_append.1 hz with hz | hz
        · exact ha z hz
        · rw [List.mem_singleton.1 hz]; exact g1
      simp only at h
      by_cases k : isS [44] a = true
      · rw [if_pos k] at h
        by_cases hn : n = 0
        · rw [if_pos hn] at h; cases h
        · rw [if_neg hn] at h
          obtain ⟨q1, q2, q3⟩ := lstP_good n _ (fun t ht => hg t (g2 t (mem_tail ht))) ha2 h
          rw [List.length_append, List.length_singleton] at q2 q3
          exact ⟨q1, by omega, by omega⟩
      · rw [if_neg k] at h
        cases h
        refine ⟨ha2, ?_, ?_⟩ <;> rw [List.length_append, List.length_singleton] <;> omega
theorem endP_ok {no : Bool} {p : PR (List Tst)} {b : Bool} {l : List Tst} {q : List Tok} (h : endP no p = .ok (b, l) q) : b = no ∧ ∃ r, p = .ok l r := by
  cases p with
  | bad q e => cases h
  | ok l' r =>
    unfold endP at h
    simp only at h
    cases no with
    | true =>
      simp only [if_true] at h
      split at h
      · split at h
        · cases h; exact ⟨rfl, _, rfl⟩
        · cases h
      · cases h
    | false =>
      simp only [Bool.false_eq_true, if_false] at h
      split at h
      · cases h; exact ⟨rfl, _, rfl⟩
      · cases h
theorem whoP_good {ts q : List Tok} {b : Bool} {l : List Tst} (hg : ∀ t ∈ ts, TokGood t) (h : whoP ts = .ok (b, l) q) : (∀ x ∈ l, tsnd x = true) ∧ 0 < l.length ∧ l.length ≤ 8 := by
  unfold whoP at h
  have key : ∀ (no : Bool) (r : List Tok), (∀ t ∈ r, TokGood t) → endP no (lstP 8 [] r) = .ok (b, l) q → (∀ x ∈ l, tsnd x = true) ∧ 0 < l.length ∧ l.length ≤ 8 := by
    intro no r hr hh
    obtain ⟨_, r2, h2⟩ := endP_ok hh
    obtain ⟨g1, g2, g3⟩ := lstP_good 8 [] hr (fun x hx => by cases hx) h2
    exact ⟨g1, by simpa using g2, by simpa using g3⟩
  split at h
  · split at h
    · exact key _ _ (fun t ht => hg t (mem_tail (mem_tail ht))) h
    · cases h
  · exact key _ _ hg h
/-! What may stand behind a token without a blank. -/
def Bd (y : List UInt8) : Prop := y = [] ∨ ∃ c t, y = c :: t ∧ fgB c = false ∧ nbB c = false ∧ c ≠ 61 ∧ (c = 46 → ∃ u, t = 46 :: u)
theorem bd_nil : Bd [] := .inl rfl
theorem bd_cons {c : UInt8} (t : List UInt8) (h : fgB c = false ∧ nbB c = false ∧ c ≠ 61 ∧ c ≠ 46) : Bd (c :: t) := .inr ⟨c, t, rfl, h.1, h.2.1, h.2.2.1, fun e => absurd e h.2.2.2⟩
theorem bd_dots (t : List UInt8) : Bd (46 :: 46 :: t) := .inr ⟨46, 46 :: t, rfl, by decide, by decide, by decide, fun _ => ⟨t, rfl⟩⟩
theorem Bd.fg {y : List UInt8} (h : Bd y) : y = [] ∨ ∃ c t, y = c :: t ∧ fgB c = false := by
  rcases h with h | ⟨c, t, h1, h2, _⟩
  · exact .inl h
  · exact .inr ⟨c, t, h1, h2⟩
theorem Bd.nb {y : List UInt8} (h : Bd y) : y = [] ∨ ∃ c t, y = c :: t ∧ nbB c = false := by
  rcases h with h | ⟨c, t, h1, _, h2, _⟩
  · exact .inl h
  · exact .inr ⟨c, t, h1, h2⟩
theorem nmbL_bd (x y : List UInt8) (hy : Bd y) : nmbL (x ++ y) = ((nmbL x).1, (nmbL x).2 ++ y) := by
  have hq := hy.fg
  obtain ⟨h1, h2⟩ := span_app fgB x y hq
  unfold nmbL
  rw [h1, h2]
  match hx : x.dropWhile fgB with
  | [] =>
    simp only [List.nil_append]
    rcases hy with rfl | ⟨c, t, rfl, hc, _, _, h46⟩
    · rfl
    · cases t with
      | nil => rfl
      | cons d r =>
        by_cases hc46 : c = 46
        · obtain ⟨u, hu⟩ := h46 hc46
          cases hu
          have : fgB 46 = false := by decide
          simp only [this, Bool.false_eq_true, and_false, if_false]
        · simp only [hc46, false_and, if_false]
  | [p] =>
    simp only [List.cons_append, List.nil_append]
    rcases hy with rfl | ⟨c, t, rfl, hc, _⟩
    · rfl
    · simp only [hc, Bool.false_eq_true, and_false, if_false]
  | p :: d :: r =>
    simp only [List.cons_append]
    obtain ⟨h3, h4⟩ := span_app fgB (d :: r) y hq
    rw [List.cons_append] at h3 h4
    by_cases hp : p = 46 ∧ fgB d = true
    · rw [if_pos hp, if_pos hp, h3, h4]
    · rw [if_neg hp, if_neg hp]
      rfl
theorem sigL_bd (x y : List UInt8) (hx : x ≠ []) (hy : Bd y) (h : sigL x ≠ []) : sigL (x ++ y) = sigL x := by
  cases x with
  | nil => exact absurd rfl hx
  | cons a x =>
    cases x with
    | cons b x => simp [sigL]
    | nil =>
      rcases hy with rfl | ⟨c, t, rfl, hc, _, h61, h46⟩
      · rfl
      · have ha : a ≠ 46 := by
          rintro rfl
          exact h (by decide)
        have h2 : sg2.contains [a, c] = false := by
          simp [sg2, h61, ha]
        have h3 : sg2.contains [a] = false := by simp [sg2]
        simp only [sigL, List.cons_append, List.nil_append, List.take_succ_cons, List.take_zero, List.take_nil, h2, h3, Bool.false_eq_true, if_false]
        rfl
theorem firT_bd {c : UInt8} {x y r : List UInt8} {m : Option Tok} (hx : x ≠ []) (hy : Bd y) (h : firT c x = .ok r m) : firT c (x ++ y) = .ok (r ++ y) m := by
  unfold firT at h ⊢
  split at h
  · rename_i h0
    rw [if_pos h0]
    unfold numT at h ⊢
    rw [nmbL_bd x y hy]
    simp only
    split at h
    · rename_i h1
      rw [if_pos h1]
      cases h
      rfl
    · cases h
  · rename_i h0
    rw [if_neg h0]
    split at h
    · rename_i h1
      rw [if_pos h1]
      unfold strT at h ⊢
      split at h
      · rename_i z r' hz
        have hd : (x ++ y).drop 1 = x.drop 1 ++ y := by
          cases x with
          | nil => exact absurd rfl hx
          | cons _ _ => rfl
        rw [hd, strL_app _ (x.drop 1) [] (Nat.le_refl _) y z r' hz]
        simp only
        split at h
        · rename_i h2
          rw [if_pos h2]
          cases h
          rfl
        · cases h
      · cases h
    · rename_i h1
      rw [if_neg h1]
      split at h
      · rename_i h2
        rw [if_pos h2]
        unfold dayT at h ⊢
        split at h
        · rename_i h3
          obtain ⟨k1, k2, k3⟩ := h3
          have hl : 2 ≤ x.length := by
            match x, k1 with
            | [], k1 => simp at k1
            | [a], k1 => simp [List.isPrefixOf] at k1
            | a :: b :: x, _ => simp
          have hd : (x ++ y).drop 2 = x.drop 2 ++ y := List.drop_append_of_le_length hl
          have hp : [64, 34].isPrefixOf (x ++ y) = true := by
            match x, k1 with
            | [], k1 => simp at k1
            | [a], k1 => simp [List.isPrefixOf] at k1
            | a :: b :: x, k1 => simpa [List.isPrefixOf] using k1
          have sp : ∀ (u : List UInt8), u.dropWhile (· != 34) ≠ [] → (u ++ y).takeWhile (· != 34) = u.takeWhile (· != 34) ∧ (u ++ y).dropWhile (· != 34) = u.dropWhile (· != 34) ++ y := by
            intro u
            induction u with
            | nil => intro hu; exact absurd rfl hu
            | cons a u ih =>
              intro hu
              by_cases ha : (a != 34) = true
              · rw [List.dropWhile_cons, if_pos ha] at hu
                obtain ⟨i1, i2⟩ := ih hu
                simp only [List.cons_append, List.takeWhile_cons, List.dropWhile_cons, ha, if_true, i1, i2, and_self]
              · simp only [List.cons_append, List.takeWhile_cons, List.dropWhile_cons, if_neg ha, and_self]
          obtain ⟨s1, s2⟩ := sp _ k2
          rw [hd, s1, s2, if_pos ⟨hp, by simp [k2], k3⟩]
          cases h
          have : (List.dropWhile (· != 34) (x.drop 2) ++ y).drop 1 = (List.dropWhile (· != 34) (x.drop 2)).drop 1 ++ y := by
            cases hh : List.dropWhile (· != 34) (x.drop 2) with
            | nil => exact absurd hh k2
            | cons _ _ => rfl
          rw [this]
        · cases h
      · rename_i h2
        rw [if_neg h2]
        split at h
        · rename_i h3
          rw [if_pos h3]
          unfold namT at h ⊢
          obtain ⟨s1, s2⟩ := span_app nbB x y hy.nb
          rw [s1, s2]
          split at h
          · rename_i h4
            rw [if_pos h4]
            cases h
            rfl
          · cases h
        · rename_i h3
          rw [if_neg h3]
          unfold sigT at h ⊢
          split at h
          · cases h
          · rename_i h4
            have e := sigL_bd x y hx hy h4
            rw [e, if_neg h4]
            cases h
            rw [List.drop_append_of_le_length (sigL_len x)]
theorem step_bd {x y r : List UInt8} {m : Option Tok} (hx : x ≠ []) (hy : Bd y) (h : stepT x = .ok r m) : stepT (x ++ y) = .ok (r ++ y) m := by
  cases x with
  | nil => exact absurd rfl hx
  | cons c x =>
    rw [List.cons_append, stepT_cons]
    rw [stepT_cons] at h
    by_cases h0 : wsB c = true
    · rw [if_pos h0] at h ⊢
      cases h
      rfl
    · rw [if_neg h0] at h ⊢
      rw [← List.cons_append]
      exact firT_bd hx hy h
theorem Run.bd {p : Nat} {l l2 y : List UInt8} {ms : List Tok} (h : Run p l ms l2) (hy : Bd y) : Run p (l ++ y) ms (l2 ++ y) := by
  induction h with
  | nil p l => exact .nil _ _
  | @cons p l r m ms l2 hs hr ih =>
    have hne : l ≠ [] := by rintro rfl; cases hs
    refine .cons (step_bd hne hy hs) ?_
    obtain ⟨q, hq, _⟩ := step_suf hs
    rw [show (l ++ y).length - (r ++ y).length = l.length - r.length by simp only [List.length_append]; omega]
    exact ih
/-! Pieces of a text and their tokens. -/
/-- x, with y behind, is these tokens. -/
def RT (x : List UInt8) (ts : List Tok) (y : List UInt8) : Prop := ∀ p, ∃ ns, Run p (x ++ y) ns y ∧ ns.map ters = ts.map ters
theorem RT.nil (y : List UInt8) : RT [] [] y := fun p => ⟨[], .nil _ _, rfl⟩
theorem RT.app {a b y : List UInt8} {ta tb : List Tok} (h1 : RT a ta (b ++ y)) (h2 : RT b tb y) : RT (a ++ b) (ta ++ tb) y := fun p => by
  obtain ⟨ns, k1, k2⟩ := h1 p
  obtain ⟨ms, k3, k4⟩ := h2 (p + ((a ++ (b ++ y)).length - (b ++ y).length))
  refine ⟨ns ++ ms, ?_, by rw [List.map_append, List.map_append, k2, k4]⟩
  rw [List.append_assoc]
  exact k1.trans k3
theorem RT.one {x y : List UInt8} {t t' : Tok} (h : stepT (x ++ y) = .ok y (some t')) (ht : ters t' = ters t) : RT x [t] y := fun p => by
  refine ⟨optT p (some t') ++ [], .cons h (.nil _ _), ?_⟩
  simp only [optT, List.append_nil, List.map_cons, List.map_nil]
  rw [ters_pos, ht]
theorem RT.white (y : List UInt8) : RT [32] [] y := fun p => ⟨optT p none ++ [], .cons rfl (.nil _ _), rfl⟩
theorem RT.of {w : List UInt8} {t : Tok} (h : Reads w t) (hw : w ≠ []) {y : List UInt8} (hy : Bd y) : RT w [t] y := by
  obtain ⟨t', h1, h2⟩ := h [] (.inl rfl)
  rw [List.append_nil] at h1
  have := step_bd hw hy h1
  rw [List.nil_append] at this
  exact RT.one this h2
theorem sign1 {c : UInt8} (hc : c = 40 ∨ c = 41 ∨ c = 44 ∨ c = 45 ∨ c = 91 ∨ c = 93) (y : List UInt8) : RT [c] [⟨5, 0, [c], 0, 0, 0⟩] y := by
  refine RT.one (t' := ⟨5, 0, [c], 0, 0, 0⟩) ?_ rfl
  have hs : sigL (c :: y) = [c] := by
    have h2 : sg2.contains ((c :: y).take 2) = false := by
      cases y with
      | nil => rcases hc with rfl | rfl | rfl | rfl | rfl | rfl <;> decide
      | cons d y =>
        have : ∀ d : UInt8, sg2.contains [c, d] = false := by
          intro d
          rcases hc with rfl | rfl | rfl | rfl | rfl | rfl <;> simp [sg2]
        exact this d
    unfold sigL
    rw [h2, if_neg (by decide), if_pos (show ∃ x ∈ sg1, (c :: y).take 1 = [x] from ⟨c, by rcases hc with rfl | rfl | rfl | rfl | rfl | rfl <;> decide, rfl⟩)]
    rfl
  have hst : stepT (c :: y) = sigT (c :: y) := by
    rcases hc with rfl | rfl | rfl | rfl | rfl | rfl <;> rfl
  show stepT (c :: y) = _
  rw [hst]
  unfold sigT
  rw [hs, if_neg (by simp)]
  rfl
theorem sign2 {a b : UInt8} (h : [a, b] ∈ sg2) (y : List UInt8) : RT [a, b] [⟨5, 0, [a, b], 0, 0, 0⟩] y := by
  refine RT.one (t' := ⟨5, 0, [a, b], 0, 0, 0⟩) ?_ rfl
  have hst : stepT (a :: b :: y) = sigT (a :: b :: y) := by
    simp only [sg2, List.mem_cons, List.not_mem_nil, or_false, List.cons.injEq, and_true] at h
    rcases h with ⟨rfl, rfl⟩ | ⟨rfl, rfl⟩ | ⟨rfl, rfl⟩ | ⟨rfl, rfl⟩ <;> rfl
  have hs : sigL (a :: b :: y) = [a, b] := by
    unfold sigL
    rw [if_pos (show sg2.contains ((a :: b :: y).take 2) = true from List.contains_iff_mem.2 h)]
    rfl
  show stepT (a :: b :: y) = _
  rw [hst]
  unfold sigT
  rw [hs, if_neg (by simp)]
  rfl
theorem sign_lt (c : UInt8) (hc : c = 60 ∨ c = 62) (y : List UInt8) : RT [c] [⟨5, 0, [c], 0, 0, 0⟩] (32 :: y) := by
  refine RT.one (t' := ⟨5, 0, [c], 0, 0, 0⟩) ?_ rfl
  rcases hc with rfl | rfl <;> rfl
/-! Values and tests as tokens. -/
def tkS (x : List UInt8) : Tok := ⟨5, 0, x, 0, 0, 0⟩
def tksV (v : Val) : List Tok :=
  if v.kind = 1 then (if v.n < 0 then [tkS [45], ⟨1, 0, [], -v.n, v.scale, 0⟩] else [⟨1, 0, [], v.n, v.scale, 0⟩])
  else if v.kind = 2 then [⟨2, 0, v.text.data.toList, 0, 0, 0⟩]
  else if v.kind = 3 then (if v.num = 1 then [⟨4, 0, [116, 114, 117, 101], 0, 0, 0⟩] else [⟨4, 0, [102, 97, 108, 115, 101], 0, 0, 0⟩])
  else if v.kind = 4 then [⟨3, 0, [], 0, 0, v.num⟩]
  else [⟨4, 0, [110, 117, 108, 108], 0, 0, 0⟩]
/-- What a sound value looks like. -/
def ValForm (v : Val) : Prop := v = ⟨0, 0, 0, ⟨#[]⟩, 0⟩ ∨ (∃ n s, v = ⟨1, n, s, ⟨#[]⟩, 0⟩) ∨ (∃ t, v = ⟨2, 0, 0, t, 0⟩) ∨ v = ⟨3, 0, 0, ⟨#[]⟩, 0⟩ ∨ v = ⟨3, 0, 0, ⟨#[]⟩, 1⟩ ∨ ∃ d, v = ⟨4, 0, 0, ⟨#[]⟩, d⟩
theorem bytesOf_list (t : ByteArray) : bytesOf t.data.toList = t := rfl
theorem valP_tks {v : Val} (hf : ValForm v) {may : Int → Bool} (hm : may v.kind = true) (q : List Tok) : valP may (tksV v ++ q) = .ok v q := by
  rcases hf with rfl | ⟨n, s, rfl⟩ | ⟨t, rfl⟩ | rfl | rfl | ⟨d, rfl⟩
  · show (if may 0 = true then _ else _) = _
    rw [if_pos hm]; rfl
  · by_cases hn : n < 0
    · have e : tksV ⟨1, n, s, ⟨#[]⟩, 0⟩ = [tkS [45], ⟨1, 0, [], -n, s, 0⟩] := by
        show (if n < 0 then _ else _) = _
        rw [if_pos hn]
      rw [e]
      show (if may 1 = true then (PR.ok (negVal ⟨1, -n, s, ⟨#[]⟩, 0⟩) q : PR Val) else _) = _
      rw [if_pos hm]
      unfold negVal
      simp only [Int.neg_neg]
    · have e : tksV ⟨1, n, s, ⟨#[]⟩, 0⟩ = [⟨1, 0, [], n, s, 0⟩] := by
        show (if n < 0 then _ else _) = _
        rw [if_neg hn]
      rw [e]
      show (if may 1 = true then (PR.ok ⟨1, n, s, ⟨#[]⟩, 0⟩ q : PR Val) else _) = _
      rw [if_pos hm]
  · show (if may 2 = true then (PR.ok ⟨2, 0, 0, bytesOf t.data.toList, 0⟩ q : PR Val) else _) = _
    rw [if_pos hm]; rfl
  · show (if may 3 = true then _ else _) = _
    rw [if_pos hm]; rfl
  · show (if may 3 = true then _ else _) = _
    rw [if_pos hm]; rfl
  · show (if may 4 = true then (PR.ok ⟨4, 0, 0, ⟨#[]⟩, d⟩ q : PR Val) else _) = _
    rw [if_pos hm]
/-- No sign of a test begins a value. -/
theorem tks_head {v : Val} (x : List UInt8) (hx : x ≠ [45]) (q : List Tok) : isS x (tksV v ++ q) = false ∧ isK 4 [110, 111, 116] (tksV v ++ q) = false := by
  unfold tksV
  split
  · split
    · refine ⟨?_, rfl⟩
      show (decide ((5 : Int) = 5) && decide ([45] = x)) = false
      rw [show decide ([45] = x) = false from decide_eq_false (fun e => hx e.symm), Bool.and_false]
    · exact ⟨rfl, rfl⟩
  · split
    · exact ⟨rfl, rfl⟩
    · split
      · split
        · exact ⟨rfl, rfl⟩
        · exact ⟨rfl, rfl⟩
      · split
        · exact ⟨rfl, rfl⟩
        · exact ⟨rfl, rfl⟩
def sgnO (k : Int) : List UInt8 := if k = 2 then [60] else if k = 3 then [60, 61] else if k = 4 then [62] else [62, 61]
def tksT (x : Tst) : List Tok :=
  if x.kind = 1 then tksV x.low
  else if x.kind = 6 then tkS (if x.ol then [40] else [91]) :: (tksV x.low ++ tkS [46, 46] :: (tksV x.high ++ [tkS (if x.oh then [41] else [93])]))
  else tkS (sgnO x.kind) :: tksV x.low
/-- What a sound test looks like. -/
def TstForm (x : Tst) : Prop := (∃ v, x = ⟨1, v, zv, false, false⟩ ∧ ValForm v ∧ vsnd v = true) ∨ (∃ k v, x = ⟨k, v, zv, false, false⟩ ∧ (k = 2 ∨ k = 3 ∨ k = 4 ∨ k = 5) ∧ ValForm v ∧ vsnd v = true ∧ ordk v.kind = true) ∨
  ∃ lo hi a b, x = ⟨6, lo, hi, a, b⟩ ∧ ValForm lo ∧ ValForm hi ∧ vsnd lo = true ∧ vsnd hi = true ∧ ordk lo.kind = true ∧ hi.kind = lo.kind
theorem tst_form (hv : ∀ v, vsnd v = true → ValForm v) {x : Tst} (h : tsnd x = true) : TstForm x := by
  obtain ⟨k, lo, hi, a, b⟩ := x
  unfold tsnd at h
  simp only at h
  by_cases h1 : k = 1
  · rw [if_pos h1, Bool.and_eq_true, teq_iff] at h
    subst h1
    exact .inl ⟨lo, h.1, hv lo h.2, h.2⟩
  rw [if_neg h1] at h
  by_cases h2 : k = 2 ∨ k = 3 ∨ k = 4 ∨ k = 5
  · rw [if_pos h2, Bool.and_eq_true, Bool.and_eq_true, teq_iff] at h
    exact .inr (.inl ⟨k, lo, h.1.1, h2, hv lo h.1.2, h.1.2, h.2⟩)
  rw [if_neg h2] at h
  by_cases h6 : k = 6
  · rw [if_pos h6] at h
    simp only [Bool.and_eq_true, decide_eq_true_eq] at h
    subst h6
    exact .inr (.inr ⟨lo, hi, a, b, rfl, hv lo h.1.1.1, hv hi h.1.1.2, h.1.1.1, h.1.1.2, h.1.2, h.2⟩)
  · rw [if_neg h6] at h; cases h
theorem tks_sgn (k : Int) (v : Val) (q : List Tok) : tksT ⟨k, v, zv, false, false⟩ = if k = 1 then tksV v else if k = 6 then tksT ⟨6, v, zv, false, false⟩ else tkS (sgnO k) :: tksV v := by
  unfold tksT
  by_cases h1 : k = 1
  · simp only [h1, if_true]
  · by_cases h6 : k = 6
    · subst h6; rfl
    · simp only [h1, h6, if_false]
theorem tstP_tks {x : Tst} (hf : TstForm x) (q : List Tok) : tstP (tksT x ++ q) = .ok x q := by
  rcases hf with ⟨v, rfl, hv, _⟩ | ⟨k, v, rfl, hk, hv, _, ho⟩ | ⟨lo, hi, a, b, rfl, h1, h2, _, _, h3, h4⟩
  · have e : tksT ⟨1, v, zv, false, false⟩ = tksV v := rfl
    rw [e]
    have hh : ∀ x, x ≠ [45] → ¬ isS x (tksV v ++ q) = true := fun x hx => by rw [(tks_head x hx q).1]; decide
    unfold tstP
    rw [if_neg (hh _ (by decide)), if_neg (hh _ (by decide)), if_neg (hh _ (by decide)), if_neg (hh _ (by decide)), if_neg (hh _ (by decide)), if_neg (fun h => h.elim (hh _ (by decide)) (hh _ (by decide))), valP_tks hv rfl q]
    rfl
  · rcases hk with rfl | rfl | rfl | rfl
    · show oneP 2 (valP ordk (tksV v ++ q)) = _
      rw [valP_tks hv ho q]; rfl
    · show oneP 3 (valP ordk (tksV v ++ q)) = _
      rw [valP_tks hv ho q]; rfl
    · show oneP 4 (valP ordk (tksV v ++ q)) = _
      rw [valP_tks hv ho q]; rfl
    · show oneP 5 (valP ordk (tksV v ++ q)) = _
      rw [valP_tks hv ho q]; rfl
  · have key : ∀ c : List UInt8, intP a (tksV lo ++ tkS [46, 46] :: (tksV hi ++ [tkS (if b then [41] else [93])]) ++ q) = .ok ⟨6, lo, hi, a, b⟩ q := by
      intro _
      unfold intP
      rw [List.append_assoc, valP_tks h1 h3]
      simp only [List.cons_append]
      rw [if_pos (show isS [46, 46] (tkS [46, 46] :: _) = true from rfl), List.tail_cons, List.append_assoc, valP_tks h2 (decide_eq_true h4)]
      simp only [List.cons_append, List.nil_append]
      cases b with
      | true => rfl
      | false => rfl
    have e : tksT ⟨6, lo, hi, a, b⟩ = tkS (if a then [40] else [91]) :: (tksV lo ++ tkS [46, 46] :: (tksV hi ++ [tkS (if b then [41] else [93])])) := rfl
    rw [e, List.cons_append]
    cases a with
    | true => exact key []
    | false => exact key []
def tksL : List Tst → List Tok
  | [] => []
  | [x] => tksT x
  | x :: y :: t => tksT x ++ tkS [44] :: tksL (y :: t)
theorem lstP_tks (q : List Tok) (hq : isS [44] q = false) : ∀ (l : List Tst) (n : Nat) (acc : List Tst), l ≠ [] → l.length ≤ n → (∀ x ∈ l, TstForm x) → lstP n acc (tksL l ++ q) = .ok (acc ++ l) q
  | [], _, _, h, _, _ => absurd rfl h
  | x :: t, 0, _, _, h, _ => by simp at h
  | [x], n + 1, acc, _, _, hf => by
    unfold lstP
    rw [show tksL [x] = tksT x from rfl, tstP_tks (hf x (by simp)) q]
    simp only
    rw [if_neg (by rw [hq]; decide)]
  | x :: y :: t, n + 1, acc, _, hn, hf => by
    unfold lstP
    rw [show tksL (x :: y :: t) = tksT x ++ tkS [44] :: tksL (y :: t) from rfl, List.append_assoc, tstP_tks (hf x (by simp))]
    simp only [List.cons_append]
    rw [List.length_cons] at hn
    rw [if_pos (show isS [44] (tkS [44] :: _) = true from rfl), if_neg (by rw [List.length_cons] at hn; omega), List.tail_cons]
    rw [lstP_tks q hq (y :: t) n (acc ++ [x]) (by simp) (by omega) (fun z hz => hf z (List.mem_cons_of_mem _ hz))]
    rw [List.append_assoc]
    rfl
theorem tksT_head (x : Tst) (hf : TstForm x) (q : List Tok) : isK 4 [110, 111, 116] (tksT x ++ q) = false := by
  rcases hf with ⟨v, rfl, hv, _⟩ | ⟨k, v, rfl, hk, hv, _, ho⟩ | ⟨lo, hi, a, b, rfl, h1, h2, _, _, h3, h4⟩
  · exact (tks_head (v := v) [1] (by decide) q).2
  · rcases hk with rfl | rfl | rfl | rfl <;> rfl
  · rfl
theorem tksL_head (l : List Tst) (hl : l ≠ []) (hf : ∀ x ∈ l, TstForm x) : isK 4 [110, 111, 116] (tksL l) = false := by
  match l, hl with
  | [x], _ =>
    have := tksT_head x (hf x (by simp)) []
    rwa [List.append_nil] at this
  | x :: y :: t, _ => exact tksT_head x (hf x (by simp)) _
/-- Tokens of tests, with or without not( ). -/
def tksU (no : Bool) (l : List Tst) : List Tok := if no then ⟨4, 0, [110, 111, 116], 0, 0, 0⟩ :: tkS [40] :: (tksL l ++ [tkS [41]]) else tksL l
theorem whoP_tks (no : Bool) (l : List Tst) (hl : l ≠ []) (h8 : l.length ≤ 8) (hf : ∀ x ∈ l, TstForm x) : whoP (tksU no l) = .ok (no, l) [] := by
  have h := lstP_tks [] rfl l 8 [] hl h8 hf
  rw [List.append_nil] at h
  have hw : whoP (tksL l) = .ok (false, l) [] := by
    unfold whoP
    rw [if_neg (by rw [tksL_head l hl hf]; decide), h]
    rfl
  cases no with
  | false => exact hw
  | true => exact whoP_not hw _ _ _ rfl rfl rfl rfl
/-! Tests as a text. -/
noncomputable def vxL (v : Val) : List UInt8 := (vtx v).data.toList
noncomputable def txT (x : Tst) : List UInt8 :=
  if x.kind = 1 then vxL x.low
  else if x.kind = 6 then (if x.ol then [40] else [91]) ++ (vxL x.low ++ ([46, 46] ++ (vxL x.high ++ (if x.oh then [41] else [93]))))
  else sgnO x.kind ++ ([32] ++ vxL x.low)
noncomputable def txL : List Tst → List UInt8
  | [] => []
  | [x] => txT x
  | x :: y :: t => txT x ++ ([44] ++ ([32] ++ txL (y :: t)))
noncomputable def txU (u : Uts) : List UInt8 := if u.any then [45] else if u.no then [110, 111, 116] ++ ([40] ++ (txL u.list ++ [41])) else txL u.list
/-- What is known of a sound value's text. -/
def VReads : Prop := ∀ v, vsnd v = true → (∀ y, Bd y → RT (vxL v) (tksV v) y) ∧ (vxL v).length ≤ 1000 ∧ ∃ c ∈ vxL v, wsB c = false ∧ c ≠ 45
theorem bd_c (c : UInt8) (hc : c = 40 ∨ c = 41 ∨ c = 44 ∨ c = 93 ∨ c = 32) (t : List UInt8) : Bd (c :: t) := bd_cons t (by rcases hc with rfl | rfl | rfl | rfl | rfl <;> decide)
theorem txT_run (H : VReads) {x : Tst} (hf : TstForm x) {y : List UInt8} (hy : Bd y) : RT (txT x) (tksT x) y := by
  rcases hf with ⟨v, rfl, hv, hs⟩ | ⟨k, v, rfl, hk, hv, hs, ho⟩ | ⟨lo, hi, a, b, rfl, h1, h2, s1, s2, h3, h4⟩
  · exact (H v hs).1 y hy
  · have hr := (H v hs).1 y hy
    have h32 : RT ([32] ++ vxL v) ([] ++ tksV v) y := RT.app (RT.white _) hr
    rcases hk with rfl | rfl | rfl | rfl
    · exact RT.app (sign_lt 60 (.inl rfl) (vxL v ++ y)) h32
    · exact RT.app (sign2 (by decide) _) h32
    · exact RT.app (sign_lt 62 (.inr rfl) (vxL v ++ y)) h32
    · exact RT.app (sign2 (by decide) _) h32
  · have e1 : RT (if b = true then [41] else [93]) [tkS (if b = true then [41] else [93])] y := by
      cases b with
      | true => exact sign1 (by decide) y
      | false => exact sign1 (by decide) y
    have e2 : RT (vxL hi ++ (if b = true then [41] else [93])) (tksV hi ++ [tkS (if b = true then [41] else [93])]) y := by
      refine RT.app ((H hi s2).1 _ ?_) e1
      cases b with
      | true => exact bd_c 41 (by decide) y
      | false => exact bd_c 93 (by decide) y
    have e3 := RT.app (sign2 (a := 46) (b := 46) (by decide) _) e2
    have e4 := RT.app ((H lo s1).1 _ (bd_dots _)) e3
    have e5 : RT (if a = true then [40] else [91]) [tkS (if a = true then [40] else [91])] ((vxL lo ++ ([46, 46] ++ (vxL hi ++ (if b = true then [41] else [93])))) ++ y) := by
      cases a with
      | true => exact sign1 (by decide) _
      | false => exact sign1 (by decide) _
    exact RT.app e5 e4
theorem txL_run (H : VReads) : ∀ (l : List Tst), (∀ x ∈ l, TstForm x) → ∀ y, Bd y → RT (txL l) (tksL l) y
  | [], _, y, _ => RT.nil y
  | [x], hf, y, hy => txT_run H (hf x (by simp)) hy
  | x :: z :: t, hf, y, hy => by
    have h1 := txL_run H (z :: t) (fun u hu => hf u (List.mem_cons_of_mem _ hu)) y hy
    have h2 : RT ([32] ++ txL (z :: t)) ([] ++ tksL (z :: t)) y := RT.app (RT.white _) h1
    have h3 := RT.app (sign1 (c := 44) (by decide) _) h2
    exact RT.app (txT_run H (hf x (by simp)) (bd_c 44 (by decide) _)) h3
theorem name_not (hn : nmOk [110, 111, 116] = true) (y : List UInt8) (hy : Bd y) : RT [110, 111, 116] [⟨4, 0, [110, 111, 116], 0, 0, 0⟩] y :=
  RT.of (reads_name [110, 111, 116] 110 [111, 116] rfl (by decide) (by decide) hn) (by simp) hy
theorem txU_run (H : VReads) (hn : nmOk [110, 111, 116] = true) (no : Bool) (l : List Tst) (hf : ∀ x ∈ l, TstForm x) : RT (txU ⟨false, no, l⟩) (tksU no l) [] := by
  cases no with
  | false => exact txL_run H l hf [] bd_nil
  | true =>
    have h1 : RT (txL l ++ [41]) (tksL l ++ [tkS [41]]) [] := RT.app (txL_run H l hf _ (bd_c 41 (by decide) [])) (sign1 (by decide) [])
    have h2 := RT.app (sign1 (c := 40) (by decide) _) h1
    exact RT.app (name_not hn _ (bd_c 40 (by decide) _)) h2
theorem txT_len (H : VReads) {x : Tst} (hf : TstForm x) : (txT x).length ≤ 2010 := by
  rcases hf with ⟨v, rfl, hv, hs⟩ | ⟨k, v, rfl, hk, hv, hs, ho⟩ | ⟨lo, hi, a, b, rfl, h1, h2, s1, s2, h3, h4⟩
  · have := (H v hs).2.1
    show (vxL v).length ≤ _
    omega
  · have := (H v hs).2.1
    have e : (sgnO k).length ≤ 2 := by
      unfold sgnO
      split
      · decide
      · split
        · decide
        · split <;> decide
    have e2 : txT ⟨k, v, zv, false, false⟩ = sgnO k ++ ([32] ++ vxL v) := by
      rcases hk with rfl | rfl | rfl | rfl <;> rfl
    rw [e2, List.length_append, List.length_append, List.length_singleton]
    omega
  · have q1 := (H lo s1).2.1
    have q2 := (H hi s2).2.1
    have e2 : txT ⟨6, lo, hi, a, b⟩ = (if a then [40] else [91]) ++ (vxL lo ++ ([46, 46] ++ (vxL hi ++ (if b then [41] else [93])))) := rfl
    have e3 : ∀ c : Bool, ∀ u v : UInt8, (if c = true then [u] else [v]).length = 1 := by intro c u v; cases c <;> rfl
    rw [e2]
    simp only [List.length_append, e3, List.length_cons, List.length_nil]
    omega
theorem txL_len (H : VReads) : ∀ (l : List Tst), (∀ x ∈ l, TstForm x) → (txL l).length ≤ 2012 * l.length
  | [], _ => by simp [txL]
  | [x], hf => by
    have := txT_len H (hf x (by simp))
    show (txT x).length ≤ _
    rw [List.length_singleton]; omega
  | x :: z :: t, hf => by
    have h1 := txL_len H (z :: t) (fun u hu => hf u (List.mem_cons_of_mem _ hu))
    have h2 := txT_len H (hf x (by simp))
    rw [show txL (x :: z :: t) = txT x ++ ([44] ++ ([32] ++ txL (z :: t))) from rfl]
    simp only [List.length_append, List.length_cons, List.length_nil] at h1 ⊢
    omega
theorem txU_len (H : VReads) (no : Bool) (l : List Tst) (hf : ∀ x ∈ l, TstForm x) (h8 : l.length ≤ 8) : (txU ⟨false, no, l⟩).length ≤ 17000 := by
  have h1 := txL_len H l hf
  cases no with
  | false =>
    show (txL l).length ≤ _
    omega
  | true =>
    rw [show txU ⟨false, true, l⟩ = [110, 111, 116] ++ ([40] ++ (txL l ++ [41])) from rfl]
    simp only [List.length_append, List.length_cons, List.length_nil]
    omega
/-! Cells: what is written is read. -/
theorem trim_mem {c : UInt8} {l : List UInt8} (h : c ∈ l) (hc : wsB c = false) : c ∈ trimL l := by
  have one : ∀ l : List UInt8, c ∈ l → c ∈ l.dropWhile wsB := by
    intro l
    induction l with
    | nil => intro h; cases h
    | cons a l ih =>
      intro h
      rw [List.dropWhile_cons]
      by_cases ha : wsB a = true
      · rw [if_pos ha]
        rcases List.mem_cons.1 h with rfl | h
        · rw [hc] at ha; cases ha
        · exact ih h
      · rw [if_neg ha]; exact h
  unfold trimL
  exact one _ (List.mem_reverse.2 (one _ (List.mem_reverse.2 h)))
theorem sizeB (x : List UInt8) : (bytesOf x).size = x.length := by
  show x.toArray.size = _
  simp
theorem listB (x : List UInt8) : (bytesOf x).data.toList = x := rfl
/-- Cells whose tokens are those of tests. -/
theorem parU_toks {s : ByteArray} (hs : s.size ≤ 65536) (ht : trimL s.data.toList ≠ [45]) {ns q : List Tok} (h : Run 0 s.data.toList ns []) (he : eqT q ns) {no : Bool} {l : List Tst} {r : List Tok} (hw : whoP q = .ok (no, l) r) : parU s = (⟨false, no, l⟩, 0, 0) := by
  have h1 := tokS_of hs h
  unfold parU
  rw [if_neg ht, h1, if_pos rfl]
  simp only
  have h2 := whoP_like he
  rw [hw] at h2
  cases h3 : whoP ns with
  | bad a e => rw [h3] at h2; exact h2.elim
  | ok x b =>
    rw [h3] at h2
    obtain ⟨rfl, _⟩ := h2
    rfl
/-- Something that is no white and no minus. -/
def Mark (l : List UInt8) : Prop := ∃ c ∈ l, wsB c = false ∧ c ≠ 45
theorem Mark.not {l : List UInt8} (h : Mark l) : trimL l ≠ [45] := by
  obtain ⟨c, h1, h2, h3⟩ := h
  intro e
  have := trim_mem h1 h2
  rw [e] at this
  exact h3 (List.mem_singleton.1 this)
theorem Mark.sub {l m : List UInt8} (h : Mark l) (hs : ∀ c ∈ l, c ∈ m) : Mark m := by
  obtain ⟨c, h1, h2⟩ := h
  exact ⟨c, hs c h1, h2⟩
theorem txT_mark (H : VReads) {x : Tst} (hf : TstForm x) : Mark (txT x) := by
  rcases hf with ⟨v, rfl, hv, hs⟩ | ⟨k, v, rfl, hk, hv, hs, ho⟩ | ⟨lo, hi, a, b, rfl, h1, h2, s1, s2, h3, h4⟩
  · exact (H v hs).2.2
  · refine Mark.sub (H v hs).2.2 ?_
    have e2 : txT ⟨k, v, zv, false, false⟩ = sgnO k ++ ([32] ++ vxL v) := by
      rcases hk with rfl | rfl | rfl | rfl <;> rfl
    rw [e2]
    intro c hc
    exact List.mem_append_right _ (List.mem_append_right _ hc)
  · refine Mark.sub (H lo s1).2.2 ?_
    have e2 : txT ⟨6, lo, hi, a, b⟩ = (if a then [40] else [91]) ++ (vxL lo ++ ([46, 46] ++ (vxL hi ++ (if b then [41] else [93])))) := rfl
    rw [e2]
    intro c hc
    exact List.mem_append_right _ (List.mem_append_left _ hc)
theorem txL_mark (H : VReads) (l : List Tst) (hl : l ≠ []) (hf : ∀ x ∈ l, TstForm x) : Mark (txL l) := by
  match l, hl with
  | [x], _ => exact txT_mark H (hf x (by simp))
  | x :: z :: t, _ => exact Mark.sub (txT_mark H (hf x (by simp))) (fun c hc => List.mem_append_left _ hc)
theorem txU_mark (H : VReads) (no : Bool) (l : List Tst) (hl : l ≠ []) (hf : ∀ x ∈ l, TstForm x) : Mark (txU ⟨false, no, l⟩) := by
  cases no with
  | false => exact txL_mark H l hl hf
  | true => exact Mark.sub (txL_mark H l hl hf) (fun c hc => List.mem_append_right _ (List.mem_append_right _ (List.mem_append_left _ hc)))
/-- Sound tests, written and read. -/
theorem parU_txU (H : VReads) (hv : ∀ v, vsnd v = true → ValForm v) (hn : nmOk [110, 111, 116] = true) (no : Bool) (l : List Tst) (hl : l ≠ []) (h8 : l.length ≤ 8) (hs : ∀ x ∈ l, tsnd x = true) : parU (bytesOf (txU ⟨false, no, l⟩)) = (⟨false, no, l⟩, 0, 0) := by
  have hf : ∀ x ∈ l, TstForm x := fun x hx => tst_form hv (hs x hx)
  obtain ⟨ns, h1, h2⟩ := txU_run H hn no l hf 0
  rw [List.append_nil] at h1
  refine parU_toks (by rw [sizeB]; have := txU_len H no l hf h8; omega) (by rw [listB]; exact (txU_mark H no l hl hf).not) (by rw [listB]; exact h1) ?_ (whoP_tks no l hl h8 hf)
  exact h2.symm
theorem parU_any : parU (bytesOf [45]) = (⟨true, false, []⟩, 0, 0) := by
  unfold parU
  rw [if_pos (show trimL (bytesOf [45]).data.toList = [45] from (show trimL [45] = [45] by decide))]
/-- not( ) around what is read. -/
theorem parU_not (hn : nmOk [110, 111, 116] = true) (hb : ∀ l e, stepT l = .bad e → l ≠ [] → e ≠ 0) {s : ByteArray} (hs : s.size ≤ 60000) {l : List Tst} (h : parU s = (⟨false, false, l⟩, 0, 0)) (hl : l ≠ []) :
    parU (bytesOf ([110, 111, 116] ++ ([40] ++ (s.data.toList ++ [41])))) = (⟨false, true, l⟩, 0, 0) := by
  unfold parU at h
  by_cases h0 : trimL s.data.toList = [45]
  · rw [if_pos h0] at h; cases h
  rw [if_neg h0] at h
  by_cases h1 : (tokS s).2.2 = 0
  · rw [if_pos h1] at h
    have h2 : tokS s = ((tokS s).1, (tokS s).2.1, 0) := by rw [← h1]
    obtain ⟨q1, q2, q3⟩ := tokS_right s _ _ h2 hb
    generalize (tokS s).1 = ts at h q3
    cases h3 : whoP ts with
    | bad r e =>
      rw [h3] at h
      simp only [Prod.mk.injEq, Uts.mk.injEq, true_and] at h
      exact absurd h.1.symm hl
    | ok x r =>
      rw [h3] at h
      obtain ⟨no, l'⟩ := x
      simp only [Prod.mk.injEq, Uts.mk.injEq, true_and, and_true] at h
      obtain ⟨rfl, rfl⟩ := h
      have r1 : RT s.data.toList ts [41] := fun p => by
        have q4 := q3.bd (y := [41]) (bd_c 41 (by decide) [])
        obtain ⟨ns, k1, k2⟩ := q4.move p
        rw [List.nil_append] at k1
        exact ⟨ns, k1, k2⟩
      have r2 : RT (s.data.toList ++ [41]) (ts ++ [tkS [41]]) [] := RT.app r1 (sign1 (by decide) [])
      have r3 := RT.app (sign1 (c := 40) (by decide) _) r2
      have r4 := RT.app (name_not hn _ (bd_c 40 (by decide) _)) r3
      obtain ⟨ns, k1, k2⟩ := r4 0
      rw [List.append_nil] at k1
      refine parU_toks ?_ ?_ (by rw [listB]; exact k1) (q := ⟨4, 0, [110, 111, 116], 0, 0, 0⟩ :: tkS [40] :: (ts ++ [tkS [41]])) k2.symm (whoP_not h3 _ _ _ rfl rfl rfl rfl)
      · rw [sizeB]
        simp only [List.length_append, List.length_cons, List.length_nil, size_l]
        omega
      · rw [listB]
        intro e
        have : (110 : UInt8) ∈ trimL ([110, 111, 116] ++ ([40] ++ (s.data.toList ++ [41]))) := trim_mem (by simp) (by decide)
        rw [e] at this
        revert this
        decide
  · rw [if_neg h1] at h
    simp only [Prod.mk.injEq] at h
    exact absurd h.2.2 h1
theorem valP_bad {may : Int → Bool} {r q : List Tok} {e : Nat} (h : valP may r = .bad q e) : e = 5 := by
  unfold valP at h
  repeat' split at h
  all_goals first | (cases h; rfl) | cases h
theorem intP_bad {op : Bool} {r q : List Tok} {e : Nat} (h : intP op r = .bad q e) : e = 5 := by
  unfold intP at h
  cases h1 : valP ordk r with
  | bad a f => rw [h1] at h; cases h; exact valP_bad h1
  | ok lo a =>
    rw [h1] at h
    simp only at h
    by_cases hs : isS [46, 46] a = true
    · rw [if_pos hs] at h
      cases h2 : valP (fun k => decide (k = lo.kind)) a.tail with
      | bad b f => rw [h2] at h; cases h; exact valP_bad h2
      | ok hi b =>
        rw [h2] at h
        simp only at h
        repeat' split at h
        all_goals first | (cases h; rfl) | cases h
    · rw [if_neg hs] at h; cases h; rfl
theorem oneP_bad {k : Int} {may : Int → Bool} {r q : List Tok} {e : Nat} (h : oneP k (valP may r) = .bad q e) : e = 5 := by
  cases h1 : valP may r with
  | bad a f => rw [h1] at h; cases h; exact valP_bad h1
  | ok lo a => rw [h1] at h; cases h
theorem tstP_bad {r q : List Tok} {e : Nat} (h : tstP r = .bad q e) : e = 5 := by
  unfold tstP at h
  repeat' split at h
  all_goals first | exact oneP_bad h | exact intP_bad h
theorem lstP_bad : ∀ (n : Nat) (acc : List Tst) {r q : List Tok} {e : Nat}, lstP n acc r = .bad q e → e ≠ 0
  | 0, _, _, _, _, h => by cases h; decide
  | n + 1, acc, r, q, e, h => by
    unfold lstP at h
    cases h1 : tstP r with
    | bad a f => rw [h1] at h; cases h; rw [tstP_bad h1]; decide
    | ok x a =>
      rw [h1] at h
      simp only at h
      split at h
      · split at h
        · cases h; decide
        · exact lstP_bad n _ h
      · cases h
theorem endP_bad {no : Bool} {n : Nat} {r q : List Tok} {e : Nat} (h : endP no (lstP n [] r) = .bad q e) : e ≠ 0 := by
  cases h1 : lstP n [] r with
  | bad a f => rw [h1] at h; cases h; exact lstP_bad n [] h1
  | ok l a =>
    rw [h1] at h
    unfold endP at h
    simp only at h
    repeat' split at h
    all_goals first | (cases h; decide) | cases h
theorem whoP_bad {r q : List Tok} {e : Nat} (h : whoP r = .bad q e) : e ≠ 0 := by
  unfold whoP at h
  split at h
  · split at h
    · exact endP_bad h
    · cases h; decide
  · exact endP_bad h
/-- What is read is sound. -/
theorem parU_good {s : ByteArray} {u : Uts} (hg : ∀ t ∈ (tokS s).1, TokGood t) (h : parU s = (u, 0, 0)) : (u.any = true ∧ u.no = false ∧ u.list = []) ∨ (u.any = false ∧ (∀ x ∈ u.list, tsnd x = true) ∧ 0 < u.list.length ∧ u.list.length ≤ 8) := by
  unfold parU at h
  by_cases h0 : trimL s.data.toList = [45]
  · rw [if_pos h0] at h
    cases h
    exact .inl ⟨rfl, rfl, rfl⟩
  rw [if_neg h0] at h
  by_cases h1 : (tokS s).2.2 = 0
  · rw [if_pos h1] at h
    cases h3 : whoP (tokS s).1 with
    | bad r e =>
      rw [h3] at h
      simp only [Prod.mk.injEq] at h
      exact absurd h.2.2 (whoP_bad h3)
    | ok x r =>
      rw [h3] at h
      obtain ⟨no, l⟩ := x
      obtain ⟨g1, g2, g3⟩ := whoP_good hg h3
      simp only [Prod.mk.injEq, and_true] at h
      subst h
      exact .inr ⟨rfl, g1, g2, g3⟩
  · rw [if_neg h1] at h
    simp only [Prod.mk.injEq] at h
    exact absurd h.2.2 h1
end Go.Proofs.YtdggbafpdjenmaaGreatDoor
