import Derived.Test.YthfkbonbgdioaaaGreatDoorLxn
import Derived.Test.YthfkbonbgdioaaaGreatDoorLzs
namespace Go.Proofs.YthfkbonbgdioaaaGreatDoor
set_option linter.unusedSimpArgs false
set_option linter.unusedVariables false
open Go.RowKit
/-! Tokens that are next; values as tokens. -/
def zv : Val := ⟨0, 0, 0, ⟨#[]⟩, 0⟩
def isK (k : Int) (x : List UInt8) (r : List Tok) : Bool := match r with
  | [] => false
  | t :: _ => decide (t.kind = k) && decide (t.text = x)
abbrev isS (x : List UInt8) (r : List Tok) : Bool := isK 5 x r
def valT (t : Tok) : Option Val :=
  if t.kind = 1 then some ⟨1, t.dn, t.ds, ⟨#[]⟩, 0⟩
  else if t.kind = 2 then some ⟨2, 0, 0, bytesOf t.text, 0⟩
  else if t.kind = 3 then some ⟨4, 0, 0, ⟨#[]⟩, t.day⟩
  else if t.kind = 4 then
    (if t.text = [110, 117, 108, 108] then some ⟨0, 0, 0, ⟨#[]⟩, 0⟩
     else if t.text = [116, 114, 117, 101] then some ⟨3, 0, 0, ⟨#[]⟩, 1⟩
     else if t.text = [102, 97, 108, 115, 101] then some ⟨3, 0, 0, ⟨#[]⟩, 0⟩ else none)
  else none
inductive PR (α : Type) where
  | bad (r : List Tok) (e : Nat)
  | ok (x : α) (r : List Tok)
def posT (n : Nat) (r : List Tok) : Int := match r with
  | [] => n
  | t :: _ => t.pos
/-- White taken off both ends. -/
def trimL (l : List UInt8) : List UInt8 := (l.reverse.dropWhile wsB).reverse.dropWhile wsB
def eqT (r q : List Tok) : Prop := r.map ters = q.map ters
theorem eqT.tail {r q : List Tok} (h : eqT r q) : eqT r.tail q.tail := by
  unfold eqT at h ⊢
  cases r with
  | nil => cases q with
    | nil => rfl
    | cons u q => simp at h
  | cons t r => cases q with
    | nil => simp at h
    | cons u q =>
      simp only [List.map_cons, List.cons.injEq] at h
      exact h.2
theorem eqT.nil {r q : List Tok} (h : eqT r q) : r = [] ↔ q = [] := by
  unfold eqT at h
  constructor
  · rintro rfl
    exact List.map_eq_nil_iff.1 h.symm
  · rintro rfl
    exact List.map_eq_nil_iff.1 h
theorem isK_ters (k : Int) (x : List UInt8) (r : List Tok) : isK k x (r.map ters) = isK k x r := by cases r <;> rfl
theorem eqT.isK {r q : List Tok} (h : eqT r q) (k : Int) (x : List UInt8) : isK k x r = isK k x q := by
  rw [← isK_ters k x r, ← isK_ters k x q, h]
theorem valT_ters (t : Tok) : valT (ters t) = valT t := rfl
/-- Two answers are alike: both wrong, or the same, and what is left alike. -/
def PR.like {α : Type} (p q : PR α) : Prop := match p, q with
  | .bad _ e, .bad _ f => e = f
  | .ok x r, .ok y s => x = y ∧ eqT r s
  | _, _ => False
theorem eqT.cons {t u : Tok} {r q : List Tok} (h : eqT (t :: r) (u :: q)) : ters t = ters u ∧ eqT r q := by
  unfold eqT at h ⊢
  simpa using h
theorem isK_ne {k : Int} {x : List UInt8} {r : List Tok} (h : isK k x r = true) : r ≠ [] := by rintro rfl; cases h
theorem mem_tail {α : Type} {x : α} {l : List α} (h : x ∈ l.tail) : x ∈ l := by
  cases l with
  | nil => cases h
  | cons a l => exact List.mem_cons_of_mem _ h
def Bd (y : List UInt8) : Prop := y = [] ∨ ∃ c t, y = c :: t ∧ fgB c = false ∧ nbB c = false ∧ c ≠ 61 ∧ (c = 46 → ∃ u, t = 46 :: u)
theorem bd_nil : Bd [] := .inl rfl
theorem bd_cons {c : UInt8} (t : List UInt8) (h : fgB c = false ∧ nbB c = false ∧ c ≠ 61 ∧ c ≠ 46) : Bd (c :: t) := .inr ⟨c, t, rfl, h.1, h.2.1, h.2.2.1, fun e => absurd e h.2.2.2⟩
theorem Bd.fg {y : List UInt8} (h : Bd y) : y = [] ∨ ∃ c t, y = c :: t ∧ fgB c = false := by
  rcases h with h | ⟨c, t, h1, h2, _⟩
  · exact .inl h
  · exact .inr ⟨c, t, h1, h2⟩
theorem Bd.nb {y : List UInt8} (h : Bd y) : y = [] ∨ ∃ c t, y = c :: t ∧ nbB c = false := by
  rcases h with h | ⟨c, t, h1, _, h2, _⟩
  · exact .inl h
  · exact .inr ⟨c, t, h1, h2⟩
theorem nmbL_bd (x y : List UInt8) (hy : Bd y) : nmbL (x ++ y) = ((nmbL x).1, (nmbL x).2 ++ y) := by
  have hq := hy.fg
  obtain ⟨h1, h2⟩ := span_app fgB x y hq
  unfold nmbL
  rw [h1, h2]
  match hx : x.dropWhile fgB with
  | [] =>
    simp only [List.nil_append]
    rcases hy with rfl | ⟨c, t, rfl, hc, _, _, h46⟩
    · rfl
    · cases t with
      | nil => rfl
      | cons d r =>
        by_cases hc46 : c = 46
        · obtain ⟨u, hu⟩ := h46 hc46
          cases hu
          have : fgB 46 = false := by decide
          simp only [this, Bool.false_eq_true, and_false, if_false]
        · simp only [hc46, false_and, if_false]
  | [p] =>
    simp only [List.cons_append, List.nil_append]
    rcases hy with rfl | ⟨c, t, rfl, hc, _⟩
    · rfl
    · simp only [hc, Bool.false_eq_true, and_false, if_false]
  | p :: d :: r =>
    simp only [List.cons_append]
    obtain ⟨h3, h4⟩ := span_app fgB (d :: r) y hq
    rw [List.cons_append] at h3 h4
    by_cases hp : p = 46 ∧ fgB d = true
    · rw [if_pos hp, if_pos hp, h3, h4]
    · rw [if_neg hp, if_neg hp]
      rfl
theorem sigL_bd (x y : List UInt8) (hx : x ≠ []) (hy : Bd y) (h : sigL x ≠ []) : sigL (x ++ y) = sigL x := by
  cases x with
  | nil => exact absurd rfl hx
  | cons a x =>
    cases x with
    | cons b x => simp [sigL]
    | nil =>
      rcases hy with rfl | ⟨c, t, rfl, hc, _, h61, h46⟩
      · rfl
      · have ha : a ≠ 46 := by
          rintro rfl
          exact h (by decide)
        have h2 : sg2.contains [a, c] = false := by
          simp [sg2, h61, ha]
        have h3 : sg2.contains [a] = false := by simp [sg2]
        simp only [sigL, List.cons_append, List.nil_append, List.take_succ_cons, List.take_zero, List.take_nil, h2, h3, Bool.false_eq_true, if_false]
        rfl
theorem firT_bd {c : UInt8} {x y r : List UInt8} {m : Option Tok} (hx : x ≠ []) (hy : Bd y) (h : firT c x = .ok r m) : firT c (x ++ y) = .ok (r ++ y) m := by
  unfold firT at h ⊢
  split at h
  · rename_i h0
    rw [if_pos h0]
    unfold numT at h ⊢
    rw [nmbL_bd x y hy]
    simp only
    split at h
    · rename_i h1
      rw [if_pos h1]
      cases h
      rfl
    · cases h
  · rename_i h0
    rw [if_neg h0]
    split at h
    · rename_i h1
      rw [if_pos h1]
      unfold strT at h ⊢
      split at h
      · rename_i z r' hz
        have hd : (x ++ y).drop 1 = x.drop 1 ++ y := by
          cases x with
          | nil => exact absurd rfl hx
          | cons _ _ => rfl
        rw [hd, strL_app _ (x.drop 1) [] (Nat.le_refl _) y z r' hz]
        simp only
        split at h
        · rename_i h2
          rw [if_pos h2]
          cases h
          rfl
        · cases h
      · cases h
    · rename_i h1
      rw [if_neg h1]
      split at h
      · rename_i h2
        rw [if_pos h2]
        unfold dayT at h ⊢
        split at h
        · rename_i h3
          obtain ⟨k1, k2, k3⟩ := h3
          have hl : 2 ≤ x.length := by
            match x, k1 with
            | [], k1 => simp at k1
            | [a], k1 => simp [List.isPrefixOf] at k1
            | a :: b :: x, _ => simp
          have hd : (x ++ y).drop 2 = x.drop 2 ++ y := List.drop_append_of_le_length hl
          have hp : [64, 34].isPrefixOf (x ++ y) = true := by
            match x, k1 with
            | [], k1 => simp at k1
            | [a], k1 => simp [List.isPrefixOf] at k1
            | a :: b :: x, k1 => simpa [List.isPrefixOf] using k1
          have sp : ∀ (u : List UInt8), u.dropWhile (· != 34) ≠ [] → (u ++ y).takeWhile (· != 34) = u.takeWhile (· != 34) ∧ (u ++ y).dropWhile (· != 34) = u.dropWhile (· != 34) ++ y := by
            intro u
            induction u with
            | nil => intro hu; exact absurd rfl hu
            | cons a u ih =>
              intro hu
              by_cases ha : (a != 34) = true
              · rw [List.dropWhile_cons, if_pos ha] at hu
                obtain ⟨i1, i2⟩ := ih hu
                simp only [List.cons_append, List.takeWhile_cons, List.dropWhile_cons, ha, if_true, i1, i2, and_self]
              · simp only [List.cons_append, List.takeWhile_cons, List.dropWhile_cons, if_neg ha, and_self]
          obtain ⟨s1, s2⟩ := sp _ k2
          rw [hd, s1, s2, if_pos ⟨hp, by simp [k2], k3⟩]
          cases h
          have : (List.dropWhile (· != 34) (x.drop 2) ++ y).drop 1 = (List.dropWhile (· != 34) (x.drop 2)).drop 1 ++ y := by
            cases hh : List.dropWhile (· != 34) (x.drop 2) with
            | nil => exact absurd hh k2
            | cons _ _ => rfl
          rw [this]
        · cases h
      · rename_i h2
        rw [if_neg h2]
        split at h
        · rename_i h3
          rw [if_pos h3]
          unfold namT at h ⊢
          obtain ⟨s1, s2⟩ := span_app nbB x y hy.nb
          rw [s1, s2]
          split at h
          · rename_i h4
            rw [if_pos h4]
            cases h
            rfl
          · cases h
        · rename_i h3
          rw [if_neg h3]
          unfold sigT at h ⊢
          split at h
          · cases h
          · rename_i h4
            have e := sigL_bd x y hx hy h4
            rw [e, if_neg h4]
            cases h
            rw [List.drop_append_of_le_length (sigL_len x)]
theorem step_bd {x y r : List UInt8} {m : Option Tok} (hx : x ≠ []) (hy : Bd y) (h : stepT x = .ok r m) : stepT (x ++ y) = .ok (r ++ y) m := by
  cases x with
  | nil => exact absurd rfl hx
  | cons c x =>
    rw [List.cons_append, stepT_cons]
    rw [stepT_cons] at h
    by_cases h0 : wsB c = true
    · rw [if_pos h0] at h ⊢
      cases h
      rfl
    · rw [if_neg h0] at h ⊢
      rw [← List.cons_append]
      exact firT_bd hx hy h
/-- x, with y behind, is these tokens. -/
def RT (x : List UInt8) (ts : List Tok) (y : List UInt8) : Prop := ∀ p, ∃ ns, Run p (x ++ y) ns y ∧ ns.map ters = ts.map ters
theorem RT.nil (y : List UInt8) : RT [] [] y := fun p => ⟨[], .nil _ _, rfl⟩
theorem RT.app {a b y : List UInt8} {ta tb : List Tok} (h1 : RT a ta (b ++ y)) (h2 : RT b tb y) : RT (a ++ b) (ta ++ tb) y := fun p => by
  obtain ⟨ns, k1, k2⟩ := h1 p
  obtain ⟨ms, k3, k4⟩ := h2 (p + ((a ++ (b ++ y)).length - (b ++ y).length))
  refine ⟨ns ++ ms, ?_, by rw [List.map_append, List.map_append, k2, k4]⟩
  rw [List.append_assoc]
  exact k1.trans k3
theorem RT.one {x y : List UInt8} {t t' : Tok} (h : stepT (x ++ y) = .ok y (some t')) (ht : ters t' = ters t) : RT x [t] y := fun p => by
  refine ⟨optT p (some t') ++ [], .cons h (.nil _ _), ?_⟩
  simp only [optT, List.append_nil, List.map_cons, List.map_nil]
  rw [ters_pos, ht]
theorem RT.white (y : List UInt8) : RT [32] [] y := fun p => ⟨optT p none ++ [], .cons rfl (.nil _ _), rfl⟩
theorem RT.of {w : List UInt8} {t : Tok} (h : Reads w t) (hw : w ≠ []) {y : List UInt8} (hy : Bd y) : RT w [t] y := by
  obtain ⟨t', h1, h2⟩ := h [] (.inl rfl)
  rw [List.append_nil] at h1
  have := step_bd hw hy h1
  rw [List.nil_append] at this
  exact RT.one this h2
theorem sign1 {c : UInt8} (hc : c = 40 ∨ c = 41 ∨ c = 44 ∨ c = 45 ∨ c = 91 ∨ c = 93) (y : List UInt8) : RT [c] [⟨5, 0, [c], 0, 0, 0⟩] y := by
  refine RT.one (t' := ⟨5, 0, [c], 0, 0, 0⟩) ?_ rfl
  have hs : sigL (c :: y) = [c] := by
    have h2 : sg2.contains ((c :: y).take 2) = false := by
      cases y with
      | nil => rcases hc with rfl | rfl | rfl | rfl | rfl | rfl <;> decide
      | cons d y =>
        have : ∀ d : UInt8, sg2.contains [c, d] = false := by
          intro d
          rcases hc with rfl | rfl | rfl | rfl | rfl | rfl <;> simp [sg2]
        exact this d
    unfold sigL
    rw [h2, if_neg (by decide), if_pos (show ∃ x ∈ sg1, (c :: y).take 1 = [x] from ⟨c, by rcases hc with rfl | rfl | rfl | rfl | rfl | rfl <;> decide, rfl⟩)]
    rfl
  have hst : stepT (c :: y) = sigT (c :: y) := by
    rcases hc with rfl | rfl | rfl | rfl | rfl | rfl <;> rfl
  show stepT (c :: y) = _
  rw [hst]
  unfold sigT
  rw [hs, if_neg (by simp)]
  rfl
theorem sign2 {a b : UInt8} (h : [a, b] ∈ sg2) (y : List UInt8) : RT [a, b] [⟨5, 0, [a, b], 0, 0, 0⟩] y := by
  refine RT.one (t' := ⟨5, 0, [a, b], 0, 0, 0⟩) ?_ rfl
  have hst : stepT (a :: b :: y) = sigT (a :: b :: y) := by
    simp only [sg2, List.mem_cons, List.not_mem_nil, or_false, List.cons.injEq, and_true] at h
    rcases h with ⟨rfl, rfl⟩ | ⟨rfl, rfl⟩ | ⟨rfl, rfl⟩ | ⟨rfl, rfl⟩ <;> rfl
  have hs : sigL (a :: b :: y) = [a, b] := by
    unfold sigL
    rw [if_pos (show sg2.contains ((a :: b :: y).take 2) = true from List.contains_iff_mem.2 h)]
    rfl
  show stepT (a :: b :: y) = _
  rw [hst]
  unfold sigT
  rw [hs, if_neg (by simp)]
  rfl
theorem sign_lt (c : UInt8) (hc : c = 60 ∨ c = 62) (y : List UInt8) : RT [c] [⟨5, 0, [c], 0, 0, 0⟩] (32 :: y) := by
  refine RT.one (t' := ⟨5, 0, [c], 0, 0, 0⟩) ?_ rfl
  rcases hc with rfl | rfl <;> rfl
def tkS (x : List UInt8) : Tok := ⟨5, 0, x, 0, 0, 0⟩
def tksV (v : Val) : List Tok :=
  if v.kind = 1 then (if v.n < 0 then [tkS [45], ⟨1, 0, [], -v.n, v.scale, 0⟩] else [⟨1, 0, [], v.n, v.scale, 0⟩])
  else if v.kind = 2 then [⟨2, 0, v.text.data.toList, 0, 0, 0⟩]
  else if v.kind = 3 then (if v.num = 1 then [⟨4, 0, [116, 114, 117, 101], 0, 0, 0⟩] else [⟨4, 0, [102, 97, 108, 115, 101], 0, 0, 0⟩])
  else if v.kind = 4 then [⟨3, 0, [], 0, 0, v.num⟩]
  else [⟨4, 0, [110, 117, 108, 108], 0, 0, 0⟩]
/-- What a sound value looks like. -/
def ValForm (v : Val) : Prop := v = ⟨0, 0, 0, ⟨#[]⟩, 0⟩ ∨ (∃ n s, v = ⟨1, n, s, ⟨#[]⟩, 0⟩) ∨ (∃ t, v = ⟨2, 0, 0, t, 0⟩) ∨ v = ⟨3, 0, 0, ⟨#[]⟩, 0⟩ ∨ v = ⟨3, 0, 0, ⟨#[]⟩, 1⟩ ∨ ∃ d, v = ⟨4, 0, 0, ⟨#[]⟩, d⟩
theorem bytesOf_list (t : ByteArray) : bytesOf t.data.toList = t := rfl
noncomputable def vxL (v : Val) : List UInt8 := (vtx v).data.toList
/-- What is known of a sound value's text. -/
def VReads : Prop := ∀ v, vsnd v = true → (∀ y, Bd y → RT (vxL v) (tksV v) y) ∧ (vxL v).length ≤ 1000 ∧ ∃ c ∈ vxL v, wsB c = false ∧ c ≠ 45
theorem bd_c (c : UInt8) (hc : c = 40 ∨ c = 41 ∨ c = 44 ∨ c = 93 ∨ c = 32) (t : List UInt8) : Bd (c :: t) := bd_cons t (by rcases hc with rfl | rfl | rfl | rfl | rfl <;> decide)
theorem trim_mem {c : UInt8} {l : List UInt8} (h : c ∈ l) (hc : wsB c = false) : c ∈ trimL l := by
  have one : ∀ l : List UInt8, c ∈ l → c ∈ l.dropWhile wsB := by
    intro l
    induction l with
    | nil => intro h; cases h
    | cons a l ih =>
      intro h
      rw [List.dropWhile_cons]
      by_cases ha : wsB a = true
      · rw [if_pos ha]
        rcases List.mem_cons.1 h with rfl | h
        · rw [hc] at ha; cases ha
        · exact ih h
      · rw [if_neg ha]; exact h
  unfold trimL
  exact one _ (List.mem_reverse.2 (one _ (List.mem_reverse.2 h)))
/-- Something that is no white and no minus. -/
def Mark (l : List UInt8) : Prop := ∃ c ∈ l, wsB c = false ∧ c ≠ 45
theorem Mark.not {l : List UInt8} (h : Mark l) : trimL l ≠ [45] := by
  obtain ⟨c, h1, h2, h3⟩ := h
  intro e
  have := trim_mem h1 h2
  rw [e] at this
  exact h3 (List.mem_singleton.1 this)
theorem Mark.sub {l m : List UInt8} (h : Mark l) (hs : ∀ c ∈ l, c ∈ m) : Mark m := by
  obtain ⟨c, h1, h2⟩ := h
  exact ⟨c, hs c h1, h2⟩
theorem val_form {v : Val} (h : vsnd v = true) : ValForm v := by
  obtain ⟨k, n, s, t, m⟩ := v
  rcases kinds k with rfl | rfl | rfl | rfl | rfl | hk
  · rw [vsnd0, veq_iff] at h
    exact .inl h
  · rw [vsnd1, Bool.and_eq_true, veq_iff] at h
    exact .inr (.inl ⟨n, s, h.1⟩)
  · rw [vsnd2, Bool.and_eq_true, veq_iff] at h
    exact .inr (.inr (.inl ⟨t, h.1⟩))
  · rw [vsnd3, Bool.and_eq_true, veq_iff, Bool.or_eq_true, decide_eq_true_eq, decide_eq_true_eq] at h
    obtain ⟨h1, h2⟩ := h
    rcases h2 with rfl | rfl
    · exact .inr (.inr (.inr (.inl h1)))
    · exact .inr (.inr (.inr (.inr (.inl h1))))
  · rw [vsnd4, Bool.and_eq_true, veq_iff] at h
    exact .inr (.inr (.inr (.inr (.inr ⟨m, h.1⟩))))
  · rw [vsnd5 k n s m t hk] at h; cases h
theorem ks1 {n s : Int} (h : sndB n s = true) (h0 : 0 ≤ n) : ksnd ⟨1, 0, [], n, s, 0⟩ = true := by
  rw [tsnd1, Bool.and_eq_true]
  exact ⟨teqv_iff.2 ⟨rfl, rfl, rfl, rfl, rfl, rfl⟩, by rw [h, decide_eq_true h0]; rfl⟩
theorem ks2 {t : ByteArray} (h : strOk t.data.toList = true) : ksnd ⟨2, 0, t.data.toList, 0, 0, 0⟩ = true := by
  rw [tsnd2, Bool.and_eq_true]
  exact ⟨teqv_iff.2 ⟨rfl, rfl, rfl, rfl, rfl, rfl⟩, h⟩
theorem ks3 {d : Int} (h : 0 ≤ d ∧ d ≤ 3652058) : ksnd ⟨3, 0, [], 0, 0, d⟩ = true := by
  rw [tsnd3, Bool.and_eq_true]
  exact ⟨teqv_iff.2 ⟨rfl, rfl, rfl, rfl, rfl, rfl⟩, decide_eq_true h⟩
theorem ks4 {x : List UInt8} (h : nmOk x = true) : ksnd ⟨4, 0, x, 0, 0, 0⟩ = true := by
  rw [tsnd4, Bool.and_eq_true]
  exact ⟨teqv_iff.2 ⟨rfl, rfl, rfl, rfl, rfl, rfl⟩, h⟩
theorem nm_true : nmOk [116, 114, 117, 101] = true := by decide +kernel
theorem nm_false : nmOk [102, 97, 108, 115, 101] = true := by decide +kernel
theorem nm_null : nmOk [110, 117, 108, 108] = true := by decide +kernel
theorem rt_tok {t : Tok} (h : ksnd t = true) (hw : wrT t ≠ []) (y : List UInt8) (hy : Bd y) : RT (wrT t) [t] y := RT.of (reads_sound h) hw hy
theorem fg_mark {c : UInt8} (h : fgB c = true) : wsB c = false ∧ c ≠ 45 := by
  refine ⟨?_, ?_⟩
  · cases h2 : wsB c with
    | false => rfl
    | true => have := (ws_facts h2).1; rw [h] at this; cases this
  · rintro rfl
    revert h
    decide
theorem num_mark {x : List UInt8} (h : NumW x) : Mark x ∧ x ≠ [] := by
  obtain ⟨c, a, hc, ha, rfl | ⟨d, b, hd, hb, rfl⟩⟩ := h
  · exact ⟨⟨c, by simp, fg_mark hc⟩, by simp⟩
  · exact ⟨⟨c, by simp, fg_mark hc⟩, by simp⟩
theorem snd_nums {n s : Int} (h : sndB n s = true) : SndD n s := of_decide_eq_true h
theorem sndB_neg {n s : Int} (h : sndB n s = true) : sndB (-n) s = true := by
  obtain ⟨s1, s2, ⟨s3, s4⟩, s5⟩ := snd_nums h
  exact decide_eq_true ⟨s1, s2, ⟨by omega, by omega⟩, by omega⟩
theorem txt_len1 (n s : Int) (h : sndB n s = true) : (txtL false n.natAbs s.toNat).length ≤ 30 := by
  obtain ⟨s1, s2, ⟨s3, s4⟩, _⟩ := snd_nums h
  exact txt_len false n.natAbs s.toNat (by omega) (by omega)
theorem txtL_neg (x s : Nat) : txtL true x s = [45] ++ txtL false x s := by
  unfold txtL
  rfl
theorem v_reads : VReads := by
  intro v hs
  rcases val_form hs with rfl | ⟨n, s, rfl⟩ | ⟨t, rfl⟩ | rfl | rfl | ⟨d, rfl⟩
  · refine ⟨fun y hy => rt_tok (t := ⟨4, 0, [110, 117, 108, 108], 0, 0, 0⟩) (ks4 nm_null) (by decide) y hy, by decide, 110, by decide, by decide, by decide⟩
  · rw [vsnd1, Bool.and_eq_true] at hs
    have hb := hs.2
    by_cases hn : n < 0
    · have e1 : vxL ⟨1, n, s, ⟨#[]⟩, 0⟩ = [45] ++ txtL false n.natAbs s.toNat := by
        show txtL (decide (n < 0)) n.natAbs s.toNat = _
        rw [decide_eq_true hn, txtL_neg]
      have e2 : tksV ⟨1, n, s, ⟨#[]⟩, 0⟩ = [tkS [45]] ++ [⟨1, 0, [], -n, s, 0⟩] := by
        show (if n < 0 then _ else _) = _
        rw [if_pos hn]
        rfl
      have e3 : txtL false n.natAbs s.toNat = wrT ⟨1, 0, [], -n, s, 0⟩ := by
        show _ = txtL (decide (-n < 0)) (-n).natAbs s.toNat
        rw [decide_eq_false (by omega), Int.natAbs_neg]
      have hk := ks1 (sndB_neg hb) (show 0 ≤ -n by omega)
      have hm := num_mark (txt_num n.natAbs s.toNat)
      have hl := wr_len hk
      rw [← e3] at hl
      refine ⟨fun y hy => ?_, ?_, ?_⟩
      · rw [e1, e2]
        refine RT.app (sign1 (by decide) _) ?_
        rw [e3]
        exact rt_tok hk (by rw [← e3]; exact hm.2) y hy
      · rw [e1, List.length_append, List.length_singleton]
        have := txt_len1 n s hb
        omega
      · rw [e1]
        exact Mark.sub hm.1 (fun c hc => List.mem_append_right _ hc)
    · have e1 : vxL ⟨1, n, s, ⟨#[]⟩, 0⟩ = wrT ⟨1, 0, [], n, s, 0⟩ := rfl
      have e2 : tksV ⟨1, n, s, ⟨#[]⟩, 0⟩ = [⟨1, 0, [], n, s, 0⟩] := by
        show (if n < 0 then _ else _) = _
        rw [if_neg hn]
      have e3 : wrT ⟨1, 0, [], n, s, 0⟩ = txtL false n.natAbs s.toNat := by
        show txtL (decide (n < 0)) n.natAbs s.toNat = _
        rw [decide_eq_false hn]
      have hk := ks1 hb (show 0 ≤ n by omega)
      have hm := num_mark (txt_num n.natAbs s.toNat)
      rw [← e3] at hm
      rw [e1, e2]
      exact ⟨fun y hy => rt_tok hk hm.2 y hy, wr_len hk, hm.1⟩
  · rw [vsnd2, Bool.and_eq_true, Bool.and_eq_true] at hs
    have hk : ksnd ⟨2, 0, t.data.toList, 0, 0, 0⟩ = true := ks2 (by unfold strOk; rw [bytesOf_list, size_l]; simpa using hs.2)
    have e1 : vxL ⟨2, 0, 0, t, 0⟩ = wrT ⟨2, 0, t.data.toList, 0, 0, 0⟩ := rfl
    have e2 : wrT ⟨2, 0, t.data.toList, 0, 0, 0⟩ = 34 :: (qtL t.data.toList ++ [34]) := rfl
    rw [e1]
    exact ⟨fun y hy => rt_tok hk (by rw [e2]; simp) y hy, wr_len hk, 34, by rw [e2]; simp, by decide, by decide⟩
  · exact ⟨fun y hy => rt_tok (t := ⟨4, 0, [102, 97, 108, 115, 101], 0, 0, 0⟩) (ks4 nm_false) (by decide) y hy, by decide, 102, by decide, by decide, by decide⟩
  · exact ⟨fun y hy => rt_tok (t := ⟨4, 0, [116, 114, 117, 101], 0, 0, 0⟩) (ks4 nm_true) (by decide) y hy, by decide, 116, by decide, by decide, by decide⟩
  · rw [vsnd4, Bool.and_eq_true, Bool.and_eq_true, decide_eq_true_eq, decide_eq_true_eq] at hs
    have hk := ks3 hs.2
    have e1 : vxL ⟨4, 0, 0, ⟨#[]⟩, d⟩ = wrT ⟨3, 0, [], 0, 0, d⟩ := rfl
    have e2 : wrT ⟨3, 0, [], 0, 0, d⟩ = 64 :: (34 :: (qtL (dtx d).data.toList ++ [34])) := rfl
    rw [e1]
    exact ⟨fun y hy => rt_tok hk (by rw [e2]; simp) y hy, wr_len hk, 64, by rw [e2]; simp, by decide, by decide⟩
theorem toks_snd (s : ByteArray) : ∀ t ∈ (tokS s).1, ksnd t = true := by
  unfold tokS
  split
  · intro t ht; cases ht
  · rcases toks_run (s.size + 1) 0 s.data.toList [] (by rw [size_l]; omega) with ⟨ns, h1, h2⟩ | ⟨ns, l2, e, h1, h2, h3, h4⟩
    · rw [h1]
      intro t ht
      exact List.all_eq_true.1 (run_snd h2).1 t (by simpa using ht)
    · rw [h1]
      intro t ht
      cases ht
/-- Errors' places lie within the text. -/
theorem run_pos {p : Nat} {l l2 : List UInt8} {ms : List Tok} (h : Run p l ms l2) : ∀ t ∈ ms, (p : Int) ≤ t.pos ∧ t.pos ≤ p + l.length := by
  induction h with
  | nil p l => intro t ht; cases ht
  | @cons p l r m ms l2 hs hr ih =>
    intro t ht
    obtain ⟨q, hq, _⟩ := step_suf hs
    have hlen := congrArg List.length hq
    rw [List.length_append] at hlen
    rcases List.mem_append.1 ht with ht | ht
    · cases m with
      | none => cases ht
      | some u =>
        simp only [optT, List.mem_singleton] at ht
        subst ht
        simp only
        omega
    · have := ih t ht
      omega
theorem toks_pos (s : ByteArray) : (∀ t ∈ (tokS s).1, 0 ≤ t.pos ∧ t.pos ≤ s.size) ∧ (tokS s).2.1 ≤ s.size := by
  unfold tokS
  split
  · exact ⟨(fun t ht => nomatch ht), Nat.zero_le _⟩
  · rcases toks_run (s.size + 1) 0 s.data.toList [] (by rw [size_l]; omega) with ⟨ns, h1, h2⟩ | ⟨ns, l2, e, h1, h2, h3, h4⟩
    · rw [h1]
      refine ⟨fun t ht => ?_, Nat.zero_le _⟩
      have := run_pos h2 t (by simpa using ht)
      rw [size_l] at this
      omega
    · rw [h1]
      refine ⟨(fun t ht => nomatch ht), ?_⟩
      rw [size_l]
      show 0 + (s.size - l2.length) ≤ s.size
      omega
def PR.sub {α : Type} (p : PR α) (r : List Tok) : Prop := match p with
  | .bad q _ => ∀ t ∈ q, t ∈ r
  | .ok _ q => ∀ t ∈ q, t ∈ r
theorem PR.sub.tail {α : Type} {p : PR α} {r : List Tok} (h : p.sub r.tail) : p.sub r := by
  cases p with
  | bad q e => exact fun t ht => mem_tail (h t ht)
  | ok x q => exact fun t ht => mem_tail (h t ht)
theorem PR.sub.trans {α : Type} {p : PR α} {q r : List Tok} (h : p.sub q) (hq : ∀ t ∈ q, t ∈ r) : p.sub r := by
  cases p with
  | bad q e => exact fun t ht => hq t (h t ht)
  | ok x q => exact fun t ht => hq t (h t ht)
end Go.Proofs.YthfkbonbgdioaaaGreatDoor
