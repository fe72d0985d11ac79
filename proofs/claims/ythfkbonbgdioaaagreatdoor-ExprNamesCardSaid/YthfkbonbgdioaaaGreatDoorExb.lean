import Derived.Test.YthfkbonbgdioaaaGreatDoorExa
namespace Go.Proofs.YthfkbonbgdioaaaGreatDoor
set_option linter.unusedSimpArgs false
set_option linter.unusedVariables false
open Go.RowKit
/-! Expressions: plain words. -/
inductive Ex where
  | mk (op : Int) (v : Val) (nm : List UInt8) (ks : List Ex)
def Ex.op : Ex → Int | .mk o _ _ _ => o
def Ex.v : Ex → Val | .mk _ v _ _ => v
def Ex.nm : Ex → List UInt8 | .mk _ _ n _ => n
def Ex.ks : Ex → List Ex | .mk _ _ _ k => k
theorem Ex.eta (x : Ex) : x = .mk x.op x.v x.nm x.ks := by cases x; rfl
theorem Ex.ind {P : Ex → Prop} (h : ∀ op v nm ks, (∀ x ∈ ks, P x) → P (.mk op v nm ks)) : ∀ x, P x
  | .mk op v nm ks => h op v nm ks (fun x hx => Ex.ind h x)
termination_by x => SizeOf.sizeOf x
decreasing_by
  simp_wf
  have := List.sizeOf_lt_of_mem hx
  omega
mutual
def szX : Ex → Nat
  | .mk _ _ _ ks => 1 + szL ks
def szL : List Ex → Nat
  | [] => 0
  | x :: t => szX x + szL t
end
mutual
def dpX : Ex → Nat
  | .mk _ _ _ ks => 1 + dpL ks
def dpL : List Ex → Nat
  | [] => 0
  | x :: t => max (dpX x) (dpL t)
end
def kidN (o : Int) : Nat := if o = 1 ∨ o = 2 then 0 else if o = 3 ∨ o = 16 then 1 else if o = 17 then 3 else 2
/-- A part has what its operator asks for. -/
def prtB (o : Int) (v : Val) (nm : List UInt8) (n : Nat) : Bool :=
  decide (1 ≤ o ∧ o ≤ 17 ∧ n = kidN o) && (if o = 1 then decide (nm = []) && (vsnd v && decide (0 ≤ v.n)) else if o = 2 then veq v zv && wordB (bytesOf nm) else veq v zv && decide (nm = []))
mutual
def okX : Ex → Bool
  | .mk o v nm ks => prtB o v nm ks.length && okL ks
def okL : List Ex → Bool
  | [] => true
  | x :: t => okX x && okL t
end
def sndX (x : Ex) : Bool := okX x && (decide (dpX x ≤ 64) && decide (szX x ≤ 4096))
def sgX (o : Int) : List UInt8 := if o = 4 then [43] else if o = 5 then [45] else if o = 6 then [42] else if o = 7 then [47] else if o = 8 then [61] else if o = 9 then [33, 61] else if o = 10 then [60] else if o = 11 then [60, 61] else if o = 12 then [62] else if o = 13 then [62, 61] else if o = 14 then [97, 110, 100] else [111, 114]
def wIF : List UInt8 := [105, 102]
def wTHEN : List UInt8 := [116, 104, 101, 110]
def wELSE : List UInt8 := [101, 108, 115, 101]
def wNOT : List UInt8 := [110, 111, 116]
def brkT (p : Bool × List UInt8) : List UInt8 := if p.1 then p.2 else [40] ++ (p.2 ++ [41])
noncomputable def shpT (o : Int) (v : Val) (nm : List UInt8) : List (Bool × List UInt8) → List UInt8
  | [] => if o = 1 then vxL v else nm
  | [a] => if o = 3 then [45] ++ brkT a else wNOT ++ ([40] ++ (a.2 ++ [41]))
  | [a, b] => brkT a ++ ([32] ++ (sgX o ++ ([32] ++ brkT b)))
  | [a, b, c] => wIF ++ ([32] ++ (brkT a ++ ([32] ++ (wTHEN ++ ([32] ++ (brkT b ++ ([32] ++ (wELSE ++ ([32] ++ brkT c)))))))))
  | _ => []
mutual
noncomputable def txX : Ex → List UInt8
  | .mk o v nm ks => shpT o v nm (txsX ks)
noncomputable def txsX : List Ex → List (Bool × List UInt8)
  | [] => []
  | x :: t => (decide (x.ks.length = 0), txX x) :: txsX t
end
/-! Tokens of an expression as it is written. -/
def brkK (p : Bool × List Tok) : List Tok := if p.1 then p.2 else tkS [40] :: (p.2 ++ [tkS [41]])
def tkN (x : List UInt8) : Tok := ⟨4, 0, x, 0, 0, 0⟩
def opK (o : Int) : Tok := if o = 14 ∨ o = 15 then tkN (sgX o) else tkS (sgX o)
def shpK (o : Int) (v : Val) (nm : List UInt8) : List (Bool × List Tok) → List Tok
  | [] => if o = 1 then tksV v else [tkN nm]
  | [a] => if o = 3 then tkS [45] :: brkK a else tkN wNOT :: tkS [40] :: (a.2 ++ [tkS [41]])
  | [a, b] => brkK a ++ (opK o :: brkK b)
  | [a, b, c] => tkN wIF :: (brkK a ++ (tkN wTHEN :: (brkK b ++ (tkN wELSE :: brkK c))))
  | _ => []
mutual
def tkX : Ex → List Tok
  | .mk o v nm ks => shpK o v nm (tksX ks)
def tksX : List Ex → List (Bool × List Tok)
  | [] => []
  | x :: t => (decide (x.ks.length = 0), tkX x) :: tksX t
end
/-! Reading. -/
inductive Md where
  | expr
  | chain (k : Nat)
  | loop (k : Nat) (a : Ex)
  | signed
  | operand
  | inner
def cmpX (x : Ex) (p : Nat) (r : List Tok) : PR (Ex × Nat) := if 4096 < p + 1 then .bad r 10 else .ok (x, p + 1) r
/-- The operator of a strength that is next. -/
def opR (k : Nat) (r : List Tok) : Option Int :=
  if k = 1 then (if isK 4 [111, 114] r = true then some 15 else none)
  else if k = 2 then (if isK 4 [97, 110, 100] r = true then some 14 else none)
  else if k = 3 then (if isS [61] r = true then some 8 else if isS [33, 61] r = true then some 9 else if isS [60] r = true then some 10 else if isS [60, 61] r = true then some 11 else if isS [62] r = true then some 12 else if isS [62, 61] r = true then some 13 else none)
  else if k = 4 then (if isS [43] r = true then some 4 else if isS [45] r = true then some 5 else none)
  else if k = 5 then (if isS [42] r = true then some 6 else if isS [47] r = true then some 7 else none)
  else none
/-- How many minus signs are next. -/
def mnR : List Tok → Nat
  | [] => 0
  | t :: r => if isS [45] [t] = true then mnR r + 1 else 0
def negX : Nat → Ex → Nat → List Tok → PR (Ex × Nat)
  | 0, x, p, r => .ok (x, p) r
  | m + 1, x, p, r => match cmpX (.mk 3 zv [] [x]) p r with
    | .bad q e => .bad q e
    | .ok y r1 => negX m y.1 y.2 r1
def encX (q : PR (Ex × Nat)) : PR (Ex × Nat) := match q with
  | .bad q e => .bad q e
  | .ok y r => if isS [41] r = true then .ok y r.tail else .bad r 5
def bndX {α β : Type} (q : PR α) (f : α → List Tok → PR β) : PR β := match q with
  | .bad q e => .bad q e
  | .ok y r => f y r
def litX (p : Nat) (r : List Tok) : PR (Ex × Nat) := match r with
  | [] => .bad [] 5
  | t :: r1 => match valT t with
    | some v => cmpX (.mk 1 v [] []) p r1
    | none => if t.kind = 4 ∧ wordB (bytesOf t.text) = true then cmpX (.mk 2 zv t.text []) p r1 else .bad (t :: r1) 5
def parX : Nat → Md → Nat → Nat → List Tok → PR (Ex × Nat)
  | 0, _, _, _, _ => .bad [] 99
  | n + 1, .expr, d, p, r => if isK 4 wIF r = true then
      bndX (parX n .expr d p r.tail) fun a r1 => if isK 4 wTHEN r1 = true then
        bndX (parX n .expr d a.2 r1.tail) fun b r2 => if isK 4 wELSE r2 = true then
          bndX (parX n .expr d b.2 r2.tail) fun c r3 => cmpX (.mk 17 zv [] [a.1, b.1, c.1]) c.2 r3
        else .bad r2 5
      else .bad r1 5
    else parX n (.chain 1) d p r
  | n + 1, .chain k, d, p, r => if k = 6 then parX n .signed d p r else bndX (parX n (.chain (k + 1)) d p r) fun a r1 => parX n (.loop k a.1) d a.2 r1
  | n + 1, .loop k a, d, p, r => match opR k r with
    | none => .ok (a, p) r
    | some o => bndX (parX n (.chain (k + 1)) d p r.tail) fun b r1 => bndX (cmpX (.mk o zv [] [a, b.1]) b.2 r1) fun y r2 => if k = 3 then .ok y r2 else parX n (.loop k y.1) d y.2 r2
  | n + 1, .signed, d, p, r => bndX (parX n .operand d p (r.drop (mnR r))) fun x r1 => negX (mnR r) x.1 x.2 r1
  | n + 1, .operand, d, p, r => if isS [40] r = true then encX (parX n .inner d p r.tail)
    else if isK 4 wNOT r = true then (if isS [40] r.tail = true then bndX (encX (parX n .inner d p r.tail.tail)) fun x r1 => cmpX (.mk 16 zv [] [x.1]) x.2 r1 else .bad r.tail 5)
    else litX p r
  | n + 1, .inner, d, p, r => if 64 < d + 1 then .bad r 9 else parX n .expr (d + 1) p r
/-- Not out of fuel. -/
def PR.fine {α : Type} (q : PR α) : Prop := match q with
  | .bad _ e => e ≠ 99
  | .ok _ _ => True
theorem fine_bnd {α β : Type} {q : PR α} {f : α → List Tok → PR β} (h : (bndX q f).fine) : q.fine := by
  cases q with
  | bad r e => exact h
  | ok y r => trivial
theorem fine_enc {q : PR (Ex × Nat)} (h : (encX q).fine) : q.fine := by
  cases q with
  | bad r e => exact h
  | ok y r => trivial
/-- More fuel changes nothing. -/
theorem parX_more : ∀ (n : Nat) (m : Md) (d p : Nat) (r : List Tok), (parX n m d p r).fine → parX (n + 1) m d p r = parX n m d p r
  | 0, m, d, p, r, h => absurd rfl h
  | n + 1, .expr, d, p, r, h => by
    rw [parX.eq_def (n + 1 + 1), parX.eq_def (n + 1)]
    rw [parX.eq_def (n + 1)] at h
    simp only at h ⊢
    by_cases h1 : isK 4 wIF r = true
    · rw [if_pos h1] at h ⊢
      rw [if_pos h1]
      have f1 := fine_bnd h
      rw [parX_more n .expr d p r.tail f1]
      cases ha : parX n .expr d p r.tail with
      | bad q e => rfl
      | ok a r1 =>
        rw [ha] at h
        simp only [bndX] at h ⊢
        by_cases h2 : isK 4 wTHEN r1 = true
        · rw [if_pos h2] at h ⊢
          rw [if_pos h2]
          have f2 : (parX n .expr d a.2 r1.tail).fine := fine_bnd (f := fun b r2 => if isK 4 wELSE r2 = true then bndX (parX n .expr d b.2 r2.tail) fun c r3 => cmpX (.mk 17 zv [] [a.1, b.1, c.1]) c.2 r3 else .bad r2 5) h
          rw [parX_more n .expr d a.2 r1.tail f2]
          cases hb : parX n .expr d a.2 r1.tail with
          | bad q e => rfl
          | ok b r2 =>
            rw [hb] at h
            simp only at h ⊢
            by_cases h3 : isK 4 wELSE r2 = true
            · rw [if_pos h3] at h ⊢
              rw [if_pos h3]
              have f3 : (parX n .expr d b.2 r2.tail).fine := fine_bnd (f := fun c r3 => cmpX (.mk 17 zv [] [a.1, b.1, c.1]) c.2 r3) h
              rw [parX_more n .expr d b.2 r2.tail f3]
            · rw [if_neg h3, if_neg h3]
        · rw [if_neg h2, if_neg h2]
    · rw [if_neg h1] at h ⊢
      rw [if_neg h1]
      exact parX_more n (.chain 1) d p r h
  | n + 1, .chain k, d, p, r, h => by
    rw [parX.eq_def (n + 1 + 1), parX.eq_def (n + 1)]
    rw [parX.eq_def (n + 1)] at h
    simp only at h ⊢
    by_cases h1 : k = 6
    · rw [if_pos h1] at h ⊢
      rw [if_pos h1]
      exact parX_more n .signed d p r h
    · rw [if_neg h1] at h ⊢
      rw [if_neg h1]
      rw [parX_more n (.chain (k + 1)) d p r (fine_bnd h)]
      cases ha : parX n (.chain (k + 1)) d p r with
      | bad q e => rfl
      | ok a r1 =>
        rw [ha] at h
        simp only [bndX] at h ⊢
        exact parX_more n (.loop k a.1) d a.2 r1 h
  | n + 1, .loop k a, d, p, r, h => by
    rw [parX.eq_def (n + 1 + 1), parX.eq_def (n + 1)]
    rw [parX.eq_def (n + 1)] at h
    simp only at h ⊢
    cases ho : opR k r with
    | none => rfl
    | some o =>
      rw [ho] at h
      simp only at h ⊢
      rw [parX_more n (.chain (k + 1)) d p r.tail (fine_bnd h)]
      cases hb : parX n (.chain (k + 1)) d p r.tail with
      | bad q e => rfl
      | ok b r1 =>
        rw [hb] at h
        simp only [bndX] at h ⊢
        cases hc : cmpX (.mk o zv [] [a, b.1]) b.2 r1 with
        | bad q e => rfl
        | ok y r2 =>
          rw [hc] at h
          simp only at h ⊢
          by_cases h3 : k = 3
          · rw [if_pos h3, if_pos h3]
          · rw [if_neg h3] at h ⊢
            rw [if_neg h3]
            exact parX_more n (.loop k y.1) d y.2 r2 h
  | n + 1, .signed, d, p, r, h => by
    rw [parX.eq_def (n + 1 + 1), parX.eq_def (n + 1)]
    rw [parX.eq_def (n + 1)] at h
    simp only at h ⊢
    rw [parX_more n .operand d p _ (fine_bnd h)]
  | n + 1, .operand, d, p, r, h => by
    rw [parX.eq_def (n + 1 + 1), parX.eq_def (n + 1)]
    rw [parX.eq_def (n + 1)] at h
    simp only at h ⊢
    by_cases h1 : isS [40] r = true
    · rw [if_pos h1] at h ⊢
      rw [if_pos h1]
      rw [parX_more n .inner d p r.tail (fine_enc h)]
    · rw [if_neg h1] at h ⊢
      rw [if_neg h1]
      by_cases h2 : isK 4 wNOT r = true
      · rw [if_pos h2] at h ⊢
        rw [if_pos h2]
        by_cases h3 : isS [40] r.tail = true
        · rw [if_pos h3] at h ⊢
          rw [if_pos h3]
          rw [parX_more n .inner d p r.tail.tail (fine_enc (fine_bnd h))]
        · rw [if_neg h3, if_neg h3]
      · rw [if_neg h2, if_neg h2]
  | n + 1, .inner, d, p, r, h => by
    rw [parX.eq_def (n + 1 + 1), parX.eq_def (n + 1)]
    rw [parX.eq_def (n + 1)] at h
    simp only at h ⊢
    by_cases h1 : 64 < d + 1
    · rw [if_pos h1, if_pos h1]
    · rw [if_neg h1] at h ⊢
      rw [if_neg h1]
      exact parX_more n .expr (d + 1) p r h
theorem parX_le {n k : Nat} {m : Md} {d p : Nat} {r : List Tok} (h : (parX n m d p r).fine) (hk : n ≤ k) : parX k m d p r = parX n m d p r := by
  induction k with
  | zero => obtain rfl : n = 0 := by omega
            rfl
  | succ k ih =>
    rcases Nat.lt_or_ge k n with h1 | h1
    · obtain rfl : n = k + 1 := by omega
      rfl
    · have e := ih h1
      rw [parX_more k m d p r (by rw [e]; exact h), e]
/-! What is left is an end of what was there. -/
def PR.suf {α : Type} (q : PR α) (r : List Tok) : Prop := match q with
  | .bad s _ => s <:+ r
  | .ok _ s => s <:+ r
theorem PR.suf.trans {α : Type} {q : PR α} {r s : List Tok} (h : q.suf r) (hr : r <:+ s) : q.suf s := by
  cases q with
  | bad t e => exact List.IsSuffix.trans h hr
  | ok y t => exact List.IsSuffix.trans h hr
theorem suf_bnd {α β : Type} {q : PR α} {f : α → List Tok → PR β} {r : List Tok} (h : q.suf r) (hf : ∀ y s, q = .ok y s → (f y s).suf s) : (bndX q f).suf r := by
  cases q with
  | bad t e => exact h
  | ok y t => exact (hf y t rfl).trans h
theorem suf_enc {q : PR (Ex × Nat)} {r : List Tok} (h : q.suf r) : (encX q).suf r := by
  cases q with
  | bad t e => exact h
  | ok y t =>
    unfold encX
    simp only
    by_cases h1 : isS [41] t = true
    · rw [if_pos h1]; exact (List.tail_suffix t).trans h
    · rw [if_neg h1]; exact h
theorem suf_cmp (x : Ex) (p : Nat) (r : List Tok) : (cmpX x p r).suf r := by
  unfold cmpX
  split <;> exact List.suffix_refl r
theorem suf_neg : ∀ (m : Nat) (x : Ex) (p : Nat) (r : List Tok), (negX m x p r).suf r
  | 0, x, p, r => List.suffix_refl r
  | m + 1, x, p, r => by
    unfold negX
    have h := suf_cmp (.mk 3 zv [] [x]) p r
    cases hc : cmpX (.mk 3 zv [] [x]) p r with
    | bad t e => rw [hc] at h; exact h
    | ok y t => rw [hc] at h; exact (suf_neg m y.1 y.2 t).trans h
theorem suf_lit (p : Nat) (r : List Tok) : (litX p r).suf r := by
  unfold litX
  cases r with
  | nil => exact List.suffix_refl []
  | cons t r =>
    simp only
    cases valT t with
    | some v => exact (suf_cmp _ _ _).trans (List.suffix_cons t r)
    | none =>
      simp only
      split
      · exact (suf_cmp _ _ _).trans (List.suffix_cons t r)
      · exact List.suffix_refl _
theorem parX_suf : ∀ (n : Nat) (m : Md) (d p : Nat) (r : List Tok), (parX n m d p r).suf r
  | 0, m, d, p, r => List.nil_suffix
  | n + 1, .expr, d, p, r => by
    rw [parX.eq_def]
    simp only
    split
    · refine suf_bnd ((parX_suf n .expr d p r.tail).trans (List.tail_suffix r)) fun a r1 _ => ?_
      split
      · refine suf_bnd ((parX_suf n .expr d a.2 r1.tail).trans (List.tail_suffix r1)) fun b r2 _ => ?_
        split
        · exact suf_bnd ((parX_suf n .expr d b.2 r2.tail).trans (List.tail_suffix r2)) fun c r3 _ => suf_cmp _ _ _
        · exact List.suffix_refl _
      · exact List.suffix_refl _
    · exact parX_suf n (.chain 1) d p r
  | n + 1, .chain k, d, p, r => by
    rw [parX.eq_def]
    simp only
    split
    · exact parX_suf n .signed d p r
    · exact suf_bnd (parX_suf n (.chain (k + 1)) d p r) fun a r1 _ => parX_suf n (.loop k a.1) d a.2 r1
  | n + 1, .loop k a, d, p, r => by
    rw [parX.eq_def]
    simp only
    cases ho : opR k r with
    | none => exact List.suffix_refl _
    | some o =>
      simp only
      refine suf_bnd ((parX_suf n (.chain (k + 1)) d p r.tail).trans (List.tail_suffix r)) fun b r1 _ => suf_bnd (suf_cmp _ _ _) fun y r2 _ => ?_
      split
      · exact List.suffix_refl _
      · exact parX_suf n (.loop k y.1) d y.2 r2
  | n + 1, .signed, d, p, r => by
    rw [parX.eq_def]
    simp only
    exact suf_bnd ((parX_suf n .operand d p _).trans (List.drop_suffix _ r)) fun x r1 _ => suf_neg _ _ _ _
  | n + 1, .operand, d, p, r => by
    rw [parX.eq_def]
    simp only
    split
    · exact suf_enc ((parX_suf n .inner d p r.tail).trans (List.tail_suffix r))
    · split
      · split
        · exact suf_bnd (suf_enc ((parX_suf n .inner d p r.tail.tail).trans ((List.tail_suffix _).trans (List.tail_suffix r)))) fun x r1 _ => suf_cmp _ _ _
        · exact List.tail_suffix r
      · exact suf_lit p r
  | n + 1, .inner, d, p, r => by
    rw [parX.eq_def]
    simp only
    split
    · exact List.suffix_refl r
    · exact parX_suf n .expr (d + 1) p r
/-! Parts are no more than tokens; what is read is not nothing. -/
def PR.few {α : Type} (q : PR (α × Nat)) (p : Nat) (r : List Tok) : Prop := match q with
  | .bad _ e => e = 10 → 4096 < p + r.length
  | .ok y s => y.2 + s.length ≤ p + r.length
theorem few_mono {α : Type} {q : PR (α × Nat)} {p p' : Nat} {r r' : List Tok} (h : q.few p r) (hl : p + r.length ≤ p' + r'.length) : q.few p' r' := by
  cases q with
  | bad s e => exact fun he => Nat.lt_of_lt_of_le (h he) hl
  | ok y s => exact Nat.le_trans h hl
theorem few_bnd {α β : Type} {q : PR (α × Nat)} {f : α × Nat → List Tok → PR (β × Nat)} {p : Nat} {r : List Tok} (h : q.few p r) (hf : ∀ y s, q = .ok y s → (f y s).few y.2 s) : (bndX q f).few p r := by
  cases q with
  | bad s e => exact h
  | ok y s => exact few_mono (hf y s rfl) h
theorem few_cmp {x : Ex} {p : Nat} {r : List Tok} : (cmpX x p r).few (p + 1) r := by
  unfold cmpX
  split
  · intro _; omega
  · exact Nat.le_refl _
theorem few_cmp' {x : Ex} {p : Nat} {r r' : List Tok} (h : r'.length + 1 ≤ r.length) : (cmpX x p r').few p r := few_mono few_cmp (by omega)
theorem isK_len {k : Int} {x : List UInt8} {r : List Tok} (h : isK k x r = true) : r.tail.length + 1 = r.length := by
  cases r with
  | nil => cases h
  | cons t r => simp
theorem opR_len {k : Nat} {r : List Tok} {o : Int} (h : opR k r = some o) : r.tail.length + 1 = r.length := by
  cases r with
  | nil =>
    have e : opR k [] = none := by
      unfold opR
      simp [isK]
    rw [e] at h
    cases h
  | cons t r => simp
theorem mnR_le : ∀ r : List Tok, mnR r ≤ r.length
  | [] => Nat.le_refl _
  | t :: r => by
    unfold mnR
    split
    · have := mnR_le r; simp; omega
    · exact Nat.zero_le _
theorem few_neg : ∀ (m : Nat) (x : Ex) (p : Nat) (r : List Tok), (negX m x p r).few (p + m) r
  | 0, x, p, r => Nat.le_refl _
  | m + 1, x, p, r => by
    unfold negX
    have h := few_cmp (x := .mk 3 zv [] [x]) (p := p) (r := r)
    cases hc : cmpX (.mk 3 zv [] [x]) p r with
    | bad t e => rw [hc] at h; exact few_mono h (by omega)
    | ok y t =>
      rw [hc] at h
      have h' : y.2 + t.length ≤ p + 1 + r.length := h
      exact few_mono (few_neg m y.1 y.2 t) (by omega)
theorem few_enc {q : PR (Ex × Nat)} {p : Nat} {r : List Tok} (h : q.few p r) : (encX q).few p r := by
  cases q with
  | bad t e => exact h
  | ok y t =>
    unfold encX
    simp only
    by_cases h1 : isS [41] t = true
    · rw [if_pos h1]
      have := isK_len h1
      have h' : y.2 + t.length ≤ p + r.length := h
      show y.2 + t.tail.length ≤ _
      omega
    · rw [if_neg h1]; intro h; cases h
theorem few_lit (p : Nat) (r : List Tok) : (litX p r).few p r := by
  unfold litX
  cases r with
  | nil => intro h; cases h
  | cons t r =>
    simp only
    cases valT t with
    | some v => exact few_cmp' (by simp)
    | none =>
      simp only
      split
      · exact few_cmp' (by simp)
      · intro h; cases h
theorem parX_few : ∀ (n : Nat) (m : Md) (d p : Nat) (r : List Tok), (parX n m d p r).few p r
  | 0, m, d, p, r => fun h => by cases h
  | n + 1, .expr, d, p, r => by
    rw [parX.eq_def]
    simp only
    split
    · rename_i h1
      have l1 := isK_len h1
      refine few_mono (p := p) (r := r.tail) ?_ (by omega)
      refine few_bnd (parX_few n .expr d p r.tail) fun a r1 _ => ?_
      split
      · rename_i h2
        have l2 := isK_len h2
        refine few_mono (p := a.2 + 1) (r := r1.tail) ?_ (by omega)
        have f2 := parX_few n .expr d a.2 r1.tail
        cases hb : parX n .expr d a.2 r1.tail with
        | bad q e => rw [hb] at f2; exact few_mono f2 (by omega)
        | ok b r2 =>
          rw [hb] at f2
          have f2' : b.2 + r2.length ≤ a.2 + r1.tail.length := f2
          simp only [bndX]
          split
          · rename_i h3
            have l3 := isK_len h3
            have f3 := parX_few n .expr d b.2 r2.tail
            cases hc : parX n .expr d b.2 r2.tail with
            | bad q e => rw [hc] at f3; exact few_mono f3 (by omega)
            | ok c r3 =>
              rw [hc] at f3
              have f3' : c.2 + r3.length ≤ b.2 + r2.tail.length := f3
              exact few_mono few_cmp (by omega)
          · intro h; cases h
      · intro h; cases h
    · exact parX_few n (.chain 1) d p r
  | n + 1, .chain k, d, p, r => by
    rw [parX.eq_def]
    simp only
    split
    · exact parX_few n .signed d p r
    · exact few_bnd (parX_few n (.chain (k + 1)) d p r) fun a r1 _ => parX_few n (.loop k a.1) d a.2 r1
  | n + 1, .loop k a, d, p, r => by
    rw [parX.eq_def]
    simp only
    cases ho : opR k r with
    | none => exact Nat.le_refl _
    | some o =>
      simp only
      have l1 := opR_len ho
      have f1 := parX_few n (.chain (k + 1)) d p r.tail
      cases hb : parX n (.chain (k + 1)) d p r.tail with
      | bad q e => rw [hb] at f1; exact few_mono f1 (by omega)
      | ok b r1 =>
        rw [hb] at f1
        have f1' : b.2 + r1.length ≤ p + r.tail.length := f1
        simp only [bndX]
        have f2 := few_cmp (x := .mk o zv [] [a, b.1]) (p := b.2) (r := r1)
        cases hc : cmpX (.mk o zv [] [a, b.1]) b.2 r1 with
        | bad q e => rw [hc] at f2; exact few_mono f2 (by omega)
        | ok y r2 =>
          rw [hc] at f2
          have f2' : y.2 + r2.length ≤ b.2 + 1 + r1.length := f2
          simp only
          split
          · show y.2 + r2.length ≤ _; omega
          · exact few_mono (parX_few n (.loop k y.1) d y.2 r2) (by omega)
  | n + 1, .signed, d, p, r => by
    rw [parX.eq_def]
    simp only
    have hm := mnR_le r
    have f1 := parX_few n .operand d p (r.drop (mnR r))
    cases hb : parX n .operand d p (r.drop (mnR r)) with
    | bad q e => rw [hb] at f1; exact few_mono f1 (by rw [List.length_drop]; omega)
    | ok b r1 =>
      rw [hb] at f1
      have f1' : b.2 + r1.length ≤ p + (r.drop (mnR r)).length := f1
      rw [List.length_drop] at f1'
      exact few_mono (few_neg (mnR r) b.1 b.2 r1) (by omega)
  | n + 1, .operand, d, p, r => by
    rw [parX.eq_def]
    simp only
    split
    · rename_i h1
      have l1 := isK_len h1
      exact few_mono (few_enc (parX_few n .inner d p r.tail)) (by omega)
    · split
      · rename_i h1 h2
        have l2 := isK_len h2
        split
        · rename_i h3
          have l3 := isK_len h3
          have f1 := few_enc (parX_few n .inner d p r.tail.tail)
          cases hb : encX (parX n .inner d p r.tail.tail) with
          | bad q e => rw [hb] at f1; exact few_mono f1 (by omega)
          | ok b r1 =>
            rw [hb] at f1
            have f1' : b.2 + r1.length ≤ p + r.tail.tail.length := f1
            exact few_mono few_cmp (by omega)
        · intro h; cases h
      · exact few_lit p r
  | n + 1, .inner, d, p, r => by
    rw [parX.eq_def]
    simp only
    split
    · intro h; cases h
    · exact parX_few n .expr (d + 1) p r
/-! There is always fuel enough. -/
def levM : Md → Nat
  | .expr => 10
  | .chain k => 9 - k
  | .loop _ _ => 11
  | .signed => 2
  | .operand => 1
  | .inner => 11
def modM : Md → Prop
  | .chain k => k ≤ 6
  | .loop k _ => k ≤ 5
  | _ => True
theorem suf_len {α : Type} {q : PR α} {r : List Tok} {y : α} {s : List Tok} (h : q.suf r) (e : q = .ok y s) : s.length ≤ r.length := by
  rw [e] at h
  exact List.IsSuffix.length_le h
theorem neg_suf_len {m p : Nat} {x y : Ex × Nat} {r s : List Tok} (e : negX m x.1 p r = .ok y s) : s.length ≤ r.length := suf_len (suf_neg m x.1 p r) e
theorem enc_lt {q : PR (Ex × Nat)} {r s : List Tok} {y : Ex × Nat} (h : q.suf r) (e : encX q = .ok y s) : s.length < r.length := by
  cases q with
  | bad t er => cases e
  | ok z t =>
    unfold encX at e
    simp only at e
    have h' : t <:+ r := h
    have l1 := List.IsSuffix.length_le h'
    by_cases h1 : isS [41] t = true
    · rw [if_pos h1] at e
      cases e
      have := isK_len h1
      omega
    · rw [if_neg h1] at e; cases e
theorem cmp_ok {x : Ex} {p : Nat} {r s : List Tok} {y : Ex × Nat} (e : cmpX x p r = .ok y s) : y = (x, p + 1) ∧ s = r := by
  unfold cmpX at e
  split at e
  · cases e
  · cases e; exact ⟨rfl, rfl⟩
theorem lit_lt {p : Nat} {r s : List Tok} {y : Ex × Nat} (e : litX p r = .ok y s) : s.length < r.length := by
  unfold litX at e
  cases r with
  | nil => cases e
  | cons t r =>
    simp only at e
    cases hv : valT t with
    | some v =>
      rw [hv] at e
      obtain ⟨_, rfl⟩ := cmp_ok e
      simp
    | none =>
      rw [hv] at e
      simp only at e
      split at e
      · obtain ⟨_, rfl⟩ := cmp_ok e
        simp
      · cases e
theorem bnd_ok {α β : Type} {q : PR α} {f : α → List Tok → PR β} {y : β} {s : List Tok} (e : bndX q f = .ok y s) : ∃ z t, q = .ok z t ∧ f z t = .ok y s := by
  cases q with
  | bad r er => cases e
  | ok z t => exact ⟨z, t, rfl, e⟩
/-- What is read is not nothing. -/
theorem parX_lt : ∀ (n : Nat) (m : Md) (d p : Nat) (r s : List Tok) (y : Ex × Nat), (∀ k a, m ≠ .loop k a) → parX n m d p r = .ok y s → s.length < r.length
  | 0, m, d, p, r, s, y, _, h => by cases h
  | n + 1, .expr, d, p, r, s, y, _, h => by
    rw [parX.eq_def] at h
    simp only at h
    split at h
    · rename_i h1
      have l1 := isK_len h1
      obtain ⟨a, r1, e1, h⟩ := bnd_ok h
      have k1 := suf_len (parX_suf n .expr d p r.tail) e1
      split at h
      · rename_i h2
        have l2 := isK_len h2
        obtain ⟨b, r2, e2, h⟩ := bnd_ok h
        have k2 := suf_len (parX_suf n .expr d a.2 r1.tail) e2
        split at h
        · rename_i h3
          have l3 := isK_len h3
          obtain ⟨c, r3, e3, h⟩ := bnd_ok h
          have k3 := suf_len (parX_suf n .expr d b.2 r2.tail) e3
          obtain ⟨_, rfl⟩ := cmp_ok h
          omega
        · cases h
      · cases h
    · exact parX_lt n (.chain 1) d p r s y (fun k a e => by cases e) h
  | n + 1, .chain k, d, p, r, s, y, _, h => by
    rw [parX.eq_def] at h
    simp only at h
    split at h
    · exact parX_lt n .signed d p r s y (fun k a e => by cases e) h
    · obtain ⟨a, r1, e1, h⟩ := bnd_ok h
      have k1 := parX_lt n (.chain (k + 1)) d p r r1 a (fun k a e => by cases e) e1
      have k2 := suf_len (parX_suf n (.loop k a.1) d a.2 r1) h
      omega
  | n + 1, .loop k a, d, p, r, s, y, hm, h => absurd rfl (hm k a)
  | n + 1, .signed, d, p, r, s, y, _, h => by
    rw [parX.eq_def] at h
    simp only at h
    obtain ⟨a, r1, e1, h⟩ := bnd_ok h
    have k1 := parX_lt n .operand d p _ r1 a (fun k a e => by cases e) e1
    have k2 := neg_suf_len h
    rw [List.length_drop] at k1
    omega
  | n + 1, .operand, d, p, r, s, y, _, h => by
    rw [parX.eq_def] at h
    simp only at h
    split at h
    · have := enc_lt (parX_suf n .inner d p r.tail) h
      have := List.IsSuffix.length_le (List.tail_suffix r)
      omega
    · split at h
      · split at h
        · obtain ⟨a, r1, e1, h⟩ := bnd_ok h
          have k1 := enc_lt (parX_suf n .inner d p r.tail.tail) e1
          obtain ⟨_, rfl⟩ := cmp_ok h
          have := List.IsSuffix.length_le (List.tail_suffix r)
          have := List.IsSuffix.length_le (List.tail_suffix r.tail)
          omega
        · cases h
      · exact lit_lt h
  | n + 1, .inner, d, p, r, s, y, _, h => by
    rw [parX.eq_def] at h
    simp only at h
    split at h
    · cases h
    · exact parX_lt n .expr (d + 1) p r s y (fun k a e => by cases e) h
theorem bnd_fine {α β : Type} {q : PR α} {f : α → List Tok → PR β} (h : q.fine) (hf : ∀ y s, q = .ok y s → (f y s).fine) : (bndX q f).fine := by
  cases q with
  | bad r e => exact h
  | ok y s => exact hf y s rfl
theorem cmp_fine (x : Ex) (p : Nat) (r : List Tok) : (cmpX x p r).fine := by
  unfold cmpX
  split
  · show (10 : Nat) ≠ 99; decide
  · trivial
theorem neg_fine : ∀ (m : Nat) (x : Ex) (p : Nat) (r : List Tok), (negX m x p r).fine
  | 0, x, p, r => trivial
  | m + 1, x, p, r => by
    unfold negX
    have h := cmp_fine (.mk 3 zv [] [x]) p r
    cases hc : cmpX (.mk 3 zv [] [x]) p r with
    | bad t e => rw [hc] at h; exact h
    | ok y t => exact neg_fine m y.1 y.2 t
theorem enc_fine {q : PR (Ex × Nat)} (h : q.fine) : (encX q).fine := by
  cases q with
  | bad r e => exact h
  | ok y s =>
    unfold encX
    simp only
    split
    · trivial
    · show (5 : Nat) ≠ 99; decide
theorem lit_fine (p : Nat) (r : List Tok) : (litX p r).fine := by
  unfold litX
  cases r with
  | nil => show (5 : Nat) ≠ 99; decide
  | cons t r =>
    simp only
    cases valT t with
    | some v => exact cmp_fine _ _ _
    | none =>
      simp only
      split
      · exact cmp_fine _ _ _
      · show (5 : Nat) ≠ 99; decide
theorem parX_fine : ∀ (n : Nat) (m : Md) (d p : Nat) (r : List Tok), modM m → 12 * r.length + levM m ≤ n → (parX n m d p r).fine
  | 0, m, d, p, r, hm, h => by
    cases m <;> simp only [levM, modM] at h hm <;> omega
  | n + 1, .expr, d, p, r, _, h => by
    simp only [levM] at h
    rw [parX.eq_def]
    simp only
    split
    · rename_i h1
      have l1 := isK_len h1
      refine bnd_fine (parX_fine n .expr d p r.tail trivial (by simp only [levM]; omega)) fun a r1 e1 => ?_
      have k1 := suf_len (parX_suf n .expr d p r.tail) e1
      split
      · rename_i h2
        have l2 := isK_len h2
        refine bnd_fine (parX_fine n .expr d a.2 r1.tail trivial (by simp only [levM]; omega)) fun b r2 e2 => ?_
        have k2 := suf_len (parX_suf n .expr d a.2 r1.tail) e2
        split
        · rename_i h3
          have l3 := isK_len h3
          exact bnd_fine (parX_fine n .expr d b.2 r2.tail trivial (by simp only [levM]; omega)) fun c r3 e3 => cmp_fine _ _ _
        · show (5 : Nat) ≠ 99; decide
      · show (5 : Nat) ≠ 99; decide
    · exact parX_fine n (.chain 1) d p r (by show 1 ≤ 6; omega) (by simp only [levM]; omega)
  | n + 1, .chain k, d, p, r, hm, h => by
    have hk : k ≤ 6 := hm
    simp only [levM] at h
    rw [parX.eq_def]
    simp only
    split
    · exact parX_fine n .signed d p r trivial (by simp only [levM]; omega)
    · refine bnd_fine (parX_fine n (.chain (k + 1)) d p r (by show k + 1 ≤ 6; omega) (by simp only [levM]; omega)) fun a r1 e1 => ?_
      have k1 := parX_lt n (.chain (k + 1)) d p r r1 a (fun k a e => by cases e) e1
      exact parX_fine n (.loop k a.1) d a.2 r1 (by show k ≤ 5; omega) (by simp only [levM]; omega)
  | n + 1, .loop k a, d, p, r, hm, h => by
    have hk : k ≤ 5 := hm
    simp only [levM] at h
    rw [parX.eq_def]
    simp only
    cases ho : opR k r with
    | none => trivial
    | some o =>
      simp only
      have l1 := opR_len ho
      refine bnd_fine (parX_fine n (.chain (k + 1)) d p r.tail (by show k + 1 ≤ 6; omega) (by simp only [levM]; omega)) fun b r1 e1 => ?_
      have k1 := suf_len (parX_suf n (.chain (k + 1)) d p r.tail) e1
      refine bnd_fine (cmp_fine _ _ _) fun y r2 e2 => ?_
      obtain ⟨_, rfl⟩ := cmp_ok e2
      split
      · trivial
      · exact parX_fine n (.loop k y.1) d y.2 r2 hm (by simp only [levM]; omega)
  | n + 1, .signed, d, p, r, _, h => by
    simp only [levM] at h
    rw [parX.eq_def]
    simp only
    exact bnd_fine (parX_fine n .operand d p _ trivial (by simp only [levM]; rw [List.length_drop]; omega)) fun x r1 e1 => neg_fine _ _ _ _
  | n + 1, .operand, d, p, r, _, h => by
    simp only [levM] at h
    rw [parX.eq_def]
    simp only
    split
    · rename_i h1
      have l1 := isK_len h1
      exact enc_fine (parX_fine n .inner d p r.tail trivial (by simp only [levM]; omega))
    · split
      · rename_i h2
        have l2 := isK_len h2
        split
        · rename_i h3
          have l3 := isK_len h3
          exact bnd_fine (enc_fine (parX_fine n .inner d p r.tail.tail trivial (by simp only [levM]; omega))) fun x r1 e1 => cmp_fine _ _ _
        · show (5 : Nat) ≠ 99; decide
      · exact lit_fine p r
  | n + 1, .inner, d, p, r, _, h => by
    simp only [levM] at h
    rw [parX.eq_def]
    simp only
    split
    · show (9 : Nat) ≠ 99; decide
    · exact parX_fine n .expr (d + 1) p r trivial (by simp only [levM]; omega)
/-! What is read, whatever the fuel. -/
def Par (m : Md) (d p : Nat) (r : List Tok) (q : PR (Ex × Nat)) : Prop := q.fine ∧ ∃ n, ∀ k, n ≤ k → parX k m d p r = q
theorem Par.at {m : Md} {d p : Nat} {r : List Tok} {q : PR (Ex × Nat)} (h : Par m d p r q) {n : Nat} (hm : modM m) (hn : 12 * r.length + levM m ≤ n) : parX n m d p r = q := by
  obtain ⟨hf, k, hk⟩ := h
  have h1 := parX_fine n m d p r hm hn
  have h2 := parX_le h1 (Nat.le_max_left n k)
  rw [← h2, hk _ (Nat.le_max_right n k)]
theorem Par.of {m : Md} {d p : Nat} {r : List Tok} {n : Nat} (h : (parX n m d p r).fine) : Par m d p r (parX n m d p r) := ⟨h, n, fun _ hk => parX_le h hk⟩
theorem Par.uniq {m : Md} {d p : Nat} {r : List Tok} {q q' : PR (Ex × Nat)} (h : Par m d p r q) (h' : Par m d p r q') : q = q' := by
  obtain ⟨_, n, hn⟩ := h
  obtain ⟨_, k, hk⟩ := h'
  rw [← hn (max n k) (Nat.le_max_left n k), hk (max n k) (Nat.le_max_right n k)]
theorem Par.any (m : Md) (d p : Nat) (r : List Tok) (hm : modM m) : ∃ q, Par m d p r q := ⟨_, Par.of (parX_fine _ m d p r hm (Nat.le_refl _))⟩
theorem Par.expr {d p : Nat} {r : List Tok} {q : PR (Ex × Nat)} (h1 : isK 4 wIF r = false) (h : Par (.chain 1) d p r q) : Par .expr d p r q := by
  obtain ⟨hf, n, hn⟩ := h
  refine ⟨hf, n + 1, fun k hk => ?_⟩
  obtain ⟨j, rfl⟩ : ∃ j, k = j + 1 := ⟨k - 1, by omega⟩
  rw [parX.eq_def]
  simp only
  rw [if_neg (by rw [h1]; decide)]
  exact hn j (by omega)
theorem Par.ifs {d p : Nat} {r r1 r2 r3 : List Tok} {a b c : Ex × Nat} {q : PR (Ex × Nat)} (h1 : isK 4 wIF r = true) (ha : Par .expr d p r.tail (.ok a r1)) (h2 : isK 4 wTHEN r1 = true) (hb : Par .expr d a.2 r1.tail (.ok b r2)) (h3 : isK 4 wELSE r2 = true) (hc : Par .expr d b.2 r2.tail (.ok c r3))
    (hq : cmpX (.mk 17 zv [] [a.1, b.1, c.1]) c.2 r3 = q) : Par .expr d p r q := by
  obtain ⟨_, n1, k1⟩ := ha
  obtain ⟨_, n2, k2⟩ := hb
  obtain ⟨_, n3, k3⟩ := hc
  refine ⟨by rw [← hq]; exact cmp_fine _ _ _, n1 + n2 + n3 + 1, fun k hk => ?_⟩
  obtain ⟨j, rfl⟩ : ∃ j, k = j + 1 := ⟨k - 1, by omega⟩
  rw [parX.eq_def]
  simp only
  rw [if_pos h1, k1 j (by omega)]
  simp only [bndX]
  rw [if_pos h2, k2 j (by omega)]
  simp only
  rw [if_pos h3, k3 j (by omega)]
  exact hq
theorem Par.chain {k d p : Nat} {r r1 : List Tok} {a : Ex × Nat} {q : PR (Ex × Nat)} (hk : k ≠ 6) (ha : Par (.chain (k + 1)) d p r (.ok a r1)) (hl : Par (.loop k a.1) d a.2 r1 q) : Par (.chain k) d p r q := by
  obtain ⟨_, n1, k1⟩ := ha
  obtain ⟨hf, n2, k2⟩ := hl
  refine ⟨hf, n1 + n2 + 1, fun i hi => ?_⟩
  obtain ⟨j, rfl⟩ : ∃ j, i = j + 1 := ⟨i - 1, by omega⟩
  rw [parX.eq_def]
  simp only
  rw [if_neg hk, k1 j (by omega)]
  exact k2 j (by omega)
theorem Par.chainBad {k d p e : Nat} {r s : List Tok} (hk : k ≠ 6) (ha : Par (.chain (k + 1)) d p r (.bad s e)) : Par (.chain k) d p r (.bad s e) := by
  obtain ⟨hf, n1, k1⟩ := ha
  refine ⟨hf, n1 + 1, fun i hi => ?_⟩
  obtain ⟨j, rfl⟩ : ∃ j, i = j + 1 := ⟨i - 1, by omega⟩
  rw [parX.eq_def]
  simp only
  rw [if_neg hk, k1 j (by omega)]
  rfl
theorem Par.chain6 {d p : Nat} {r : List Tok} {q : PR (Ex × Nat)} (h : Par .signed d p r q) : Par (.chain 6) d p r q := by
  obtain ⟨hf, n, hn⟩ := h
  refine ⟨hf, n + 1, fun k hk => ?_⟩
  obtain ⟨j, rfl⟩ : ∃ j, k = j + 1 := ⟨k - 1, by omega⟩
  rw [parX.eq_def]
  exact hn j (by omega)
theorem Par.stop {k d p : Nat} {a : Ex} {r : List Tok} (h : opR k r = none) : Par (.loop k a) d p r (.ok (a, p) r) := by
  refine ⟨trivial, 1, fun i hi => ?_⟩
  obtain ⟨j, rfl⟩ : ∃ j, i = j + 1 := ⟨i - 1, by omega⟩
  rw [parX.eq_def]
  simp only
  rw [h]
theorem Par.go {k d p : Nat} {a : Ex} {o : Int} {b y : Ex × Nat} {r r1 r2 : List Tok} {q : PR (Ex × Nat)} (h : opR k r = some o) (hb : Par (.chain (k + 1)) d p r.tail (.ok b r1)) (hc : cmpX (.mk o zv [] [a, b.1]) b.2 r1 = .ok y r2) (h3 : k = 3 → q = .ok y r2) (hl : k ≠ 3 → Par (.loop k y.1) d y.2 r2 q) : Par (.loop k a) d p r q := by
  obtain ⟨_, n1, k1⟩ := hb
  by_cases hk : k = 3
  · refine ⟨by rw [h3 hk]; trivial, n1 + 1, fun i hi => ?_⟩
    obtain ⟨j, rfl⟩ : ∃ j, i = j + 1 := ⟨i - 1, by omega⟩
    rw [parX.eq_def]
    simp only
    rw [h]
    simp only
    rw [k1 j (by omega)]
    simp only [bndX]
    rw [hc]
    simp only
    rw [if_pos hk, h3 hk]
  · obtain ⟨hf, n2, k2⟩ := hl hk
    refine ⟨hf, n1 + n2 + 1, fun i hi => ?_⟩
    obtain ⟨j, rfl⟩ : ∃ j, i = j + 1 := ⟨i - 1, by omega⟩
    rw [parX.eq_def]
    simp only
    rw [h]
    simp only
    rw [k1 j (by omega)]
    simp only [bndX]
    rw [hc]
    simp only
    rw [if_neg hk]
    exact k2 j (by omega)
theorem Par.goBad {k d p e : Nat} {a : Ex} {o : Int} {r s : List Tok} (h : opR k r = some o) (hb : Par (.chain (k + 1)) d p r.tail (.bad s e)) : Par (.loop k a) d p r (.bad s e) := by
  obtain ⟨hf, n1, k1⟩ := hb
  refine ⟨hf, n1 + 1, fun i hi => ?_⟩
  obtain ⟨j, rfl⟩ : ∃ j, i = j + 1 := ⟨i - 1, by omega⟩
  rw [parX.eq_def]
  simp only
  rw [h]
  simp only
  rw [k1 j (by omega)]
  rfl
theorem Par.signed {d p : Nat} {r r1 : List Tok} {x : Ex × Nat} (h : Par .operand d p (r.drop (mnR r)) (.ok x r1)) : Par .signed d p r (negX (mnR r) x.1 x.2 r1) := by
  obtain ⟨_, n, hn⟩ := h
  refine ⟨neg_fine _ _ _ _, n + 1, fun k hk => ?_⟩
  obtain ⟨j, rfl⟩ : ∃ j, k = j + 1 := ⟨k - 1, by omega⟩
  rw [parX.eq_def]
  simp only
  rw [hn j (by omega)]
  rfl
theorem Par.signedBad {d p e : Nat} {r s : List Tok} (h : Par .operand d p (r.drop (mnR r)) (.bad s e)) : Par .signed d p r (.bad s e) := by
  obtain ⟨hf, n, hn⟩ := h
  refine ⟨hf, n + 1, fun k hk => ?_⟩
  obtain ⟨j, rfl⟩ : ∃ j, k = j + 1 := ⟨k - 1, by omega⟩
  rw [parX.eq_def]
  simp only
  rw [hn j (by omega)]
  rfl
theorem Par.brk {d p : Nat} {r : List Tok} {q : PR (Ex × Nat)} (h1 : isS [40] r = true) (h : Par .inner d p r.tail q) : Par .operand d p r (encX q) := by
  obtain ⟨hf, n, hn⟩ := h
  refine ⟨enc_fine hf, n + 1, fun k hk => ?_⟩
  obtain ⟨j, rfl⟩ : ∃ j, k = j + 1 := ⟨k - 1, by omega⟩
  rw [parX.eq_def]
  simp only
  rw [if_pos h1, hn j (by omega)]
theorem Par.not {d p : Nat} {r r1 : List Tok} {x : Ex × Nat} {q : PR (Ex × Nat)} (h0 : isS [40] r = false) (h1 : isK 4 wNOT r = true) (h2 : isS [40] r.tail = true) (h : Par .inner d p r.tail.tail q) (he : encX q = .ok x r1) : Par .operand d p r (cmpX (.mk 16 zv [] [x.1]) x.2 r1) := by
  obtain ⟨hf, n, hn⟩ := h
  refine ⟨cmp_fine _ _ _, n + 1, fun k hk => ?_⟩
  obtain ⟨j, rfl⟩ : ∃ j, k = j + 1 := ⟨k - 1, by omega⟩
  rw [parX.eq_def]
  simp only
  rw [if_neg (by rw [h0]; decide), if_pos h1, if_pos h2, hn j (by omega), he]
  rfl
theorem Par.lit {d p : Nat} {r : List Tok} (h0 : isS [40] r = false) (h1 : isK 4 wNOT r = false) : Par .operand d p r (litX p r) := by
  refine ⟨lit_fine _ _, 1, fun k hk => ?_⟩
  obtain ⟨j, rfl⟩ : ∃ j, k = j + 1 := ⟨k - 1, by omega⟩
  rw [parX.eq_def]
  simp only
  rw [if_neg (by rw [h0]; decide), if_neg (by rw [h1]; decide)]
theorem Par.inner {d p : Nat} {r : List Tok} {q : PR (Ex × Nat)} (hd : d + 1 ≤ 64) (h : Par .expr (d + 1) p r q) : Par .inner d p r q := by
  obtain ⟨hf, n, hn⟩ := h
  refine ⟨hf, n + 1, fun k hk => ?_⟩
  obtain ⟨j, rfl⟩ : ∃ j, k = j + 1 := ⟨k - 1, by omega⟩
  rw [parX.eq_def]
  simp only
  rw [if_neg (by omega)]
  exact hn j (by omega)
theorem Par.deep {d p : Nat} {r : List Tok} (hd : 64 < d + 1) : Par .inner d p r (.bad r 9) := by
  refine ⟨by show (9 : Nat) ≠ 99; decide, 1, fun k hk => ?_⟩
  obtain ⟨j, rfl⟩ : ∃ j, k = j + 1 := ⟨k - 1, by omega⟩
  rw [parX.eq_def]
  simp only
  rw [if_pos hd]
/-! What is written is read. -/
/-- Nothing that joins. -/
def EndT (r : List Tok) : Prop := ∀ k, opR k r = none
theorem endT_nil : EndT [] := fun k => by
  unfold opR
  simp [isK]
theorem cmp_is {x : Ex} {p : Nat} (r : List Tok) (h : p + 1 ≤ 4096) : cmpX x p r = .ok (x, p + 1) r := by
  unfold cmpX
  rw [if_neg (by omega)]
/-- What an operand is, is read as an expression where nothing joins it. -/
theorem Par.up {d p : Nat} {r s : List Tok} {x : Ex × Nat} (h : Par .operand d p r (.ok x s)) (hm : mnR r = 0) (k j : Nat) (hk : k + j = 6) (he : ∀ i, k ≤ i → opR i s = none) : Par (.chain k) d p r (.ok x s) := by
  induction j generalizing k with
  | zero =>
    obtain rfl : k = 6 := by omega
    refine Par.chain6 ?_
    have h' := Par.signed (d := d) (p := p) (r := r) (r1 := s) (x := x) (by rw [hm]; exact h)
    rw [hm] at h'
    exact h'
  | succ j ih =>
    exact Par.chain (by omega) (ih (k + 1) (by omega) (fun i hi => he i (by omega))) (Par.stop (he k (Nat.le_refl _)))
theorem par_up {d p : Nat} {r s : List Tok} {x : Ex × Nat} (L : Nat) (h : Par (.chain L) d p r (.ok x s)) (k j : Nat) (hk : k + j = L) (hL : L ≤ 6) (he : ∀ i, k ≤ i → i < L → opR i s = none) : Par (.chain k) d p r (.ok x s) := by
  induction j generalizing k with
  | zero =>
    obtain rfl : k = L := by omega
    exact h
  | succ j ih =>
    exact Par.chain (by omega) (ih (k + 1) (by omega) (fun i hi hi2 => he i (by omega) hi2)) (Par.stop (he k (Nat.le_refl _) (by omega)))
/-- How an operand begins. -/
def HeadT (r : List Tok) : Prop := mnR r = 0 ∧ isK 4 wIF r = false
theorem head_of {t : Tok} {r : List Tok} (h : ¬ (t.kind = 5 ∧ t.text = [45])) (h2 : ¬ (t.kind = 4 ∧ t.text = wIF)) : HeadT (t :: r) := by
  constructor
  · unfold mnR
    rw [if_neg]
    intro e
    simp only [isS, isK, Bool.and_eq_true, decide_eq_true_eq] at e
    exact h e
  · cases e : isK 4 wIF (t :: r) with
    | false => rfl
    | true =>
      simp only [isK, Bool.and_eq_true, decide_eq_true_eq] at e
      exact absurd e h2
/-- A value that stands for itself. -/
theorem leaf_val {v : Val} (hv : vsnd v = true) (hn : 0 ≤ v.n) : ∃ t, tksV v = [t] ∧ valT t = some v ∧ ¬ (t.kind = 5 ∧ t.text = [45]) ∧ ¬ (t.kind = 4 ∧ t.text = wIF) ∧ ¬ (t.kind = 5 ∧ t.text = [40]) ∧ ¬ (t.kind = 4 ∧ t.text = wNOT) := by
  rcases val_form hv with rfl | ⟨n, s, rfl⟩ | ⟨t, rfl⟩ | rfl | rfl | ⟨d, rfl⟩
  · exact ⟨⟨4, 0, [110, 117, 108, 108], 0, 0, 0⟩, rfl, rfl, by decide, by decide, by decide, by decide⟩
  · refine ⟨⟨1, 0, [], n, s, 0⟩, ?_, rfl, by simp, by simp, by simp, by simp⟩
    have hn' : 0 ≤ n := hn
    show (if n < 0 then _ else _) = _
    rw [if_neg (by omega)]
  · refine ⟨⟨2, 0, t.data.toList, 0, 0, 0⟩, rfl, ?_, by simp, by simp, by simp, by simp⟩
    show some (⟨2, 0, 0, bytesOf t.data.toList, 0⟩ : Val) = _
    rw [bytesOf_data]
  · exact ⟨⟨4, 0, [102, 97, 108, 115, 101], 0, 0, 0⟩, rfl, rfl, by decide, by decide, by decide, by decide⟩
  · exact ⟨⟨4, 0, [116, 114, 117, 101], 0, 0, 0⟩, rfl, rfl, by decide, by decide, by decide, by decide⟩
  · exact ⟨⟨3, 0, [], 0, 0, d⟩, rfl, rfl, by simp, by simp, by simp, by simp⟩
theorem word_not {nm : List UInt8} (h : wordB (bytesOf nm) = true) : ∀ x ∈ resL, nm ≠ x := by
  intro x hx e
  unfold wordB at h
  rw [bytes_toList] at h
  subst e
  have : resL.contains nm = true := by simpa using hx
  rw [this] at h
  cases h
theorem isK_no {k : Int} {x : List UInt8} {t : Tok} {r : List Tok} (h : ¬ (t.kind = k ∧ t.text = x)) : isK k x (t :: r) = false := by
  cases e : isK k x (t :: r) with
  | false => rfl
  | true =>
    simp only [isK, Bool.and_eq_true, decide_eq_true_eq] at e
    exact absurd e h
theorem isK_yes {k : Int} {x : List UInt8} {t : Tok} {r : List Tok} (h : t.kind = k) (h2 : t.text = x) : isK k x (t :: r) = true := by
  simp [isK, h, h2]
theorem kidN_cases {o : Int} (h1 : 1 ≤ o) (h2 : o ≤ 17) : (kidN o = 0 ∧ (o = 1 ∨ o = 2)) ∨ (kidN o = 1 ∧ (o = 3 ∨ o = 16)) ∨ (kidN o = 3 ∧ o = 17) ∨ (kidN o = 2 ∧ 4 ≤ o ∧ o ≤ 15) := by
  unfold kidN
  by_cases a : o = 1 ∨ o = 2
  · exact .inl ⟨if_pos a, a⟩
  · rw [if_neg a]
    by_cases b : o = 3 ∨ o = 16
    · exact .inr (.inl ⟨if_pos b, b⟩)
    · rw [if_neg b]
      by_cases c : o = 17
      · exact .inr (.inr (.inl ⟨if_pos c, c⟩))
      · exact .inr (.inr (.inr ⟨if_neg c, by omega, by omega⟩))
theorem prt_out {o : Int} {v : Val} {nm : List UInt8} {n : Nat} (h : prtB o v nm n = true) : 1 ≤ o ∧ o ≤ 17 ∧ n = kidN o ∧ (o = 1 → nm = [] ∧ vsnd v = true ∧ 0 ≤ v.n) ∧ (o = 2 → v = zv ∧ wordB (bytesOf nm) = true) ∧ (o ≠ 1 → o ≠ 2 → v = zv ∧ nm = []) := by
  unfold prtB at h
  rw [Bool.and_eq_true, decide_eq_true_eq] at h
  obtain ⟨⟨h1, h2, h3⟩, h4⟩ := h
  refine ⟨h1, h2, h3, ?_, ?_, ?_⟩
  · intro e
    rw [if_pos e] at h4
    simpa [Bool.and_eq_true] using h4
  · intro e
    rw [if_neg (by omega), if_pos e, Bool.and_eq_true, veq_iff] at h4
    exact h4
  · intro a b
    rw [if_neg a, if_neg b, Bool.and_eq_true, veq_iff, decide_eq_true_eq] at h4
    exact h4
/-- An operand. -/
def Oper (x : Ex) : Prop := ∀ d p rest, d + dpX x ≤ 64 → p + szX x ≤ 4096 → Par .operand d p (brkK (decide (x.ks.length = 0), tkX x) ++ rest) (.ok (x, p + szX x) rest)
def Expr (x : Ex) : Prop := ∀ d p rest, EndT rest → d + dpX x ≤ 65 → p + szX x ≤ 4096 → Par .expr d p (tkX x ++ rest) (.ok (x, p + szX x) rest)
theorem endT_of {t : Tok} {r : List Tok} (h : t.kind = 5 → t.text ∉ [[61], [33, 61], [60], [60, 61], [62], [62, 61], [43], [45], [42], [47]]) (h2 : t.kind = 4 → t.text ∉ [[111, 114], [97, 110, 100]]) : EndT (t :: r) := by
  intro k
  have no : ∀ x, x ∈ [[61], [33, 61], [60], [60, 61], [62], [62, 61], [43], [45], [42], [47]] → isS x (t :: r) = false := fun x hx => isK_no (fun e => h e.1 (by rw [e.2]; exact hx))
  have no2 : ∀ x, x ∈ [[111, 114], [97, 110, 100]] → isK 4 x (t :: r) = false := fun x hx => isK_no (fun e => h2 e.1 (by rw [e.2]; exact hx))
  unfold opR
  simp [no, no2]
theorem leaf_par {o : Int} {v : Val} {nm : List UInt8} (ho : okX (.mk o v nm []) = true) : ∃ t, tkX (.mk o v nm []) = [t] ∧ (∀ r, HeadT (t :: r)) ∧ ∀ d p rest, p + 1 ≤ 4096 → Par .operand d p (t :: rest) (.ok (.mk o v nm [], p + 1) rest) := by
  unfold okX at ho
  rw [Bool.and_eq_true] at ho
  obtain ⟨h1, h2, h3, h4, h5, _⟩ := prt_out ho.1
  have hk : o = 1 ∨ o = 2 := by
    rcases kidN_cases h1 h2 with ⟨_, h⟩ | ⟨h, _⟩ | ⟨h, _⟩ | ⟨h, _⟩
    · exact h
    all_goals (rw [h] at h3; cases h3)
  rcases hk with rfl | rfl
  · obtain ⟨rfl, hv, hn⟩ := h4 rfl
    obtain ⟨t, t1, t2, t3, t4, t5, t6⟩ := leaf_val hv hn
    refine ⟨t, ?_, fun r => head_of t3 t4, fun d p rest hp => ?_⟩
    · show shpK 1 v [] (tksX []) = _
      simp only [tksX, shpK]
      rw [if_pos trivial, t1]
    · have := Par.lit (d := d) (p := p) (r := t :: rest) (isK_no t5) (isK_no t6)
      unfold litX at this
      simp only [t2] at this
      rwa [cmp_is rest hp] at this
  · obtain ⟨rfl, hw⟩ := h5 rfl
    have hr := word_not hw
    refine ⟨tkN nm, rfl, fun r => head_of (by simp [tkN]) (fun e => hr wIF (by decide) e.2), fun d p rest hp => ?_⟩
    have := Par.lit (d := d) (p := p) (r := tkN nm :: rest) (isK_no (by simp [tkN])) (isK_no (fun e => hr wNOT (by decide) e.2))
    unfold litX at this
    have hv : valT (tkN nm) = none := by
      unfold valT tkN
      simp only
      rw [if_neg (by decide), if_neg (by decide), if_neg (by decide), if_pos trivial, if_neg (hr _ (by decide)), if_neg (hr _ (by decide)), if_neg (hr _ (by decide))]
    simp only [hv] at this
    rw [if_pos ⟨rfl, hw⟩, cmp_is rest hp] at this
    exact this
theorem oper_of {x : Ex} (ho : okX x = true) (he : Expr x) : Oper x := by
  intro d p rest hd hp
  obtain ⟨o, v, nm, ks⟩ := x
  cases ks with
  | nil =>
    obtain ⟨t, h1, h2, h3⟩ := leaf_par ho
    have hs : szX (.mk o v nm []) = 1 := by simp [szX, szL]
    rw [hs] at hp ⊢
    show Par .operand d p (brkK (true, tkX (.mk o v nm [])) ++ rest) _
    rw [h1]
    exact h3 d p rest hp
  | cons k ks =>
    have hdp : 1 ≤ dpX (.mk o v nm (k :: ks)) := by simp only [dpX]; omega
    show Par .operand d p (tkS [40] :: (tkX (.mk o v nm (k :: ks)) ++ [tkS [41]]) ++ rest) _
    have h1 := he (d + 1) p (tkS [41] :: rest) (endT_of (by simp [tkS]) (by simp [tkS])) (by omega) hp
    have h2 := Par.brk (d := d) (p := p) (r := tkS [40] :: (tkX (.mk o v nm (k :: ks)) ++ (tkS [41] :: rest))) rfl (Par.inner (by omega) h1)
    have e : encX (.ok (Ex.mk o v nm (k :: ks), p + szX (.mk o v nm (k :: ks))) (tkS [41] :: rest)) = .ok (Ex.mk o v nm (k :: ks), p + szX (.mk o v nm (k :: ks))) rest := rfl
    rw [e] at h2
    simpa using h2
theorem oper_head {x : Ex} (ho : okX x = true) (rest : List Tok) : HeadT (brkK (decide (x.ks.length = 0), tkX x) ++ rest) := by
  obtain ⟨o, v, nm, ks⟩ := x
  cases ks with
  | nil =>
    obtain ⟨t, h1, h2, h3⟩ := leaf_par ho
    show HeadT (brkK (true, tkX (.mk o v nm [])) ++ rest)
    rw [h1]
    exact h2 rest
  | cons k ks => exact head_of (by simp [tkS]) (by simp [tkS])
theorem kid_expr {x : Ex} (ho : okX x = true) (h : Oper x) {d p : Nat} {rest : List Tok} (he : EndT rest) (hd : d + dpX x ≤ 64) (hp : p + szX x ≤ 4096) : Par .expr d p (brkK (decide (x.ks.length = 0), tkX x) ++ rest) (.ok (x, p + szX x) rest) :=
  Par.expr (oper_head ho rest).2 (Par.up (h d p rest hd hp) (oper_head ho rest).1 1 5 rfl fun i _ => he i)
/-- The strength of an operator. -/
def strO (o : Int) : Nat := if o = 15 then 1 else if o = 14 then 2 else if o = 4 ∨ o = 5 then 4 else if o = 6 ∨ o = 7 then 5 else 3
theorem opR_opK {o : Int} (h1 : 4 ≤ o) (h2 : o ≤ 15) (r : List Tok) : opR (strO o) (opK o :: r) = some o ∧ (∀ i, strO o < i → opR i (opK o :: r) = none) ∧ 1 ≤ strO o ∧ strO o ≤ 5 := by
  have h : o = 4 ∨ o = 5 ∨ o = 6 ∨ o = 7 ∨ o = 8 ∨ o = 9 ∨ o = 10 ∨ o = 11 ∨ o = 12 ∨ o = 13 ∨ o = 14 ∨ o = 15 := by omega
  have hi6 : ∀ i : Nat, 6 ≤ i → ∀ q : List Tok, opR i q = none := fun i hi q => by
    unfold opR
    rw [if_neg (by omega), if_neg (by omega), if_neg (by omega), if_neg (by omega), if_neg (by omega)]
  rcases h with rfl | rfl | rfl | rfl | rfl | rfl | rfl | rfl | rfl | rfl | rfl | rfl
  all_goals
    refine ⟨rfl, fun i hi => ?_, by decide, by decide⟩
    by_cases h6 : 6 ≤ i
    · exact hi6 i h6 _
    · have hc : i = 0 ∨ i = 1 ∨ i = 2 ∨ i = 3 ∨ i = 4 ∨ i = 5 := by omega
      rcases hc with rfl | rfl | rfl | rfl | rfl | rfl
      all_goals first | rfl | exact absurd hi (by decide)
theorem expr_all : ∀ x, okX x = true → Expr x := by
  refine Ex.ind fun o v nm ks ih ho => ?_
  have ho' := ho
  unfold okX at ho
  rw [Bool.and_eq_true] at ho
  obtain ⟨h1, h2, h3, h4, h5, h6⟩ := prt_out ho.1
  intro d p rest hE hd hp
  match ks, ih, ho, h3, ho', hd, hp with
  | [], ih, ho, h3, ho', hd, hp =>
    obtain ⟨t, e1, e2, e3⟩ := leaf_par ho'
    have hs : szX (.mk o v nm []) = 1 := by simp [szX, szL]
    rw [hs] at hp ⊢
    rw [e1]
    exact Par.expr (e2 rest).2 (Par.up (e3 d p rest hp) (e2 rest).1 1 5 rfl fun i _ => hE i)
  | [a], ih, ho, h3, ho', hd, hp =>
    have oa : okX a = true := by
      have := ho.2
      simp only [okL, Bool.and_true] at this
      exact this
    have hs : szX (.mk o v nm [a]) = 1 + szX a := by simp [szX, szL]
    have hdd : dpX (.mk o v nm [a]) = 1 + dpX a := by simp [dpX, dpL]
    rw [hs] at hp ⊢
    rw [hdd] at hd
    have hk : o = 3 ∨ o = 16 := by
      rcases kidN_cases h1 h2 with ⟨h, _⟩ | ⟨_, h⟩ | ⟨h, _⟩ | ⟨h, _⟩
      · rw [h] at h3; cases h3
      · exact h
      all_goals (rw [h] at h3; cases h3)
    obtain ⟨rfl, rfl⟩ := h6 (by omega) (by omega)
    have Ea := ih a (by simp) oa
    have Oa := oper_of oa Ea
    rcases hk with rfl | rfl
    · show Par .expr d p (tkS [45] :: brkK (decide (a.ks.length = 0), tkX a) ++ rest) _
      rw [List.cons_append]
      have hh := (oper_head oa rest).1
      have hm : mnR (tkS [45] :: (brkK (decide (a.ks.length = 0), tkX a) ++ rest)) = 1 := by
        unfold mnR
        rw [if_pos (by rfl), hh]
      have hop := Oa d p rest (by omega) (by omega)
      have hs2 := Par.signed (d := d) (p := p) (r := tkS [45] :: (brkK (decide (a.ks.length = 0), tkX a) ++ rest)) (r1 := rest) (x := (a, p + szX a)) (by rw [hm]; exact hop)
      rw [hm] at hs2
      have en : negX 1 a (p + szX a) rest = .ok (.mk 3 zv [] [a], p + szX a + 1) rest := by
        unfold negX
        rw [cmp_is rest (by omega)]
        rfl
      rw [en] at hs2
      rw [show p + (1 + szX a) = p + szX a + 1 by omega]
      exact Par.expr rfl (par_up 6 (Par.chain6 hs2) 1 5 rfl (by omega) fun i _ _ => hE i)
    · show Par .expr d p (tkN wNOT :: tkS [40] :: (tkX a ++ [tkS [41]]) ++ rest) _
      have h7 := Ea (d + 1) p (tkS [41] :: rest) (endT_of (by simp [tkS]) (by simp [tkS])) (by omega) (by omega)
      have hda : 1 ≤ dpX a := by cases a; simp only [dpX]; omega
      have h8 := Par.not (d := d) (p := p) (r := tkN wNOT :: tkS [40] :: (tkX a ++ (tkS [41] :: rest))) (x := (a, p + szX a)) (r1 := rest) rfl rfl rfl (Par.inner (by omega) h7) rfl
      rw [cmp_is rest (by simp only; omega)] at h8
      rw [show p + (1 + szX a) = p + szX a + 1 by omega]
      have e9 : (tkN wNOT :: tkS [40] :: (tkX a ++ [tkS [41]]) ++ rest) = tkN wNOT :: tkS [40] :: (tkX a ++ (tkS [41] :: rest)) := by simp
      rw [e9]
      exact Par.expr rfl (Par.up h8 rfl 1 5 rfl fun i _ => hE i)
  | [a, b], ih, ho, h3, ho', hd, hp =>
    have oab : okX a = true ∧ okX b = true := by
      have := ho.2
      simpa [okL, Bool.and_eq_true] using this
    obtain ⟨oa, ob⟩ := oab
    have hs : szX (.mk o v nm [a, b]) = 1 + (szX a + szX b) := by simp [szX, szL]
    have hdd : dpX (.mk o v nm [a, b]) = 1 + max (dpX a) (dpX b) := by simp [dpX, dpL]
    rw [hs] at hp ⊢
    rw [hdd] at hd
    have hk : 4 ≤ o ∧ o ≤ 15 := by
      rcases kidN_cases h1 h2 with ⟨h, _⟩ | ⟨h, _⟩ | ⟨h, _⟩ | ⟨_, h⟩
      · rw [h] at h3; cases h3
      · rw [h] at h3; cases h3
      · rw [h] at h3; cases h3
      · exact h
    obtain ⟨rfl, rfl⟩ := h6 (by omega) (by omega)
    have Oa := oper_of oa (ih a (by simp) oa)
    have Ob := oper_of ob (ih b (by simp) ob)
    have ra := opR_opK hk.1 hk.2 (brkK (decide (b.ks.length = 0), tkX b) ++ rest)
    obtain ⟨q1, q2, q3, q4⟩ := ra
    show Par .expr d p (brkK (decide (a.ks.length = 0), tkX a) ++ (opK o :: brkK (decide (b.ks.length = 0), tkX b)) ++ rest) _
    have e9 : brkK (decide (a.ks.length = 0), tkX a) ++ (opK o :: brkK (decide (b.ks.length = 0), tkX b)) ++ rest = brkK (decide (a.ks.length = 0), tkX a) ++ (opK o :: (brkK (decide (b.ks.length = 0), tkX b) ++ rest)) := by simp
    rw [e9]
    have hA := Oa d p (opK o :: (brkK (decide (b.ks.length = 0), tkX b) ++ rest)) (by omega) (by omega)
    have hdA := oper_head oa (opK o :: (brkK (decide (b.ks.length = 0), tkX b) ++ rest))
    have cA := Par.up hA hdA.1 (strO o + 1) (5 - strO o) (by omega) fun i hi => q2 i (by omega)
    have hB := Ob d (p + szX a) rest (by omega) (by omega)
    have cB := Par.up hB (oper_head ob rest).1 (strO o + 1) (5 - strO o) (by omega) fun i _ => hE i
    have cm := cmp_is (x := .mk o zv [] [a, b]) (p := p + szX a + szX b) rest (by omega)
    have lp := Par.go (k := strO o) (d := d) (p := p + szX a) (a := a) (o := o) (b := (b, p + szX a + szX b)) (y := (.mk o zv [] [a, b], p + szX a + szX b + 1)) (r := opK o :: (brkK (decide (b.ks.length = 0), tkX b) ++ rest)) (r1 := rest) (r2 := rest) (q := .ok (.mk o zv [] [a, b], p + szX a + szX b + 1) rest) q1 cB cm (fun _ => rfl) (fun _ => Par.stop (hE _))
    have ch := Par.chain (k := strO o) (by omega) cA lp
    rw [show p + (1 + (szX a + szX b)) = p + szX a + szX b + 1 by omega]
    exact Par.expr hdA.2 (par_up (strO o) ch 1 (strO o - 1) (by omega) (by omega) fun i _ _ => hE i)
  | [a, b, c], ih, ho, h3, ho', hd, hp =>
    have oabc : okX a = true ∧ okX b = true ∧ okX c = true := by
      have := ho.2
      simpa [okL, Bool.and_eq_true] using this
    obtain ⟨oa, ob, oc⟩ := oabc
    have hs : szX (.mk o v nm [a, b, c]) = 1 + (szX a + (szX b + szX c)) := by simp [szX, szL]
    have hdd : dpX (.mk o v nm [a, b, c]) = 1 + max (dpX a) (max (dpX b) (dpX c)) := by simp [dpX, dpL]
    rw [hs] at hp ⊢
    rw [hdd] at hd
    have hk : o = 17 := by
      rcases kidN_cases h1 h2 with ⟨h, _⟩ | ⟨h, _⟩ | ⟨_, h⟩ | ⟨h, _⟩
      · rw [h] at h3; cases h3
      · rw [h] at h3; cases h3
      · exact h
      · rw [h] at h3; cases h3
    subst hk
    obtain ⟨rfl, rfl⟩ := h6 (by omega) (by omega)
    have Oa := oper_of oa (ih a (by simp) oa)
    have Ob := oper_of ob (ih b (by simp) ob)
    have Oc := oper_of oc (ih c (by simp) oc)
    show Par .expr d p (tkN wIF :: (brkK (decide (a.ks.length = 0), tkX a) ++ (tkN wTHEN :: (brkK (decide (b.ks.length = 0), tkX b) ++ (tkN wELSE :: brkK (decide (c.ks.length = 0), tkX c))))) ++ rest) _
    have e9 : tkN wIF :: (brkK (decide (a.ks.length = 0), tkX a) ++ (tkN wTHEN :: (brkK (decide (b.ks.length = 0), tkX b) ++ (tkN wELSE :: brkK (decide (c.ks.length = 0), tkX c))))) ++ rest = tkN wIF :: (brkK (decide (a.ks.length = 0), tkX a) ++ (tkN wTHEN :: (brkK (decide (b.ks.length = 0), tkX b) ++ (tkN wELSE :: (brkK (decide (c.ks.length = 0), tkX c) ++ rest))))) := by simp
    rw [e9]
    have k1 := kid_expr oa Oa (d := d) (p := p) (rest := tkN wTHEN :: (brkK (decide (b.ks.length = 0), tkX b) ++ (tkN wELSE :: (brkK (decide (c.ks.length = 0), tkX c) ++ rest)))) (endT_of (by simp [tkN]) (by simp [tkN, wTHEN])) (by omega) (by omega)
    have k2 := kid_expr ob Ob (d := d) (p := p + szX a) (rest := tkN wELSE :: (brkK (decide (c.ks.length = 0), tkX c) ++ rest)) (endT_of (by simp [tkN]) (by simp [tkN, wELSE])) (by omega) (by omega)
    have k3 := kid_expr oc Oc (d := d) (p := p + szX a + szX b) (rest := rest) hE (by omega) (by omega)
    rw [show p + (1 + (szX a + (szX b + szX c))) = p + szX a + szX b + szX c + 1 by omega]
    exact Par.ifs (r1 := tkN wTHEN :: (brkK (decide (b.ks.length = 0), tkX b) ++ (tkN wELSE :: (brkK (decide (c.ks.length = 0), tkX c) ++ rest)))) (r2 := tkN wELSE :: (brkK (decide (c.ks.length = 0), tkX c) ++ rest)) (r3 := rest) rfl k1 rfl k2 rfl k3 (cmp_is rest (by simp only; omega))
  | a :: b :: c :: e :: t, ih, ho, h3, ho', hd, hp =>
    rcases kidN_cases h1 h2 with ⟨h, _⟩ | ⟨h, _⟩ | ⟨h, _⟩ | ⟨h, _⟩ <;> (rw [h] at h3; simp at h3)
/-! Positions do not matter. -/
theorem like_bnd {α β : Type} {q q' : PR α} {f : α → List Tok → PR β} (h : q.like q') (hf : ∀ x r s, eqT r s → (f x r).like (f x s)) : (bndX q f).like (bndX q' f) := by
  cases q with
  | bad r e => cases q' with
    | bad s f => exact h
    | ok y s => exact h.elim
  | ok x r => cases q' with
    | bad s f => exact h.elim
    | ok y s =>
      obtain ⟨h1, h2⟩ := h
      subst h1
      exact hf x r s h2
theorem like_cmp (x : Ex) (p : Nat) {r s : List Tok} (h : eqT r s) : (cmpX x p r).like (cmpX x p s) := by
  unfold cmpX
  split
  · exact rfl
  · exact ⟨rfl, h⟩
theorem like_enc {q q' : PR (Ex × Nat)} (h : q.like q') : (encX q).like (encX q') := by
  cases q with
  | bad r e => cases q' with
    | bad s f => exact h
    | ok y s => exact h.elim
  | ok x r => cases q' with
    | bad s f => exact h.elim
    | ok y s =>
      obtain ⟨h1, h2⟩ := h
      unfold encX
      simp only
      rw [show isS [41] r = isS [41] s from h2.isK _ _]
      split
      · exact ⟨h1, h2.tail⟩
      · exact rfl
theorem like_neg : ∀ (m : Nat) (x : Ex) (p : Nat) {r s : List Tok}, eqT r s → (negX m x p r).like (negX m x p s)
  | 0, x, p, r, s, h => ⟨rfl, h⟩
  | m + 1, x, p, r, s, h => by
    have e : ∀ r, negX (m + 1) x p r = bndX (cmpX (.mk 3 zv [] [x]) p r) fun y r1 => negX m y.1 y.2 r1 := fun r => by
      conv => lhs; unfold negX
      unfold bndX
      cases cmpX (.mk 3 zv [] [x]) p r <;> rfl
    rw [e, e]
    exact like_bnd (like_cmp _ p h) fun y r s h => like_neg m y.1 y.2 h
theorem like_mnR : ∀ {r s : List Tok}, eqT r s → mnR r = mnR s
  | [], [], _ => rfl
  | [], _ :: _, h => by simp [eqT] at h
  | _ :: _, [], h => by simp [eqT] at h
  | t :: r, u :: s, h => by
    obtain ⟨h1, h2⟩ := h.cons
    unfold mnR
    have e : isS [45] [t] = isS [45] [u] := by
      have := eqT.isK (show eqT [t] [u] from by unfold eqT; simp [h1]) 5 [45]
      exact this
    rw [e, like_mnR h2]
theorem eqT.drop {r s : List Tok} (h : eqT r s) (n : Nat) : eqT (r.drop n) (s.drop n) := by
  unfold eqT at h ⊢
  rw [List.map_drop, List.map_drop, h]
theorem like_opR (k : Nat) {r s : List Tok} (h : eqT r s) : opR k r = opR k s := by
  unfold opR
  simp only [show ∀ x, isS x r = isS x s from fun x => h.isK _ _, show ∀ x, isK 4 x r = isK 4 x s from fun x => h.isK _ _]
theorem like_lit (p : Nat) {r s : List Tok} (h : eqT r s) : (litX p r).like (litX p s) := by
  match r, s, h with
  | [], [], _ => exact rfl
  | [], _ :: _, h => simp [eqT] at h
  | _ :: _, [], h => simp [eqT] at h
  | t :: r, u :: s, h =>
    obtain ⟨h1, h2⟩ := h.cons
    have e : valT t = valT u := by rw [← valT_ters t, ← valT_ters u, h1]
    have ek : t.kind = u.kind := show (ters t).kind = (ters u).kind from congrArg Tok.kind h1
    have et : t.text = u.text := show (ters t).text = (ters u).text from congrArg Tok.text h1
    unfold litX
    simp only [e, ek, et]
    cases valT u with
    | some v => exact like_cmp _ p h2
    | none =>
      simp only
      split
      · exact like_cmp _ p h2
      · exact rfl
theorem parX_like : ∀ (n : Nat) (m : Md) (d p : Nat) {r s : List Tok}, eqT r s → (parX n m d p r).like (parX n m d p s)
  | 0, m, d, p, r, s, h => rfl
  | n + 1, .expr, d, p, r, s, h => by
    rw [parX.eq_def (n + 1) .expr d p r, parX.eq_def (n + 1) .expr d p s]
    simp only
    rw [show isK 4 wIF r = isK 4 wIF s from h.isK _ _]
    split
    · refine like_bnd (parX_like n .expr d p h.tail) fun a r1 s1 h1 => ?_
      rw [show isK 4 wTHEN r1 = isK 4 wTHEN s1 from h1.isK _ _]
      split
      · refine like_bnd (parX_like n .expr d a.2 h1.tail) fun b r2 s2 h2 => ?_
        rw [show isK 4 wELSE r2 = isK 4 wELSE s2 from h2.isK _ _]
        split
        · exact like_bnd (parX_like n .expr d b.2 h2.tail) fun c r3 s3 h3 => like_cmp _ _ h3
        · exact rfl
      · exact rfl
    · exact parX_like n (.chain 1) d p h
  | n + 1, .chain k, d, p, r, s, h => by
    rw [parX.eq_def (n + 1) (.chain k) d p r, parX.eq_def (n + 1) (.chain k) d p s]
    simp only
    split
    · exact parX_like n .signed d p h
    · exact like_bnd (parX_like n (.chain (k + 1)) d p h) fun a r1 s1 h1 => parX_like n (.loop k a.1) d a.2 h1
  | n + 1, .loop k a, d, p, r, s, h => by
    rw [parX.eq_def (n + 1) (.loop k a) d p r, parX.eq_def (n + 1) (.loop k a) d p s]
    simp only
    rw [like_opR k h]
    cases ho : opR k s with
    | none => exact ⟨rfl, h⟩
    | some o =>
      simp only
      refine like_bnd (parX_like n (.chain (k + 1)) d p h.tail) fun b r1 s1 h1 => like_bnd (like_cmp _ _ h1) fun y r2 s2 h2 => ?_
      split
      · exact ⟨rfl, h2⟩
      · exact parX_like n (.loop k y.1) d y.2 h2
  | n + 1, .signed, d, p, r, s, h => by
    rw [parX.eq_def (n + 1) .signed d p r, parX.eq_def (n + 1) .signed d p s]
    simp only
    rw [like_mnR h]
    exact like_bnd (parX_like n .operand d p (h.drop _)) fun x r1 s1 h1 => like_neg _ _ _ h1
  | n + 1, .operand, d, p, r, s, h => by
    rw [parX.eq_def (n + 1) .operand d p r, parX.eq_def (n + 1) .operand d p s]
    simp only
    rw [show isS [40] r = isS [40] s from h.isK _ _, show isK 4 wNOT r = isK 4 wNOT s from h.isK _ _, show isS [40] r.tail = isS [40] s.tail from h.tail.isK _ _]
    split
    · exact like_enc (parX_like n .inner d p h.tail)
    · split
      · split
        · exact like_bnd (like_enc (parX_like n .inner d p h.tail.tail)) fun x r1 s1 h1 => like_cmp _ _ h1
        · exact rfl
      · exact like_lit p h
  | n + 1, .inner, d, p, r, s, h => by
    rw [parX.eq_def (n + 1) .inner d p r, parX.eq_def (n + 1) .inner d p s]
    simp only
    split
    · exact rfl
    · exact parX_like n .expr (d + 1) p h
/-! The text. -/
theorem sign_op {o : Int} (h1 : 4 ≤ o) (h2 : o ≤ 15) (y : List UInt8) : RT (sgX o) [opK o] (32 :: y) := by
  have h : o = 4 ∨ o = 5 ∨ o = 6 ∨ o = 7 ∨ o = 8 ∨ o = 9 ∨ o = 10 ∨ o = 11 ∨ o = 12 ∨ o = 13 ∨ o = 14 ∨ o = 15 := by omega
  rcases h with rfl | rfl | rfl | rfl | rfl | rfl | rfl | rfl | rfl | rfl | rfl | rfl
  · exact RT.one (t' := ⟨5, 0, [43], 0, 0, 0⟩) rfl rfl
  · exact RT.one (t' := ⟨5, 0, [45], 0, 0, 0⟩) rfl rfl
  · exact RT.one (t' := ⟨5, 0, [42], 0, 0, 0⟩) rfl rfl
  · exact RT.one (t' := ⟨5, 0, [47], 0, 0, 0⟩) rfl rfl
  · exact RT.one (t' := ⟨5, 0, [61], 0, 0, 0⟩) rfl rfl
  · exact sign2 (by decide) _
  · exact sign_lt 60 (.inl rfl) y
  · exact sign2 (by decide) _
  · exact sign_lt 62 (.inr rfl) y
  · exact sign2 (by decide) _
  · exact rt_tok (t := ⟨4, 0, [97, 110, 100], 0, 0, 0⟩) (ks4 (by decide +kernel)) (by decide) _ (bd_c 32 (by decide) _)
  · exact rt_tok (t := ⟨4, 0, [111, 114], 0, 0, 0⟩) (ks4 (by decide +kernel)) (by decide) _ (bd_c 32 (by decide) _)
theorem rt_word {x : List UInt8} (h : nmOk x = true) (hx : x ≠ []) (y : List UInt8) (hy : Bd y) : RT x [tkN x] y := rt_tok (t := ⟨4, 0, x, 0, 0, 0⟩) (ks4 h) hx y hy
def RTX (x : Ex) : Prop := ∀ y, Bd y → RT (txX x) (tkX x) y
theorem rt_brk {x : Ex} (h : RTX x) (y : List UInt8) (hy : Bd y) : RT (brkT (decide (x.ks.length = 0), txX x)) (brkK (decide (x.ks.length = 0), tkX x)) y := by
  by_cases hk : x.ks.length = 0
  · rw [decide_eq_true hk]; exact h y hy
  · rw [decide_eq_false hk]
    show RT ([40] ++ (txX x ++ [41])) (tkS [40] :: (tkX x ++ [tkS [41]])) y
    have e : tkS [40] :: (tkX x ++ [tkS [41]]) = [tkS [40]] ++ (tkX x ++ [tkS [41]]) := rfl
    rw [e]
    exact RT.app (sign1 (by decide) _) (RT.app (h _ (bd_c 41 (by decide) _)) (sign1 (by decide) _))
theorem bd_sp (y : List UInt8) : Bd (32 :: y) := bd_c 32 (by decide) y
theorem rtX : ∀ x, okX x = true → RTX x := by
  refine Ex.ind fun o v nm ks ih ho => ?_
  unfold okX at ho
  rw [Bool.and_eq_true] at ho
  obtain ⟨h1, h2, h3, h4, h5, h6⟩ := prt_out ho.1
  intro y hy
  match ks, ih, ho, h3 with
  | [], ih, ho, h3 =>
    have hk : o = 1 ∨ o = 2 := by
      rcases kidN_cases h1 h2 with ⟨_, h⟩ | ⟨h, _⟩ | ⟨h, _⟩ | ⟨h, _⟩
      · exact h
      all_goals (rw [h] at h3; cases h3)
    rcases hk with rfl | rfl
    · obtain ⟨rfl, hv, hn⟩ := h4 rfl
      have : RT (vxL v) (tksV v) y := (v_reads v hv).1 y hy
      simpa [txX, txsX, shpT, tkX, tksX, shpK] using this
    · obtain ⟨rfl, hw⟩ := h5 rfl
      have hn : nmOk nm = true := by
        unfold wordB at hw
        rw [Bool.and_eq_true] at hw
        exact hw.2
      have hne : nm ≠ [] := by
        rintro rfl
        exact absurd hn (by decide +kernel)
      have := rt_word hn hne y hy
      simpa [txX, txsX, shpT, tkX, tksX, shpK] using this
  | [a], ih, ho, h3 =>
    have oa : okX a = true := by
      have := ho.2
      simp only [okL, Bool.and_true] at this
      exact this
    have Ra := ih a (by simp) oa
    have hk : o = 3 ∨ o = 16 := by
      rcases kidN_cases h1 h2 with ⟨h, _⟩ | ⟨_, h⟩ | ⟨h, _⟩ | ⟨h, _⟩
      · rw [h] at h3; cases h3
      · exact h
      all_goals (rw [h] at h3; cases h3)
    rcases hk with rfl | rfl
    · show RT ([45] ++ brkT (decide (a.ks.length = 0), txX a)) ([tkS [45]] ++ brkK (decide (a.ks.length = 0), tkX a)) y
      exact RT.app (sign1 (by decide) _) (rt_brk Ra y hy)
    · show RT (wNOT ++ ([40] ++ (txX a ++ [41]))) ([tkN wNOT] ++ ([tkS [40]] ++ (tkX a ++ [tkS [41]]))) y
      exact RT.app (rt_word (by decide +kernel) (by decide) _ (bd_c 40 (by decide) _)) (RT.app (sign1 (by decide) _) (RT.app (Ra _ (bd_c 41 (by decide) _)) (sign1 (by decide) _)))
  | [a, b], ih, ho, h3 =>
    have oab : okX a = true ∧ okX b = true := by
      have := ho.2
      simpa [okL, Bool.and_eq_true] using this
    have hk : 4 ≤ o ∧ o ≤ 15 := by
      rcases kidN_cases h1 h2 with ⟨h, _⟩ | ⟨h, _⟩ | ⟨h, _⟩ | ⟨_, h⟩
      · rw [h] at h3; cases h3
      · rw [h] at h3; cases h3
      · rw [h] at h3; cases h3
      · exact h
    have Ra := ih a (by simp) oab.1
    have Rb := ih b (by simp) oab.2
    show RT (brkT (decide (a.ks.length = 0), txX a) ++ ([32] ++ (sgX o ++ ([32] ++ brkT (decide (b.ks.length = 0), txX b))))) (brkK (decide (a.ks.length = 0), tkX a) ++ ([] ++ ([opK o] ++ ([] ++ brkK (decide (b.ks.length = 0), tkX b))))) y
    exact RT.app (rt_brk Ra _ (bd_sp _)) (RT.app (RT.white _) (RT.app (sign_op hk.1 hk.2 _) (RT.app (RT.white _) (rt_brk Rb y hy))))
  | [a, b, c], ih, ho, h3 =>
    have oabc : okX a = true ∧ okX b = true ∧ okX c = true := by
      have := ho.2
      simpa [okL, Bool.and_eq_true] using this
    obtain ⟨oa, ob, oc⟩ := oabc
    have Ra := ih a (by simp) oa
    have Rb := ih b (by simp) ob
    have Rc := ih c (by simp) oc
    show RT (wIF ++ ([32] ++ (brkT (decide (a.ks.length = 0), txX a) ++ ([32] ++ (wTHEN ++ ([32] ++ (brkT (decide (b.ks.length = 0), txX b) ++ ([32] ++ (wELSE ++ ([32] ++ brkT (decide (c.ks.length = 0), txX c))))))))))) ([tkN wIF] ++ ([] ++ (brkK (decide (a.ks.length = 0), tkX a) ++ ([] ++ ([tkN wTHEN] ++ ([] ++ (brkK (decide (b.ks.length = 0), tkX b) ++ ([] ++ ([tkN wELSE] ++ ([] ++ brkK (decide (c.ks.length = 0), tkX c))))))))))) y
    exact RT.app (rt_word (by decide +kernel) (by decide) _ (bd_sp _)) (RT.app (RT.white _) (RT.app (rt_brk Ra _ (bd_sp _)) (RT.app (RT.white _) (RT.app (rt_word (by decide +kernel) (by decide) _ (bd_sp _)) (RT.app (RT.white _) (RT.app (rt_brk Rb _ (bd_sp _)) (RT.app (RT.white _) (RT.app (rt_word (by decide +kernel) (by decide) _ (bd_sp _)) (RT.app (RT.white _) (rt_brk Rc y hy))))))))))
  | a :: b :: c :: e :: t, ih, ho, h3 =>
    rcases kidN_cases h1 h2 with ⟨h, _⟩ | ⟨h, _⟩ | ⟨h, _⟩ | ⟨h, _⟩ <;> (rw [h] at h3; simp at h3)
/-! Texts. -/
def zx : Ex := .mk 0 zv [] []
noncomputable def parE (s : ByteArray) : Ex × Int × Nat :=
  if (tokS s).2.2 = 0 then (match parX (12 * (tokS s).1.length + 11) .inner 0 0 (tokS s).1 with
    | .bad r e => (zx, posT s.size r, e)
    | .ok y r => if r = [] then (if sndX y.1 = true then (y.1, 0, 0) else (zx, 0, 9)) else (zx, posT s.size r, 5))
  else (zx, (tokS s).2.1, (tokS s).2.2)
theorem par_inner {s : ByteArray} {q : PR (Ex × Nat)} (h : Par .inner 0 0 (tokS s).1 q) : parX (12 * (tokS s).1.length + 11) .inner 0 0 (tokS s).1 = q := h.at trivial (by simp only [levM]; omega)
/-- What is written is read as it was. -/
theorem par_tx {x : Ex} (h : sndX x = true) (hs : (txX x).length ≤ 65536) : parE (bytesOf (txX x)) = (x, 0, 0) := by
  unfold sndX at h
  rw [Bool.and_eq_true, Bool.and_eq_true, decide_eq_true_eq, decide_eq_true_eq] at h
  obtain ⟨ho, hd, hz⟩ := h
  obtain ⟨ns, hr, he⟩ := rtX x ho [] bd_nil 0
  rw [List.append_nil] at hr
  have ht : tokS (bytesOf (txX x)) = (ns, 0, 0) := tokS_of (by rw [bytesOf_size]; exact hs) (by rw [bytes_toList]; exact hr)
  have hp := expr_all x ho 1 0 [] endT_nil (by omega) (by omega)
  rw [List.append_nil, Nat.zero_add] at hp
  have hp2 := Par.inner (d := 0) (by omega) hp
  obtain ⟨_, n, hn⟩ := hp2
  have hl := parX_like (max n (12 * ns.length + 11)) .inner 0 0 (r := ns) (s := tkX x) he
  rw [hn _ (Nat.le_max_left _ _)] at hl
  have hf := parX_fine (12 * ns.length + 11) .inner 0 0 ns trivial (by simp only [levM]; omega)
  rw [parX_le hf (Nat.le_max_right n _)] at hl
  have hq : ∃ r, parX (12 * ns.length + 11) .inner 0 0 ns = .ok (x, szX x) r ∧ eqT r [] := by
    cases hc : parX (12 * ns.length + 11) .inner 0 0 ns with
    | bad r e => rw [hc] at hl; exact hl.elim
    | ok y r => rw [hc] at hl; exact ⟨r, by rw [hl.1], hl.2⟩
  obtain ⟨r, h1, h2⟩ := hq
  have hr0 : r = [] := h2.nil.2 rfl
  subst hr0
  unfold parE
  rw [ht]
  simp only [if_true]
  rw [h1]
  simp only [if_true]
  rw [if_pos (by unfold sndX; rw [ho, decide_eq_true hd, decide_eq_true hz]; rfl)]
/-! Places. -/
theorem posT_in {s : ByteArray} {q : List Tok} (h : q <:+ (tokS s).1) : 0 ≤ posT s.size q ∧ posT s.size q ≤ s.size := by
  cases q with
  | nil => exact ⟨Int.natCast_nonneg _, Int.le_refl _⟩
  | cons t q => exact (toks_pos s).1 t (List.IsSuffix.subset h (by simp))
theorem parE_at (s : ByteArray) : 0 ≤ (parE s).2.1 ∧ (parE s).2.1 ≤ s.size := by
  unfold parE
  have h := parX_suf (12 * (tokS s).1.length + 11) .inner 0 0 (tokS s).1
  split
  · cases hc : parX (12 * (tokS s).1.length + 11) .inner 0 0 (tokS s).1 with
    | bad r e => rw [hc] at h; exact posT_in h
    | ok y r =>
      rw [hc] at h
      simp only
      split
      · split
        · exact ⟨Int.le_refl 0, Int.natCast_nonneg _⟩
        · exact ⟨Int.le_refl 0, Int.natCast_nonneg _⟩
      · exact posT_in h
  · exact ⟨Int.natCast_nonneg _, by have := (toks_pos s).2; simp only; omega⟩
def PR.errs {α : Type} (q : PR α) : Prop := match q with
  | .bad _ e => e ≠ 0
  | .ok _ _ => True
theorem bnd_err {α β : Type} {q : PR α} {f : α → List Tok → PR β} (h : q.errs) (hf : ∀ y s, (f y s).errs) : (bndX q f).errs := by
  cases q with
  | bad r e => exact h
  | ok y s => exact hf y s
theorem cmp_err (x : Ex) (p : Nat) (r : List Tok) : (cmpX x p r).errs := by
  unfold cmpX
  split
  · show (10 : Nat) ≠ 0; decide
  · trivial
theorem neg_err : ∀ (m : Nat) (x : Ex) (p : Nat) (r : List Tok), (negX m x p r).errs
  | 0, x, p, r => trivial
  | m + 1, x, p, r => by
    unfold negX
    have h := cmp_err (.mk 3 zv [] [x]) p r
    cases hc : cmpX (.mk 3 zv [] [x]) p r with
    | bad t e => rw [hc] at h; exact h
    | ok y t => exact neg_err m y.1 y.2 t
theorem enc_err {q : PR (Ex × Nat)} (h : q.errs) : (encX q).errs := by
  cases q with
  | bad r e => exact h
  | ok y s =>
    unfold encX
    simp only
    split
    · trivial
    · show (5 : Nat) ≠ 0; decide
theorem lit_err (p : Nat) (r : List Tok) : (litX p r).errs := by
  unfold litX
  cases r with
  | nil => show (5 : Nat) ≠ 0; decide
  | cons t r =>
    simp only
    cases valT t with
    | some v => exact cmp_err _ _ _
    | none =>
      simp only
      split
      · exact cmp_err _ _ _
      · show (5 : Nat) ≠ 0; decide
theorem parX_err : ∀ (n : Nat) (m : Md) (d p : Nat) (r : List Tok), (parX n m d p r).errs
  | 0, m, d, p, r => by show (99 : Nat) ≠ 0; decide
  | n + 1, .expr, d, p, r => by
    rw [parX.eq_def]
    simp only
    split
    · refine bnd_err (parX_err n .expr d p r.tail) fun a r1 => ?_
      split
      · refine bnd_err (parX_err n .expr d a.2 r1.tail) fun b r2 => ?_
        split
        · exact bnd_err (parX_err n .expr d b.2 r2.tail) fun c r3 => cmp_err _ _ _
        · show (5 : Nat) ≠ 0; decide
      · show (5 : Nat) ≠ 0; decide
    · exact parX_err n (.chain 1) d p r
  | n + 1, .chain k, d, p, r => by
    rw [parX.eq_def]
    simp only
    split
    · exact parX_err n .signed d p r
    · exact bnd_err (parX_err n (.chain (k + 1)) d p r) fun a r1 => parX_err n (.loop k a.1) d a.2 r1
  | n + 1, .loop k a, d, p, r => by
    rw [parX.eq_def]
    simp only
    cases ho : opR k r with
    | none => trivial
    | some o =>
      simp only
      refine bnd_err (parX_err n (.chain (k + 1)) d p r.tail) fun b r1 => bnd_err (cmp_err _ _ _) fun y r2 => ?_
      split
      · trivial
      · exact parX_err n (.loop k y.1) d y.2 r2
  | n + 1, .signed, d, p, r => by
    rw [parX.eq_def]
    simp only
    exact bnd_err (parX_err n .operand d p _) fun x r1 => neg_err _ _ _ _
  | n + 1, .operand, d, p, r => by
    rw [parX.eq_def]
    simp only
    split
    · exact enc_err (parX_err n .inner d p r.tail)
    · split
      · split
        · exact bnd_err (enc_err (parX_err n .inner d p r.tail.tail)) fun x r1 => cmp_err _ _ _
        · show (5 : Nat) ≠ 0; decide
      · exact lit_err p r
  | n + 1, .inner, d, p, r => by
    rw [parX.eq_def]
    simp only
    split
    · show (9 : Nat) ≠ 0; decide
    · exact parX_err n .expr (d + 1) p r
theorem parE_ok {s : ByteArray} {x : Ex} {n : Int} (h : parE s = (x, n, 0)) : n = 0 ∧ sndX x = true ∧ (tokS s).2.2 = 0 ∧ ∃ p, Par .inner 0 0 (tokS s).1 (.ok (x, p) []) := by
  unfold parE at h
  split at h
  · rename_i ht
    have hf := parX_fine (12 * (tokS s).1.length + 11) .inner 0 0 (tokS s).1 trivial (by simp only [levM]; omega)
    have hP := Par.of hf
    cases hc : parX (12 * (tokS s).1.length + 11) .inner 0 0 (tokS s).1 with
    | bad r e =>
      rw [hc] at h hf
      simp only [Prod.mk.injEq] at h
      have he := parX_err (12 * (tokS s).1.length + 11) .inner 0 0 (tokS s).1
      rw [hc] at he
      exact absurd h.2.2 he
    | ok y r =>
      rw [hc] at h hP
      simp only at h
      split at h
      · rename_i hr
        split at h
        · rename_i hs
          simp only [Prod.mk.injEq] at h
          obtain ⟨rfl, rfl, _⟩ := h
          exact ⟨rfl, hs, ht, y.2, by rw [← hr]; exact hP⟩
        · simp at h
      · simp at h
  · rename_i ht
    simp only [Prod.mk.injEq] at h
    exact absurd h.2.2 ht
/-! Shifted: one deeper, more tokens behind. -/
def Shf (y : Ex × Nat) (p p' : Nat) (s z : List Tok) (q : PR (Ex × Nat)) : Prop := (∃ p2, p2 + p = p' + y.2 ∧ q = .ok (y.1, p2) (s ++ z)) ∨ ∃ t e, (e = 9 ∨ e = 10) ∧ q = .bad t e
theorem shf_cmp {x : Ex} {p p' : Nat} {r s z : List Tok} {y : Ex × Nat} (h : cmpX x p r = .ok y s) : Shf y p p' s z (cmpX x p' (r ++ z)) := by
  obtain ⟨rfl, rfl⟩ := cmp_ok h
  unfold cmpX
  split
  · exact .inr ⟨_, 10, .inr rfl, rfl⟩
  · exact .inl ⟨p' + 1, by omega, rfl⟩
theorem shf_bnd {a b : Ex × Nat} {p p' : Nat} {s1 s z : List Tok} {q : PR (Ex × Nat)} {f : Ex × Nat → List Tok → PR (Ex × Nat)} (h : Shf a p p' s1 z q) (hf : ∀ p2, p2 + p = p' + a.2 → Shf b a.2 p2 s z (f (a.1, p2) (s1 ++ z))) : Shf b p p' s z (bndX q f) := by
  rcases h with ⟨p2, h1, rfl⟩ | ⟨t, e, h1, rfl⟩
  · rcases hf p2 h1 with ⟨p3, h2, h3⟩ | ⟨t, e, h2, h3⟩
    · exact .inl ⟨p3, by omega, h3⟩
    · exact .inr ⟨t, e, h2, h3⟩
  · exact .inr ⟨t, e, h1, rfl⟩
theorem shf_neg : ∀ (m : Nat) (x : Ex) (p p' : Nat) (r s z : List Tok) (y : Ex × Nat), negX m x p r = .ok y s → Shf y p p' s z (negX m x p' (r ++ z))
  | 0, x, p, p', r, s, z, y, h => by
    cases h
    exact .inl ⟨p', rfl, rfl⟩
  | m + 1, x, p, p', r, s, z, y, h => by
    have e : ∀ p r, negX (m + 1) x p r = bndX (cmpX (.mk 3 zv [] [x]) p r) fun y r1 => negX m y.1 y.2 r1 := fun p r => by
      conv => lhs; unfold negX
      unfold bndX
      cases cmpX (.mk 3 zv [] [x]) p r <;> rfl
    rw [e] at h
    obtain ⟨a, r1, h1, h2⟩ := bnd_ok h
    rw [e]
    exact shf_bnd (shf_cmp h1) fun p2 _ => shf_neg m a.1 a.2 p2 r1 s z y h2
theorem isK_appT {k : Int} {x : List UInt8} {r : List Tok} (h : isK k x r = true) (z : List Tok) : isK k x (r ++ z) = true ∧ (r ++ z).tail = r.tail ++ z := by
  cases r with
  | nil => cases h
  | cons t r => exact ⟨h, rfl⟩
theorem isK_appF {k : Int} {x : List UInt8} {r : List Tok} (hr : r ≠ []) (z : List Tok) : isK k x (r ++ z) = isK k x r := by
  cases r with
  | nil => exact absurd rfl hr
  | cons t r => rfl
theorem opR_app {k : Nat} {r : List Tok} (hr : r ≠ []) (z : List Tok) : opR k (r ++ z) = opR k r := by
  unfold opR
  simp only [isS, isK_appF hr z]
theorem shf_enc {a y : Ex × Nat} {p p' : Nat} {s1 s z : List Tok} {q0 q : PR (Ex × Nat)} (h0 : q0 = .ok a s1) (h : encX q0 = .ok y s) (hq : Shf a p p' s1 z q) : Shf y p p' s z (encX q) := by
  subst h0
  unfold encX at h
  simp only at h
  by_cases h1 : isS [41] s1 = true
  · rw [if_pos h1] at h
    cases h
    rcases hq with ⟨p2, h2, rfl⟩ | ⟨t, e, h2, rfl⟩
    · refine .inl ⟨p2, h2, ?_⟩
      unfold encX
      simp only
      rw [if_pos (isK_appT h1 z).1, (isK_appT h1 z).2]
    · exact .inr ⟨t, e, h2, rfl⟩
  · rw [if_neg h1] at h; cases h
theorem enc_ok {q : PR (Ex × Nat)} {y : Ex × Nat} {s : List Tok} (h : encX q = .ok y s) : ∃ s1, q = .ok y s1 := by
  cases q with
  | bad t e => cases h
  | ok a s1 =>
    unfold encX at h
    simp only at h
    split at h
    · cases h; exact ⟨s1, rfl⟩
    · cases h
theorem mnR_app : ∀ {r : List Tok} (z : List Tok), r.drop (mnR r) ≠ [] → mnR (r ++ z) = mnR r
  | [], z, h => absurd rfl h
  | t :: r, z, h => by
    rw [List.cons_append]
    unfold mnR at h ⊢
    by_cases h1 : isS [45] [t] = true
    · rw [if_pos h1] at h ⊢
      rw [if_pos h1]
      rw [List.drop_succ_cons] at h
      rw [mnR_app z h]
    · rw [if_neg h1, if_neg h1]
theorem shf_lit {p p' : Nat} {r s z : List Tok} {y : Ex × Nat} (h : litX p r = .ok y s) : Shf y p p' s z (litX p' (r ++ z)) := by
  cases r with
  | nil => cases h
  | cons t r =>
    rw [List.cons_append]
    unfold litX at h ⊢
    simp only at h ⊢
    cases hv : valT t with
    | some v => rw [hv] at h; exact shf_cmp h
    | none =>
      rw [hv] at h
      simp only at h ⊢
      split at h
      · rename_i h1
        rw [if_pos h1]
        exact shf_cmp h
      · cases h
theorem parX_shift : ∀ (n : Nat) (m : Md) (d p : Nat) (r s : List Tok) (y : Ex × Nat), parX n m d p r = .ok y s → ∀ (z : List Tok), EndT z → ∀ d' p', Shf y p p' s z (parX n m d' p' (r ++ z))
  | 0, m, d, p, r, s, y, h, z, hz, d', p' => by cases h
  | n + 1, .expr, d, p, r, s, y, h, z, hz, d', p' => by
    have hne : r ≠ [] := fun e => by
      have := parX_lt (n + 1) .expr d p r s y (fun k a e => by cases e) h
      rw [e] at this
      exact absurd this (by simp)
    rw [parX.eq_def] at h ⊢
    simp only at h ⊢
    by_cases h1 : isK 4 wIF r = true
    · rw [if_pos h1] at h
      rw [if_pos (isK_appT h1 z).1, (isK_appT h1 z).2]
      obtain ⟨a, r1, e1, h⟩ := bnd_ok h
      refine shf_bnd (parX_shift n .expr d p r.tail r1 a e1 z hz d' p') fun p2 _ => ?_
      by_cases h2 : isK 4 wTHEN r1 = true
      · rw [if_pos h2] at h
        rw [if_pos (isK_appT h2 z).1, (isK_appT h2 z).2]
        obtain ⟨b, r2, e2, h⟩ := bnd_ok h
        refine shf_bnd (parX_shift n .expr d a.2 r1.tail r2 b e2 z hz d' p2) fun p3 _ => ?_
        by_cases h3 : isK 4 wELSE r2 = true
        · rw [if_pos h3] at h
          rw [if_pos (isK_appT h3 z).1, (isK_appT h3 z).2]
          obtain ⟨c, r3, e3, h⟩ := bnd_ok h
          exact shf_bnd (parX_shift n .expr d b.2 r2.tail r3 c e3 z hz d' p3) fun p4 _ => shf_cmp h
        · rw [if_neg h3] at h; cases h
      · rw [if_neg h2] at h; cases h
    · rw [if_neg h1] at h
      rw [if_neg (by rw [isK_appF hne z]; exact h1)]
      exact parX_shift n (.chain 1) d p r s y h z hz d' p'
  | n + 1, .chain k, d, p, r, s, y, h, z, hz, d', p' => by
    rw [parX.eq_def] at h ⊢
    simp only at h ⊢
    by_cases h1 : k = 6
    · rw [if_pos h1] at h ⊢
      exact parX_shift n .signed d p r s y h z hz d' p'
    · rw [if_neg h1] at h ⊢
      obtain ⟨a, r1, e1, h⟩ := bnd_ok h
      exact shf_bnd (parX_shift n (.chain (k + 1)) d p r r1 a e1 z hz d' p') fun p2 _ => parX_shift n (.loop k a.1) d a.2 r1 s y h z hz d' p2
  | n + 1, .loop k a, d, p, r, s, y, h, z, hz, d', p' => by
    rw [parX.eq_def] at h ⊢
    simp only at h ⊢
    cases ho : opR k r with
    | none =>
      rw [ho] at h
      cases h
      have : opR k (r ++ z) = none := by
        by_cases hr : r = []
        · rw [hr]; exact hz k
        · rw [opR_app hr z]; exact ho
      rw [this]
      exact .inl ⟨p', rfl, rfl⟩
    | some o =>
      rw [ho] at h
      have hr : r ≠ [] := fun e => by
        have := opR_len ho
        rw [e] at this
        cases this
      rw [opR_app hr z, ho]
      simp only at h ⊢
      have ht : (r ++ z).tail = r.tail ++ z := by
        cases r with
        | nil => exact absurd rfl hr
        | cons t r => rfl
      rw [ht]
      obtain ⟨b, r1, e1, h⟩ := bnd_ok h
      obtain ⟨c, r2, e2, h⟩ := bnd_ok h
      refine shf_bnd (parX_shift n (.chain (k + 1)) d p r.tail r1 b e1 z hz d' p') fun p2 _ => ?_
      refine shf_bnd (shf_cmp e2) fun p3 _ => ?_
      by_cases h3 : k = 3
      · rw [if_pos h3] at h ⊢
        cases h
        exact .inl ⟨p3, by omega, rfl⟩
      · rw [if_neg h3] at h ⊢
        exact parX_shift n (.loop k c.1) d c.2 r2 s y h z hz d' p3
  | n + 1, .signed, d, p, r, s, y, h, z, hz, d', p' => by
    rw [parX.eq_def] at h ⊢
    simp only at h ⊢
    obtain ⟨a, r1, e1, h⟩ := bnd_ok h
    have hd : r.drop (mnR r) ≠ [] := fun e => by
      have := parX_lt n .operand d p _ r1 a (fun k a e => by cases e) e1
      rw [e] at this
      exact absurd this (by simp)
    rw [mnR_app z hd, List.drop_append_of_le_length (mnR_le r)]
    exact shf_bnd (parX_shift n .operand d p _ r1 a e1 z hz d' p') fun p2 _ => shf_neg _ _ _ _ _ _ _ _ h
  | n + 1, .operand, d, p, r, s, y, h, z, hz, d', p' => by
    have hne : r ≠ [] := fun e => by
      have := parX_lt (n + 1) .operand d p r s y (fun k a e => by cases e) h
      rw [e] at this
      exact absurd this (by simp)
    rw [parX.eq_def] at h ⊢
    simp only at h ⊢
    by_cases h1 : isS [40] r = true
    · rw [if_pos h1] at h
      rw [if_pos (isK_appT h1 z).1, (isK_appT h1 z).2]
      obtain ⟨s1, e1⟩ := enc_ok h
      exact shf_enc e1 h (parX_shift n .inner d p r.tail s1 y e1 z hz d' p')
    · rw [if_neg h1] at h
      rw [if_neg (by rw [show isS [40] (r ++ z) = isS [40] r from isK_appF hne z]; exact h1)]
      by_cases h2 : isK 4 wNOT r = true
      · rw [if_pos h2] at h
        rw [if_pos (isK_appT h2 z).1, (isK_appT h2 z).2]
        by_cases h3 : isS [40] r.tail = true
        · rw [if_pos h3] at h
          rw [if_pos (isK_appT h3 z).1, (isK_appT h3 z).2]
          obtain ⟨a, r1, e1, h⟩ := bnd_ok h
          obtain ⟨s1, e2⟩ := enc_ok e1
          exact shf_bnd (shf_enc e2 e1 (parX_shift n .inner d p r.tail.tail s1 a e2 z hz d' p')) fun p2 _ => shf_cmp h
        · rw [if_neg h3] at h; cases h
      · rw [if_neg h2] at h
        rw [if_neg (by rw [isK_appF hne z]; exact h2)]
        exact shf_lit h
  | n + 1, .inner, d, p, r, s, y, h, z, hz, d', p' => by
    rw [parX.eq_def] at h ⊢
    simp only at h ⊢
    by_cases h1 : 64 < d + 1
    · rw [if_pos h1] at h; cases h
    · rw [if_neg h1] at h
      by_cases h2 : 64 < d' + 1
      · rw [if_pos h2]; exact .inr ⟨_, 9, .inl rfl, rfl⟩
      · rw [if_neg h2]
        exact parX_shift n .expr (d + 1) p r s y h z hz (d' + 1) p'
end Go.Proofs.YthfkbonbgdioaaaGreatDoor
