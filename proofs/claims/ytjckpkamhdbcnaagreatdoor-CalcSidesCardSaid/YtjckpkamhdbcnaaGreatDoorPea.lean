import Derived.Test.YtjckpkamhdbcnaaGreatDoorLxn
import Derived.Test.YtjckpkamhdbcnaaGreatDoorLzs
namespace Go.Proofs.YtjckpkamhdbcnaaGreatDoor
set_option linter.unusedSimpArgs false
set_option linter.unusedVariables false
open Go.RowKit
/-! Tokens that are next; values as tokens. -/
def zv : Val := ⟨0, 0, 0, ⟨#[]⟩, 0⟩
def isK (k : Int) (x : List UInt8) (r : List Tok) : Bool := match r with
 | [] => false
 | t :: _ => decide (t.kind = k) && decide (t.text = x)
abbrev isS (x : List UInt8) (r : List Tok) : Bool := isK 5 x r
def valT (t : Tok) : Option Val :=
 if t.kind = 1 then some ⟨1, t.dn, t.ds, ⟨#[]⟩, 0⟩
 else if t.kind = 2 then some ⟨2, 0, 0, bytesOf t.text, 0⟩
 else if t.kind = 3 then some ⟨4, 0, 0, ⟨#[]⟩, t.day⟩
 else if t.kind = 4 then
  (if t.text = [110, 117, 108, 108] then some ⟨0, 0, 0, ⟨#[]⟩, 0⟩
   else if t.text = [116, 114, 117, 101] then some ⟨3, 0, 0, ⟨#[]⟩, 1⟩
   else if t.text = [102, 97, 108, 115, 101] then some ⟨3, 0, 0, ⟨#[]⟩, 0⟩ else none)
 else none
inductive PR (α : Type) where
 | bad (r : List Tok) (e : Nat)
 | ok (x : α) (r : List Tok)
def posT (n : Nat) (r : List Tok) : Int := match r with
 | [] => n
 | t :: _ => t.pos
theorem isK_ne {k : Int} {x : List UInt8} {r : List Tok} (h : isK k x r = true) : r ≠ [] := by rintro rfl; cases h
def tkS (x : List UInt8) : Tok := ⟨5, 0, x, 0, 0, 0⟩
def tksV (v : Val) : List Tok :=
 if v.kind = 1 then (if v.n < 0 then [tkS [45], ⟨1, 0, [], -v.n, v.scale, 0⟩] else [⟨1, 0, [], v.n, v.scale, 0⟩])
 else if v.kind = 2 then [⟨2, 0, v.text.data.toList, 0, 0, 0⟩]
 else if v.kind = 3 then (if v.num = 1 then [⟨4, 0, [116, 114, 117, 101], 0, 0, 0⟩] else [⟨4, 0, [102, 97, 108, 115, 101], 0, 0, 0⟩])
 else if v.kind = 4 then [⟨3, 0, [], 0, 0, v.num⟩]
 else [⟨4, 0, [110, 117, 108, 108], 0, 0, 0⟩]
theorem ks1 {n s : Int} (h : sndB n s = true) (h0 : 0 ≤ n) : ksnd ⟨1, 0, [], n, s, 0⟩ = true := by
 rw [tsnd1, Bool.and_eq_true]
 exact ⟨teqv_iff.2 ⟨rfl, rfl, rfl, rfl, rfl, rfl⟩, by rw [h, decide_eq_true h0]; rfl⟩
theorem toks_snd (s : ByteArray) : ∀ t ∈ (tokS s).1, ksnd t = true := by
 unfold tokS
 split
 ·intro t ht; cases ht
 ·rcases toks_run (s.size + 1) 0 s.data.toList [] (by rw [size_l]; omega) with ⟨ns, h1, h2⟩ | ⟨ns, l2, e, h1, h2, h3, h4⟩
  ·rw [h1]
   intro t ht
   exact List.all_eq_true.1 (run_snd h2).1 t (by simpa using ht)
  ·rw [h1]
   intro t ht
   cases ht
end Go.Proofs.YtjckpkamhdbcnaaGreatDoor
namespace Go.Proofs.YtjckpkamhdbcnaaGreatDoor
set_option linter.unusedSimpArgs false
set_option linter.unusedVariables false
open Go.RowKit
/-! Expressions: plain words. -/
inductive Ex where
 | mk (op : Int) (v : Val) (nm : List UInt8) (ks : List Ex)
def Ex.op : Ex → Int | .mk o _ _ _ => o
def Ex.v : Ex → Val | .mk _ v _ _ => v
def Ex.nm : Ex → List UInt8 | .mk _ _ n _ => n
def Ex.ks : Ex → List Ex | .mk _ _ _ k => k
theorem Ex.ind {P : Ex → Prop} (h : ∀ op v nm ks, (∀ x ∈ ks, P x) → P (.mk op v nm ks)) : ∀ x, P x
 | .mk op v nm ks => h op v nm ks (fun x hx => Ex.ind h x)
termination_by x => SizeOf.sizeOf x
decreasing_by
 simp_wf
 have := List.sizeOf_lt_of_mem hx
 omega
mutual
def szX : Ex → Nat
 | .mk _ _ _ ks => 1 + szL ks
def szL : List Ex → Nat
 | [] => 0
 | x :: t => szX x + szL t
end
mutual
def dpX : Ex → Nat
 | .mk _ _ _ ks => 1 + dpL ks
def dpL : List Ex → Nat
 | [] => 0
 | x :: t => max (dpX x) (dpL t)
end
def kidN (o : Int) : Nat := if o = 1 ∨ o = 2 then 0 else if o = 3 ∨ o = 16 then 1 else if o = 17 then 3 else 2
/-- A part has what its operator asks for. -/
def prtB (o : Int) (v : Val) (nm : List UInt8) (n : Nat) : Bool :=
 decide (1 ≤ o ∧ o ≤ 17 ∧ n = kidN o) && (if o = 1 then decide (nm = []) && (vsnd v && decide (0 ≤ v.n)) else if o = 2 then veq v zv && wordB (bytesOf nm) else veq v zv && decide (nm = []))
mutual
def okX : Ex → Bool
 | .mk o v nm ks => prtB o v nm ks.length && okL ks
def okL : List Ex → Bool
 | [] => true
 | x :: t => okX x && okL t
end
def sndX (x : Ex) : Bool := okX x && (decide (dpX x ≤ 64) && decide (szX x ≤ 4096))
def sgX (o : Int) : List UInt8 := if o = 4 then [43] else if o = 5 then [45] else if o = 6 then [42] else if o = 7 then [47] else if o = 8 then [61] else if o = 9 then [33, 61] else if o = 10 then [60] else if o = 11 then [60, 61] else if o = 12 then [62] else if o = 13 then [62, 61] else if o = 14 then [97, 110, 100] else [111, 114]
def wIF : List UInt8 := [105, 102]
def wTHEN : List UInt8 := [116, 104, 101, 110]
def wELSE : List UInt8 := [101, 108, 115, 101]
def wNOT : List UInt8 := [110, 111, 116]
/-! Tokens of an expression as it is written. -/
def brkK (p : Bool × List Tok) : List Tok := if p.1 then p.2 else tkS [40] :: (p.2 ++ [tkS [41]])
def tkN (x : List UInt8) : Tok := ⟨4, 0, x, 0, 0, 0⟩
def opK (o : Int) : Tok := if o = 14 ∨ o = 15 then tkN (sgX o) else tkS (sgX o)
def shpK (o : Int) (v : Val) (nm : List UInt8) : List (Bool × List Tok) → List Tok
 | [] => if o = 1 then tksV v else [tkN nm]
 | [a] => if o = 3 then tkS [45] :: brkK a else tkN wNOT :: tkS [40] :: (a.2 ++ [tkS [41]])
 | [a, b] => brkK a ++ (opK o :: brkK b)
 | [a, b, c] => tkN wIF :: (brkK a ++ (tkN wTHEN :: (brkK b ++ (tkN wELSE :: brkK c))))
 | _ => []
mutual
def tkX : Ex → List Tok
 | .mk o v nm ks => shpK o v nm (tksX ks)
def tksX : List Ex → List (Bool × List Tok)
 | [] => []
 | x :: t => (decide (x.ks.length = 0), tkX x) :: tksX t
end
/-! Reading. -/
inductive Md where
 | expr
 | chain (k : Nat)
 | loop (k : Nat) (a : Ex)
 | signed
 | operand
 | inner
def cmpX (x : Ex) (p : Nat) (r : List Tok) : PR (Ex × Nat) := if 4096 < p + 1 then .bad r 10 else .ok (x, p + 1) r
/-- The operator of a strength that is next. -/
def opR (k : Nat) (r : List Tok) : Option Int :=
 if k = 1 then (if isK 4 [111, 114] r = true then some 15 else none)
 else if k = 2 then (if isK 4 [97, 110, 100] r = true then some 14 else none)
 else if k = 3 then (if isS [61] r = true then some 8 else if isS [33, 61] r = true then some 9 else if isS [60] r = true then some 10 else if isS [60, 61] r = true then some 11 else if isS [62] r = true then some 12 else if isS [62, 61] r = true then some 13 else none)
 else if k = 4 then (if isS [43] r = true then some 4 else if isS [45] r = true then some 5 else none)
 else if k = 5 then (if isS [42] r = true then some 6 else if isS [47] r = true then some 7 else none)
 else none
/-- How many minus signs are next. -/
def mnR : List Tok → Nat
 | [] => 0
 | t :: r => if isS [45] [t] = true then mnR r + 1 else 0
def negX : Nat → Ex → Nat → List Tok → PR (Ex × Nat)
 | 0, x, p, r => .ok (x, p) r
 | m + 1, x, p, r => match cmpX (.mk 3 zv [] [x]) p r with
  | .bad q e => .bad q e
  | .ok y r1 => negX m y.1 y.2 r1
def encX (q : PR (Ex × Nat)) : PR (Ex × Nat) := match q with
 | .bad q e => .bad q e
 | .ok y r => if isS [41] r = true then .ok y r.tail else .bad r 5
def bndX {α β : Type} (q : PR α) (f : α → List Tok → PR β) : PR β := match q with
 | .bad q e => .bad q e
 | .ok y r => f y r
def litX (p : Nat) (r : List Tok) : PR (Ex × Nat) := match r with
 | [] => .bad [] 5
 | t :: r1 => match valT t with
  | some v => cmpX (.mk 1 v [] []) p r1
  | none => if t.kind = 4 ∧ wordB (bytesOf t.text) = true then cmpX (.mk 2 zv t.text []) p r1 else .bad (t :: r1) 5
def parX : Nat → Md → Nat → Nat → List Tok → PR (Ex × Nat)
 | 0, _, _, _, _ => .bad [] 99
 | n + 1, .expr, d, p, r => if isK 4 wIF r = true then
   bndX (parX n .expr d p r.tail) fun a r1 => if isK 4 wTHEN r1 = true then
    bndX (parX n .expr d a.2 r1.tail) fun b r2 => if isK 4 wELSE r2 = true then
     bndX (parX n .expr d b.2 r2.tail) fun c r3 => cmpX (.mk 17 zv [] [a.1, b.1, c.1]) c.2 r3
    else .bad r2 5
   else .bad r1 5
  else parX n (.chain 1) d p r
 | n + 1, .chain k, d, p, r => if k = 6 then parX n .signed d p r else bndX (parX n (.chain (k + 1)) d p r) fun a r1 => parX n (.loop k a.1) d a.2 r1
 | n + 1, .loop k a, d, p, r => match opR k r with
  | none => .ok (a, p) r
  | some o => bndX (parX n (.chain (k + 1)) d p r.tail) fun b r1 => bndX (cmpX (.mk o zv [] [a, b.1]) b.2 r1) fun y r2 => if k = 3 then .ok y r2 else parX n (.loop k y.1) d y.2 r2
 | n + 1, .signed, d, p, r => bndX (parX n .operand d p (r.drop (mnR r))) fun x r1 => negX (mnR r) x.1 x.2 r1
 | n + 1, .operand, d, p, r => if isS [40] r = true then encX (parX n .inner d p r.tail)
  else if isK 4 wNOT r = true then (if isS [40] r.tail = true then bndX (encX (parX n .inner d p r.tail.tail)) fun x r1 => cmpX (.mk 16 zv [] [x.1]) x.2 r1 else .bad r.tail 5)
  else litX p r
 | n + 1, .inner, d, p, r => if 64 < d + 1 then .bad r 9 else parX n .expr (d + 1) p r
/-- Not out of fuel. -/
def PR.fine {α : Type} (q : PR α) : Prop := match q with
 | .bad _ e => e ≠ 99
 | .ok _ _ => True
theorem fine_bnd {α β : Type} {q : PR α} {f : α → List Tok → PR β} (h : (bndX q f).fine) : q.fine := by
 cases q with
 | bad r e => exact h
 | ok y r => trivial
theorem fine_enc {q : PR (Ex × Nat)} (h : (encX q).fine) : q.fine := by
 cases q with
 | bad r e => exact h
 | ok y r => trivial
/-- More fuel changes nothing. -/
theorem parX_more : ∀ (n : Nat) (m : Md) (d p : Nat) (r : List Tok), (parX n m d p r).fine → parX (n + 1) m d p r = parX n m d p r
 | 0, m, d, p, r, h => absurd rfl h
 | n + 1, .expr, d, p, r, h => by
  rw [parX.eq_def (n + 1 + 1), parX.eq_def (n + 1)]
  rw [parX.eq_def (n + 1)] at h
  simp only at h ⊢
  by_cases h1 : isK 4 wIF r = true
  ·rw [if_pos h1] at h ⊢
   rw [if_pos h1]
   have f1 := fine_bnd h
   rw [parX_more n .expr d p r.tail f1]
   cases ha : parX n .expr d p r.tail with
   | bad q e => rfl
   | ok a r1 =>
    rw [ha] at h
    simp only [bndX] at h ⊢
    by_cases h2 : isK 4 wTHEN r1 = true
    ·rw [if_pos h2] at h ⊢
     rw [if_pos h2]
     have f2 : (parX n .expr d a.2 r1.tail).fine := fine_bnd (f := fun b r2 => if isK 4 wELSE r2 = true then bndX (parX n .expr d b.2 r2.tail) fun c r3 => cmpX (.mk 17 zv [] [a.1, b.1, c.1]) c.2 r3 else .bad r2 5) h
     rw [parX_more n .expr d a.2 r1.tail f2]
     cases hb : parX n .expr d a.2 r1.tail with
     | bad q e => rfl
     | ok b r2 =>
      rw [hb] at h
      simp only at h ⊢
      by_cases h3 : isK 4 wELSE r2 = true
      ·rw [if_pos h3] at h ⊢
       rw [if_pos h3]
       have f3 : (parX n .expr d b.2 r2.tail).fine := fine_bnd (f := fun c r3 => cmpX (.mk 17 zv [] [a.1, b.1, c.1]) c.2 r3) h
       rw [parX_more n .expr d b.2 r2.tail f3]
      ·rw [if_neg h3, if_neg h3]
    ·rw [if_neg h2, if_neg h2]
  ·rw [if_neg h1] at h ⊢
   rw [if_neg h1]
   exact parX_more n (.chain 1) d p r h
 | n + 1, .chain k, d, p, r, h => by
  rw [parX.eq_def (n + 1 + 1), parX.eq_def (n + 1)]
  rw [parX.eq_def (n + 1)] at h
  simp only at h ⊢
  by_cases h1 : k = 6
  ·rw [if_pos h1] at h ⊢
   rw [if_pos h1]
   exact parX_more n .signed d p r h
  ·rw [if_neg h1] at h ⊢
   rw [if_neg h1]
   rw [parX_more n (.chain (k + 1)) d p r (fine_bnd h)]
   cases ha : parX n (.chain (k + 1)) d p r with
   | bad q e => rfl
   | ok a r1 =>
    rw [ha] at h
    simp only [bndX] at h ⊢
    exact parX_more n (.loop k a.1) d a.2 r1 h
 | n + 1, .loop k a, d, p, r, h => by
  rw [parX.eq_def (n + 1 + 1), parX.eq_def (n + 1)]
  rw [parX.eq_def (n + 1)] at h
  simp only at h ⊢
  cases ho : opR k r with
  | none => rfl
  | some o =>
   rw [ho] at h
   simp only at h ⊢
   rw [parX_more n (.chain (k + 1)) d p r.tail (fine_bnd h)]
   cases hb : parX n (.chain (k + 1)) d p r.tail with
   | bad q e => rfl
   | ok b r1 =>
    rw [hb] at h
    simp only [bndX] at h ⊢
    cases hc : cmpX (.mk o zv [] [a, b.1]) b.2 r1 with
    | bad q e => rfl
    | ok y r2 =>
     rw [hc] at h
     simp only at h ⊢
     by_cases h3 : k = 3
     ·rw [if_pos h3, if_pos h3]
     ·rw [if_neg h3] at h ⊢
      rw [if_neg h3]
      exact parX_more n (.loop k y.1) d y.2 r2 h
 | n + 1, .signed, d, p, r, h => by
  rw [parX.eq_def (n + 1 + 1), parX.eq_def (n + 1)]
  rw [parX.eq_def (n + 1)] at h
  simp only at h ⊢
  rw [parX_more n .operand d p _ (fine_bnd h)]
 | n + 1, .operand, d, p, r, h => by
  rw [parX.eq_def (n + 1 + 1), parX.eq_def (n + 1)]
  rw [parX.eq_def (n + 1)] at h
  simp only at h ⊢
  by_cases h1 : isS [40] r = true
  ·rw [if_pos h1] at h ⊢
   rw [if_pos h1]
   rw [parX_more n .inner d p r.tail (fine_enc h)]
  ·rw [if_neg h1] at h ⊢
   rw [if_neg h1]
   by_cases h2 : isK 4 wNOT r = true
   ·rw [if_pos h2] at h ⊢
    rw [if_pos h2]
    by_cases h3 : isS [40] r.tail = true
    ·rw [if_pos h3] at h ⊢
     rw [if_pos h3]
     rw [parX_more n .inner d p r.tail.tail (fine_enc (fine_bnd h))]
    ·rw [if_neg h3, if_neg h3]
   ·rw [if_neg h2, if_neg h2]
 | n + 1, .inner, d, p, r, h => by
  rw [parX.eq_def (n + 1 + 1), parX.eq_def (n + 1)]
  rw [parX.eq_def (n + 1)] at h
  simp only at h ⊢
  by_cases h1 : 64 < d + 1
  ·rw [if_pos h1, if_pos h1]
  ·rw [if_neg h1] at h ⊢
   rw [if_neg h1]
   exact parX_more n .expr (d + 1) p r h
theorem parX_le {n k : Nat} {m : Md} {d p : Nat} {r : List Tok} (h : (parX n m d p r).fine) (hk : n ≤ k) : parX k m d p r = parX n m d p r := by
 induction k with
 | zero => obtain rfl : n = 0 := by omega
           rfl
 | succ k ih =>
  rcases Nat.lt_or_ge k n with h1 | h1
  ·obtain rfl : n = k + 1 := by omega
   rfl
  ·have e := ih h1
   rw [parX_more k m d p r (by rw [e]; exact h), e]
/-! What is left is an end of what was there. -/
def PR.suf {α : Type} (q : PR α) (r : List Tok) : Prop := match q with
 | .bad s _ => s <:+ r
 | .ok _ s => s <:+ r
theorem PR.suf.trans {α : Type} {q : PR α} {r s : List Tok} (h : q.suf r) (hr : r <:+ s) : q.suf s := by
 cases q with
 | bad t e => exact List.IsSuffix.trans h hr
 | ok y t => exact List.IsSuffix.trans h hr
theorem suf_bnd {α β : Type} {q : PR α} {f : α → List Tok → PR β} {r : List Tok} (h : q.suf r) (hf : ∀ y s, q = .ok y s → (f y s).suf s) : (bndX q f).suf r := by
 cases q with
 | bad t e => exact h
 | ok y t => exact (hf y t rfl).trans h
theorem suf_enc {q : PR (Ex × Nat)} {r : List Tok} (h : q.suf r) : (encX q).suf r := by
 cases q with
 | bad t e => exact h
 | ok y t =>
  unfold encX
  simp only
  by_cases h1 : isS [41] t = true
  ·rw [if_pos h1]; exact (List.tail_suffix t).trans h
  ·rw [if_neg h1]; exact h
theorem suf_cmp (x : Ex) (p : Nat) (r : List Tok) : (cmpX x p r).suf r := by
 unfold cmpX
 split <;> exact List.suffix_refl r
theorem suf_neg : ∀ (m : Nat) (x : Ex) (p : Nat) (r : List Tok), (negX m x p r).suf r
 | 0, x, p, r => List.suffix_refl r
 | m + 1, x, p, r => by
  unfold negX
  have h := suf_cmp (.mk 3 zv [] [x]) p r
  cases hc : cmpX (.mk 3 zv [] [x]) p r with
  | bad t e => rw [hc] at h; exact h
  | ok y t => rw [hc] at h; exact (suf_neg m y.1 y.2 t).trans h
theorem suf_lit (p : Nat) (r : List Tok) : (litX p r).suf r := by
 unfold litX
 cases r with
 | nil => exact List.suffix_refl []
 | cons t r =>
  simp only
  cases valT t with
  | some v => exact (suf_cmp _ _ _).trans (List.suffix_cons t r)
  | none =>
   simp only
   split
   ·exact (suf_cmp _ _ _).trans (List.suffix_cons t r)
   ·exact List.suffix_refl _
theorem parX_suf : ∀ (n : Nat) (m : Md) (d p : Nat) (r : List Tok), (parX n m d p r).suf r
 | 0, m, d, p, r => List.nil_suffix
 | n + 1, .expr, d, p, r => by
  rw [parX.eq_def]
  simp only
  split
  ·refine suf_bnd ((parX_suf n .expr d p r.tail).trans (List.tail_suffix r)) fun a r1 _ => ?_
   split
   ·refine suf_bnd ((parX_suf n .expr d a.2 r1.tail).trans (List.tail_suffix r1)) fun b r2 _ => ?_
    split
    ·exact suf_bnd ((parX_suf n .expr d b.2 r2.tail).trans (List.tail_suffix r2)) fun c r3 _ => suf_cmp _ _ _
    ·exact List.suffix_refl _
   ·exact List.suffix_refl _
  ·exact parX_suf n (.chain 1) d p r
 | n + 1, .chain k, d, p, r => by
  rw [parX.eq_def]
  simp only
  split
  ·exact parX_suf n .signed d p r
  ·exact suf_bnd (parX_suf n (.chain (k + 1)) d p r) fun a r1 _ => parX_suf n (.loop k a.1) d a.2 r1
 | n + 1, .loop k a, d, p, r => by
  rw [parX.eq_def]
  simp only
  cases ho : opR k r with
  | none => exact List.suffix_refl _
  | some o =>
   simp only
   refine suf_bnd ((parX_suf n (.chain (k + 1)) d p r.tail).trans (List.tail_suffix r)) fun b r1 _ => suf_bnd (suf_cmp _ _ _) fun y r2 _ => ?_
   split
   ·exact List.suffix_refl _
   ·exact parX_suf n (.loop k y.1) d y.2 r2
 | n + 1, .signed, d, p, r => by
  rw [parX.eq_def]
  simp only
  exact suf_bnd ((parX_suf n .operand d p _).trans (List.drop_suffix _ r)) fun x r1 _ => suf_neg _ _ _ _
 | n + 1, .operand, d, p, r => by
  rw [parX.eq_def]
  simp only
  split
  ·exact suf_enc ((parX_suf n .inner d p r.tail).trans (List.tail_suffix r))
  ·split
   ·split
    ·exact suf_bnd (suf_enc ((parX_suf n .inner d p r.tail.tail).trans ((List.tail_suffix _).trans (List.tail_suffix r)))) fun x r1 _ => suf_cmp _ _ _
    ·exact List.tail_suffix r
   ·exact suf_lit p r
 | n + 1, .inner, d, p, r => by
  rw [parX.eq_def]
  simp only
  split
  ·exact List.suffix_refl r
  ·exact parX_suf n .expr (d + 1) p r
/-! Parts are no more than tokens; what is read is not nothing. -/
theorem isK_len {k : Int} {x : List UInt8} {r : List Tok} (h : isK k x r = true) : r.tail.length + 1 = r.length := by
 cases r with
 | nil => cases h
 | cons t r => simp
theorem opR_len {k : Nat} {r : List Tok} {o : Int} (h : opR k r = some o) : r.tail.length + 1 = r.length := by
 cases r with
 | nil =>
  have e : opR k [] = none := by
   unfold opR
   simp [isK]
  rw [e] at h
  cases h
 | cons t r => simp
/-! There is always fuel enough. -/
def levM : Md → Nat
 | .expr => 10
 | .chain k => 9 - k
 | .loop _ _ => 11
 | .signed => 2
 | .operand => 1
 | .inner => 11
def modM : Md → Prop
 | .chain k => k ≤ 6
 | .loop k _ => k ≤ 5
 | _ => True
theorem suf_len {α : Type} {q : PR α} {r : List Tok} {y : α} {s : List Tok} (h : q.suf r) (e : q = .ok y s) : s.length ≤ r.length := by
 rw [e] at h
 exact List.IsSuffix.length_le h
theorem neg_suf_len {m p : Nat} {x y : Ex × Nat} {r s : List Tok} (e : negX m x.1 p r = .ok y s) : s.length ≤ r.length := suf_len (suf_neg m x.1 p r) e
theorem enc_lt {q : PR (Ex × Nat)} {r s : List Tok} {y : Ex × Nat} (h : q.suf r) (e : encX q = .ok y s) : s.length < r.length := by
 cases q with
 | bad t er => cases e
 | ok z t =>
  unfold encX at e
  simp only at e
  have h' : t <:+ r := h
  have l1 := List.IsSuffix.length_le h'
  by_cases h1 : isS [41] t = true
  ·rw [if_pos h1] at e
   cases e
   have := isK_len h1
   omega
  ·rw [if_neg h1] at e; cases e
theorem cmp_ok {x : Ex} {p : Nat} {r s : List Tok} {y : Ex × Nat} (e : cmpX x p r = .ok y s) : y = (x, p + 1) ∧ s = r := by
 unfold cmpX at e
 split at e
 ·cases e
 ·cases e; exact ⟨rfl, rfl⟩
theorem lit_lt {p : Nat} {r s : List Tok} {y : Ex × Nat} (e : litX p r = .ok y s) : s.length < r.length := by
 unfold litX at e
 cases r with
 | nil => cases e
 | cons t r =>
  simp only at e
  cases hv : valT t with
  | some v =>
   rw [hv] at e
   obtain ⟨_, rfl⟩ := cmp_ok e
   simp
  | none =>
   rw [hv] at e
   simp only at e
   split at e
   ·obtain ⟨_, rfl⟩ := cmp_ok e
    simp
   ·cases e
theorem bnd_ok {α β : Type} {q : PR α} {f : α → List Tok → PR β} {y : β} {s : List Tok} (e : bndX q f = .ok y s) : ∃ z t, q = .ok z t ∧ f z t = .ok y s := by
 cases q with
 | bad r er => cases e
 | ok z t => exact ⟨z, t, rfl, e⟩
/-- What is read is not nothing. -/
theorem parX_lt : ∀ (n : Nat) (m : Md) (d p : Nat) (r s : List Tok) (y : Ex × Nat), (∀ k a, m ≠ .loop k a) → parX n m d p r = .ok y s → s.length < r.length
 | 0, m, d, p, r, s, y, _, h => by cases h
 | n + 1, .expr, d, p, r, s, y, _, h => by
  rw [parX.eq_def] at h
  simp only at h
  split at h
  ·rename_i h1
   have l1 := isK_len h1
   obtain ⟨a, r1, e1, h⟩ := bnd_ok h
   have k1 := suf_len (parX_suf n .expr d p r.tail) e1
   split at h
   ·rename_i h2
    have l2 := isK_len h2
    obtain ⟨b, r2, e2, h⟩ := bnd_ok h
    have k2 := suf_len (parX_suf n .expr d a.2 r1.tail) e2
    split at h
    ·rename_i h3
     have l3 := isK_len h3
     obtain ⟨c, r3, e3, h⟩ := bnd_ok h
     have k3 := suf_len (parX_suf n .expr d b.2 r2.tail) e3
     obtain ⟨_, rfl⟩ := cmp_ok h
     omega
    ·cases h
   ·cases h
  ·exact parX_lt n (.chain 1) d p r s y (fun k a e => by cases e) h
 | n + 1, .chain k, d, p, r, s, y, _, h => by
  rw [parX.eq_def] at h
  simp only at h
  split at h
  ·exact parX_lt n .signed d p r s y (fun k a e => by cases e) h
  ·obtain ⟨a, r1, e1, h⟩ := bnd_ok h
   have k1 := parX_lt n (.chain (k + 1)) d p r r1 a (fun k a e => by cases e) e1
   have k2 := suf_len (parX_suf n (.loop k a.1) d a.2 r1) h
   omega
 | n + 1, .loop k a, d, p, r, s, y, hm, h => absurd rfl (hm k a)
 | n + 1, .signed, d, p, r, s, y, _, h => by
  rw [parX.eq_def] at h
  simp only at h
  obtain ⟨a, r1, e1, h⟩ := bnd_ok h
  have k1 := parX_lt n .operand d p _ r1 a (fun k a e => by cases e) e1
  have k2 := neg_suf_len h
  rw [List.length_drop] at k1
  omega
 | n + 1, .operand, d, p, r, s, y, _, h => by
  rw [parX.eq_def] at h
  simp only at h
  split at h
  ·have := enc_lt (parX_suf n .inner d p r.tail) h
   have := List.IsSuffix.length_le (List.tail_suffix r)
   omega
  ·split at h
   ·split at h
    ·obtain ⟨a, r1, e1, h⟩ := bnd_ok h
     have k1 := enc_lt (parX_suf n .inner d p r.tail.tail) e1
     obtain ⟨_, rfl⟩ := cmp_ok h
     have := List.IsSuffix.length_le (List.tail_suffix r)
     have := List.IsSuffix.length_le (List.tail_suffix r.tail)
     omega
    ·cases h
   ·exact lit_lt h
 | n + 1, .inner, d, p, r, s, y, _, h => by
  rw [parX.eq_def] at h
  simp only at h
  split at h
  ·cases h
  ·exact parX_lt n .expr (d + 1) p r s y (fun k a e => by cases e) h
theorem bnd_fine {α β : Type} {q : PR α} {f : α → List Tok → PR β} (h : q.fine) (hf : ∀ y s, q = .ok y s → (f y s).fine) : (bndX q f).fine := by
 cases q with
 | bad r e => exact h
 | ok y s => exact hf y s rfl
theorem cmp_fine (x : Ex) (p : Nat) (r : List Tok) : (cmpX x p r).fine := by
 unfold cmpX
 split
 ·show (10 : Nat) ≠ 99; decide
 ·trivial
theorem neg_fine : ∀ (m : Nat) (x : Ex) (p : Nat) (r : List Tok), (negX m x p r).fine
 | 0, x, p, r => trivial
 | m + 1, x, p, r => by
  unfold negX
  have h := cmp_fine (.mk 3 zv [] [x]) p r
  cases hc : cmpX (.mk 3 zv [] [x]) p r with
  | bad t e => rw [hc] at h; exact h
  | ok y t => exact neg_fine m y.1 y.2 t
theorem enc_fine {q : PR (Ex × Nat)} (h : q.fine) : (encX q).fine := by
 cases q with
 | bad r e => exact h
 | ok y s =>
  unfold encX
  simp only
  split
  ·trivial
  ·show (5 : Nat) ≠ 99; decide
theorem lit_fine (p : Nat) (r : List Tok) : (litX p r).fine := by
 unfold litX
 cases r with
 | nil => show (5 : Nat) ≠ 99; decide
 | cons t r =>
  simp only
  cases valT t with
  | some v => exact cmp_fine _ _ _
  | none =>
   simp only
   split
   ·exact cmp_fine _ _ _
   ·show (5 : Nat) ≠ 99; decide
theorem parX_fine : ∀ (n : Nat) (m : Md) (d p : Nat) (r : List Tok), modM m → 12 * r.length + levM m ≤ n → (parX n m d p r).fine
 | 0, m, d, p, r, hm, h => by
  cases m <;> simp only [levM, modM] at h hm <;> omega
 | n + 1, .expr, d, p, r, _, h => by
  simp only [levM] at h
  rw [parX.eq_def]
  simp only
  split
  ·rename_i h1
   have l1 := isK_len h1
   refine bnd_fine (parX_fine n .expr d p r.tail trivial (by simp only [levM]; omega)) fun a r1 e1 => ?_
   have k1 := suf_len (parX_suf n .expr d p r.tail) e1
   split
   ·rename_i h2
    have l2 := isK_len h2
    refine bnd_fine (parX_fine n .expr d a.2 r1.tail trivial (by simp only [levM]; omega)) fun b r2 e2 => ?_
    have k2 := suf_len (parX_suf n .expr d a.2 r1.tail) e2
    split
    ·rename_i h3
     have l3 := isK_len h3
     exact bnd_fine (parX_fine n .expr d b.2 r2.tail trivial (by simp only [levM]; omega)) fun c r3 e3 => cmp_fine _ _ _
    ·show (5 : Nat) ≠ 99; decide
   ·show (5 : Nat) ≠ 99; decide
  ·exact parX_fine n (.chain 1) d p r (by show 1 ≤ 6; omega) (by simp only [levM]; omega)
 | n + 1, .chain k, d, p, r, hm, h => by
  have hk : k ≤ 6 := hm
  simp only [levM] at h
  rw [parX.eq_def]
  simp only
  split
  ·exact parX_fine n .signed d p r trivial (by simp only [levM]; omega)
  ·refine bnd_fine (parX_fine n (.chain (k + 1)) d p r (by show k + 1 ≤ 6; omega) (by simp only [levM]; omega)) fun a r1 e1 => ?_
   have k1 := parX_lt n (.chain (k + 1)) d p r r1 a (fun k a e => by cases e) e1
   exact parX_fine n (.loop k a.1) d a.2 r1 (by show k ≤ 5; omega) (by simp only [levM]; omega)
 | n + 1, .loop k a, d, p, r, hm, h => by
  have hk : k ≤ 5 := hm
  simp only [levM] at h
  rw [parX.eq_def]
  simp only
  cases ho : opR k r with
  | none => trivial
  | some o =>
   simp only
   have l1 := opR_len ho
   refine bnd_fine (parX_fine n (.chain (k + 1)) d p r.tail (by show k + 1 ≤ 6; omega) (by simp only [levM]; omega)) fun b r1 e1 => ?_
   have k1 := suf_len (parX_suf n (.chain (k + 1)) d p r.tail) e1
   refine bnd_fine (cmp_fine _ _ _) fun y r2 e2 => ?_
   obtain ⟨_, rfl⟩ := cmp_ok e2
   split
   ·trivial
   ·exact parX_fine n (.loop k y.1) d y.2 r2 hm (by simp only [levM]; omega)
 | n + 1, .signed, d, p, r, _, h => by
  simp only [levM] at h
  rw [parX.eq_def]
  simp only
  exact bnd_fine (parX_fine n .operand d p _ trivial (by simp only [levM]; rw [List.length_drop]; omega)) fun x r1 e1 => neg_fine _ _ _ _
 | n + 1, .operand, d, p, r, _, h => by
  simp only [levM] at h
  rw [parX.eq_def]
  simp only
  split
  ·rename_i h1
   have l1 := isK_len h1
   exact enc_fine (parX_fine n .inner d p r.tail trivial (by simp only [levM]; omega))
  ·split
   ·rename_i h2
    have l2 := isK_len h2
    split
    ·rename_i h3
     have l3 := isK_len h3
     exact bnd_fine (enc_fine (parX_fine n .inner d p r.tail.tail trivial (by simp only [levM]; omega))) fun x r1 e1 => cmp_fine _ _ _
    ·show (5 : Nat) ≠ 99; decide
   ·exact lit_fine p r
 | n + 1, .inner, d, p, r, _, h => by
  simp only [levM] at h
  rw [parX.eq_def]
  simp only
  split
  ·show (9 : Nat) ≠ 99; decide
  ·exact parX_fine n .expr (d + 1) p r trivial (by simp only [levM]; omega)
/-! What is read, whatever the fuel. -/
def Par (m : Md) (d p : Nat) (r : List Tok) (q : PR (Ex × Nat)) : Prop := q.fine ∧ ∃ n, ∀ k, n ≤ k → parX k m d p r = q
theorem Par.at {m : Md} {d p : Nat} {r : List Tok} {q : PR (Ex × Nat)} (h : Par m d p r q) {n : Nat} (hm : modM m) (hn : 12 * r.length + levM m ≤ n) : parX n m d p r = q := by
 obtain ⟨hf, k, hk⟩ := h
 have h1 := parX_fine n m d p r hm hn
 have h2 := parX_le h1 (Nat.le_max_left n k)
 rw [← h2, hk _ (Nat.le_max_right n k)]
theorem Par.of {m : Md} {d p : Nat} {r : List Tok} {n : Nat} (h : (parX n m d p r).fine) : Par m d p r (parX n m d p r) := ⟨h, n, fun _ hk => parX_le h hk⟩
theorem Par.uniq {m : Md} {d p : Nat} {r : List Tok} {q q' : PR (Ex × Nat)} (h : Par m d p r q) (h' : Par m d p r q') : q = q' := by
 obtain ⟨_, n, hn⟩ := h
 obtain ⟨_, k, hk⟩ := h'
 rw [← hn (max n k) (Nat.le_max_left n k), hk (max n k) (Nat.le_max_right n k)]
theorem Par.any (m : Md) (d p : Nat) (r : List Tok) (hm : modM m) : ∃ q, Par m d p r q := ⟨_, Par.of (parX_fine _ m d p r hm (Nat.le_refl _))⟩
theorem Par.expr {d p : Nat} {r : List Tok} {q : PR (Ex × Nat)} (h1 : isK 4 wIF r = false) (h : Par (.chain 1) d p r q) : Par .expr d p r q := by
 obtain ⟨hf, n, hn⟩ := h
 refine ⟨hf, n + 1, fun k hk => ?_⟩
 obtain ⟨j, rfl⟩ : ∃ j, k = j + 1 := ⟨k - 1, by omega⟩
 rw [parX.eq_def]
 simp only
 rw [if_neg (by rw [h1]; decide)]
 exact hn j (by omega)
theorem Par.chain {k d p : Nat} {r r1 : List Tok} {a : Ex × Nat} {q : PR (Ex × Nat)} (hk : k ≠ 6) (ha : Par (.chain (k + 1)) d p r (.ok a r1)) (hl : Par (.loop k a.1) d a.2 r1 q) : Par (.chain k) d p r q := by
 obtain ⟨_, n1, k1⟩ := ha
 obtain ⟨hf, n2, k2⟩ := hl
 refine ⟨hf, n1 + n2 + 1, fun i hi => ?_⟩
 obtain ⟨j, rfl⟩ : ∃ j, i = j + 1 := ⟨i - 1, by omega⟩
 rw [parX.eq_def]
 simp only
 rw [if_neg hk, k1 j (by omega)]
 exact k2 j (by omega)
theorem Par.go {k d p : Nat} {a : Ex} {o : Int} {b y : Ex × Nat} {r r1 r2 : List Tok} {q : PR (Ex × Nat)} (h : opR k r = some o) (hb : Par (.chain (k + 1)) d p r.tail (.ok b r1)) (hc : cmpX (.mk o zv [] [a, b.1]) b.2 r1 = .ok y r2) (h3 : k = 3 → q = .ok y r2) (hl : k ≠ 3 → Par (.loop k y.1) d y.2 r2 q) : Par (.loop k a) d p r q := by
 obtain ⟨_, n1, k1⟩ := hb
 by_cases hk : k = 3
 ·refine ⟨by rw [h3 hk]; trivial, n1 + 1, fun i hi => ?_⟩
  obtain ⟨j, rfl⟩ : ∃ j, i = j + 1 := ⟨i - 1, by omega⟩
  rw [parX.eq_def]
  simp only
  rw [h]
  simp only
  rw [k1 j (by omega)]
  simp only [bndX]
  rw [hc]
  simp only
  rw [if_pos hk, h3 hk]
 ·obtain ⟨hf, n2, k2⟩ := hl hk
  refine ⟨hf, n1 + n2 + 1, fun i hi => ?_⟩
  obtain ⟨j, rfl⟩ : ∃ j, i = j + 1 := ⟨i - 1, by omega⟩
  rw [parX.eq_def]
  simp only
  rw [h]
  simp only
  rw [k1 j (by omega)]
  simp only [bndX]
  rw [hc]
  simp only
  rw [if_neg hk]
  exact k2 j (by omega)
theorem Par.signed {d p : Nat} {r r1 : List Tok} {x : Ex × Nat} (h : Par .operand d p (r.drop (mnR r)) (.ok x r1)) : Par .signed d p r (negX (mnR r) x.1 x.2 r1) := by
 obtain ⟨_, n, hn⟩ := h
 refine ⟨neg_fine _ _ _ _, n + 1, fun k hk => ?_⟩
 obtain ⟨j, rfl⟩ : ∃ j, k = j + 1 := ⟨k - 1, by omega⟩
 rw [parX.eq_def]
 simp only
 rw [hn j (by omega)]
 rfl
theorem Par.inner {d p : Nat} {r : List Tok} {q : PR (Ex × Nat)} (hd : d + 1 ≤ 64) (h : Par .expr (d + 1) p r q) : Par .inner d p r q := by
 obtain ⟨hf, n, hn⟩ := h
 refine ⟨hf, n + 1, fun k hk => ?_⟩
 obtain ⟨j, rfl⟩ : ∃ j, k = j + 1 := ⟨k - 1, by omega⟩
 rw [parX.eq_def]
 simp only
 rw [if_neg (by omega)]
 exact hn j (by omega)
theorem Par.deep {d p : Nat} {r : List Tok} (hd : 64 < d + 1) : Par .inner d p r (.bad r 9) := by
 refine ⟨by show (9 : Nat) ≠ 99; decide, 1, fun k hk => ?_⟩
 obtain ⟨j, rfl⟩ : ∃ j, k = j + 1 := ⟨k - 1, by omega⟩
 rw [parX.eq_def]
 simp only
 rw [if_pos hd]
/-! What is written is read. -/
theorem prt_out {o : Int} {v : Val} {nm : List UInt8} {n : Nat} (h : prtB o v nm n = true) : 1 ≤ o ∧ o ≤ 17 ∧ n = kidN o ∧ (o = 1 → nm = [] ∧ vsnd v = true ∧ 0 ≤ v.n) ∧ (o = 2 → v = zv ∧ wordB (bytesOf nm) = true) ∧ (o ≠ 1 → o ≠ 2 → v = zv ∧ nm = []) := by
 unfold prtB at h
 rw [Bool.and_eq_true, decide_eq_true_eq] at h
 obtain ⟨⟨h1, h2, h3⟩, h4⟩ := h
 refine ⟨h1, h2, h3, ?_, ?_, ?_⟩
 ·intro e
  rw [if_pos e] at h4
  simpa [Bool.and_eq_true] using h4
 ·intro e
  rw [if_neg (by omega), if_pos e, Bool.and_eq_true, veq_iff] at h4
  exact h4
 ·intro a b
  rw [if_neg a, if_neg b, Bool.and_eq_true, veq_iff, decide_eq_true_eq] at h4
  exact h4
/-- An operand. -/
def Oper (x : Ex) : Prop := ∀ d p rest, d + dpX x ≤ 64 → p + szX x ≤ 4096 → Par .operand d p (brkK (decide (x.ks.length = 0), tkX x) ++ rest) (.ok (x, p + szX x) rest)
/-! Texts. -/
def zx : Ex := .mk 0 zv [] []
noncomputable def parE (s : ByteArray) : Ex × Int × Nat :=
 if (tokS s).2.2 = 0 then (match parX (12 * (tokS s).1.length + 11) .inner 0 0 (tokS s).1 with
  | .bad r e => (zx, posT s.size r, e)
  | .ok y r => if r = [] then (if sndX y.1 = true then (y.1, 0, 0) else (zx, 0, 9)) else (zx, posT s.size r, 5))
 else (zx, (tokS s).2.1, (tokS s).2.2)
/-! Places. -/
def PR.errs {α : Type} (q : PR α) : Prop := match q with
 | .bad _ e => e ≠ 0
 | .ok _ _ => True
theorem bnd_err {α β : Type} {q : PR α} {f : α → List Tok → PR β} (h : q.errs) (hf : ∀ y s, (f y s).errs) : (bndX q f).errs := by
 cases q with
 | bad r e => exact h
 | ok y s => exact hf y s
theorem cmp_err (x : Ex) (p : Nat) (r : List Tok) : (cmpX x p r).errs := by
 unfold cmpX
 split
 ·show (10 : Nat) ≠ 0; decide
 ·trivial
theorem neg_err : ∀ (m : Nat) (x : Ex) (p : Nat) (r : List Tok), (negX m x p r).errs
 | 0, x, p, r => trivial
 | m + 1, x, p, r => by
  unfold negX
  have h := cmp_err (.mk 3 zv [] [x]) p r
  cases hc : cmpX (.mk 3 zv [] [x]) p r with
  | bad t e => rw [hc] at h; exact h
  | ok y t => exact neg_err m y.1 y.2 t
theorem enc_err {q : PR (Ex × Nat)} (h : q.errs) : (encX q).errs := by
 cases q with
 | bad r e => exact h
 | ok y s =>
  unfold encX
  simp only
  split
  ·trivial
  ·show (5 : Nat) ≠ 0; decide
theorem lit_err (p : Nat) (r : List Tok) : (litX p r).errs := by
 unfold litX
 cases r with
 | nil => show (5 : Nat) ≠ 0; decide
 | cons t r =>
  simp only
  cases valT t with
  | some v => exact cmp_err _ _ _
  | none =>
   simp only
   split
   ·exact cmp_err _ _ _
   ·show (5 : Nat) ≠ 0; decide
theorem parX_err : ∀ (n : Nat) (m : Md) (d p : Nat) (r : List Tok), (parX n m d p r).errs
 | 0, m, d, p, r => by show (99 : Nat) ≠ 0; decide
 | n + 1, .expr, d, p, r => by
  rw [parX.eq_def]
  simp only
  split
  ·refine bnd_err (parX_err n .expr d p r.tail) fun a r1 => ?_
   split
   ·refine bnd_err (parX_err n .expr d a.2 r1.tail) fun b r2 => ?_
    split
    ·exact bnd_err (parX_err n .expr d b.2 r2.tail) fun c r3 => cmp_err _ _ _
    ·show (5 : Nat) ≠ 0; decide
   ·show (5 : Nat) ≠ 0; decide
  ·exact parX_err n (.chain 1) d p r
 | n + 1, .chain k, d, p, r => by
  rw [parX.eq_def]
  simp only
  split
  ·exact parX_err n .signed d p r
  ·exact bnd_err (parX_err n (.chain (k + 1)) d p r) fun a r1 => parX_err n (.loop k a.1) d a.2 r1
 | n + 1, .loop k a, d, p, r => by
  rw [parX.eq_def]
  simp only
  cases ho : opR k r with
  | none => trivial
  | some o =>
   simp only
   refine bnd_err (parX_err n (.chain (k + 1)) d p r.tail) fun b r1 => bnd_err (cmp_err _ _ _) fun y r2 => ?_
   split
   ·trivial
   ·exact parX_err n (.loop k y.1) d y.2 r2
 | n + 1, .signed, d, p, r => by
  rw [parX.eq_def]
  simp only
  exact bnd_err (parX_err n .operand d p _) fun x r1 => neg_err _ _ _ _
 | n + 1, .operand, d, p, r => by
  rw [parX.eq_def]
  simp only
  split
  ·exact enc_err (parX_err n .inner d p r.tail)
  ·split
   ·split
    ·exact bnd_err (enc_err (parX_err n .inner d p r.tail.tail)) fun x r1 => cmp_err _ _ _
    ·show (5 : Nat) ≠ 0; decide
   ·exact lit_err p r
 | n + 1, .inner, d, p, r => by
  rw [parX.eq_def]
  simp only
  split
  ·show (9 : Nat) ≠ 0; decide
  ·exact parX_err n .expr (d + 1) p r
theorem parE_ok {s : ByteArray} {x : Ex} {n : Int} (h : parE s = (x, n, 0)) : n = 0 ∧ sndX x = true ∧ (tokS s).2.2 = 0 ∧ ∃ p, Par .inner 0 0 (tokS s).1 (.ok (x, p) []) := by
 unfold parE at h
 split at h
 ·rename_i ht
  have hf := parX_fine (12 * (tokS s).1.length + 11) .inner 0 0 (tokS s).1 trivial (by simp only [levM]; omega)
  have hP := Par.of hf
  cases hc : parX (12 * (tokS s).1.length + 11) .inner 0 0 (tokS s).1 with
  | bad r e =>
   rw [hc] at h hf
   simp only [Prod.mk.injEq] at h
   have he := parX_err (12 * (tokS s).1.length + 11) .inner 0 0 (tokS s).1
   rw [hc] at he
   exact absurd h.2.2 he
  | ok y r =>
   rw [hc] at h hP
   simp only at h
   split at h
   ·rename_i hr
    split at h
    ·rename_i hs
     simp only [Prod.mk.injEq] at h
     obtain ⟨rfl, rfl, _⟩ := h
     exact ⟨rfl, hs, ht, y.2, by rw [← hr]; exact hP⟩
    ·simp at h
   ·simp at h
 ·rename_i ht
  simp only [Prod.mk.injEq] at h
  exact absurd h.2.2 ht
/-! Shifted: one deeper, more tokens behind. -/
end Go.Proofs.YtjckpkamhdbcnaaGreatDoor
