import Derived.Test.YthfkbonbgdioaaaGreatDoorExs
namespace Go.Proofs.YthfkbonbgdioaaaGreatDoor
set_option linter.unusedSimpArgs false
set_option linter.unusedVariables false
open Go.RowKit
/-! What is read has no string too long. -/
def GT (r : List Tok) : Prop := ∀ t ∈ r, ksnd t = true
theorem GT.suf {r s : List Tok} (h : GT r) (hs : s <:+ r) : GT s := fun t ht => h t (hs.subset ht)
theorem GT.tail {r : List Tok} (h : GT r) : GT r.tail := h.suf (List.tail_suffix r)
def PR.sm (q : PR (Ex × Nat)) : Prop := match q with
  | .ok y _ => smX y.1
  | .bad _ _ => True
theorem sm_bnd {q : PR (Ex × Nat)} {f : Ex × Nat → List Tok → PR (Ex × Nat)} {r : List Tok} (h : q.sm) (hs : q.suf r) (hG : GT r) (hf : ∀ y r1, smX y.1 → GT r1 → (f y r1).sm) : (bndX q f).sm := by
  cases q with
  | bad s e => trivial
  | ok y s => exact hf y s h (hG.suf hs)
theorem sm_cmp {x : Ex} (h : smX x) (p : Nat) (r : List Tok) : (cmpX x p r).sm := by
  unfold cmpX
  split
  · trivial
  · exact h
theorem sm_node {o : Int} {l : List Ex} (h : smL l) : smX (.mk o zv [] l) := ⟨by decide, by decide, h⟩
theorem smL1 {a : Ex} (h : smX a) : smL [a] := ⟨h, trivial⟩
theorem smL2 {a b : Ex} (h : smX a) (h2 : smX b) : smL [a, b] := ⟨h, h2, trivial⟩
theorem smL3 {a b c : Ex} (h : smX a) (h2 : smX b) (h3 : smX c) : smL [a, b, c] := ⟨h, h2, h3, trivial⟩
theorem sm_leaf {o : Int} {v : Val} {nm : List UInt8} (h1 : v.text.size ≤ 9223372036854775807) (h2 : nm.length ≤ 9223372036854775807) : smX (.mk o v nm []) := ⟨h1, h2, trivial⟩
theorem sm_neg : ∀ (m : Nat) {x : Ex} (h : smX x) (p : Nat) (r : List Tok), (negX m x p r).sm
  | 0, x, h, p, r => h
  | m + 1, x, h, p, r => by
    rw [negX]
    have hc := sm_cmp (sm_node (o := 3) (l := [x]) ⟨h, trivial⟩) p r
    cases hq : cmpX (.mk 3 zv [] [x]) p r with
    | bad s e => trivial
    | ok y s =>
      rw [hq] at hc
      exact sm_neg m hc y.2 s
theorem sm_enc {q : PR (Ex × Nat)} (h : q.sm) : (encX q).sm := by
  cases q with
  | bad s e => trivial
  | ok y s =>
    unfold encX
    simp only
    split
    · exact h
    · trivial
theorem sm_val {t : Tok} {v : Val} (h : ksnd t = true) (hv : valT t = some v) : v.text.size ≤ 9223372036854775807 := by
  have hl := tok_len h
  unfold valT at hv
  repeat' split at hv
  all_goals first | (obtain rfl := Option.some.inj hv; simp only [bytesOf_size]; first | omega | decide) | cases hv
theorem sm_lit {p : Nat} {r : List Tok} (h : GT r) : (litX p r).sm := by
  cases r with
  | nil => trivial
  | cons t r =>
    have ht := h t (by simp)
    have hl := tok_len ht
    unfold litX
    simp only
    split
    · rename_i v hv
      exact sm_cmp (sm_leaf (sm_val ht hv) (by decide)) _ _
    · split
      · exact sm_cmp (sm_leaf (by decide) (by omega)) _ _
      · trivial
def MdS : Md → Prop
  | .loop _ a => smX a
  | _ => True
theorem parX_sm : ∀ (n : Nat) (m : Md) (d p : Nat) (r : List Tok), MdS m → GT r → (parX n m d p r).sm
  | 0, m, d, p, r, hm, h => trivial
  | n + 1, .expr, d, p, r, hm, h => by
    rw [parX.eq_def]
    simp only
    split
    · refine sm_bnd (parX_sm n .expr d p r.tail trivial h.tail) (parX_suf n .expr d p r.tail) h.tail fun a r1 ha h1 => ?_
      split
      · refine sm_bnd (parX_sm n .expr d a.2 r1.tail trivial h1.tail) (parX_suf n .expr d a.2 r1.tail) h1.tail fun b r2 hb h2 => ?_
        split
        · exact sm_bnd (parX_sm n .expr d b.2 r2.tail trivial h2.tail) (parX_suf n .expr d b.2 r2.tail) h2.tail fun c r3 hc h3 => sm_cmp (sm_node (smL3 ha hb hc)) _ _
        · trivial
      · trivial
    · exact parX_sm n (.chain 1) d p r trivial h
  | n + 1, .chain k, d, p, r, hm, h => by
    rw [parX.eq_def]
    simp only
    split
    · exact parX_sm n .signed d p r trivial h
    · exact sm_bnd (parX_sm n (.chain (k + 1)) d p r trivial h) (parX_suf n (.chain (k + 1)) d p r) h fun a r1 ha h1 => parX_sm n (.loop k a.1) d a.2 r1 ha h1
  | n + 1, .loop k a, d, p, r, hm, h => by
    rw [parX.eq_def]
    simp only
    cases ho : opR k r with
    | none => exact hm
    | some o =>
      simp only
      refine sm_bnd (parX_sm n (.chain (k + 1)) d p r.tail trivial h.tail) (parX_suf n (.chain (k + 1)) d p r.tail) h.tail fun b r1 hb h1 => sm_bnd (sm_cmp (sm_node (smL2 hm hb)) _ _) (suf_cmp _ _ _) h1 fun y r2 hy h2 => ?_
      split
      · exact hy
      · exact parX_sm n (.loop k y.1) d y.2 r2 hy h2
  | n + 1, .signed, d, p, r, hm, h => by
    rw [parX.eq_def]
    simp only
    exact sm_bnd (parX_sm n .operand d p _ trivial (h.suf (List.drop_suffix _ r))) (parX_suf n .operand d p _) (h.suf (List.drop_suffix _ r)) fun x r1 hx h1 => sm_neg _ hx _ _
  | n + 1, .operand, d, p, r, hm, h => by
    rw [parX.eq_def]
    simp only
    split
    · exact sm_enc (parX_sm n .inner d p r.tail trivial h.tail)
    · split
      · split
        · exact sm_bnd (sm_enc (parX_sm n .inner d p r.tail.tail trivial h.tail.tail)) (suf_enc (parX_suf n .inner d p r.tail.tail)) h.tail.tail fun x r1 hx h1 => sm_cmp (sm_node (smL1 hx)) _ _
        · trivial
      · exact sm_lit h
  | n + 1, .inner, d, p, r, hm, h => by
    rw [parX.eq_def]
    simp only
    split
    · trivial
    · exact parX_sm n .expr (d + 1) p r trivial h
end Go.Proofs.YthfkbonbgdioaaaGreatDoor
