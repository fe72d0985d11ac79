import Derived.Test.YthfkbonbgdioaaaGreatDoorExb
namespace Go.Proofs.YthfkbonbgdioaaaGreatDoor
set_option linter.unusedSimpArgs false
set_option linter.unusedVariables false
open Go.RowKit
/-! How long the text of what is read may be. -/
noncomputable def cstT (r : List Tok) : Nat := (r.map fun t => (wrT t).length + 4).sum
theorem cst_cons (t : Tok) (r : List Tok) : cstT (t :: r) = (wrT t).length + 4 + cstT r := by
  unfold cstT
  rw [List.map_cons, List.sum_cons]
theorem wrT_text {t : Tok} (h : t.kind = 4 ∨ t.kind = 5) : wrT t = t.text := by
  unfold wrT
  rcases h with h | h <;> rw [if_neg (by rw [h]; decide), if_neg (by rw [h]; decide), if_neg (by rw [h]; decide)]
theorem cst_tail {k : Int} {x : List UInt8} {r : List Tok} (hk : k = 4 ∨ k = 5) (h : isK k x r = true) : cstT r = x.length + 4 + cstT r.tail := by
  cases r with
  | nil => cases h
  | cons t r =>
    simp only [isK, Bool.and_eq_true, decide_eq_true_eq] at h
    rw [cst_cons, wrT_text (by rw [h.1]; exact hk), h.2]
    rfl
theorem brk_le (b : Bool) (l : List UInt8) : (brkT (b, l)).length ≤ l.length + 2 := by
  unfold brkT
  simp only
  split
  · omega
  · simp only [List.length_append, List.length_cons, List.length_nil]; omega
theorem opR_cst {k : Nat} {r : List Tok} {o : Int} (h : opR k r = some o) : cstT r = (sgX o).length + 4 + cstT r.tail := by
  unfold opR at h
  repeat' split at h
  all_goals first
    | (cases h; done)
    | (have e := Option.some.inj h
       subst e
       rename_i h1
       exact cst_tail (by first | exact .inl rfl | exact .inr rfl) h1)
theorem cst_neg : ∀ (m : Nat) (x : Ex) (p : Nat) (r s : List Tok) (y : Ex × Nat), negX m x p r = .ok y s → (txX y.1).length + cstT s ≤ (txX x).length + 3 * m + cstT r
  | 0, x, p, r, s, y, h => by
    cases h
    exact Nat.le_refl _
  | m + 1, x, p, r, s, y, h => by
    unfold negX at h
    cases hc : cmpX (.mk 3 zv [] [x]) p r with
    | bad t e => rw [hc] at h; cases h
    | ok z t =>
      rw [hc] at h
      simp only at h
      obtain ⟨rfl, rfl⟩ := cmp_ok hc
      have h1 := cst_neg m _ _ _ s y h
      have h2 : (txX (.mk 3 zv [] [x])).length ≤ (txX x).length + 3 := by
        have e : txX (.mk 3 zv [] [x]) = [45] ++ brkT (decide (x.ks.length = 0), txX x) := by rw [txX, txsX, txsX, shpT]; exact if_pos rfl
        rw [e, List.length_append, List.length_singleton]
        have := brk_le (decide (x.ks.length = 0)) (txX x)
        omega
      simp only at h1
      omega
theorem mnR_cst : ∀ r : List Tok, cstT r = 5 * mnR r + cstT (r.drop (mnR r))
  | [] => rfl
  | t :: r => by
    by_cases h : isS [45] [t] = true
    · have e : mnR (t :: r) = mnR r + 1 := by conv => lhs; unfold mnR
                                              rw [if_pos h]
      rw [e, List.drop_succ_cons, cst_tail (r := t :: r) (.inr rfl) (show isK 5 [45] (t :: r) = true from h)]
      have := mnR_cst r
      simp only [List.tail_cons, List.length_singleton]
      omega
    · have e : mnR (t :: r) = 0 := by unfold mnR; rw [if_neg h]
      rw [e]
      simp
theorem cst_val {t : Tok} {v : Val} (h : valT t = some v) : (vxL v).length ≤ (wrT t).length := by
  obtain ⟨k, p, tx, dn, ds, dy⟩ := t
  unfold valT at h
  simp only at h
  split at h
  · rename_i h1
    subst h1
    cases h
    exact Nat.le_refl _
  · split at h
    · rename_i h1 h2
      subst h2
      cases h
      exact Nat.le_refl _
    · split at h
      · rename_i h1 h2 h3
        subst h3
        cases h
        exact Nat.le_refl _
      · split at h
        · rename_i h1 h2 h3 h4
          subst h4
          rw [wrT_text (.inl rfl)]
          split at h
          · rename_i h5
            subst h5
            cases h
            exact Nat.le_refl _
          · split at h
            · rename_i h5 h6
              subst h6
              cases h
              exact Nat.le_refl _
            · split at h
              · rename_i h5 h6 h7
                subst h7
                cases h
                exact Nat.le_refl _
              · cases h
        · cases h
theorem cst_lit {p : Nat} {r s : List Tok} {y : Ex × Nat} (h : litX p r = .ok y s) : (txX y.1).length + 2 + cstT s ≤ cstT r := by
  cases r with
  | nil => cases h
  | cons t r =>
    unfold litX at h
    simp only at h
    rw [cst_cons]
    cases hv : valT t with
    | some v =>
      rw [hv] at h
      simp only at h
      obtain ⟨rfl, rfl⟩ := cmp_ok h
      have h1 := cst_val hv
      have e : txX (.mk 1 v [] []) = vxL v := by rw [txX, txsX, shpT]; exact if_pos rfl
      simp only
      rw [e]
      omega
    | none =>
      rw [hv] at h
      simp only at h
      split at h
      · rename_i h1
        obtain ⟨rfl, rfl⟩ := cmp_ok h
        have e : txX (.mk 2 zv t.text []) = t.text := by rw [txX, txsX, shpT]; exact if_neg (by decide)
        simp only
        rw [e, wrT_text (.inl h1.1)]
        omega
      · cases h
theorem cst_enc {q : PR (Ex × Nat)} {y : Ex × Nat} {s : List Tok} (h : encX q = .ok y s) : ∃ s1, q = .ok y s1 ∧ cstT s ≤ cstT s1 := by
  cases q with
  | bad t e => cases h
  | ok a s1 =>
    unfold encX at h
    simp only at h
    split at h
    · rename_i h1
      cases h
      exact ⟨s1, rfl, by rw [cst_tail (.inr rfl) h1]; omega⟩
    · cases h
noncomputable def addM : Md → Nat
  | .loop _ a => (txX a).length + 2
  | _ => 0
theorem parX_cst : ∀ (n : Nat) (m : Md) (d p : Nat) (r s : List Tok) (y : Ex × Nat), parX n m d p r = .ok y s → (txX y.1).length + 2 + cstT s ≤ addM m + cstT r
  | 0, m, d, p, r, s, y, h => by cases h
  | n + 1, .expr, d, p, r, s, y, h => by
    rw [parX.eq_def] at h
    simp only at h
    split at h
    · rename_i h1
      obtain ⟨a, r1, e1, h⟩ := bnd_ok h
      split at h
      · rename_i h2
        obtain ⟨b, r2, e2, h⟩ := bnd_ok h
        split at h
        · rename_i h3
          obtain ⟨c, r3, e3, h⟩ := bnd_ok h
          obtain ⟨rfl, rfl⟩ := cmp_ok h
          have k1 := parX_cst n .expr d p r.tail r1 a e1
          have k2 := parX_cst n .expr d a.2 r1.tail r2 b e2
          have k3 := parX_cst n .expr d b.2 r2.tail s c e3
          have t1 := cst_tail (.inl rfl) h1
          have t2 := cst_tail (.inl rfl) h2
          have t3 := cst_tail (.inl rfl) h3
          have e : txX (.mk 17 zv [] [a.1, b.1, c.1]) = wIF ++ ([32] ++ (brkT (decide (a.1.ks.length = 0), txX a.1) ++ ([32] ++ (wTHEN ++ ([32] ++ (brkT (decide (b.1.ks.length = 0), txX b.1) ++ ([32] ++ (wELSE ++ ([32] ++ brkT (decide (c.1.ks.length = 0), txX c.1)))))))))) := by rw [txX, txsX, txsX, txsX, txsX, shpT]
          have b1 := brk_le (decide (a.1.ks.length = 0)) (txX a.1)
          have b2 := brk_le (decide (b.1.ks.length = 0)) (txX b.1)
          have b3 := brk_le (decide (c.1.ks.length = 0)) (txX c.1)
          simp only [addM] at k1 k2 k3 ⊢
          rw [e]
          simp only [List.length_append, List.length_singleton]
          have w1 : wIF.length = 2 := rfl
          have w2 : wTHEN.length = 4 := rfl
          have w3 : wELSE.length = 4 := rfl
          omega
        · cases h
      · cases h
    · exact parX_cst n (.chain 1) d p r s y h
  | n + 1, .chain k, d, p, r, s, y, h => by
    rw [parX.eq_def] at h
    simp only at h
    split at h
    · exact parX_cst n .signed d p r s y h
    · obtain ⟨a, r1, e1, h⟩ := bnd_ok h
      have k1 := parX_cst n (.chain (k + 1)) d p r r1 a e1
      have k2 := parX_cst n (.loop k a.1) d a.2 r1 s y h
      simp only [addM] at k1 k2 ⊢
      omega
  | n + 1, .loop k a, d, p, r, s, y, h => by
    rw [parX.eq_def] at h
    simp only at h
    cases ho : opR k r with
    | none => rw [ho] at h; cases h; exact Nat.le_refl _
    | some o =>
      rw [ho] at h
      simp only at h
      obtain ⟨b, r1, e1, h⟩ := bnd_ok h
      obtain ⟨c, r2, e2, hh⟩ := bnd_ok h
      obtain ⟨rfl, rfl⟩ := cmp_ok e2
      have k1 := parX_cst n (.chain (k + 1)) d p r.tail r2 b e1
      have t1 := opR_cst ho
      have e : txX (.mk o zv [] [a, b.1]) = brkT (decide (a.ks.length = 0), txX a) ++ ([32] ++ (sgX o ++ ([32] ++ brkT (decide (b.1.ks.length = 0), txX b.1)))) := by rw [txX, txsX, txsX, txsX, shpT]
      have b1 := brk_le (decide (a.ks.length = 0)) (txX a)
      have b2 := brk_le (decide (b.1.ks.length = 0)) (txX b.1)
      have le : (txX (.mk o zv [] [a, b.1])).length ≤ (txX a).length + (txX b.1).length + (sgX o).length + 6 := by
        rw [e]
        simp only [List.length_append, List.length_singleton]
        omega
      simp only [addM] at k1 ⊢
      by_cases h3 : k = 3
      · rw [if_pos h3] at hh
        cases hh
        simp only
        omega
      · rw [if_neg h3] at hh
        have k2 := parX_cst n (.loop k _) d _ r2 s y hh
        simp only [addM] at k2
        omega
  | n + 1, .signed, d, p, r, s, y, h => by
    rw [parX.eq_def] at h
    simp only at h
    obtain ⟨a, r1, e1, h⟩ := bnd_ok h
    have k1 := parX_cst n .operand d p _ r1 a e1
    have k2 := cst_neg _ _ _ _ _ _ h
    have k3 := mnR_cst r
    simp only [addM] at k1 ⊢
    omega
  | n + 1, .operand, d, p, r, s, y, h => by
    rw [parX.eq_def] at h
    simp only at h
    split at h
    · rename_i h1
      obtain ⟨s1, e1, e2⟩ := cst_enc h
      have k1 := parX_cst n .inner d p r.tail s1 y e1
      have t1 := cst_tail (.inr rfl) h1
      simp only [addM] at k1 ⊢
      omega
    · split at h
      · rename_i h1 h2
        split at h
        · rename_i h3
          obtain ⟨a, r1, e1, h⟩ := bnd_ok h
          obtain ⟨s1, e2, e3⟩ := cst_enc e1
          obtain ⟨rfl, rfl⟩ := cmp_ok h
          have k1 := parX_cst n .inner d p r.tail.tail s1 a e2
          have t1 := cst_tail (.inl rfl) h2
          have t2 := cst_tail (.inr rfl) h3
          have e : txX (.mk 16 zv [] [a.1]) = wNOT ++ ([40] ++ (txX a.1 ++ [41])) := by rw [txX, txsX, txsX, shpT]; exact if_neg (by decide)
          simp only [addM] at k1 ⊢
          rw [e]
          simp only [List.length_append, List.length_singleton]
          have w1 : wNOT.length = 3 := rfl
          have w2 : ([40] : List UInt8).length = 1 := rfl
          omega
        · cases h
      · have := cst_lit h
        simp only [addM]
        omega
  | n + 1, .inner, d, p, r, s, y, h => by
    rw [parX.eq_def] at h
    simp only at h
    split at h
    · cases h
    · exact parX_cst n .expr (d + 1) p r s y h
theorem cst_sum : ∀ ms : List Tok, cstT ms ≤ ((ms.map wrT).map fun x => x.length + 1).sum + 3 * ms.length
  | [] => Nat.le_refl _
  | t :: ms => by
    rw [cst_cons]
    have := cst_sum ms
    simp only [List.map_cons, List.sum_cons, List.length_cons]
    omega
theorem cst_toks (s : ByteArray) : cstT (tokS s).1 ≤ 5 * s.size := by
  have hl := (len_toks s).1
  have : ((((tokS s).1).map wrT).map fun x => x.length + 1).sum ≤ 2 * s.size := by
    unfold tokS
    split
    · exact Nat.zero_le _
    · rcases toks_run (s.size + 1) 0 s.data.toList [] (by rw [size_l]; omega) with ⟨ns, h1, h2⟩ | ⟨ns, l2, e, h1, h2, h3, h4⟩
      · rw [h1]
        have := (run_snd h2).2
        rw [size_l] at this
        simpa using this
      · rw [h1]
        exact Nat.zero_le _
  have := cst_sum (tokS s).1
  omega
theorem par_short {s : ByteArray} {x : Ex} {n : Int} (h : parE s = (x, n, 0)) : (txX x).length ≤ 5 * s.size := by
  obtain ⟨_, _, _, p, ⟨_, k, hk⟩⟩ := parE_ok h
  have h1 := parX_cst k .inner 0 0 _ [] (x, p) (hk k (Nat.le_refl _))
  have h2 := cst_toks s
  simp only [addM] at h1
  omega
/-! Brackets around a whole text. -/
theorem Run.bd {p : Nat} {l l2 y : List UInt8} {ms : List Tok} (h : Run p l ms l2) (hy : Bd y) : Run p (l ++ y) ms (l2 ++ y) := by
  induction h with
  | nil p l => exact .nil _ _
  | @cons p l r m ms l2 hs hr ih =>
    have hl : l ≠ [] := by rintro rfl; cases hs
    have h1 := step_bd hl hy hs
    refine .cons h1 ?_
    have e : (l ++ y).length - (r ++ y).length = l.length - r.length := by simp only [List.length_append]; omega
    rw [e]
    exact ih
theorem rt_text {s : ByteArray} (h : (tokS s).2.2 = 0) (y : List UInt8) (hy : Bd y) : RT s.data.toList (tokS s).1 y := fun p => by
  have hr : Run 0 s.data.toList (tokS s).1 [] := (tokS_right s (tokS s).1 (tokS s).2.1 (by rw [← h]) (fun l e hb hl => tok_bad1 l e hb hl)).2.2
  obtain ⟨ns, h1, h2⟩ := hr.move p
  have := h1.bd hy
  rw [List.nil_append] at this
  exact ⟨ns, this, h2⟩
theorem parE_of {s : ByteArray} {ns ts : List Tok} {q : PR (Ex × Nat)} (ht : tokS s = (ns, 0, 0)) (he : eqT ns ts) (hp : Par .inner 0 0 ts q) :
    (∀ y, q = .ok y [] → parE s = if sndX y.1 = true then (y.1, 0, 0) else (zx, 0, 9)) ∧ (∀ t e, q = .bad t e → (parE s).2.2 = e) := by
  obtain ⟨_, n, hn⟩ := hp
  have hl := parX_like (max n (12 * ns.length + 11)) .inner 0 0 (r := ns) (s := ts) he
  rw [hn _ (Nat.le_max_left _ _)] at hl
  have hf := parX_fine (12 * ns.length + 11) .inner 0 0 ns trivial (by simp only [levM]; omega)
  rw [parX_le hf (Nat.le_max_right n _)] at hl
  unfold parE
  rw [ht]
  simp only [if_true]
  cases hc : parX (12 * ns.length + 11) .inner 0 0 ns with
  | bad r e =>
    rw [hc] at hl
    cases q with
    | bad t f => exact ⟨fun y h => (by cases h), fun t e h => (by cases h; exact hl)⟩
    | ok y t => exact hl.elim
  | ok y r =>
    rw [hc] at hl
    cases q with
    | bad t f => exact hl.elim
    | ok z t =>
      refine ⟨fun y' h => ?_, fun t e h => (by cases h)⟩
      cases h
      obtain ⟨h1, h2⟩ := hl
      subst h1
      have : r = [] := h2.nil.2 rfl
      simp only [this, if_true]
theorem endT_rp (z : List Tok) : EndT (tkS [41] :: z) := endT_of (fun _ => by decide) (fun h => by simp [tkS] at h)
theorem brk_op {ts : List Tok} {x : Ex} {p : Nat} (hP : Par .inner 0 0 ts (.ok (x, p) [])) (d p' : Nat) (z : List Tok) :
    Par .operand d p' (tkS [40] :: (ts ++ (tkS [41] :: z))) (.ok (x, p' + p) z) ∨ ∃ t e, (e = 9 ∨ e = 10) ∧ Par .operand d p' (tkS [40] :: (ts ++ (tkS [41] :: z))) (.bad t e) := by
  obtain ⟨_, n, hn⟩ := hP
  rcases parX_shift n .inner 0 0 ts [] (x, p) (hn n (Nat.le_refl _)) (tkS [41] :: z) (endT_rp z) d p' with ⟨p2, h1, h2⟩ | ⟨t, e, h1, h2⟩
  · have hi := Par.of (m := .inner) (d := d) (p := p') (r := ts ++ (tkS [41] :: z)) (n := n) (by rw [h2]; trivial)
    rw [h2] at hi
    have hb := Par.brk (r := tkS [40] :: (ts ++ (tkS [41] :: z))) rfl hi
    have e : encX (.ok (x, p2) ([] ++ tkS [41] :: z)) = .ok (x, p' + p) z := by
      have hp2 : p2 = p' + p := by omega
      subst hp2
      rfl
    rw [e] at hb
    exact .inl hb
  · have hi := Par.of (m := .inner) (d := d) (p := p') (r := ts ++ (tkS [41] :: z)) (n := n) (by rw [h2]; rcases h1 with rfl | rfl <;> (show _ ≠ _; decide))
    rw [h2] at hi
    exact .inr ⟨t, e, h1, Par.brk (r := tkS [40] :: (ts ++ (tkS [41] :: z))) rfl hi⟩
theorem Par.upBad {d p e : Nat} {r s : List Tok} (h : Par .operand d p r (.bad s e)) (hm : mnR r = 0) (k j : Nat) (hk : k + j = 6) : Par (.chain k) d p r (.bad s e) := by
  induction j generalizing k with
  | zero =>
    obtain rfl : k = 6 := by omega
    exact Par.chain6 (Par.signedBad (by rw [hm]; exact h))
  | succ j ih => exact Par.chainBad (by omega) (ih (k + 1) (by omega))
theorem par_ten {m : Md} {d p e : Nat} {r t : List Tok} (h : Par m d p r (.bad t e)) (hl : p + r.length ≤ 4096) : e ≠ 10 := by
  obtain ⟨_, n, hn⟩ := h
  have := parX_few n m d p r
  rw [hn n (Nat.le_refl _)] at this
  intro he
  have := this he
  omega
theorem par_few {m : Md} {d p : Nat} {r s : List Tok} {y : Ex × Nat} (h : Par m d p r (.ok y s)) : y.2 + s.length ≤ p + r.length := by
  obtain ⟨_, n, hn⟩ := h
  have := parX_few n m d p r
  rw [hn n (Nat.le_refl _)] at this
  exact this
theorem head_lp (r : List Tok) : mnR (tkS [40] :: r) = 0 ∧ isK 4 wIF (tkS [40] :: r) = false := head_of (by simp [tkS]) (by simp [tkS])
theorem brk_one {s : ByteArray} {x : Ex} {n : Int} (h : parE s = (x, n, 0)) (hs : s.size ≤ 1000) : parE (bytesOf ([40] ++ (s.data.toList ++ [41]))) = (x, 0, 0) ∨ (parE (bytesOf ([40] ++ (s.data.toList ++ [41])))).2.2 = 9 := by
  obtain ⟨_, hsn, h0, p, hP⟩ := parE_ok h
  have hlen := (len_toks s).1
  have hRT : RT ([40] ++ (s.data.toList ++ [41])) ([tkS [40]] ++ ((tokS s).1 ++ [tkS [41]])) [] := RT.app (sign1 (.inl rfl) _) (RT.app (rt_text h0 _ (bd_c 41 (by decide) _)) (sign1 (.inr (.inl rfl)) _))
  obtain ⟨ns, hr, he⟩ := hRT 0
  rw [List.append_nil] at hr
  have ht : tokS (bytesOf ([40] ++ (s.data.toList ++ [41]))) = (ns, 0, 0) := tokS_of (by rw [bytesOf_size]; simp only [List.length_append, List.length_singleton, size_l]; omega) (by rw [bytes_toList]; exact hr)
  have hh := head_lp ((tokS s).1 ++ (tkS [41] :: []))
  rcases brk_op hP 1 0 [] with h1 | ⟨t, e, h1, h2⟩
  · have hE := Par.expr hh.2 (Par.up h1 hh.1 1 5 rfl fun i _ => endT_nil i)
    have := (parE_of ht he (Par.inner (d := 0) (by omega) hE)).1 _ rfl
    rw [if_pos hsn] at this
    exact .inl this
  · have hE := Par.expr hh.2 (Par.upBad h2 hh.1 1 5 rfl)
    have hI := Par.inner (d := 0) (by omega) hE
    have h3 := (parE_of ht he hI).2 _ _ rfl
    have h4 := par_ten hI (by simp only [List.length_cons, List.length_append, List.length_nil]; omega)
    rcases h1 with rfl | rfl
    · exact .inr h3
    · exact absurd rfl h4
theorem brk_two {s t : ByteArray} {x y : Ex} {n m : Int} (h : parE s = (x, n, 0)) (h' : parE t = (y, m, 0)) (hs : s.size ≤ 1000) (hs' : t.size ≤ 1000) :
    parE (bytesOf ([40] ++ (s.data.toList ++ ([41] ++ ([32] ++ ([111, 114] ++ ([32] ++ ([40] ++ (t.data.toList ++ [41]))))))))) = (.mk 15 zv [] [x, y], 0, 0) ∨ (parE (bytesOf ([40] ++ (s.data.toList ++ ([41] ++ ([32] ++ ([111, 114] ++ ([32] ++ ([40] ++ (t.data.toList ++ [41])))))))))).2.2 = 9 := by
  obtain ⟨_, hsn, h0, p, hP⟩ := parE_ok h
  obtain ⟨_, hsn', h0', p', hP'⟩ := parE_ok h'
  have hlen := (len_toks s).1
  have hlen' := (len_toks t).1
  have hRT : RT ([40] ++ (s.data.toList ++ ([41] ++ ([32] ++ ([111, 114] ++ ([32] ++ ([40] ++ (t.data.toList ++ [41])))))))) ([tkS [40]] ++ ((tokS s).1 ++ ([tkS [41]] ++ ([] ++ ([tkN [111, 114]] ++ ([] ++ ([tkS [40]] ++ ((tokS t).1 ++ [tkS [41]])))))))) [] :=
    RT.app (sign1 (.inl rfl) _) (RT.app (rt_text h0 _ (bd_c 41 (by decide) _)) (RT.app (sign1 (.inr (.inl rfl)) _) (RT.app (RT.white _) (RT.app (rt_word (by decide +kernel) (by decide) _ (bd_sp _)) (RT.app (RT.white _) (RT.app (sign1 (.inl rfl) _) (RT.app (rt_text h0' _ (bd_c 41 (by decide) _)) (sign1 (.inr (.inl rfl)) _))))))))
  obtain ⟨ns, hr, he⟩ := hRT 0
  rw [List.append_nil] at hr
  have ht : tokS (bytesOf ([40] ++ (s.data.toList ++ ([41] ++ ([32] ++ ([111, 114] ++ ([32] ++ ([40] ++ (t.data.toList ++ [41]))))))))) = (ns, 0, 0) := tokS_of (by rw [bytesOf_size]; simp only [List.length_append, List.length_singleton, List.length_cons, List.length_nil, size_l]; omega) (by rw [bytes_toList]; exact hr)
  have he' : eqT ns (tkS [40] :: ((tokS s).1 ++ (tkS [41] :: (opK 15 :: (tkS [40] :: ((tokS t).1 ++ [tkS [41]])))))) := he
  have hh := head_lp ((tokS s).1 ++ (tkS [41] :: (opK 15 :: (tkS [40] :: ((tokS t).1 ++ [tkS [41]])))))
  have hh' := head_lp ((tokS t).1 ++ [tkS [41]])
  have f1 : p + 0 ≤ 0 + (tokS s).1.length := par_few hP
  have f2 : p' + 0 ≤ 0 + (tokS t).1.length := par_few hP'
  obtain ⟨o1, o2, _⟩ := opR_opK (o := 15) (by decide) (by decide) (tkS [40] :: ((tokS t).1 ++ [tkS [41]]))
  have bad : ∀ q e, (e = 9 ∨ e = 10) → Par (.chain 1) 1 0 (tkS [40] :: ((tokS s).1 ++ (tkS [41] :: (opK 15 :: (tkS [40] :: ((tokS t).1 ++ [tkS [41]])))))) (.bad q e) → (parE (bytesOf ([40] ++ (s.data.toList ++ ([41] ++ ([32] ++ ([111, 114] ++ ([32] ++ ([40] ++ (t.data.toList ++ [41])))))))))).2.2 = 9 := by
    intro q e h1 h2
    have hI := Par.inner (d := 0) (by omega) (Par.expr hh.2 h2)
    have h3 := (parE_of ht he' hI).2 _ _ rfl
    have h4 := par_ten hI (by simp only [List.length_cons, List.length_append, List.length_nil]; omega)
    rcases h1 with rfl | rfl
    · exact h3
    · exact absurd rfl h4
  rcases brk_op hP 1 0 (opK 15 :: (tkS [40] :: ((tokS t).1 ++ [tkS [41]]))) with h1 | ⟨q, e, h1, h2⟩
  · have c2 : Par (.chain 2) 1 0 (tkS [40] :: ((tokS s).1 ++ (tkS [41] :: (opK 15 :: (tkS [40] :: ((tokS t).1 ++ [tkS [41]])))))) (.ok (x, 0 + p) (opK 15 :: (tkS [40] :: ((tokS t).1 ++ [tkS [41]])))) := Par.up h1 hh.1 2 4 rfl fun i hi => o2 i (by have : strO 15 = 1 := rfl; omega)
    rcases brk_op hP' 1 (0 + p) [] with h3 | ⟨q, e, h3, h4⟩
    · have hg : Par (.loop 1 x) 1 (0 + p) (opK 15 :: (tkS [40] :: ((tokS t).1 ++ [tkS [41]]))) (.ok (.mk 15 zv [] [x, y], 0 + p + p' + 1) []) := Par.go (a := x) o1 (Par.up h3 hh'.1 2 4 rfl fun i _ => endT_nil i) (cmp_is [] (by simp only; omega)) (fun h => absurd h (by decide)) (fun _ => Par.stop (endT_nil 1))
      have hE := Par.expr hh.2 (Par.chain (by decide) c2 hg)
      have := (parE_of ht he' (Par.inner (d := 0) (by omega) hE)).1 _ rfl
      split at this
      · exact .inl this
      · exact .inr (by rw [this])
    · have c3 : Par (.loop 1 x) 1 (0 + p) (opK 15 :: (tkS [40] :: ((tokS t).1 ++ [tkS [41]]))) (.bad q e) := Par.goBad o1 (Par.upBad h4 hh'.1 2 4 rfl)
      exact .inr (bad q e h3 (Par.chain (by decide) c2 c3))
  · exact .inr (bad q e h1 (Par.upBad h2 hh.1 1 5 rfl))
end Go.Proofs.YthfkbonbgdioaaaGreatDoor
