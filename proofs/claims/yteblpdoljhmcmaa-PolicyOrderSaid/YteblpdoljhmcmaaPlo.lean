import Derived.Test.YteblpdoljhmcmaaPln
namespace Go.Proofs.Yteblpdoljhmcmaa
set_option linter.unusedSimpArgs false
set_option linter.unusedVariables false
open Go.RowKit Go.Lib

/-! What comes out where the rules are turned round. -/
theorem hd_rev_mem {r : List Val} (h : 0 < r.length) : hd r.reverse ∈ r := List.mem_reverse.1 (hd_mem (by rwa [List.length_reverse]))
theorem comm_all {r : List Val} {x : Val} (h0 : 0 < r.length) (h : ∀ v ∈ r, v = x) : comm r = x := by
  unfold comm
  have e := h _ (hd_mem h0)
  rw [if_neg, e]
  rw [List.any_eq_true]
  rintro ⟨v, hv, h2⟩
  rw [h v hv, e, q_same] at h2
  cases h2
theorem comm_not {r : List Val} (h : ¬ ∀ v ∈ r, v = hd r) : comm r = nul := by
  unfold comm
  rw [if_pos]
  rw [List.any_eq_true]
  apply Classical.byContradiction
  intro h2
  refine h fun v hv => ?_
  apply Classical.byContradiction
  intro h3
  refine h2 ⟨v, hv, ?_⟩
  cases hq : veq v (hd r) with
  | false => rfl
  | true => exact absurd ((veq_iff _ _).1 hq) h3
theorem comm_rev {r : List Val} (h0 : 0 < r.length) : comm r.reverse = comm r := by
  have h1 : 0 < r.reverse.length := by rwa [List.length_reverse]
  by_cases h : ∀ v ∈ r, v = hd r
  · rw [comm_all h0 h, comm_all h1 (x := hd r) (fun v hv => h v (List.mem_reverse.1 hv))]
  · rw [comm_not h, comm_not]
    intro h2
    refine h fun v hv => ?_
    rw [h2 v (List.mem_reverse.2 hv), ← h2 (hd r) (List.mem_reverse.2 (hd_mem h0))]
theorem ext_rev {way : Int} (hw : way = -1 ∨ way = 1) {r : List Val} (hs : ∀ v ∈ r, vsnd v = true) (h0 : 0 < r.length) : extF way (hd r.reverse) r.reverse = extF way (hd r) r := by
  have h1 : 0 < r.reverse.length := by rwa [List.length_reverse]
  have hs1 : ∀ v ∈ r.reverse, vsnd v = true := fun v hv => hs v (List.mem_reverse.1 hv)
  by_cases ha : Alike (hd r).kind r
  · have hk : (hd r.reverse).kind = (hd r).kind := (ha _ (hd_rev_mem h0)).1
    have ha1 : Alike (hd r).kind r.reverse := fun v hv => ha v (List.mem_reverse.1 hv)
    rcases hw with rfl | rfl
    · obtain ⟨a1, a2, a3, a4⟩ := ext_low hs r (hd r) (hd_mem h0) (fun _ h => h) rfl ha
      obtain ⟨b1, b2, b3, b4⟩ := ext_low hs1 r.reverse (hd r.reverse) (hd_mem h1) (fun _ h => h) hk ha1
      have c1 := b4 _ (List.mem_reverse.2 a1)
      have c2 := a4 _ (List.mem_reverse.1 b1)
      have an := vcmp_anti (extF (-1) (hd r.reverse) r.reverse) (extF (-1) (hd r) r)
      exact (vcmp_zero (hs1 _ b1) (hs _ a1)).1 (by omega)
    · obtain ⟨a1, a2, a3, a4⟩ := ext_high hs r (hd r) (hd_mem h0) (fun _ h => h) rfl ha
      obtain ⟨b1, b2, b3, b4⟩ := ext_high hs1 r.reverse (hd r.reverse) (hd_mem h1) (fun _ h => h) hk ha1
      have c1 := b4 _ (List.mem_reverse.2 a1)
      have c2 := a4 _ (List.mem_reverse.1 b1)
      have an := vcmp_anti (extF 1 (hd r.reverse) r.reverse) (extF 1 (hd r) r)
      exact (vcmp_zero (hs1 _ b1) (hs _ a1)).1 (by omega)
  · rw [ext_bad r _ rfl ha, ext_bad r.reverse _ rfl]
    intro h2
    refine ha fun v hv => ?_
    have e1 := h2 v (List.mem_reverse.2 hv)
    have e2 := h2 (hd r) (List.mem_reverse.2 (hd_mem h0))
    omega
theorem trim_mul : ∀ (s m : Nat), (trim m s).1 * 10 ^ (s - (trim m s).2) = m
  | 0, m => by simp [trim]
  | s + 1, m => by
    unfold trim
    by_cases h : m % 10 = 0
    · rw [if_pos h]
      have ih := trim_mul s (m / 10)
      have le := (trim_le s (m / 10)).2
      rw [show s + 1 - (trim (m / 10) s).2 = (s - (trim (m / 10) s).2) + 1 by omega, Nat.pow_succ, ← Nat.mul_assoc, ih]
      omega
    · rw [if_neg h]; simp
/-- A number, out of its units. -/
def canT (U : Int) : Int × Int := (if U < 0 then -((trim U.natAbs 6).1 : Int) else (trim U.natAbs 6).1, ((trim U.natAbs 6).2 : Nat))
theorem canT_unt (U : Int) : unt (canT U).1 (canT U).2 = U := by
  unfold unt canT
  have h := trim_mul 6 U.natAbs
  have le := (trim_le 6 U.natAbs).2
  generalize (trim U.natAbs 6).1 = a at *
  generalize (trim U.natAbs 6).2 = b at *
  simp only
  rw [show ((6 : Int) - (b : Nat)).toNat = 6 - b by omega]
  have h' : (a : Int) * ((P10 (6 - b) : Nat) : Int) = (U.natAbs : Int) := by rw [← h, Int.natCast_mul]; rfl
  split
  · rw [Int.neg_mul, h']; omega
  · rw [h']; omega
theorem addT_ok {n s m t : Int} (h : (addT n s m t).2.2 = 0) : ((addT n s m t).1, (addT n s m t).2.1) = canT (unt n s + unt m t) := by
  unfold addT at h ⊢
  by_cases h1 : SndD n s ∧ SndD m t
  · rw [if_pos h1] at h ⊢
    by_cases h2 : 999999999999 < (trim (unt n s + unt m t).natAbs 6).1
    · rw [if_pos h2] at h; cases h
    · rw [if_neg h2]; rfl
  · rw [if_neg h1] at h; cases h
def sumU : List Val → Int
  | [] => 0
  | v :: l => unt v.n v.scale + sumU l
theorem sumU_app : ∀ a b : List Val, sumU (a ++ b) = sumU a + sumU b
  | [], b => by simp [sumU]
  | v :: a, b => by simp only [List.cons_append, sumU, sumU_app a b]; omega
theorem sumU_rev : ∀ r : List Val, sumU r.reverse = sumU r
  | [] => rfl
  | v :: r => by rw [List.reverse_cons, sumU_app, sumU_rev r]; simp only [sumU]; omega
theorem sum_can : ∀ (r : List Val) (n s : Int), 0 < r.length → sumF n s r = nul ∨ sumF n s r = ⟨1, (canT (unt n s + sumU r)).1, (canT (unt n s + sumU r)).2, ⟨#[]⟩, 0⟩
  | [], _, _, h => by simp at h
  | v :: l, n, s, _ => by
    unfold sumF
    by_cases h : v.kind = 1 ∧ (addT n s v.n v.scale).2.2 = 0
    · rw [if_pos h]
      have e := addT_ok h.2
      have e1 : (addT n s v.n v.scale).1 = (canT (unt n s + unt v.n v.scale)).1 := congrArg Prod.fst e
      have e2 : (addT n s v.n v.scale).2.1 = (canT (unt n s + unt v.n v.scale)).2 := congrArg Prod.snd e
      rw [e1, e2]
      cases l with
      | nil => right; simp only [sumF, sumU, Int.add_zero]
      | cons u l =>
        have ih := sum_can (u :: l) (canT (unt n s + unt v.n v.scale)).1 (canT (unt n s + unt v.n v.scale)).2 (by simp)
        rw [canT_unt] at ih
        rw [show unt n s + sumU (v :: u :: l) = unt n s + unt v.n v.scale + sumU (u :: l) by simp only [sumU]; omega]
        exact ih
    · rw [if_neg h]; exact .inl rfl
def orderP (p : Int) : Prop := p = 65 ∨ p = 43 ∨ p = 35 ∨ p = 60 ∨ p = 62
theorem outF_rev {p : Int} (hp : orderP p) (h35 : p ≠ 35) {r : List Val} (hs : ∀ v ∈ r, vsnd v = true) (h0 : 0 < r.length) :
    outF p r [] = outF p r.reverse [] ∨ (p = 43 ∧ (outF p r [] = nul ∨ outF p r.reverse [] = nul)) := by
  rcases hp with rfl | rfl | rfl | rfl | rfl
  · exact .inl (comm_rev h0).symm
  · show sumF 0 0 r = sumF 0 0 r.reverse ∨ _ ∧ (sumF 0 0 r = nul ∨ sumF 0 0 r.reverse = nul)
    rcases sum_can r 0 0 h0 with h | h
    · exact .inr ⟨rfl, .inl h⟩
    · rcases sum_can r.reverse 0 0 (by rwa [List.length_reverse]) with h' | h'
      · exact .inr ⟨rfl, .inr h'⟩
      · left; rw [h, h', sumU_rev]
  · exact absurd rfl h35
  · exact .inl (ext_rev (.inl rfl) hs h0).symm
  · exact .inl (ext_rev (.inr rfl) hs h0).symm
theorem risF_iff {c : Int} : ∀ {l : List Int} {nx : Int}, risF c nx l = true ↔ (∀ i ∈ l, nx ≤ i ∧ i < c) ∧ l.Pairwise (· < ·)
  | [], _ => by simp [risF]
  | a :: l, nx => by
    simp only [risF, Bool.and_eq_true, Bool.not_eq_true', Bool.or_eq_false_iff, decide_eq_false_iff_not, risF_iff (l := l) (nx := a + 1), List.pairwise_cons, List.mem_cons]
    constructor
    · rintro ⟨⟨h1, h2⟩, h3, h4⟩
      refine ⟨?_, fun i hi => ?_, h4⟩
      · rintro i (rfl | hi)
        · omega
        · have := h3 i hi; omega
      · have := h3 i hi; omega
    · rintro ⟨h1, h2, h3⟩
      have := h1 a (.inl rfl)
      exact ⟨by omega, fun i hi => ⟨by have := h2 i hi; omega, (h1 i (.inr hi)).2⟩, h3⟩
/-- The rules that fire, where they are turned round. -/
def back (n : Int) (l : List Int) : List Int := l.reverse.map fun i => n - 1 - i
theorem back_ris {n : Int} {l : List Int} (h : risF n 0 l = true) : risF n 0 (back n l) = true := by
  rw [risF_iff] at h ⊢
  obtain ⟨h1, h2⟩ := h
  unfold back
  refine ⟨fun i hi => ?_, ?_⟩
  · rw [List.mem_map] at hi
    obtain ⟨j, hj, rfl⟩ := hi
    have := h1 j (List.mem_reverse.1 hj)
    omega
  · rw [List.pairwise_map, List.pairwise_reverse]
    exact h2.imp fun h => by omega
theorem back_picks {o : List Val} {l : List Int} (h : risF o.length 0 l = true) : picks o.reverse (back o.length l) = (picks o l).reverse := by
  unfold picks back
  rw [List.map_map, ← List.map_reverse]
  refine List.map_congr_left fun i hi => ?_
  have := risF_mem h i (List.mem_reverse.1 hi)
  simp only [Function.comp]
  rw [List.getD_eq_getElem?_getD, List.getD_eq_getElem?_getD, List.getElem?_reverse (by omega)]
  congr 2
  omega
theorem outR_order {p : Int} (hp : orderP p) (outs : List Val) (l : List Int) (hr : risF outs.length 0 l = true) : outR p outs [] nul l = if outs.all vsnd = true then (if p = 35 then .tuple #[(⟨1, l.length, 0, ⟨#[]⟩, 0⟩ : Val).val, .int .i64 0] else if l.length = 0 then .tuple #[nul.val, .int .i64 0] else .tuple #[(outF p (picks outs l) []).val, .int .i64 0]) else .tuple #[nul.val, .int .i64 2] := by
  have hk : known p = true := by rcases hp with rfl | rfl | rfl | rfl | rfl <;> rfl
  have hn : (([] : List Val).all vsnd && vsnd nul) = true := by decide +kernel
  unfold outR outV
  rw [hr, hk, hn]
  by_cases h : outs.all vsnd = true
  · rw [if_pos h, h]
    simp only [Bool.and_self, Bool.true_eq_false, if_false]
    by_cases h35 : p = 35
    · rw [if_pos h35, if_pos h35]
    · rw [if_neg h35, if_neg h35]
      by_cases h0 : l.length = 0
      · rw [if_pos h0, if_pos h0]
      · rw [if_neg h0, if_neg h0]
  · rw [if_neg h]
    rw [Bool.not_eq_true] at h
    rw [h]; rfl
theorem order_pair {p : Int} (hp : orderP p) (o : List Val) (l : List Int) (hr : risF o.length 0 l = true) :
    ∃ (V W : Val) (e : Int), outR p o [] nul l = .tuple #[V.val, .int .i64 e] ∧ outR p o.reverse [] nul (back o.length l) = .tuple #[W.val, .int .i64 e] ∧ (V = W ∨ (p = 43 ∧ (V = nul ∨ W = nul))) := by
  have hr2 : risF (o.reverse.length : Nat) 0 (back o.length l) = true := by rw [List.length_reverse]; exact back_ris hr
  rw [outR_order hp o l hr, outR_order hp o.reverse _ hr2, List.all_reverse]
  have hbl : (back o.length l).length = l.length := by unfold back; rw [List.length_map, List.length_reverse]
  rw [hbl]
  by_cases h : o.all vsnd = true
  · rw [if_pos h, if_pos h]
    by_cases h35 : p = 35
    · rw [if_pos h35, if_pos h35]; exact ⟨_, _, _, rfl, rfl, .inl rfl⟩
    · rw [if_neg h35, if_neg h35]
      by_cases h0 : l.length = 0
      · rw [if_pos h0, if_pos h0]; exact ⟨_, _, _, rfl, rfl, .inl rfl⟩
      · rw [if_neg h0, if_neg h0, back_picks hr]
        exact ⟨_, _, _, rfl, rfl, outF_rev hp h35 (picks_mem hr (List.all_eq_true.1 h)) (by unfold picks; rw [List.length_map]; omega)⟩
  · rw [if_neg h, if_neg h]; exact ⟨_, _, _, rfl, rfl, .inl rfl⟩
end Go.Proofs.Yteblpdoljhmcmaa
