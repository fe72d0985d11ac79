import Derived.Test.YtladmlnopbnlgaaDoorVdl
import Derived.Test.YtladmlnopbnlgaaDoorVdj
namespace Go.Proofs.YtladmlnopbnlgaaDoor
set_option linter.unusedSimpArgs false
set_option linter.unusedVariables false
open Go.RowKit

/-! Values: their order, and that unlike ones have unlike texts: the plain words. -/
theorem ci_anti (x y : Int) : Lib.compareInt y x = - Lib.compareInt x y := by
  unfold Lib.compareInt
  repeat' split
  all_goals omega
theorem ci_zero (x y : Int) : Lib.compareInt x y = 0 ↔ x = y := by
  unfold Lib.compareInt
  repeat' split
  all_goals omega
theorem ci_le (x y : Int) : Lib.compareInt x y ≤ 0 ↔ x ≤ y := by
  unfold Lib.compareInt
  repeat' split
  all_goals omega
theorem ci_bd (x y : Int) : -1 ≤ Lib.compareInt x y ∧ Lib.compareInt x y ≤ 1 := by
  unfold Lib.compareInt
  repeat' split
  all_goals omega
theorem sg_ci (x y : Int) : sgn x y = Lib.compareInt x y := by
  unfold Lib.compareInt sgn
  repeat' split
  all_goals omega
theorem cb_anti : ∀ a b : List UInt8, Lib.compareBytes b a = - Lib.compareBytes a b
  | [], [] => rfl
  | [], _ :: _ => rfl
  | _ :: _, [] => rfl
  | x :: a, y :: b => by
    have ih := cb_anti a b
    unfold Lib.compareBytes
    by_cases h1 : x < y
    · have h2 : ¬ y < x := fun h => by have g1 := UInt8.lt_iff_toNat_lt.1 h; have g2 := UInt8.lt_iff_toNat_lt.1 h1; omega
      rw [if_pos h1, if_neg h2, if_pos h1]; rfl
    · rw [if_neg h1]
      by_cases h2 : y < x
      · rw [if_pos h2, if_neg h1, if_pos h2]
      · rw [if_neg h2, if_neg h1, if_neg h2]
        exact ih
theorem cb_trans : ∀ a b c : List UInt8, Lib.compareBytes a b ≤ 0 → Lib.compareBytes b c ≤ 0 → Lib.compareBytes a c ≤ 0
  | [], _, [], _, _ => by show (0 : Int) ≤ 0; omega
  | [], _, _ :: _, _, _ => by show (-1 : Int) ≤ 0; omega
  | _ :: _, [], _, h, _ => by have : (1 : Int) ≤ 0 := h; omega
  | _ :: _, _ :: _, [], _, h => by have : (1 : Int) ≤ 0 := h; omega
  | x :: a, y :: b, z :: c, h1, h2 => by
    unfold Lib.compareBytes at h1 h2 ⊢
    have k := @UInt8.lt_iff_toNat_lt
    by_cases hxy : x < y
    · by_cases hyz : y < z
      · rw [if_pos (k.2 (Nat.lt_trans (k.1 hxy) (k.1 hyz)))]; omega
      · rw [if_neg hyz] at h2
        by_cases hzy : z < y
        · rw [if_pos hzy] at h2; omega
        · have e : y.toNat = z.toNat := by
            have g1 : ¬ y.toNat < z.toNat := fun h => hyz (k.2 h)
            have g2 : ¬ z.toNat < y.toNat := fun h => hzy (k.2 h)
            omega
          rw [if_pos (k.2 (by have := k.1 hxy; omega))]; omega
    · rw [if_neg hxy] at h1
      by_cases hyx : y < x
      · rw [if_pos hyx] at h1; omega
      · rw [if_neg hyx] at h1
        have e : x.toNat = y.toNat := by
          have g1 : ¬ x.toNat < y.toNat := fun h => hxy (k.2 h)
          have g2 : ¬ y.toNat < x.toNat := fun h => hyx (k.2 h)
          omega
        obtain rfl : x = y := UInt8.toNat_inj.1 e
        by_cases hyz : x < z
        · rw [if_pos hyz]; omega
        · rw [if_neg hyz] at h2 ⊢
          by_cases hzy : z < x
          · rw [if_pos hzy] at h2; omega
          · rw [if_neg hzy] at h2 ⊢
            exact cb_trans a b c h1 h2
theorem vcmp_anti (a b : Val) : vcmp b a = - vcmp a b := by
  unfold vcmp
  by_cases hk : a.kind = b.kind
  · rw [if_neg (fun h : b.kind ≠ a.kind => h hk.symm), if_neg (fun h : a.kind ≠ b.kind => h hk), ← hk]
    by_cases h1 : a.kind = 1
    · rw [if_pos h1, if_pos h1, sg_ci, sg_ci, ci_anti]
    · rw [if_neg h1, if_neg h1]
      by_cases h2 : a.kind = 2
      · rw [if_pos h2, if_pos h2, cb_anti]
      · rw [if_neg h2, if_neg h2, ci_anti]
  · rw [if_pos (fun h => hk h.symm), if_pos hk, ci_anti]
theorem vcmp_bd (a b : Val) : -1 ≤ vcmp a b ∧ vcmp a b ≤ 1 := by
  unfold vcmp
  split
  · exact ci_bd _ _
  · split
    · rw [sg_ci]; exact ci_bd _ _
    · split
      · rcases cb_cases a.text.data.toList b.text.data.toList with h | h | h <;> rw [h] <;> decide
      · exact ci_bd _ _
theorem unt_inj {n s m t : Int} (h1 : SndD n s) (h2 : SndD m t) (h : unt n s = unt m t) : n = m ∧ s = t := by
  obtain ⟨a0, a6, _, a10⟩ := h1
  obtain ⟨b0, b6, _, b10⟩ := h2
  unfold unt at h
  have key : ∀ (n m : Int) (i j : Nat), i < j → j ≤ 6 → n * (P10 j : Nat) = m * (P10 i : Nat) → m % 10 = 0 := by
    intro n m i j hij hj he
    obtain ⟨d, rfl⟩ : ∃ d, j = i + 1 + d := ⟨j - i - 1, by omega⟩
    have hp : ∀ k, P10 k = 10 ^ k := by
      intro k
      induction k with
      | zero => rfl
      | succ k ih => rw [Nat.pow_succ, ← ih, P10_s]
    rw [hp, hp, Nat.pow_add, Nat.pow_succ] at he
    have hpos : (0 : Int) < ((10 ^ i : Nat) : Int) := by
      have := Nat.pow_pos (n := i) (show 0 < 10 by omega)
      omega
    have he2 : (n * (10 ^ d : Nat) * 10) * ((10 ^ i : Nat) : Int) = m * ((10 ^ i : Nat) : Int) := by
      rw [← he]
      push_cast
      rw [Int.mul_assoc, Int.mul_assoc, Int.mul_assoc]
      congr 1
      rw [Int.mul_comm ((10 : Int) ^ d), Int.mul_comm 10 ((10 : Int) ^ i), ← Int.mul_assoc, Int.mul_comm ((10:Int) ^ i * 10)]
    have he3 := Int.eq_of_mul_eq_mul_right (by omega) he2
    omega
  have hst : s = t := by
    rcases Int.lt_trichotomy s t with hlt | heq | hgt
    · have := key m n (6 - t).toNat (6 - s).toNat (by omega) (by omega)
      have h3 := key n m (6 - t).toNat (6 - s).toNat (by omega) (by omega) h
      rcases b10 with hb | hb
      · omega
      · exact absurd h3 hb
    · exact heq
    · have h3 := key m n (6 - s).toNat (6 - t).toNat (by omega) (by omega) h.symm
      rcases a10 with ha | ha
      · omega
      · exact absurd h3 ha
  subst hst
  refine ⟨?_, rfl⟩
  have hpos : (P10 (6 - s).toNat : Int) ≠ 0 := by
    have := unt_sign 1 s
    unfold unt at this
    intro e
    rw [e] at this
    omega
  exact Int.eq_of_mul_eq_mul_right hpos h
/-- What a sound value of a kind has besides. -/
theorem vs_zero {n s m : Int} {t : ByteArray} (h : vsnd ⟨0, n, s, t, m⟩ = true) : n = 0 ∧ s = 0 ∧ t = ⟨#[]⟩ ∧ m = 0 := by
  rw [vs0] at h
  simp only [Bool.and_eq_true, beq_iff_eq, empty_iff] at h
  exact ⟨h.1, h.2.1, h.2.2.1, h.2.2.2⟩
theorem vs_one {n s m : Int} {t : ByteArray} (h : vsnd ⟨1, n, s, t, m⟩ = true) : t = ⟨#[]⟩ ∧ m = 0 := by
  rw [vs1] at h
  simp only [Bool.and_eq_true, beq_iff_eq, empty_iff] at h
  exact ⟨h.2.1, h.2.2⟩
theorem vs_three {n s m : Int} {t : ByteArray} (h : vsnd ⟨3, n, s, t, m⟩ = true) : n = 0 ∧ s = 0 ∧ t = ⟨#[]⟩ ∧ (m = 0 ∨ m = 1) := by
  rw [vs3] at h
  simp only [Bool.and_eq_true, beq_iff_eq, empty_iff, Bool.or_eq_true] at h
  exact ⟨h.1, h.2.1, h.2.2.1, h.2.2.2⟩
theorem vs_four {n s m : Int} {t : ByteArray} (h : vsnd ⟨4, n, s, t, m⟩ = true) : n = 0 ∧ s = 0 ∧ t = ⟨#[]⟩ := by
  rw [vs4] at h
  simp only [Bool.and_eq_true, beq_iff_eq, empty_iff] at h
  exact ⟨h.1, h.2.1, h.2.2.1⟩
theorem ba_eq {a b : ByteArray} (h : a.data.toList = b.data.toList) : a = b := by
  obtain ⟨⟨a⟩⟩ := a
  obtain ⟨⟨b⟩⟩ := b
  simp at h
  rw [h]
theorem same_kind {a b : Val} (ha : vsnd a = true) (hb : vsnd b = true) (hk : a.kind = b.kind) (h1 : a.kind = 1 → a.n = b.n ∧ a.scale = b.scale) (h2 : a.kind = 2 → a.text = b.text) (h3 : a.kind ≠ 1 → a.kind ≠ 2 → a.num = b.num) : a = b := by
  obtain ⟨k, n, s, t, m⟩ := a
  obtain ⟨k', n', s', t', m'⟩ := b
  simp only at hk h1 h2 h3
  subst hk
  rcases kinds k with rfl | rfl | rfl | rfl | rfl | h5
  · obtain ⟨rfl, rfl, rfl, rfl⟩ := vs_zero ha
    obtain ⟨rfl, rfl, rfl, rfl⟩ := vs_zero hb
    rfl
  · obtain ⟨rfl, rfl⟩ := vs_one ha
    obtain ⟨rfl, rfl⟩ := vs_one hb
    obtain ⟨rfl, rfl⟩ := h1 rfl
    rfl
  · obtain ⟨rfl, rfl, rfl, _⟩ := vs_text ha
    obtain ⟨rfl, rfl, rfl, _⟩ := vs_text hb
    rw [h2 rfl]
  · obtain ⟨rfl, rfl, rfl, _⟩ := vs_three ha
    obtain ⟨rfl, rfl, rfl, _⟩ := vs_three hb
    rw [h3 (by decide) (by decide)]
  · obtain ⟨rfl, rfl, rfl⟩ := vs_four ha
    obtain ⟨rfl, rfl, rfl⟩ := vs_four hb
    rw [h3 (by decide) (by decide)]
  · rw [vsnd5 _ _ _ _ _ h5] at ha
    cases ha
theorem vcmp_zero {a b : Val} (ha : vsnd a = true) (hb : vsnd b = true) : vcmp a b = 0 ↔ a = b := by
  constructor
  · intro h
    unfold vcmp at h
    by_cases hk : a.kind = b.kind
    · rw [if_neg (fun h => h hk)] at h
      by_cases h1 : a.kind = 1
      · rw [if_pos h1, sg_ci, ci_zero] at h
        have hda : SndD a.n a.scale := by
          obtain ⟨k, n, s, t, m⟩ := a
          simp only at h1
          subst h1
          exact vs_dec ha
        have hdb : SndD b.n b.scale := by
          obtain ⟨k, n, s, t, m⟩ := b
          simp only at hk
          rw [h1] at hk
          subst hk
          exact vs_dec hb
        have := unt_inj hda hdb h
        exact same_kind ha hb hk (fun _ => this) (fun h2 => absurd (h1.symm.trans h2) (by decide)) (fun h _ => absurd h1 h)
      · rw [if_neg h1] at h
        by_cases h2 : a.kind = 2
        · rw [if_pos h2, cb_eq] at h
          exact same_kind ha hb hk (fun h => absurd h h1) (fun _ => ba_eq h) (fun _ h => absurd h2 h)
        · rw [if_neg h2, ci_zero] at h
          exact same_kind ha hb hk (fun h => absurd h h1) (fun h => absurd h h2) (fun _ _ => h)
    · rw [if_pos hk, ci_zero] at h
      exact absurd h hk
  · rintro rfl
    unfold vcmp
    rw [if_neg (fun h => h rfl)]
    split
    · rw [sg_ci, ci_zero]
    · split
      · rw [cb_eq]
      · rw [ci_zero]
theorem vcmp_trans {a b c : Val} (h1 : vcmp a b ≤ 0) (h2 : vcmp b c ≤ 0) : vcmp a c ≤ 0 := by
  unfold vcmp at h1 h2 ⊢
  by_cases hab : a.kind = b.kind
  · rw [if_neg (fun h => h hab)] at h1
    by_cases hbc : b.kind = c.kind
    · rw [if_neg (fun h => h hbc)] at h2
      rw [if_neg (fun h => h (hab.trans hbc))]
      rw [← hab] at h2
      by_cases k1 : a.kind = 1
      · rw [if_pos k1, sg_ci, ci_le] at h1 h2 ⊢
        omega
      · rw [if_neg k1] at h1 h2 ⊢
        by_cases k2 : a.kind = 2
        · rw [if_pos k2] at h1 h2 ⊢
          exact cb_trans _ _ _ h1 h2
        · rw [if_neg k2, ci_le] at h1 h2 ⊢
          omega
    · rw [if_pos hbc, ci_le] at h2
      rw [if_pos (fun h => hbc (hab.symm.trans h)), ci_le]
      omega
  · rw [if_pos hab, ci_le] at h1
    by_cases hbc : b.kind = c.kind
    · rw [if_pos (fun h => hab (h.trans hbc.symm)), ci_le]
      omega
    · rw [if_pos hbc, ci_le] at h2
      rw [if_pos (by omega), ci_le]
      omega
/-! Texts. -/
theorem qt_inj : ∀ a b : List UInt8, qtL a = qtL b → a = b
  | [], [], _ => rfl
  | [], y :: b, h => by
    exfalso
    have : qtL (y :: b) = qtB y ++ qtL b := rfl
    rw [this] at h
    unfold qtB at h
    split at h <;> simp [qtL] at h
  | x :: a, [], h => by
    exfalso
    have : qtL (x :: a) = qtB x ++ qtL a := rfl
    rw [this] at h
    unfold qtB at h
    split at h <;> simp [qtL] at h
  | x :: a, y :: b, h => by
    have e1 : qtL (x :: a) = qtB x ++ qtL a := rfl
    have e2 : qtL (y :: b) = qtB y ++ qtL b := rfl
    rw [e1, e2] at h
    unfold qtB at h
    by_cases hx : x = 34 ∨ x = 92
    · rw [if_pos hx] at h
      by_cases hy : y = 34 ∨ y = 92
      · rw [if_pos hy] at h
        simp only [List.cons_append, List.nil_append, List.cons.injEq, true_and] at h
        rw [h.1, qt_inj a b h.2]
      · rw [if_neg hy] at h
        simp only [List.cons_append, List.nil_append, List.cons.injEq] at h
        exact absurd (.inr h.1.symm) hy
    · rw [if_neg hx] at h
      by_cases hy : y = 34 ∨ y = 92
      · rw [if_pos hy] at h
        simp only [List.cons_append, List.nil_append, List.cons.injEq] at h
        exact absurd (.inr h.1) hx
      · rw [if_neg hy] at h
        simp only [List.cons_append, List.nil_append, List.cons.injEq] at h
        rw [h.1, qt_inj a b h.2]
/-- The kind of a value by the first byte of its text. -/
def kindOf (l : List UInt8) : Int := match l with
  | [] => 9
  | c :: _ => if c = 110 then 0 else if c = 34 then 2 else if c = 116 ∨ c = 102 then 3 else if c = 64 then 4 else 1
theorem kind_num (neg : Bool) (x s : Nat) : kindOf (txtL neg x s) = 1 := by
  unfold txtL
  cases neg with
  | true => rfl
  | false =>
    have h1 := dec_pos (x / P10 s)
    have h2 := dec_ok (x / P10 s)
    cases hd : Lib.decDigits (x / P10 s) with
    | nil => rw [hd] at h1; simp at h1
    | cons c r =>
      rw [hd] at h2
      have h3 : dB c = true := by
        unfold dOk at h2
        rw [List.all_cons] at h2
        exact (Bool.and_eq_true_iff.1 h2).1
      have h4 := of_decide_eq_true h3
      show kindOf (c :: _) = 1
      have k : ∀ n : UInt8, ¬ (48 ≤ n.toNat ∧ n.toNat ≤ 57) → c ≠ n := fun n hn e => hn (by rw [← e]; exact h4)
      unfold kindOf
      simp only
      rw [if_neg (k 110 (by decide)), if_neg (k 34 (by decide)), if_neg (by rintro (e | e); exact k 116 (by decide) e; exact k 102 (by decide) e), if_neg (k 64 (by decide))]
theorem kind_is (v : Val) (h : vsnd v = true) : kindOf (vtx v).data.toList = v.kind := by
  obtain ⟨k, n, s, t, m⟩ := v
  rcases kinds k with rfl | rfl | rfl | rfl | rfl | h5
  · rfl
  · exact kind_num _ _ _
  · rfl
  · rw [vtx3]
    split <;> rfl
  · rfl
  · rw [vsnd5 _ _ _ _ _ h5] at h
    cases h
theorem bless_self (l : List UInt8) : Op.bytesLess l l = false := by
  rw [bless_iff, (cb_eq l l).2 rfl]
  rfl
theorem vtx_inj {a b : Val} (ha : vsnd a = true) (hb : vsnd b = true) : vtx a = vtx b ↔ a = b := by
  constructor
  · intro h
    have hk : a.kind = b.kind := by rw [← kind_is a ha, ← kind_is b hb, h]
    refine same_kind ha hb hk (fun h1 => ?_) (fun h2 => ?_) (fun h1 h2 => ?_)
    · obtain ⟨k, n, s, t, m⟩ := a
      obtain ⟨k', n', s', t', m'⟩ := b
      simp only at hk h1 ⊢
      subst h1
      subst hk
      have e : txtL (decide (n < 0)) n.natAbs s.toNat = txtL (decide (n' < 0)) n'.natAbs s'.toNat := by
        have := congrArg (fun z : ByteArray => z.data.toList) h
        exact this
      have p1 := parse_text n s (vs_dec ha)
      have p2 := parse_text n' s' (vs_dec hb)
      rw [e, p2] at p1
      simp [decA] at p1
      exact ⟨p1.1.symm, p1.2.symm⟩
    · obtain ⟨k, n, s, t, m⟩ := a
      obtain ⟨k', n', s', t', m'⟩ := b
      simp only at hk h2 ⊢
      subst h2
      subst hk
      have e : quoL t.data.toList = quoL t'.data.toList := congrArg (fun z : ByteArray => z.data.toList) h
      unfold quoL at e
      rw [List.append_assoc, List.append_assoc] at e
      have e2 := List.append_cancel_left e
      exact ba_eq (qt_inj _ _ (List.append_cancel_right e2))
    · obtain ⟨k, n, s, t, m⟩ := a
      obtain ⟨k', n', s', t', m'⟩ := b
      simp only at hk h1 h2 ⊢
      subst hk
      rcases kinds k with rfl | rfl | rfl | rfl | rfl | h5
      · rw [(vs_zero ha).2.2.2, (vs_zero hb).2.2.2]
      · exact absurd rfl h1
      · exact absurd rfl h2
      · rw [vtx3, vtx3] at h
        have c1 := (vs_three ha).2.2.2
        have c2 := (vs_three hb).2.2.2
        rcases c1 with rfl | rfl <;> rcases c2 with rfl | rfl
        · rfl
        · exact absurd h (by decide)
        · exact absurd h (by decide)
        · rfl
      · have d1 := vs_day ha
        have d2 := vs_day hb
        have e : [64] ++ quoL (dtx m).data.toList = [64] ++ quoL (dtx m').data.toList := congrArg (fun z : ByteArray => z.data.toList) h
        have e2 := List.append_cancel_left e
        rw [dtx_quo, dtx_quo, List.append_assoc, List.append_assoc] at e2
        have e3 := List.append_cancel_right (List.append_cancel_left e2)
        have e4 : dtx m = dtx m' := ba_eq e3
        have o1 := order m m' d1.1 d1.2 d2.1 d2.2
        have o2 := order m' m d2.1 d2.2 d1.1 d1.2
        rw [e4, bless_self] at o1
        rw [e4, bless_self] at o2
        have q1 := of_decide_eq_false o1.symm
        have q2 := of_decide_eq_false o2.symm
        omega
      · rw [vsnd5 _ _ _ _ _ h5] at ha
        cases ha
  · rintro rfl; rfl
end Go.Proofs.YtladmlnopbnlgaaDoor
