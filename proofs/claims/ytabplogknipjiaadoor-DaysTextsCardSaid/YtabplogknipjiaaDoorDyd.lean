import Derived.Test.YtabplogknipjiaaDoorDyc
namespace Go.Proofs.YtabplogknipjiaaDoor
set_option linter.unusedSimpArgs false
set_option linter.unusedVariables false
open Go.RowKit

/-! Days: each day has one date. -/
theorem bef_mono (a b : Int) (h : a ≤ b) : bef a ≤ bef b := by unfold bef; omega
theorem cum_mono (y : Int) (n : Nat) (a : Int) (h1 : 1 ≤ a) (h2 : a + n ≤ 12) : cumM y a ≤ cumM y (a + n) := by
  induction n with
  | zero => simp
  | succ k ih =>
    have := cum_step y (a + k) (by omega) (by omega)
    have hl := lenM_bd y (a + k)
    have := ih (by omega)
    rw [show a + ((k + 1 : Nat) : Int) = a + k + 1 by omega]
    omega
theorem cum_mono' (y a b : Int) (h1 : 1 ≤ a) (h : a ≤ b) (h2 : b ≤ 12) : cumM y a ≤ cumM y b := by
  have := cum_mono y (b - a).toNat a h1 (by omega)
  rwa [show a + ((b - a).toNat : Int) = b by omega] at this
theorem num_in (a b c : Int) (h : SoundD a b c) : bef a + cumM a b ≤ numD a b c ∧ numD a b c < bef a + cumM a b + lenM a b ∧ bef a ≤ numD a b c ∧ numD a b c < bef (a + 1) := by
  obtain ⟨h1, h2, h3, h4, h5, h6⟩ := h
  have := cum_bd a b h4
  have hs := bef_step a
  have hl := cum_last a
  refine ⟨by unfold numD; omega, by unfold numD; omega, by unfold numD; omega, ?_⟩
  rw [hs]
  unfold numD
  by_cases hb : b = 12
  · subst hb; omega
  · have := cum_step a b h3 (by omega)
    have := cum_mono' a (b + 1) 12 (by omega) (by omega) (by omega)
    have := lenM_bd a 12
    omega
theorem num_lt (a b c a' b' c' : Int) (h : SoundD a b c) (h' : SoundD a' b' c') (hl : a < a' ∨ (a = a' ∧ (b < b' ∨ (b = b' ∧ c < c')))) : numD a b c < numD a' b' c' := by
  have k := num_in a b c h
  have k' := num_in a' b' c' h'
  rcases hl with hl | ⟨rfl, hl | ⟨rfl, hl⟩⟩
  · have := bef_mono (a + 1) a' (by omega); omega
  · have := cum_step a b h.2.2.1 (by have := h'.2.2.2.1; omega)
    have := cum_mono' a (b + 1) b' (by have := h.2.2.1; omega) (by omega) h'.2.2.2.1
    omega
  · unfold numD; omega
theorem num_inj (a b c a' b' c' : Int) (h : SoundD a b c) (h' : SoundD a' b' c') (e : numD a b c = numD a' b' c') : a = a' ∧ b = b' ∧ c = c' := by
  have k1 := num_lt a b c a' b' c' h h'
  have k2 := num_lt a' b' c' a b c h' h
  by_cases x : a = a'
  · by_cases y : b = b'
    · by_cases z : c = c'
      · exact ⟨x, y, z⟩
      · exfalso
        rcases Int.lt_or_gt_of_ne z with z | z
        · have := k1 (.inr ⟨x, .inr ⟨y, z⟩⟩); omega
        · have := k2 (.inr ⟨x.symm, .inr ⟨y.symm, z⟩⟩); omega
    · exfalso
      rcases Int.lt_or_gt_of_ne y with y | y
      · have := k1 (.inr ⟨x, .inl y⟩); omega
      · have := k2 (.inr ⟨x.symm, .inl y⟩); omega
  · exfalso
    rcases Int.lt_or_gt_of_ne x with x | x
    · have := k1 (.inl x); omega
    · have := k2 (.inl x); omega
/-- The next date. -/
theorem num_next (a b c : Int) (h : SoundD a b c) (hn : numD a b c < 3652058) : ∃ a' b' c', SoundD a' b' c' ∧ numD a' b' c' = numD a b c + 1 ∧
    ((a' = a ∧ b' = b ∧ c' = c + 1) ∨ (a' = a ∧ b' = b + 1 ∧ c' = 1 ∧ 28 ≤ c) ∨ (a' = a + 1 ∧ b' = 1 ∧ c' = 1 ∧ b = 12 ∧ c = 31)) := by
  obtain ⟨h1, h2, h3, h4, h5, h6⟩ := h
  by_cases hc : c < lenM a b
  · exact ⟨a, b, c + 1, ⟨h1, h2, h3, h4, by omega, by omega⟩, by unfold numD; omega, .inl ⟨rfl, rfl, rfl⟩⟩
  · have hl := lenM_bd a b
    by_cases hb : b < 12
    · have := cum_step a b h3 (by omega)
      have hl' := lenM_bd a (b + 1)
      exact ⟨a, b + 1, 1, ⟨h1, h2, by omega, by omega, by omega, by omega⟩, by unfold numD; omega, .inr (.inl ⟨rfl, rfl, rfl, by omega⟩)⟩
    · obtain rfl : b = 12 := by omega
      have hs := bef_step a
      have hl2 := cum_last a
      have hl' := lenM_bd (a + 1) 1
      have h12 : lenM a 12 = 31 := by simp [lenM]
      have hf := cum_first (a + 1)
      have ha : a ≤ 9998 := by
        by_cases hh : a = 9999
        · subst hh
          have : bef 9999 = 3651694 := by decide
          unfold numD at hn
          have : feb 9999 = 28 := by decide
          omega
        · omega
      exact ⟨a + 1, 1, 1, ⟨by omega, by omega, by omega, by omega, by omega, by omega⟩, by unfold numD; omega, .inr (.inr ⟨rfl, rfl, rfl, rfl, by omega⟩)⟩
theorem num_hit (n : Nat) (h : n ≤ 3652058) : ∃ a b c, SoundD a b c ∧ numD a b c = n := by
  induction n with
  | zero => exact ⟨1, 1, 1, by decide, by decide⟩
  | succ k ih =>
    obtain ⟨a, b, c, hs, hn⟩ := ih (by omega)
    obtain ⟨a', b', c', hs', hn', -⟩ := num_next a b c hs (by omega)
    exact ⟨a', b', c', hs', by omega⟩
theorem num_top (a b c : Int) (h : SoundD a b c) : 0 ≤ numD a b c ∧ numD a b c ≤ 3652058 := by
  have k := num_in a b c h
  have := bef_mono (a + 1) 10000 (by have := h.2.1; omega)
  have : bef 10000 = 3652059 := by decide
  have := bef_bd a h.1 (by have := h.2.1; omega)
  omega

open Classical in
/-- The date of a day. -/
noncomputable def theDate (n : Int) : Int × Int × Int := if h : ∃ p : Int × Int × Int, SoundD p.1 p.2.1 p.2.2 ∧ numD p.1 p.2.1 p.2.2 = n then Classical.choose h else (0, 0, 0)
noncomputable def dY (n : Int) : Int := (theDate n).1
noncomputable def dM (n : Int) : Int := (theDate n).2.1
noncomputable def dD (n : Int) : Int := (theDate n).2.2
theorem date_spec (n : Int) (h1 : 0 ≤ n) (h2 : n ≤ 3652058) : SoundD (dY n) (dM n) (dD n) ∧ numD (dY n) (dM n) (dD n) = n := by
  obtain ⟨a, b, c, hs, hn⟩ := num_hit n.toNat (by omega)
  have h : ∃ p : Int × Int × Int, SoundD p.1 p.2.1 p.2.2 ∧ numD p.1 p.2.1 p.2.2 = n := ⟨(a, b, c), hs, by simp only; omega⟩
  unfold dY dM dD theDate
  rw [dif_pos h]
  exact Classical.choose_spec h
theorem date_is {n a b c : Int} (hs : SoundD a b c) (hn : numD a b c = n) : a = dY n ∧ b = dM n ∧ c = dD n := by
  have ht := num_top a b c hs
  obtain ⟨h, e⟩ := date_spec n (by omega) (by omega)
  exact num_inj _ _ _ _ _ _ hs h (by omega)
theorem dateOf_t (n : Int) (h1 : 0 ≤ n) (h2 : n ≤ 3652058) (w : World) : Calls Tryd.prog 23 #[.int .i64 n] w fun e w' =>
    e = .returned (.agg #[.int .i64 (dY n), .int .i64 (dM n), .int .i64 (dD n)]) ∧ Bel w w' :=
  (dateOf_any n h1 h2 w).mono fun e w' ⟨⟨a, b, c, hs, hn, he⟩, hb⟩ => by
    obtain ⟨rfl, rfl, rfl⟩ := date_is hs hn
    exact ⟨he, hb⟩

noncomputable def dateV (n : Int) : Value := if 0 ≤ n ∧ n ≤ 3652058 then .tuple #[.int .i64 (dY n), .int .i64 (dM n), .int .i64 (dD n), .int .i64 0] else .tuple #[.int .i64 0, .int .i64 0, .int .i64 0, .int .i64 3]
set_option maxHeartbeats 800000 in
theorem date_any (n : Int) (w : World) : Calls Tryd.prog 10 #[.int .i64 n] w fun e w' => e = .returned (dateV n) ∧ Bel w w' := by
  by_cases h : 0 ≤ n ∧ n ≤ 3652058
  · rw [show dateV n = _ from if_pos h]
    obtain ⟨h1, h2⟩ := h
    have k1 : decide (n < 0) = false := by simp; omega
    have k2 : decide (3652058 < n) = false := by simp; omega
    go_enter Tryd.func10, Tryd.ntmps10
    go_wp2_with (go_at_call 23; refine (dateOf_t n h1 h2 _).mono ?_; rintro e W1 ⟨rfl, hb1⟩)
    refine under_name (hb1.alloc _) fun W hc hf hz hb => ?_
    have hw : Arr3 W W1.heap.size (dY n) (dM n) (dD n) := by simp [Arr3, hz, hc, go_sem]
    clear hc hf hz
    go_region
    go_wp2
    exact bodyPost_ret (by simp [results, Tryd.results10, go_sem]; try rfl) rfl ⟨rfl, hb.drew⟩
  · rw [show dateV n = _ from if_neg h]
    by_cases h1 : 0 ≤ n
    · have k1 : decide (n < 0) = false := by simp; omega
      have k2 : decide (3652058 < n) = true := by simp; omega
      clear h
      go_enter Tryd.func10, Tryd.ntmps10
      go_wp2
      exact bodyPost_ret (by simp [results, Tryd.results10, go_sem]; try rfl) rfl ⟨rfl, Bel.refl _⟩
    · have k1 : decide (n < 0) = true := by simp; omega
      clear h
      go_enter Tryd.func10, Tryd.ntmps10
      go_wp2
      exact bodyPost_ret (by simp [results, Tryd.results10, go_sem]; try rfl) rfl ⟨rfl, Bel.refl _⟩
end Go.Proofs.YtabplogknipjiaaDoor
