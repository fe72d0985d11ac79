
import Derived.Test.YtpmmbcobjibpeaaGreatDoorStd
namespace Go.Proofs.YtpmmbcobjibpeaaGreatDoor
set_option linter.unusedSimpArgs false
set_option linter.unusedVariables false
open Go.RowKit Go.Lib
attribute [local go_sem ↓] eql_val neq_val eql_tst neq_tst

/-! In. -/
theorem tysnd_sc {k sc : Int} {any not : Bool} {l : List Tst} (h : tysnd k sc any not l = true) : 0 ≤ sc ∧ sc ≤ 6 ∧ (k ≠ 1 → sc = 0) ∧ 1 ≤ k ∧ k ≤ 4 ∧ usnd any not l = true := by
  unfold tysnd knd at h
  simp only [Bool.and_eq_true, Bool.or_eq_true, decide_eq_true_eq] at h
  obtain ⟨⟨⟨h1, h2⟩, h3⟩, h4⟩ := h
  refine ⟨by omega, by omega, by omega, h1, h2, h3⟩
theorem inN_S {k sc : Int} {any not : Bool} {l : List Tst} {v : Val} (ht : tysnd k sc any not l = true) (hv : vsnd v = true) : inN k sc any not l v = inS k sc any not l v := by
  obtain ⟨h0, h6, hk0, _⟩ := tysnd_sc ht
  unfold inN inS vfit
  rw [hv]
  by_cases hz : v.kind = 0
  · simp [hz]
  · by_cases hk : v.kind = k
    · by_cases h1 : k = 1
      · have he := unP_exact hv (hk.trans h1) h0 h6
        rw [he]
        have hk1 := hk.trans h1
        subst h1
        simp only [hk1, decide_true, Bool.true_and, Bool.not_true, Bool.false_or, show ((1 : Int) = 0) = False from by simp, decide_false]
        generalize (unP sc v).1 = n
        have e1 : decide (-999999999999 ≤ n) = !decide (n < -999999999999) := by rw [Bool.eq_iff_iff]; simp
        have e2 : decide (n ≤ 999999999999) = !decide (999999999999 < n) := by rw [Bool.eq_iff_iff]; simp
        rw [e1, e2]
        generalize decide (v.scale ≤ sc) = x1
        generalize decide (n < -999999999999) = x2
        generalize decide (999999999999 < n) = x3
        generalize mall any not l v = x4
        cases x1 <;> cases x2 <;> cases x3 <;> cases x4 <;> rfl
      · have hk1 : v.kind ≠ 1 := by omega
        simp [hz, hk, h1, hk1]
    · simp [hz, hk]
set_option maxRecDepth 100000 in
set_option maxHeartbeats 4000000 in
theorem tin_any (k sc : Int) (any not : Bool) (l : List Tst) (A : Option Addr) (c : Nat) (v : Val) (w : World) (hs : Tsts w A l) (hl : l.length ≤ 9223372036854775807) (ht : ∀ t ∈ l, TOk t) (hv : v.text.size ≤ 9223372036854775807) :
    Calls Tryz.prog 12 #[tyv k sc any not (.slice A l.length c), v.val] w fun e w' => e = .returned (.bool (inT k sc any not l v)) ∧ Bel w w' := by
  have C1 := Lib.hid fun W (hW : Bel w W) => tsound_any k sc any not l A c W (hs.keep hW) hl ht
  have C2 := Lib.hid fun W => vsound_any v hv W
  have C3 := Lib.hid (show tysnd k sc any not l = true → vsnd v = true → ∀ W, Bel w W → Calls Tryz.prog 32 #[tyv k sc any not (.slice A l.length c), v.val] W fun e w' => e = .returned (.bool (inS k sc any not l v)) ∧ Bel W w' from fun h1 h2 W hW => by
    have := sin_any k sc any not l A c v W (hs.keep hW) hl ht (tysnd_sc h1).2.2.2.2.2 hv h2
    rw [inN_S h1 h2] at this
    exact this)
  have hT := Lib.hid (show inT k sc any not l v = (tysnd k sc any not l && vsnd v && inS k sc any not l v) from rfl)
  generalize inT k sc any not l v = R at hT ⊢
  generalize inS k sc any not l v = q3 at hT C3
  generalize tysnd k sc any not l = q1 at hT C1 C3
  generalize vsnd v = q2 at hT C2 C3
  generalize hn : l.length = n at C1 C3 ⊢
  obtain ⟨v0, v1, v2, v3, v4⟩ := v
  clear hs hl ht hv hn
  cases q1 with
  | false =>
    obtain rfl : R = false := by have := hT.out; simpa using this
    clear hT C3
    go_enter Tryz.func12, Tryz.ntmps12
    go_wp2_with (go_at_call 10; (with_reducible refine Calls.mono (C1.out _ (((Bel.refl w).alloc _).alloc _)) ?_); rintro e W1 ⟨rfl, hb1⟩; have hc1 := hb1.cells; have hz1 := hb1.lt2; have hbX := (((Bel.refl w).alloc _).alloc _).trans hb1)
    go_ret
    exact ⟨rfl, hbX⟩
  | true =>
    cases q2 with
    | false =>
      obtain rfl : R = false := by have := hT.out; simpa using this
      clear hT C3
      go_enter Tryz.func12, Tryz.ntmps12
      go_wp2_with (first
        | (go_at_call 10; (with_reducible refine Calls.mono (C1.out _ (((Bel.refl w).alloc _).alloc _)) ?_); rintro e W1 ⟨rfl, hb1⟩; have hc1 := hb1.cells; have hz1 := hb1.lt2; have hbX := (((Bel.refl w).alloc _).alloc _).trans hb1)
        | (go_at_call 31; (with_reducible refine Calls.mono (C2.out _) ?_); rintro e W2 ⟨rfl, hb2⟩; have hc2 := hb2.cells; have hz2 := hb2.size; have hbY := hbX.trans hb2))
      go_ret
      exact ⟨rfl, hbY⟩
    | true =>
      obtain rfl : R = q3 := by have := hT.out; simpa using this
      have C4 := Lib.hid (C3.out rfl rfl)
      clear hT C3
      go_enter Tryz.func12, Tryz.ntmps12
      go_wp2_with (first
        | (go_at_call 10; (with_reducible refine Calls.mono (C1.out _ (((Bel.refl w).alloc _).alloc _)) ?_); rintro e W1 ⟨rfl, hb1⟩; have hc1 := hb1.cells; have hz1 := hb1.lt2; have hbX := (((Bel.refl w).alloc _).alloc _).trans hb1)
        | (go_at_call 31; (with_reducible refine Calls.mono (C2.out _) ?_); rintro e W2 ⟨rfl, hb2⟩; have hc2 := hb2.cells; have hz2 := hb2.size; have hbY := hbX.trans hb2)
        | (go_at_call 32; (with_reducible refine Calls.mono (C4.out _ hbY) ?_); rintro e W3 ⟨rfl, hb3⟩; have hbZ := hbY.trans hb3))
      go_ret
      exact ⟨rfl, hbZ⟩
end Go.Proofs.YtpmmbcobjibpeaaGreatDoor
