
import Derived.Test.YtdggbafpdjenmaaGreatDoorUra
import Derived.Test.YtdggbafpdjenmaaGreatDoorMtd
namespace Go.Proofs.YtdggbafpdjenmaaGreatDoor
set_option linter.unusedSimpArgs false
set_option linter.unusedVariables false
open Go.RowKit Go.Lib
attribute [local go_sem ↓] eql_val neq_val eql_tst neq_tst

theorem tsnd_low {t : Tst} (h : tsnd t = true) : vsnd t.low = true := by
  unfold tsnd at h
  split at h
  · simp at h; exact h.2
  · split at h
    · simp at h; exact h.1.2
    · split at h
      · simp at h; exact h.1.1.1
      · cases h
theorem zv_snd : vsnd zv = true := by decide +kernel
theorem tsnd_high {t : Tst} (h : tsnd t = true) : vsnd t.high = true := by
  unfold tsnd at h
  split at h
  · simp at h
    have := (teq_iff _ _).1 h.1
    rw [this]
    exact zv_snd
  · split at h
    · simp at h
      have := (teq_iff _ _).1 h.1.1
      rw [this]
      exact zv_snd
    · split at h
      · simp at h; exact h.1.1.2
      · cases h
theorem tsnd_kind {t : Tst} (h : tsnd t = true) : 1 ≤ t.kind ∧ t.kind ≤ 6 := by
  unfold tsnd at h
  split at h
  · omega
  · split at h
    · omega
    · split at h
      · omega
      · cases h
/-! Tests: the document's Sound. -/
theorem teq_plain (k : Int) (a b : Val) (x y : Bool) : teq ⟨k, a, b, x, y⟩ ⟨k, a, zv, false, false⟩ = (veq b zv && !x && !y) := by
  rw [Bool.eq_iff_iff, teq_iff]
  simp [veq_iff, and_assoc]
theorem veq_snd {b : Val} (h : veq b zv = true) : vsnd b = true := by rw [(veq_iff _ _).1 h]; exact zv_snd
/-- What the document asks of a test. -/
def rts (t : Tst) : Bool := vsnd t.low && vsnd t.high && decide (1 ≤ t.kind) && decide (t.kind ≤ 6) && (decide (t.kind = 1) || ordk t.low.kind) &&
  (if t.kind = 6 then decide (t.high.kind = t.low.kind) else veq t.high zv && !t.ol && !t.oh)
theorem rts_eq (t : Tst) : rts t = tsnd t := by
  obtain ⟨k, a, b, x, y⟩ := t
  unfold rts tsnd
  simp only [teq_plain]
  by_cases h1 : k = 1
  · subst h1
    simp
    rw [Bool.eq_iff_iff]
    simp
    constructor
    · rintro ⟨⟨h1, h2⟩, h3⟩; exact ⟨h3, h1⟩
    · rintro ⟨h3, h1⟩; exact ⟨⟨h1, veq_snd h3.1.1⟩, h3⟩
  · rw [if_neg h1]
    by_cases h5 : k = 2 ∨ k = 3 ∨ k = 4 ∨ k = 5
    · rw [if_pos h5, if_neg (by omega)]
      have e1 : decide (1 ≤ k) = true := decide_eq_true (by omega)
      have e2 : decide (k ≤ 6) = true := decide_eq_true (by omega)
      have e3 : decide (k = 1) = false := decide_eq_false h1
      rw [e1, e2, e3, Bool.eq_iff_iff]
      simp
      constructor
      · rintro ⟨⟨⟨h1, h2⟩, h4⟩, h3⟩; exact ⟨⟨h3, h1⟩, h4⟩
      · rintro ⟨⟨h3, h1⟩, h4⟩; exact ⟨⟨⟨h1, veq_snd h3.1.1⟩, h4⟩, h3⟩
    · rw [if_neg h5]
      by_cases h6 : k = 6
      · subst h6
        rw [Bool.eq_iff_iff]
        simp
      · rw [if_neg h6]
        by_cases h7 : 1 ≤ k
        · have e2 : decide (k ≤ 6) = false := decide_eq_false (by omega)
          rw [e2]; simp
          exact fun e => absurd e h6
        · have e1 : decide (1 ≤ k) = false := decide_eq_false h7
          rw [e1]; simp
          exact fun e => absurd e h6
set_option maxRecDepth 100000 in
set_option maxHeartbeats 8000000 in
theorem rusound_any (any not : Bool) (l : List Tst) (A : Option Addr) (c : Nat) (w : World) (hs : Tsts w A l) (hl : l.length ≤ 9223372036854775807) (ht : ∀ t ∈ l, TOk t) :
    Calls Tryz.prog 8 #[tsv any not (.slice A l.length c)] w fun e w' => e = .returned (.bool (usnd any not l)) ∧ Bel w w' := by
  have US := Lib.hid (show usnd any not l = if any then !not && decide (l.length = 0) else if l.length = 0 ∨ 8 < l.length then false else l.all tsnd from rfl)
  generalize usnd any not l = R at US ⊢
  have HT := Lib.hid ht
  clear ht
  cases any with
  | true =>
    have hR : R = (!not && decide (l.length = 0)) := US.out.trans (if_pos rfl)
    subst hR
    clear US hs
    by_cases h0 : l.length = 0
    · rw [h0]
      cases not
      all_goals
        go_enter Tryz.func8, Tryz.ntmps8
        go_wp2_with fail
        go_ret
        refine ⟨rfl, ?_⟩
        (repeat (first | with_reducible exact Bel.refl _ | with_reducible refine Bel.setCell ?_ (by first | exact Nat.le_refl _ | (dsimp only; omega)) _ | with_reducible refine Bel.alloc ?_ _ | with_reducible refine Bel.drew ?_ | with_reducible assumption | with_reducible refine Bel.trans ?_ (by assumption)))
    · have e0 : ((l.length : Int) == 0) = false := beq_eq_false_iff_ne.2 (by omega)
      rw [decide_eq_false h0]
      cases not
      all_goals
        go_enter Tryz.func8, Tryz.ntmps8
        go_wp2_with fail
        go_ret
        refine ⟨rfl, ?_⟩
        (repeat (first | with_reducible exact Bel.refl _ | with_reducible refine Bel.setCell ?_ (by first | exact Nat.le_refl _ | (dsimp only; omega)) _ | with_reducible refine Bel.alloc ?_ _ | with_reducible refine Bel.drew ?_ | with_reducible assumption | with_reducible refine Bel.trans ?_ (by assumption)))
  | false =>
    have US := Lib.hid (US.out.trans (if_neg (by simp)))
    by_cases h0 : l.length = 0
    · have hR : R = false := US.out.trans (if_pos (.inl h0))
      subst hR
      rw [h0]
      clear US hs
      go_enter Tryz.func8, Tryz.ntmps8
      go_wp2_with fail
      go_ret
      refine ⟨rfl, ?_⟩
      (repeat (first | with_reducible exact Bel.refl _ | with_reducible refine Bel.setCell ?_ (by first | exact Nat.le_refl _ | (dsimp only; omega)) _ | with_reducible refine Bel.alloc ?_ _ | with_reducible refine Bel.drew ?_ | with_reducible assumption | with_reducible refine Bel.trans ?_ (by assumption)))
    · have e0 : ¬ (l.length : Int) < 1 := by omega
      by_cases h8 : 8 < l.length
      · have hR : R = false := US.out.trans (if_pos (.inr h8))
        subst hR
        have e8 : (8 : Int) < l.length := by omega
        clear US hs
        go_enter Tryz.func8, Tryz.ntmps8
        go_wp2_with fail
        go_ret
        refine ⟨rfl, ?_⟩
        (repeat (first | with_reducible exact Bel.refl _ | with_reducible refine Bel.setCell ?_ (by first | exact Nat.le_refl _ | (dsimp only; omega)) _ | with_reducible refine Bel.alloc ?_ _ | with_reducible refine Bel.drew ?_ | with_reducible assumption | with_reducible refine Bel.trans ?_ (by assumption)))
      · have hR : R = l.all tsnd := US.out.trans (if_neg (by omega))
        have e8 : ¬ (8 : Int) < l.length := by omega
        have RR := Lib.hid hR
        obtain ⟨b, off, rfl, hlt, hat⟩ := hs (by omega)
        clear US hs hR
        go_enter Tryz.func8, Tryz.ntmps8
        go_wp2_with fail
        refine under_name ((Bel.refl w).alloc _) fun W hc hf hz hbW => ?_
        have z0 : W.cell? ⟨w.heap.size, 0, none⟩ = some (.bool false) := by simp [hc, go_sem]
        have z1 : W.cell? ⟨w.heap.size, 1, none⟩ = some (.bool not) := by simp [hc, go_sem]
        have z2 : W.cell? ⟨w.heap.size, 2, none⟩ = some (.slice (some ⟨b, off, none⟩) l.length c) := by simp [hc, go_sem]
        have hltW : w.heap.size < W.heap.size := by rw [hz]; simp
        clear hc hf hz
        have BB := Lib.hid hlt
        generalize w.heap.size = B at z0 z1 z2 hltW ⊢
        go_loopg [3] l.length (fun g i wr => ∃ kk : Nat, i = .int .i64 kk ∧ kk ≤ l.length ∧ Hid ((l.take kk).all tsnd = true ∧ g = l.length - kk) ∧ Bel W wr)
        case atStart => exact ⟨0, rfl, Nat.zero_le _, ⟨rfl, rfl⟩, Bel.refl _⟩
        case round =>
          obtain ⟨kk, rfl, hk, hh, hb⟩ := hrel
          have g2 := (hb.cells B 2 hltW).trans z2
          have hBr := Nat.lt_of_lt_of_le hltW hb.size
          clear z0 z1
          by_cases hp : kk < l.length
          · obtain ⟨t, htk⟩ : ∃ t, l[kk]? = some t := ⟨_, List.getElem?_eq_getElem hp⟩
            have hmem : t ∈ l := List.mem_of_getElem? htk
            have ha := (hat kk t htk).keep (hbW.trans hb) hlt
            have hlb := Nat.lt_of_lt_of_le hlt (hbW.trans hb).size
            have i1 : (kk : Int) < l.length := by omega
            have c1 := fun w => rvsound_any t.low (HT.out t hmem).1 w
            have c2 := fun w => rvsound_any t.high (HT.out t hmem).2 w
            have HF := Lib.hid (show tsnd t = false → R = false from fun h => by
              rw [RR.out]
              cases hq : l.all tsnd with
              | false => rfl
              | true => rw [List.all_eq_true] at hq; rw [hq t hmem] at h; cases h)
            have HC := Lib.hid (show tsnd t = true → (l.take (kk + 1)).all tsnd = true from fun h => by
              rw [List.take_add_one, htk, List.all_append, hh.out.1]; simp [h])
            have TE := Lib.hid (show tsnd t = (vsnd t.low && vsnd t.high && decide (1 ≤ t.kind) && decide (t.kind ≤ 6) && (decide (t.kind = 1) || (decide (t.low.kind = 1) || decide (t.low.kind = 4))) && (if t.kind = 6 then decide (t.high.kind = t.low.kind) else veq t.high zv && !t.ol && !t.oh)) from (rts_eq t).symm)
            clear hat htk hmem g2
            have g2 := (hb.cells B 2 hltW).trans z2
            generalize tsnd t = T at TE HF HC
            obtain ⟨k, ⟨a0, a1, a2, a3, a4⟩, ⟨b0, b1, b2, b3, b4⟩, x, y⟩ := t
            simp only [zv] at c1 c2 TE
            generalize vsnd ⟨a0, a1, a2, a3, a4⟩ = q1 at c1 TE
            generalize vsnd ⟨b0, b1, b2, b3, b4⟩ = q2 at c2 TE
            have C1 := Lib.hid c1
            have C2 := Lib.hid c2
            obtain ⟨s0, s1, s2, s3, s4, s5, s6, s7, s8, s9, s10, s11, s12⟩ := ha
            simp only at s0 s1 s2 s3 s4 s5 s6 s7 s8 s9 s10 s11 s12
            clear c1 c2
            obtain ⟨x1, hx1⟩ : ∃ x1, x1 = decide (a0 = 1) := ⟨_, rfl⟩
            obtain ⟨x4, hx4⟩ : ∃ x4, x4 = decide (a0 = 4) := ⟨_, rfl⟩
            rw [← hx1, ← hx4] at TE
            have e1 : (a0 == 1) = x1 := by rw [hx1]; rfl
            have e4 : (a0 == 4) = x4 := by rw [hx4]; rfl
            obtain ⟨h6, hh6⟩ : ∃ h6, h6 = decide (b0 = a0) := ⟨_, rfl⟩
            rw [← hh6] at TE
            have e6 : (b0 == a0) = h6 := by rw [hh6]; rfl
            clear hx1 hx4 hh6
            generalize hz : veq ⟨b0, b1, b2, b3, b4⟩ ⟨0, 0, 0, ⟨#[]⟩, 0⟩ = z at TE
            by_cases hk1 : k < 1
            · replace TE := Lib.hid (TE.out.trans (by rw [decide_eq_false (show ¬ 1 ≤ k by omega)]; simp : _ = false))
              cases q1 with
              | false =>
                cases x1 with
                | true =>
                  obtain rfl : R = false := HF.out TE.out
                  clear TE HF HC
                  go_wp2_with (first
                    | (go_at_call 14; with_reducible refine Calls.mono (C1.out _) ?_; rintro e W1 ⟨rfl, hb1⟩; have hc1 := hb1.cells; have hz1 := hb1.lt1)
                    | (go_at_call 14; with_reducible refine Calls.mono (C2.out _) ?_; rintro e W2 ⟨rfl, hb2⟩; have hc2 := hb2.cells; have hz2 := hb2.size))
                  go_ret
                  refine ⟨rfl, ?_⟩
                  have hbw := hbW.trans hb
                  (repeat (first | with_reducible exact Bel.refl _ | with_reducible refine Bel.setCell ?_ (by first | exact Nat.le_refl _ | (dsimp only; omega)) _ | with_reducible refine Bel.alloc ?_ _ | with_reducible refine Bel.drew ?_ | with_reducible assumption | with_reducible refine Bel.trans ?_ (by assumption)))
                | false =>
                  cases x4
                  all_goals
                    obtain rfl : R = false := HF.out TE.out
                    clear TE HF HC
                    go_wp2_with (first
                      | (go_at_call 14; with_reducible refine Calls.mono (C1.out _) ?_; rintro e W1 ⟨rfl, hb1⟩; have hc1 := hb1.cells; have hz1 := hb1.lt1)
                      | (go_at_call 14; with_reducible refine Calls.mono (C2.out _) ?_; rintro e W2 ⟨rfl, hb2⟩; have hc2 := hb2.cells; have hz2 := hb2.size))
                    go_ret
                    refine ⟨rfl, ?_⟩
                    have hbw := hbW.trans hb
                    (repeat (first | with_reducible exact Bel.refl _ | with_reducible refine Bel.setCell ?_ (by first | exact Nat.le_refl _ | (dsimp only; omega)) _ | with_reducible refine Bel.alloc ?_ _ | with_reducible refine Bel.drew ?_ | with_reducible assumption | with_reducible refine Bel.trans ?_ (by assumption)))
              | true =>
                cases q2
                all_goals
                  cases x1 with
                  | true =>
                    obtain rfl : R = false := HF.out TE.out
                    clear TE HF HC
                    go_wp2_with (first
                      | (go_at_call 14; with_reducible refine Calls.mono (C1.out _) ?_; rintro e W1 ⟨rfl, hb1⟩; have hc1 := hb1.cells; have hz1 := hb1.lt1)
                      | (go_at_call 14; with_reducible refine Calls.mono (C2.out _) ?_; rintro e W2 ⟨rfl, hb2⟩; have hc2 := hb2.cells; have hz2 := hb2.size))
                    go_ret
                    refine ⟨rfl, ?_⟩
                    have hbw := hbW.trans hb
                    (repeat (first | with_reducible exact Bel.refl _ | with_reducible refine Bel.setCell ?_ (by first | exact Nat.le_refl _ | (dsimp only; omega)) _ | with_reducible refine Bel.alloc ?_ _ | with_reducible refine Bel.drew ?_ | with_reducible assumption | with_reducible refine Bel.trans ?_ (by assumption)))
                  | false =>
                    cases x4
                    all_goals
                      obtain rfl : R = false := HF.out TE.out
                      clear TE HF HC
                      go_wp2_with (first
                        | (go_at_call 14; with_reducible refine Calls.mono (C1.out _) ?_; rintro e W1 ⟨rfl, hb1⟩; have hc1 := hb1.cells; have hz1 := hb1.lt1)
                        | (go_at_call 14; with_reducible refine Calls.mono (C2.out _) ?_; rintro e W2 ⟨rfl, hb2⟩; have hc2 := hb2.cells; have hz2 := hb2.size))
                      go_ret
                      refine ⟨rfl, ?_⟩
                      have hbw := hbW.trans hb
                      (repeat (first | with_reducible exact Bel.refl _ | with_reducible refine Bel.setCell ?_ (by first | exact Nat.le_refl _ | (dsimp only; omega)) _ | with_reducible refine Bel.alloc ?_ _ | with_reducible refine Bel.drew ?_ | with_reducible assumption | with_reducible refine Bel.trans ?_ (by assumption)))
            · by_cases hk6 : 6 < k
              · replace TE := Lib.hid (TE.out.trans (by rw [decide_eq_false (show ¬ k ≤ 6 by omega)]; simp : _ = false))
                cases q1 with
                | false =>
                  cases x1 with
                  | true =>
                    obtain rfl : R = false := HF.out TE.out
                    clear TE HF HC
                    go_wp2_with (first
                      | (go_at_call 14; with_reducible refine Calls.mono (C1.out _) ?_; rintro e W1 ⟨rfl, hb1⟩; have hc1 := hb1.cells; have hz1 := hb1.lt1)
                      | (go_at_call 14; with_reducible refine Calls.mono (C2.out _) ?_; rintro e W2 ⟨rfl, hb2⟩; have hc2 := hb2.cells; have hz2 := hb2.size))
                    go_ret
                    refine ⟨rfl, ?_⟩
                    have hbw := hbW.trans hb
                    (repeat (first | with_reducible exact Bel.refl _ | with_reducible refine Bel.setCell ?_ (by first | exact Nat.le_refl _ | (dsimp only; omega)) _ | with_reducible refine Bel.alloc ?_ _ | with_reducible refine Bel.drew ?_ | with_reducible assumption | with_reducible refine Bel.trans ?_ (by assumption)))
                  | false =>
                    cases x4
                    all_goals
                      obtain rfl : R = false := HF.out TE.out
                      clear TE HF HC
                      go_wp2_with (first
                        | (go_at_call 14; with_reducible refine Calls.mono (C1.out _) ?_; rintro e W1 ⟨rfl, hb1⟩; have hc1 := hb1.cells; have hz1 := hb1.lt1)
                        | (go_at_call 14; with_reducible refine Calls.mono (C2.out _) ?_; rintro e W2 ⟨rfl, hb2⟩; have hc2 := hb2.cells; have hz2 := hb2.size))
                      go_ret
                      refine ⟨rfl, ?_⟩
                      have hbw := hbW.trans hb
                      (repeat (first | with_reducible exact Bel.refl _ | with_reducible refine Bel.setCell ?_ (by first | exact Nat.le_refl _ | (dsimp only; omega)) _ | with_reducible refine Bel.alloc ?_ _ | with_reducible refine Bel.drew ?_ | with_reducible assumption | with_reducible refine Bel.trans ?_ (by assumption)))
                | true =>
                  cases q2
                  all_goals
                    cases x1 with
                    | true =>
                      obtain rfl : R = false := HF.out TE.out
                      clear TE HF HC
                      go_wp2_with (first
                        | (go_at_call 14; with_reducible refine Calls.mono (C1.out _) ?_; rintro e W1 ⟨rfl, hb1⟩; have hc1 := hb1.cells; have hz1 := hb1.lt1)
                        | (go_at_call 14; with_reducible refine Calls.mono (C2.out _) ?_; rintro e W2 ⟨rfl, hb2⟩; have hc2 := hb2.cells; have hz2 := hb2.size))
                      go_ret
                      refine ⟨rfl, ?_⟩
                      have hbw := hbW.trans hb
                      (repeat (first | with_reducible exact Bel.refl _ | with_reducible refine Bel.setCell ?_ (by first | exact Nat.le_refl _ | (dsimp only; omega)) _ | with_reducible refine Bel.alloc ?_ _ | with_reducible refine Bel.drew ?_ | with_reducible assumption | with_reducible refine Bel.trans ?_ (by assumption)))
                    | false =>
                      cases x4
                      all_goals
                        obtain rfl : R = false := HF.out TE.out
                        clear TE HF HC
                        go_wp2_with (first
                          | (go_at_call 14; with_reducible refine Calls.mono (C1.out _) ?_; rintro e W1 ⟨rfl, hb1⟩; have hc1 := hb1.cells; have hz1 := hb1.lt1)
                          | (go_at_call 14; with_reducible refine Calls.mono (C2.out _) ?_; rintro e W2 ⟨rfl, hb2⟩; have hc2 := hb2.cells; have hz2 := hb2.size))
                        go_ret
                        refine ⟨rfl, ?_⟩
                        have hbw := hbW.trans hb
                        (repeat (first | with_reducible exact Bel.refl _ | with_reducible refine Bel.setCell ?_ (by first | exact Nat.le_refl _ | (dsimp only; omega)) _ | with_reducible refine Bel.alloc ?_ _ | with_reducible refine Bel.drew ?_ | with_reducible assumption | with_reducible refine Bel.trans ?_ (by assumption)))
              · have d1 : decide (1 ≤ k) = true := decide_eq_true (by omega)
                have d2 : decide (k ≤ 6) = true := decide_eq_true (by omega)
                replace TE := Lib.hid (TE.out.trans (by rw [d1, d2] : _ = (q1 && q2 && true && true && (decide (k = 1) || (x1 || x4)) && (if k = 6 then h6 else z && !x && !y))))
                clear d1 d2
                cases q1 with
                | false =>
                  cases x1 with
                  | true =>
                    replace TE := Lib.hid (TE.out.trans (by simp : _ = false))
                    obtain rfl : R = false := HF.out TE.out
                    clear TE HF HC
                    go_wp2_with (first
                      | (go_at_call 14; with_reducible refine Calls.mono (C1.out _) ?_; rintro e W1 ⟨rfl, hb1⟩; have hc1 := hb1.cells; have hz1 := hb1.lt1)
                      | (go_at_call 14; with_reducible refine Calls.mono (C2.out _) ?_; rintro e W2 ⟨rfl, hb2⟩; have hc2 := hb2.cells; have hz2 := hb2.size))
                    go_ret
                    refine ⟨rfl, ?_⟩
                    have hbw := hbW.trans hb
                    (repeat (first | with_reducible exact Bel.refl _ | with_reducible refine Bel.setCell ?_ (by first | exact Nat.le_refl _ | (dsimp only; omega)) _ | with_reducible refine Bel.alloc ?_ _ | with_reducible refine Bel.drew ?_ | with_reducible assumption | with_reducible refine Bel.trans ?_ (by assumption)))
                  | false =>
                    cases x4
                    all_goals
                      replace TE := Lib.hid (TE.out.trans (by simp : _ = false))
                      obtain rfl : R = false := HF.out TE.out
                      clear TE HF HC
                      go_wp2_with (first
                        | (go_at_call 14; with_reducible refine Calls.mono (C1.out _) ?_; rintro e W1 ⟨rfl, hb1⟩; have hc1 := hb1.cells; have hz1 := hb1.lt1)
                        | (go_at_call 14; with_reducible refine Calls.mono (C2.out _) ?_; rintro e W2 ⟨rfl, hb2⟩; have hc2 := hb2.cells; have hz2 := hb2.size))
                      go_ret
                      refine ⟨rfl, ?_⟩
                      have hbw := hbW.trans hb
                      (repeat (first | with_reducible exact Bel.refl _ | with_reducible refine Bel.setCell ?_ (by first | exact Nat.le_refl _ | (dsimp only; omega)) _ | with_reducible refine Bel.alloc ?_ _ | with_reducible refine Bel.drew ?_ | with_reducible assumption | with_reducible refine Bel.trans ?_ (by assumption)))
                | true =>
                  cases q2 with
                  | false =>
                    cases x1 with
                    | true =>
                      replace TE := Lib.hid (TE.out.trans (by simp : _ = false))
                      obtain rfl : R = false := HF.out TE.out
                      clear TE HF HC
                      go_wp2_with (first
                        | (go_at_call 14; with_reducible refine Calls.mono (C1.out _) ?_; rintro e W1 ⟨rfl, hb1⟩; have hc1 := hb1.cells; have hz1 := hb1.lt1)
                        | (go_at_call 14; with_reducible refine Calls.mono (C2.out _) ?_; rintro e W2 ⟨rfl, hb2⟩; have hc2 := hb2.cells; have hz2 := hb2.size))
                      go_ret
                      refine ⟨rfl, ?_⟩
                      have hbw := hbW.trans hb
                      (repeat (first | with_reducible exact Bel.refl _ | with_reducible refine Bel.setCell ?_ (by first | exact Nat.le_refl _ | (dsimp only; omega)) _ | with_reducible refine Bel.alloc ?_ _ | with_reducible refine Bel.drew ?_ | with_reducible assumption | with_reducible refine Bel.trans ?_ (by assumption)))
                    | false =>
                      cases x4
                      all_goals
                        replace TE := Lib.hid (TE.out.trans (by simp : _ = false))
                        obtain rfl : R = false := HF.out TE.out
                        clear TE HF HC
                        go_wp2_with (first
                          | (go_at_call 14; with_reducible refine Calls.mono (C1.out _) ?_; rintro e W1 ⟨rfl, hb1⟩; have hc1 := hb1.cells; have hz1 := hb1.lt1)
                          | (go_at_call 14; with_reducible refine Calls.mono (C2.out _) ?_; rintro e W2 ⟨rfl, hb2⟩; have hc2 := hb2.cells; have hz2 := hb2.size))
                        go_ret
                        refine ⟨rfl, ?_⟩
                        have hbw := hbW.trans hb
                        (repeat (first | with_reducible exact Bel.refl _ | with_reducible refine Bel.setCell ?_ (by first | exact Nat.le_refl _ | (dsimp only; omega)) _ | with_reducible refine Bel.alloc ?_ _ | with_reducible refine Bel.drew ?_ | with_reducible assumption | with_reducible refine Bel.trans ?_ (by assumption)))
                  | true =>
                    by_cases k1 : k = 1
                    · subst k1
                      cases x1 with
                      | true =>
                        cases z with
                        | false =>
                          replace TE := Lib.hid (TE.out.trans (by simp : _ = false))
                          obtain rfl : R = false := HF.out TE.out
                          clear TE HF HC
                          go_wp2_with (first
                            | (go_at_call 14; with_reducible refine Calls.mono (C1.out _) ?_; rintro e W1 ⟨rfl, hb1⟩; have hc1 := hb1.cells; have hz1 := hb1.lt1)
                            | (go_at_call 14; with_reducible refine Calls.mono (C2.out _) ?_; rintro e W2 ⟨rfl, hb2⟩; have hc2 := hb2.cells; have hz2 := hb2.size))
                          go_ret
                          refine ⟨rfl, ?_⟩
                          have hbw := hbW.trans hb
                          (repeat (first | with_reducible exact Bel.refl _ | with_reducible refine Bel.setCell ?_ (by first | exact Nat.le_refl _ | (dsimp only; omega)) _ | with_reducible refine Bel.alloc ?_ _ | with_reducible refine Bel.drew ?_ | with_reducible assumption | with_reducible refine Bel.trans ?_ (by assumption)))
                        | true =>
                          cases x with
                          | true =>
                            replace TE := Lib.hid (TE.out.trans (by simp : _ = false))
                            obtain rfl : R = false := HF.out TE.out
                            clear TE HF HC
                            go_wp2_with (first
                              | (go_at_call 14; with_reducible refine Calls.mono (C1.out _) ?_; rintro e W1 ⟨rfl, hb1⟩; have hc1 := hb1.cells; have hz1 := hb1.lt1)
                              | (go_at_call 14; with_reducible refine Calls.mono (C2.out _) ?_; rintro e W2 ⟨rfl, hb2⟩; have hc2 := hb2.cells; have hz2 := hb2.size))
                            go_ret
                            refine ⟨rfl, ?_⟩
                            have hbw := hbW.trans hb
                            (repeat (first | with_reducible exact Bel.refl _ | with_reducible refine Bel.setCell ?_ (by first | exact Nat.le_refl _ | (dsimp only; omega)) _ | with_reducible refine Bel.alloc ?_ _ | with_reducible refine Bel.drew ?_ | with_reducible assumption | with_reducible refine Bel.trans ?_ (by assumption)))
                          | false =>
                            cases y with
                            | true =>
                              replace TE := Lib.hid (TE.out.trans (by simp : _ = false))
                              obtain rfl : R = false := HF.out TE.out
                              clear TE HF HC
                              go_wp2_with (first
                                | (go_at_call 14; with_reducible refine Calls.mono (C1.out _) ?_; rintro e W1 ⟨rfl, hb1⟩; have hc1 := hb1.cells; have hz1 := hb1.lt1)
                                | (go_at_call 14; with_reducible refine Calls.mono (C2.out _) ?_; rintro e W2 ⟨rfl, hb2⟩; have hc2 := hb2.cells; have hz2 := hb2.size))
                              go_ret
                              refine ⟨rfl, ?_⟩
                              have hbw := hbW.trans hb
                              (repeat (first | with_reducible exact Bel.refl _ | with_reducible refine Bel.setCell ?_ (by first | exact Nat.le_refl _ | (dsimp only; omega)) _ | with_reducible refine Bel.alloc ?_ _ | with_reducible refine Bel.drew ?_ | with_reducible assumption | with_reducible refine Bel.trans ?_ (by assumption)))
                            | false =>
                              replace TE := Lib.hid (TE.out.trans (by simp : _ = true))
                              have J := Lib.hid (HC.out TE.out)
                              clear TE HF HC
                              go_wp2_with (first
                                | (go_at_call 14; with_reducible refine Calls.mono (C1.out _) ?_; rintro e W1 ⟨rfl, hb1⟩; have hc1 := hb1.cells; have hz1 := hb1.lt1)
                                | (go_at_call 14; with_reducible refine Calls.mono (C2.out _) ?_; rintro e W2 ⟨rfl, hb2⟩; have hc2 := hb2.cells; have hz2 := hb2.size))
                              go_roundg (l.length - (kk + 1))
                              case measure => have := hh.out.2; omega
                              case rel =>
                                refine ⟨kk + 1, by go_num, by omega, ⟨J.out, rfl⟩, ?_⟩
                                (repeat (first | with_reducible exact Bel.refl _ | with_reducible refine Bel.setCell ?_ (by first | exact Nat.le_refl _ | (dsimp only; omega)) _ | with_reducible refine Bel.alloc ?_ _ | with_reducible refine Bel.drew ?_ | with_reducible assumption | with_reducible refine Bel.trans ?_ (by assumption)))
                      | false =>
                        cases x4 with
                        | true =>
                          cases z with
                          | false =>
                            replace TE := Lib.hid (TE.out.trans (by simp : _ = false))
                            obtain rfl : R = false := HF.out TE.out
                            clear TE HF HC
                            go_wp2_with (first
                              | (go_at_call 14; with_reducible refine Calls.mono (C1.out _) ?_; rintro e W1 ⟨rfl, hb1⟩; have hc1 := hb1.cells; have hz1 := hb1.lt1)
                              | (go_at_call 14; with_reducible refine Calls.mono (C2.out _) ?_; rintro e W2 ⟨rfl, hb2⟩; have hc2 := hb2.cells; have hz2 := hb2.size))
                            go_ret
                            refine ⟨rfl, ?_⟩
                            have hbw := hbW.trans hb
                            (repeat (first | with_reducible exact Bel.refl _ | with_reducible refine Bel.setCell ?_ (by first | exact Nat.le_refl _ | (dsimp only; omega)) _ | with_reducible refine Bel.alloc ?_ _ | with_reducible refine Bel.drew ?_ | with_reducible assumption | with_reducible refine Bel.trans ?_ (by assumption)))
                          | true =>
                            cases x with
                            | true =>
                              replace TE := Lib.hid (TE.out.trans (by simp : _ = false))
                              obtain rfl : R = false := HF.out TE.out
                              clear TE HF HC
                              go_wp2_with (first
                                | (go_at_call 14; with_reducible refine Calls.mono (C1.out _) ?_; rintro e W1 ⟨rfl, hb1⟩; have hc1 := hb1.cells; have hz1 := hb1.lt1)
                                | (go_at_call 14; with_reducible refine Calls.mono (C2.out _) ?_; rintro e W2 ⟨rfl, hb2⟩; have hc2 := hb2.cells; have hz2 := hb2.size))
                              go_ret
                              refine ⟨rfl, ?_⟩
                              have hbw := hbW.trans hb
                              (repeat (first | with_reducible exact Bel.refl _ | with_reducible refine Bel.setCell ?_ (by first | exact Nat.le_refl _ | (dsimp only; omega)) _ | with_reducible refine Bel.alloc ?_ _ | with_reducible refine Bel.drew ?_ | with_reducible assumption | with_reducible refine Bel.trans ?_ (by assumption)))
                            | false =>
                              cases y with
                              | true =>
                                replace TE := Lib.hid (TE.out.trans (by simp : _ = false))
                                obtain rfl : R = false := HF.out TE.out
                                clear TE HF HC
                                go_wp2_with (first
                                  | (go_at_call 14; with_reducible refine Calls.mono (C1.out _) ?_; rintro e W1 ⟨rfl, hb1⟩; have hc1 := hb1.cells; have hz1 := hb1.lt1)
                                  | (go_at_call 14; with_reducible refine Calls.mono (C2.out _) ?_; rintro e W2 ⟨rfl, hb2⟩; have hc2 := hb2.cells; have hz2 := hb2.size))
                                go_ret
                                refine ⟨rfl, ?_⟩
                                have hbw := hbW.trans hb
                                (repeat (first | with_reducible exact Bel.refl _ | with_reducible refine Bel.setCell ?_ (by first | exact Nat.le_refl _ | (dsimp only; omega)) _ | with_reducible refine Bel.alloc ?_ _ | with_reducible refine Bel.drew ?_ | with_reducible assumption | with_reducible refine Bel.trans ?_ (by assumption)))
                              | false =>
                                replace TE := Lib.hid (TE.out.trans (by simp : _ = true))
                                have J := Lib.hid (HC.out TE.out)
                                clear TE HF HC
                                go_wp2_with (first
                                  | (go_at_call 14; with_reducible refine Calls.mono (C1.out _) ?_; rintro e W1 ⟨rfl, hb1⟩; have hc1 := hb1.cells; have hz1 := hb1.lt1)
                                  | (go_at_call 14; with_reducible refine Calls.mono (C2.out _) ?_; rintro e W2 ⟨rfl, hb2⟩; have hc2 := hb2.cells; have hz2 := hb2.size))
                                go_roundg (l.length - (kk + 1))
                                case measure => have := hh.out.2; omega
                                case rel =>
                                  refine ⟨kk + 1, by go_num, by omega, ⟨J.out, rfl⟩, ?_⟩
                                  (repeat (first | with_reducible exact Bel.refl _ | with_reducible refine Bel.setCell ?_ (by first | exact Nat.le_refl _ | (dsimp only; omega)) _ | with_reducible refine Bel.alloc ?_ _ | with_reducible refine Bel.drew ?_ | with_reducible assumption | with_reducible refine Bel.trans ?_ (by assumption)))
                        | false =>
                          cases z with
                          | false =>
                            replace TE := Lib.hid (TE.out.trans (by simp : _ = false))
                            obtain rfl : R = false := HF.out TE.out
                            clear TE HF HC
                            go_wp2_with (first
                              | (go_at_call 14; with_reducible refine Calls.mono (C1.out _) ?_; rintro e W1 ⟨rfl, hb1⟩; have hc1 := hb1.cells; have hz1 := hb1.lt1)
                              | (go_at_call 14; with_reducible refine Calls.mono (C2.out _) ?_; rintro e W2 ⟨rfl, hb2⟩; have hc2 := hb2.cells; have hz2 := hb2.size))
                            go_ret
                            refine ⟨rfl, ?_⟩
                            have hbw := hbW.trans hb
                            (repeat (first | with_reducible exact Bel.refl _ | with_reducible refine Bel.setCell ?_ (by first | exact Nat.le_refl _ | (dsimp only; omega)) _ | with_reducible refine Bel.alloc ?_ _ | with_reducible refine Bel.drew ?_ | with_reducible assumption | with_reducible refine Bel.trans ?_ (by assumption)))
                          | true =>
                            cases x with
                            | true =>
                              replace TE := Lib.hid (TE.out.trans (by simp : _ = false))
                              obtain rfl : R = false := HF.out TE.out
                              clear TE HF HC
                              go_wp2_with (first
                                | (go_at_call 14; with_reducible refine Calls.mono (C1.out _) ?_; rintro e W1 ⟨rfl, hb1⟩; have hc1 := hb1.cells; have hz1 := hb1.lt1)
                                | (go_at_call 14; with_reducible refine Calls.mono (C2.out _) ?_; rintro e W2 ⟨rfl, hb2⟩; have hc2 := hb2.cells; have hz2 := hb2.size))
                              go_ret
                              refine ⟨rfl, ?_⟩
                              have hbw := hbW.trans hb
                              (repeat (first | with_reducible exact Bel.refl _ | with_reducible refine Bel.setCell ?_ (by first | exact Nat.le_refl _ | (dsimp only; omega)) _ | with_reducible refine Bel.alloc ?_ _ | with_reducible refine Bel.drew ?_ | with_reducible assumption | with_reducible refine Bel.trans ?_ (by assumption)))
                            | false =>
                              cases y with
                              | true =>
                                replace TE := Lib.hid (TE.out.trans (by simp : _ = false))
                                obtain rfl : R = false := HF.out TE.out
                                clear TE HF HC
                                go_wp2_with (first
                                  | (go_at_call 14; with_reducible refine Calls.mono (C1.out _) ?_; rintro e W1 ⟨rfl, hb1⟩; have hc1 := hb1.cells; have hz1 := hb1.lt1)
                                  | (go_at_call 14; with_reducible refine Calls.mono (C2.out _) ?_; rintro e W2 ⟨rfl, hb2⟩; have hc2 := hb2.cells; have hz2 := hb2.size))
                                go_ret
                                refine ⟨rfl, ?_⟩
                                have hbw := hbW.trans hb
                                (repeat (first | with_reducible exact Bel.refl _ | with_reducible refine Bel.setCell ?_ (by first | exact Nat.le_refl _ | (dsimp only; omega)) _ | with_reducible refine Bel.alloc ?_ _ | with_reducible refine Bel.drew ?_ | with_reducible assumption | with_reducible refine Bel.trans ?_ (by assumption)))
                              | false =>
                                replace TE := Lib.hid (TE.out.trans (by simp : _ = true))
                                have J := Lib.hid (HC.out TE.out)
                                clear TE HF HC
                                go_wp2_with (first
                                  | (go_at_call 14; with_reducible refine Calls.mono (C1.out _) ?_; rintro e W1 ⟨rfl, hb1⟩; have hc1 := hb1.cells; have hz1 := hb1.lt1)
                                  | (go_at_call 14; with_reducible refine Calls.mono (C2.out _) ?_; rintro e W2 ⟨rfl, hb2⟩; have hc2 := hb2.cells; have hz2 := hb2.size))
                                go_roundg (l.length - (kk + 1))
                                case measure => have := hh.out.2; omega
                                case rel =>
                                  refine ⟨kk + 1, by go_num, by omega, ⟨J.out, rfl⟩, ?_⟩
                                  (repeat (first | with_reducible exact Bel.refl _ | with_reducible refine Bel.setCell ?_ (by first | exact Nat.le_refl _ | (dsimp only; omega)) _ | with_reducible refine Bel.alloc ?_ _ | with_reducible refine Bel.drew ?_ | with_reducible assumption | with_reducible refine Bel.trans ?_ (by assumption)))
                    · have n1 : (k == 1) = false := beq_eq_false_iff_ne.2 k1
                      have n1b : (k != 1) = true := bne_iff_ne.2 k1
                      have d3 : decide (k = 1) = false := decide_eq_false k1
                      by_cases k6 : k = 6
                      · subst k6
                        cases x1 with
                        | true =>
                          cases h6 with
                          | true =>
                            replace TE := Lib.hid (TE.out.trans (by simp : _ = true))
                            have J := Lib.hid (HC.out TE.out)
                            clear TE HF HC
                            go_wp2_with (first
                              | (go_at_call 14; with_reducible refine Calls.mono (C1.out _) ?_; rintro e W1 ⟨rfl, hb1⟩; have hc1 := hb1.cells; have hz1 := hb1.lt1)
                              | (go_at_call 14; with_reducible refine Calls.mono (C2.out _) ?_; rintro e W2 ⟨rfl, hb2⟩; have hc2 := hb2.cells; have hz2 := hb2.size))
                            go_roundg (l.length - (kk + 1))
                            case measure => have := hh.out.2; omega
                            case rel =>
                              refine ⟨kk + 1, by go_num, by omega, ⟨J.out, rfl⟩, ?_⟩
                              (repeat (first | with_reducible exact Bel.refl _ | with_reducible refine Bel.setCell ?_ (by first | exact Nat.le_refl _ | (dsimp only; omega)) _ | with_reducible refine Bel.alloc ?_ _ | with_reducible refine Bel.drew ?_ | with_reducible assumption | with_reducible refine Bel.trans ?_ (by assumption)))
                          | false =>
                            replace TE := Lib.hid (TE.out.trans (by simp : _ = false))
                            obtain rfl : R = false := HF.out TE.out
                            clear TE HF HC
                            go_wp2_with (first
                              | (go_at_call 14; with_reducible refine Calls.mono (C1.out _) ?_; rintro e W1 ⟨rfl, hb1⟩; have hc1 := hb1.cells; have hz1 := hb1.lt1)
                              | (go_at_call 14; with_reducible refine Calls.mono (C2.out _) ?_; rintro e W2 ⟨rfl, hb2⟩; have hc2 := hb2.cells; have hz2 := hb2.size))
                            go_ret
                            refine ⟨rfl, ?_⟩
                            have hbw := hbW.trans hb
                            (repeat (first | with_reducible exact Bel.refl _ | with_reducible refine Bel.setCell ?_ (by first | exact Nat.le_refl _ | (dsimp only; omega)) _ | with_reducible refine Bel.alloc ?_ _ | with_reducible refine Bel.drew ?_ | with_reducible assumption | with_reducible refine Bel.trans ?_ (by assumption)))
                        | false =>
                          cases x4 with
                          | false =>
                            replace TE := Lib.hid (TE.out.trans (by simp : _ = false))
                            obtain rfl : R = false := HF.out TE.out
                            clear TE HF HC
                            go_wp2_with (first
                              | (go_at_call 14; with_reducible refine Calls.mono (C1.out _) ?_; rintro e W1 ⟨rfl, hb1⟩; have hc1 := hb1.cells; have hz1 := hb1.lt1)
                              | (go_at_call 14; with_reducible refine Calls.mono (C2.out _) ?_; rintro e W2 ⟨rfl, hb2⟩; have hc2 := hb2.cells; have hz2 := hb2.size))
                            go_ret
                            refine ⟨rfl, ?_⟩
                            have hbw := hbW.trans hb
                            (repeat (first | with_reducible exact Bel.refl _ | with_reducible refine Bel.setCell ?_ (by first | exact Nat.le_refl _ | (dsimp only; omega)) _ | with_reducible refine Bel.alloc ?_ _ | with_reducible refine Bel.drew ?_ | with_reducible assumption | with_reducible refine Bel.trans ?_ (by assumption)))
                          | true =>
                            cases h6 with
                            | true =>
                              replace TE := Lib.hid (TE.out.trans (by simp : _ = true))
                              have J := Lib.hid (HC.out TE.out)
                              clear TE HF HC
                              go_wp2_with (first
                                | (go_at_call 14; with_reducible refine Calls.mono (C1.out _) ?_; rintro e W1 ⟨rfl, hb1⟩; have hc1 := hb1.cells; have hz1 := hb1.lt1)
                                | (go_at_call 14; with_reducible refine Calls.mono (C2.out _) ?_; rintro e W2 ⟨rfl, hb2⟩; have hc2 := hb2.cells; have hz2 := hb2.size))
                              go_roundg (l.length - (kk + 1))
                              case measure => have := hh.out.2; omega
                              case rel =>
                                refine ⟨kk + 1, by go_num, by omega, ⟨J.out, rfl⟩, ?_⟩
                                (repeat (first | with_reducible exact Bel.refl _ | with_reducible refine Bel.setCell ?_ (by first | exact Nat.le_refl _ | (dsimp only; omega)) _ | with_reducible refine Bel.alloc ?_ _ | with_reducible refine Bel.drew ?_ | with_reducible assumption | with_reducible refine Bel.trans ?_ (by assumption)))
                            | false =>
                              replace TE := Lib.hid (TE.out.trans (by simp : _ = false))
                              obtain rfl : R = false := HF.out TE.out
                              clear TE HF HC
                              go_wp2_with (first
                                | (go_at_call 14; with_reducible refine Calls.mono (C1.out _) ?_; rintro e W1 ⟨rfl, hb1⟩; have hc1 := hb1.cells; have hz1 := hb1.lt1)
                                | (go_at_call 14; with_reducible refine Calls.mono (C2.out _) ?_; rintro e W2 ⟨rfl, hb2⟩; have hc2 := hb2.cells; have hz2 := hb2.size))
                              go_ret
                              refine ⟨rfl, ?_⟩
                              have hbw := hbW.trans hb
                              (repeat (first | with_reducible exact Bel.refl _ | with_reducible refine Bel.setCell ?_ (by first | exact Nat.le_refl _ | (dsimp only; omega)) _ | with_reducible refine Bel.alloc ?_ _ | with_reducible refine Bel.drew ?_ | with_reducible assumption | with_reducible refine Bel.trans ?_ (by assumption)))
                      · have n6 : (k == 6) = false := beq_eq_false_iff_ne.2 k6
                        replace TE := Lib.hid (TE.out.trans (by rw [d3, if_neg k6] : _ = (true && true && true && true && (false || (x1 || x4)) && (z && !x && !y))))
                        clear d3
                        cases x1 with
                        | true =>
                          cases z with
                          | false =>
                            replace TE := Lib.hid (TE.out.trans (by simp : _ = false))
                            obtain rfl : R = false := HF.out TE.out
                            clear TE HF HC
                            go_wp2_with (first
                              | (go_at_call 14; with_reducible refine Calls.mono (C1.out _) ?_; rintro e W1 ⟨rfl, hb1⟩; have hc1 := hb1.cells; have hz1 := hb1.lt1)
                              | (go_at_call 14; with_reducible refine Calls.mono (C2.out _) ?_; rintro e W2 ⟨rfl, hb2⟩; have hc2 := hb2.cells; have hz2 := hb2.size))
                            go_ret
                            refine ⟨rfl, ?_⟩
                            have hbw := hbW.trans hb
                            (repeat (first | with_reducible exact Bel.refl _ | with_reducible refine Bel.setCell ?_ (by first | exact Nat.le_refl _ | (dsimp only; omega)) _ | with_reducible refine Bel.alloc ?_ _ | with_reducible refine Bel.drew ?_ | with_reducible assumption | with_reducible refine Bel.trans ?_ (by assumption)))
                          | true =>
                            cases x with
                            | true =>
                              replace TE := Lib.hid (TE.out.trans (by simp : _ = false))
                              obtain rfl : R = false := HF.out TE.out
                              clear TE HF HC
                              go_wp2_with (first
                                | (go_at_call 14; with_reducible refine Calls.mono (C1.out _) ?_; rintro e W1 ⟨rfl, hb1⟩; have hc1 := hb1.cells; have hz1 := hb1.lt1)
                                | (go_at_call 14; with_reducible refine Calls.mono (C2.out _) ?_; rintro e W2 ⟨rfl, hb2⟩; have hc2 := hb2.cells; have hz2 := hb2.size))
                              go_ret
                              refine ⟨rfl, ?_⟩
                              have hbw := hbW.trans hb
                              (repeat (first | with_reducible exact Bel.refl _ | with_reducible refine Bel.setCell ?_ (by first | exact Nat.le_refl _ | (dsimp only; omega)) _ | with_reducible refine Bel.alloc ?_ _ | with_reducible refine Bel.drew ?_ | with_reducible assumption | with_reducible refine Bel.trans ?_ (by assumption)))
                            | false =>
                              cases y with
                              | true =>
                                replace TE := Lib.hid (TE.out.trans (by simp : _ = false))
                                obtain rfl : R = false := HF.out TE.out
                                clear TE HF HC
                                go_wp2_with (first
                                  | (go_at_call 14; with_reducible refine Calls.mono (C1.out _) ?_; rintro e W1 ⟨rfl, hb1⟩; have hc1 := hb1.cells; have hz1 := hb1.lt1)
                                  | (go_at_call 14; with_reducible refine Calls.mono (C2.out _) ?_; rintro e W2 ⟨rfl, hb2⟩; have hc2 := hb2.cells; have hz2 := hb2.size))
                                go_ret
                                refine ⟨rfl, ?_⟩
                                have hbw := hbW.trans hb
                                (repeat (first | with_reducible exact Bel.refl _ | with_reducible refine Bel.setCell ?_ (by first | exact Nat.le_refl _ | (dsimp only; omega)) _ | with_reducible refine Bel.alloc ?_ _ | with_reducible refine Bel.drew ?_ | with_reducible assumption | with_reducible refine Bel.trans ?_ (by assumption)))
                              | false =>
                                replace TE := Lib.hid (TE.out.trans (by simp : _ = true))
                                have J := Lib.hid (HC.out TE.out)
                                clear TE HF HC
                                go_wp2_with (first
                                  | (go_at_call 14; with_reducible refine Calls.mono (C1.out _) ?_; rintro e W1 ⟨rfl, hb1⟩; have hc1 := hb1.cells; have hz1 := hb1.lt1)
                                  | (go_at_call 14; with_reducible refine Calls.mono (C2.out _) ?_; rintro e W2 ⟨rfl, hb2⟩; have hc2 := hb2.cells; have hz2 := hb2.size))
                                go_roundg (l.length - (kk + 1))
                                case measure => have := hh.out.2; omega
                                case rel =>
                                  refine ⟨kk + 1, by go_num, by omega, ⟨J.out, rfl⟩, ?_⟩
                                  (repeat (first | with_reducible exact Bel.refl _ | with_reducible refine Bel.setCell ?_ (by first | exact Nat.le_refl _ | (dsimp only; omega)) _ | with_reducible refine Bel.alloc ?_ _ | with_reducible refine Bel.drew ?_ | with_reducible assumption | with_reducible refine Bel.trans ?_ (by assumption)))
                        | false =>
                          cases x4 with
                          | true =>
                            cases z with
                            | false =>
                              replace TE := Lib.hid (TE.out.trans (by simp : _ = false))
                              obtain rfl : R = false := HF.out TE.out
                              clear TE HF HC
                              go_wp2_with (first
                                | (go_at_call 14; with_reducible refine Calls.mono (C1.out _) ?_; rintro e W1 ⟨rfl, hb1⟩; have hc1 := hb1.cells; have hz1 := hb1.lt1)
                                | (go_at_call 14; with_reducible refine Calls.mono (C2.out _) ?_; rintro e W2 ⟨rfl, hb2⟩; have hc2 := hb2.cells; have hz2 := hb2.size))
                              go_ret
                              refine ⟨rfl, ?_⟩
                              have hbw := hbW.trans hb
                              (repeat (first | with_reducible exact Bel.refl _ | with_reducible refine Bel.setCell ?_ (by first | exact Nat.le_refl _ | (dsimp only; omega)) _ | with_reducible refine Bel.alloc ?_ _ | with_reducible refine Bel.drew ?_ | with_reducible assumption | with_reducible refine Bel.trans ?_ (by assumption)))
                            | true =>
                              cases x with
                              | true =>
                                replace TE := Lib.hid (TE.out.trans (by simp : _ = false))
                                obtain rfl : R = false := HF.out TE.out
                                clear TE HF HC
                                go_wp2_with (first
                                  | (go_at_call 14; with_reducible refine Calls.mono (C1.out _) ?_; rintro e W1 ⟨rfl, hb1⟩; have hc1 := hb1.cells; have hz1 := hb1.lt1)
                                  | (go_at_call 14; with_reducible refine Calls.mono (C2.out _) ?_; rintro e W2 ⟨rfl, hb2⟩; have hc2 := hb2.cells; have hz2 := hb2.size))
                                go_ret
                                refine ⟨rfl, ?_⟩
                                have hbw := hbW.trans hb
                                (repeat (first | with_reducible exact Bel.refl _ | with_reducible refine Bel.setCell ?_ (by first | exact Nat.le_refl _ | (dsimp only; omega)) _ | with_reducible refine Bel.alloc ?_ _ | with_reducible refine Bel.drew ?_ | with_reducible assumption | with_reducible refine Bel.trans ?_ (by assumption)))
                              | false =>
                                cases y with
                                | true =>
                                  replace TE := Lib.hid (TE.out.trans (by simp : _ = false))
                                  obtain rfl : R = false := HF.out TE.out
                                  clear TE HF HC
                                  go_wp2_with (first
                                    | (go_at_call 14; with_reducible refine Calls.mono (C1.out _) ?_; rintro e W1 ⟨rfl, hb1⟩; have hc1 := hb1.cells; have hz1 := hb1.lt1)
                                    | (go_at_call 14; with_reducible refine Calls.mono (C2.out _) ?_; rintro e W2 ⟨rfl, hb2⟩; have hc2 := hb2.cells; have hz2 := hb2.size))
                                  go_ret
                                  refine ⟨rfl, ?_⟩
                                  have hbw := hbW.trans hb
                                  (repeat (first | with_reducible exact Bel.refl _ | with_reducible refine Bel.setCell ?_ (by first | exact Nat.le_refl _ | (dsimp only; omega)) _ | with_reducible refine Bel.alloc ?_ _ | with_reducible refine Bel.drew ?_ | with_reducible assumption | with_reducible refine Bel.trans ?_ (by assumption)))
                                | false =>
                                  replace TE := Lib.hid (TE.out.trans (by simp : _ = true))
                                  have J := Lib.hid (HC.out TE.out)
                                  clear TE HF HC
                                  go_wp2_with (first
                                    | (go_at_call 14; with_reducible refine Calls.mono (C1.out _) ?_; rintro e W1 ⟨rfl, hb1⟩; have hc1 := hb1.cells; have hz1 := hb1.lt1)
                                    | (go_at_call 14; with_reducible refine Calls.mono (C2.out _) ?_; rintro e W2 ⟨rfl, hb2⟩; have hc2 := hb2.cells; have hz2 := hb2.size))
                                  go_roundg (l.length - (kk + 1))
                                  case measure => have := hh.out.2; omega
                                  case rel =>
                                    refine ⟨kk + 1, by go_num, by omega, ⟨J.out, rfl⟩, ?_⟩
                                    (repeat (first | with_reducible exact Bel.refl _ | with_reducible refine Bel.setCell ?_ (by first | exact Nat.le_refl _ | (dsimp only; omega)) _ | with_reducible refine Bel.alloc ?_ _ | with_reducible refine Bel.drew ?_ | with_reducible assumption | with_reducible refine Bel.trans ?_ (by assumption)))
                          | false =>
                            cases z
                            all_goals
                              replace TE := Lib.hid (TE.out.trans (by simp : _ = false))
                              obtain rfl : R = false := HF.out TE.out
                              clear TE HF HC
                              go_wp2_with (first
                                | (go_at_call 14; with_reducible refine Calls.mono (C1.out _) ?_; rintro e W1 ⟨rfl, hb1⟩; have hc1 := hb1.cells; have hz1 := hb1.lt1)
                                | (go_at_call 14; with_reducible refine Calls.mono (C2.out _) ?_; rintro e W2 ⟨rfl, hb2⟩; have hc2 := hb2.cells; have hz2 := hb2.size))
                              go_ret
                              refine ⟨rfl, ?_⟩
                              have hbw := hbW.trans hb
                              (repeat (first | with_reducible exact Bel.refl _ | with_reducible refine Bel.setCell ?_ (by first | exact Nat.le_refl _ | (dsimp only; omega)) _ | with_reducible refine Bel.alloc ?_ _ | with_reducible refine Bel.drew ?_ | with_reducible assumption | with_reducible refine Bel.trans ?_ (by assumption)))
          · obtain rfl : kk = l.length := by omega
            have h := hh.out.1
            rw [List.take_length] at h
            obtain rfl : R = true := RR.out.trans h
            go_wp2_with fail
            go_ret
            exact ⟨rfl, hbW.trans hb⟩
end Go.Proofs.YtdggbafpdjenmaaGreatDoor
