import Derived.Test.YtladmlnopbnlgaaDoorVdf
import Derived.Laws.Cover1
namespace Go.Proofs.YtladmlnopbnlgaaDoor
set_option linter.unusedSimpArgs false
set_option linter.unusedVariables false
open Go.RowKit
attribute [local go_sem ↓] eql_val neq_val

/-! Two values in order: the document's answer. -/
theorem ci_lt {x y : Int} (h : x < y) : Lib.compareInt x y = -1 := if_pos h
theorem ci_gt {x y : Int} (h : y < x) : Lib.compareInt x y = 1 := by unfold Lib.compareInt; rw [if_neg (by omega), if_pos h]
theorem ci_eq (x : Int) : Lib.compareInt x x = 0 := by unfold Lib.compareInt; rw [if_neg (by omega), if_neg (by omega)]
set_option maxRecDepth 100000 in
set_option maxHeartbeats 8000000 in
theorem rvcompare_any (a b : Val) (ha : a.text.size ≤ 9223372036854775807) (hb : b.text.size ≤ 9223372036854775807) (w : World) : Calls Tryd.prog 13 #[a.val, b.val] w fun e w' => e = .returned (vcmpV a b) ∧ Bel w w' := by
  have sa := fun w => rvsound_any a ha w
  have sb := fun w => rvsound_any b hb w
  have SA := Lib.hid sa
  have SB := Lib.hid sb
  clear sa sb
  cases hva : vsnd a with
  | false =>
    have L := Lib.hid (show vcmpV a b = .tuple #[.int .i64 0, .int .i64 2] from if_neg (fun h => by rw [h.1] at hva; cases hva))
    have HA := Lib.hid hva
    have HB := HA
    obtain ⟨k, n, s, t, m⟩ := a
    obtain ⟨k', n', s', t', m'⟩ := b
    clear hva ha hb
    go_enter Tryd.func13, Tryd.ntmps13
    go_wp2_with (first
      | (go_at_call 9; with_reducible refine (SA.out _).mono ?_; rintro e W1 ⟨rfl, hb1⟩; rw [HA.out]; obtain ⟨hc, hf⟩ := bcell hb1; obtain ⟨hz0, hz1⟩ := Bel.lt2 hb1))
    go_ret2
    exact ⟨by (rw [L.out]) <;> rfl, (((((Bel.refl _).alloc _).alloc _).trans hb1))⟩
  | true =>
    cases hvb : vsnd b with
    | false =>
      have L := Lib.hid (show vcmpV a b = .tuple #[.int .i64 0, .int .i64 2] from if_neg (fun h => by rw [h.2] at hvb; cases hvb))
      have HA := Lib.hid hva
      have HB := Lib.hid hvb
      obtain ⟨k, n, s, t, m⟩ := a
      obtain ⟨k', n', s', t', m'⟩ := b
      clear hva hvb ha hb
      go_enter Tryd.func13, Tryd.ntmps13
      go_wp2_with (first
        | (go_at_call 9; with_reducible refine (SA.out _).mono ?_; rintro e W1 ⟨rfl, hb1⟩; rw [HA.out]; obtain ⟨hc, hf⟩ := bcell hb1; obtain ⟨hz0, hz1⟩ := Bel.lt2 hb1)
        | (go_at_call 9; with_reducible refine (SB.out _).mono ?_; rintro e W2 ⟨rfl, hb2⟩; rw [HB.out]; obtain ⟨hc2, hf2⟩ := bcell hb2))
      go_ret2
      exact ⟨by (rw [L.out]) <;> rfl, (((((Bel.refl _).alloc _).alloc _).trans hb1).trans hb2)⟩
    | true =>
      have L0 : vcmpV a b = .tuple #[.int .i64 (vcmp a b), .int .i64 0] := if_pos ⟨hva, hvb⟩
      have HA := Lib.hid hva
      have HB := Lib.hid hvb
      obtain ⟨k, n, s, t, m⟩ := a
      obtain ⟨k', n', s', t', m'⟩ := b
      by_cases hk : k = k'
      · subst hk
        have e0 : (k != k) = false := by simp
        by_cases h1 : k = 1
        · subst h1
          have hv : vcmp ⟨1, n, s, t, m⟩ ⟨1, n', s', t', m'⟩ = sgn (unt n s) (unt n' s') := rfl
          have c := fun w => rcmp_any n s n' s' w
          rw [cmpV_ok (vs_dec hva) (vs_dec hvb)] at c
          obtain ⟨z, hz⟩ : ∃ z, z = sgn (unt n s) (unt n' s') := ⟨_, rfl⟩
          rw [← hz] at c hv
          rw [hv] at L0
          have L := Lib.hid L0
          have C := Lib.hid c
          clear c hz hva hvb ha hb hv L0 e0
          go_enter Tryd.func13, Tryd.ntmps13
          go_wp2_with (first
            | (go_at_call 9; with_reducible refine (SA.out _).mono ?_; rintro e W1 ⟨rfl, hb1⟩; rw [HA.out]; obtain ⟨hc, hf⟩ := bcell hb1; obtain ⟨hz0, hz1⟩ := Bel.lt2 hb1)
            | (go_at_call 9; with_reducible refine (SB.out _).mono ?_; rintro e W2 ⟨rfl, hb2⟩; rw [HB.out]; obtain ⟨hc2, hf2⟩ := bcell hb2)
            | (go_at_call 22; refine (C.out _).mono ?_; rintro e W3 ⟨rfl, hb3⟩))
          go_ret2
          exact ⟨by (rw [L.out]) <;> rfl, ((((((Bel.refl _).alloc _).alloc _).trans hb1).trans hb2).trans hb3)⟩
        · have k1 : (k == 1) = false := by rw [beq_eq_false_iff_ne]; exact h1
          by_cases h2 : k = 2
          · subst h2
            have hm := (vs_text hva).1
            have hm' := (vs_text hvb).1
            subst hm hm'
            have hv : vcmp ⟨2, n, s, t, 0⟩ ⟨2, n', s', t', 0⟩ = Lib.compareBytes t.data.toList t'.data.toList := rfl
            have bl := bless_iff t.data.toList t'.data.toList
            have be := cb_eq t.data.toList t'.data.toList
            rw [← ByteArray.toList_eq, ← ByteArray.toList_eq] at bl be hv
            rcases cb_cases t.toList t'.toList with hc | hc | hc
            · rw [hc] at bl hv
              rw [hv] at L0
              have L := Lib.hid L0
              have q1 : Op.bytesLess t.toList t'.toList = true := by rw [bl]; rfl
              clear hva hvb ha hb hv L0 e0 bl be hc h1
              go_enter Tryd.func13, Tryd.ntmps13
              go_wp2_with (first
                | (go_at_call 9; with_reducible refine (SA.out _).mono ?_; rintro e W1 ⟨rfl, hb1⟩; rw [HA.out]; obtain ⟨hc, hf⟩ := bcell hb1; obtain ⟨hz0, hz1⟩ := Bel.lt2 hb1)
                | (go_at_call 9; with_reducible refine (SB.out _).mono ?_; rintro e W2 ⟨rfl, hb2⟩; rw [HB.out]; obtain ⟨hc2, hf2⟩ := bcell hb2))
              go_ret2
              exact ⟨by (rw [L.out]) <;> rfl, (((((Bel.refl _).alloc _).alloc _).trans hb1).trans hb2)⟩
            · have heq : (t.toList == t'.toList) = true := by rw [beq_iff_eq]; exact be.1 hc
              rw [hc] at bl hv
              rw [hv] at L0
              have L := Lib.hid L0
              have q1 : Op.bytesLess t.toList t'.toList = false := by rw [bl]; rfl
              clear hva hvb ha hb hv L0 e0 bl be hc h1
              go_enter Tryd.func13, Tryd.ntmps13
              go_wp2_with (first
                | (go_at_call 9; with_reducible refine (SA.out _).mono ?_; rintro e W1 ⟨rfl, hb1⟩; rw [HA.out]; obtain ⟨hc, hf⟩ := bcell hb1; obtain ⟨hz0, hz1⟩ := Bel.lt2 hb1)
                | (go_at_call 9; with_reducible refine (SB.out _).mono ?_; rintro e W2 ⟨rfl, hb2⟩; rw [HB.out]; obtain ⟨hc2, hf2⟩ := bcell hb2))
              go_ret2
              exact ⟨by (rw [L.out]) <;> rfl, (((((Bel.refl _).alloc _).alloc _).trans hb1).trans hb2)⟩
            · have heq : (t.toList == t'.toList) = false := by
                rw [beq_eq_false_iff_ne]
                intro h
                rw [be.2 h] at hc
                omega
              rw [hc] at bl hv
              rw [hv] at L0
              have L := Lib.hid L0
              have q1 : Op.bytesLess t.toList t'.toList = false := by rw [bl]; rfl
              clear hva hvb ha hb hv L0 e0 bl be hc h1
              go_enter Tryd.func13, Tryd.ntmps13
              go_wp2_with (first
                | (go_at_call 9; with_reducible refine (SA.out _).mono ?_; rintro e W1 ⟨rfl, hb1⟩; rw [HA.out]; obtain ⟨hc, hf⟩ := bcell hb1; obtain ⟨hz0, hz1⟩ := Bel.lt2 hb1)
                | (go_at_call 9; with_reducible refine (SB.out _).mono ?_; rintro e W2 ⟨rfl, hb2⟩; rw [HB.out]; obtain ⟨hc2, hf2⟩ := bcell hb2))
              go_ret2
              exact ⟨by (rw [L.out]) <;> rfl, (((((Bel.refl _).alloc _).alloc _).trans hb1).trans hb2)⟩
          · have ht := vs_other ⟨h1, h2⟩ hva
            have ht' := vs_other ⟨h1, h2⟩ hvb
            have q1 : Op.bytesLess t.toList t'.toList = false := by rw [ht, ht', ByteArray.toList_eq]; rfl
            have q2 : (t.toList == t'.toList) = true := by rw [ht, ht', ByteArray.toList_eq]; rfl
            have hv : vcmp ⟨k, n, s, t, m⟩ ⟨k, n', s', t', m'⟩ = Lib.compareInt m m' := by
              unfold vcmp
              rw [if_neg (fun h => h rfl), if_neg h1, if_neg h2]
            by_cases hl : m < m'
            · rw [ci_lt hl] at hv
              rw [hv] at L0
              have L := Lib.hid L0
              have g1 : decide (m < m') = true := by exact decide_eq_true hl
              clear hva hvb ha hb hv L0 e0 h1 h2 ht ht' hl
              go_enter Tryd.func13, Tryd.ntmps13
              go_wp2_with (first
                | (go_at_call 9; with_reducible refine (SA.out _).mono ?_; rintro e W1 ⟨rfl, hb1⟩; rw [HA.out]; obtain ⟨hc, hf⟩ := bcell hb1; obtain ⟨hz0, hz1⟩ := Bel.lt2 hb1)
                | (go_at_call 9; with_reducible refine (SB.out _).mono ?_; rintro e W2 ⟨rfl, hb2⟩; rw [HB.out]; obtain ⟨hc2, hf2⟩ := bcell hb2))
              go_ret2
              exact ⟨by (rw [L.out]) <;> rfl, (((((Bel.refl _).alloc _).alloc _).trans hb1).trans hb2)⟩
            · have g1 : decide (m < m') = false := by exact decide_eq_false hl
              by_cases hg : m' < m
              · rw [ci_gt hg] at hv
                rw [hv] at L0
                have L := Lib.hid L0
                have g2 : decide (m' < m) = true := by exact decide_eq_true hg
                clear hva hvb ha hb hv L0 e0 h1 h2 ht ht' hl hg
                go_enter Tryd.func13, Tryd.ntmps13
                go_wp2_with (first
                  | (go_at_call 9; with_reducible refine (SA.out _).mono ?_; rintro e W1 ⟨rfl, hb1⟩; rw [HA.out]; obtain ⟨hc, hf⟩ := bcell hb1; obtain ⟨hz0, hz1⟩ := Bel.lt2 hb1)
                  | (go_at_call 9; with_reducible refine (SB.out _).mono ?_; rintro e W2 ⟨rfl, hb2⟩; rw [HB.out]; obtain ⟨hc2, hf2⟩ := bcell hb2))
                go_ret2
                exact ⟨by (rw [L.out]) <;> rfl, (((((Bel.refl _).alloc _).alloc _).trans hb1).trans hb2)⟩
              · obtain rfl : m = m' := by omega
                rw [ci_eq] at hv
                rw [hv] at L0
                have L := Lib.hid L0
                clear hva hvb ha hb hv L0 e0 h1 h2 ht ht' hl hg
                go_enter Tryd.func13, Tryd.ntmps13
                go_wp2_with (first
                  | (go_at_call 9; with_reducible refine (SA.out _).mono ?_; rintro e W1 ⟨rfl, hb1⟩; rw [HA.out]; obtain ⟨hc, hf⟩ := bcell hb1; obtain ⟨hz0, hz1⟩ := Bel.lt2 hb1)
                  | (go_at_call 9; with_reducible refine (SB.out _).mono ?_; rintro e W2 ⟨rfl, hb2⟩; rw [HB.out]; obtain ⟨hc2, hf2⟩ := bcell hb2))
                go_ret2
                exact ⟨by (rw [L.out]) <;> rfl, (((((Bel.refl _).alloc _).alloc _).trans hb1).trans hb2)⟩
      · have e0 : (k == k') = false := by rw [beq_eq_false_iff_ne]; exact hk
        have e1 : (k != k') = true := by rw [bne, e0]; rfl
        have hv : vcmp ⟨k, n, s, t, m⟩ ⟨k', n', s', t', m'⟩ = Lib.compareInt k k' := by unfold vcmp; rw [if_pos hk]
        by_cases hl : k < k'
        · rw [ci_lt hl] at hv
          rw [hv] at L0
          have L := Lib.hid L0
          have g1 : decide (k < k') = true := by exact decide_eq_true hl
          clear hva hvb ha hb hv L0 hk hl
          go_enter Tryd.func13, Tryd.ntmps13
          go_wp2_with (first
            | (go_at_call 9; with_reducible refine (SA.out _).mono ?_; rintro e W1 ⟨rfl, hb1⟩; rw [HA.out]; obtain ⟨hc, hf⟩ := bcell hb1; obtain ⟨hz0, hz1⟩ := Bel.lt2 hb1)
            | (go_at_call 9; with_reducible refine (SB.out _).mono ?_; rintro e W2 ⟨rfl, hb2⟩; rw [HB.out]; obtain ⟨hc2, hf2⟩ := bcell hb2))
          go_ret2
          exact ⟨by (rw [L.out]) <;> rfl, (((((Bel.refl _).alloc _).alloc _).trans hb1).trans hb2)⟩
        · rw [ci_gt (by omega)] at hv
          rw [hv] at L0
          have L := Lib.hid L0
          have g1 : decide (k < k') = false := by exact decide_eq_false hl
          clear hva hvb ha hb hv L0 hk hl
          go_enter Tryd.func13, Tryd.ntmps13
          go_wp2_with (first
            | (go_at_call 9; with_reducible refine (SA.out _).mono ?_; rintro e W1 ⟨rfl, hb1⟩; rw [HA.out]; obtain ⟨hc, hf⟩ := bcell hb1; obtain ⟨hz0, hz1⟩ := Bel.lt2 hb1)
            | (go_at_call 9; with_reducible refine (SB.out _).mono ?_; rintro e W2 ⟨rfl, hb2⟩; rw [HB.out]; obtain ⟨hc2, hf2⟩ := bcell hb2))
          go_ret2
          exact ⟨by (rw [L.out]) <;> rfl, (((((Bel.refl _).alloc _).alloc _).trans hb1).trans hb2)⟩
end Go.Proofs.YtladmlnopbnlgaaDoor
