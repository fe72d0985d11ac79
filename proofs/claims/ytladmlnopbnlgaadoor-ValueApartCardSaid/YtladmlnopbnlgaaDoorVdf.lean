import Derived.Test.YtladmlnopbnlgaaDoorVde
namespace Go.Proofs.YtladmlnopbnlgaaDoor
set_option linter.unusedSimpArgs false
set_option linter.unusedVariables false
open Go.RowKit
attribute [local go_sem ↓] eql_val neq_val

/-! Two values in order: both. -/
theorem vs_dec {n s m : Int} {t : ByteArray} (h : vsnd ⟨1, n, s, t, m⟩ = true) : SndD n s := by
  rw [vs1] at h
  have := (Bool.and_eq_true_iff.1 h).1
  exact of_decide_eq_true this
theorem vs_text {n s m : Int} {t : ByteArray} (h : vsnd ⟨2, n, s, t, m⟩ = true) : m = 0 ∧ n = 0 ∧ s = 0 ∧ t.size ≤ 256 ∧ goodB t = true := by
  rw [vs2] at h
  simp only [Bool.and_eq_true, beq_iff_eq, decide_eq_true_eq] at h
  exact ⟨h.2.2.1, h.1, h.2.1, by omega, h.2.2.2.2⟩
theorem vs_other {k n s m : Int} {t : ByteArray} (hk : k ≠ 1 ∧ k ≠ 2) (h : vsnd ⟨k, n, s, t, m⟩ = true) : t = ⟨#[]⟩ := by
  rcases kinds k with rfl | rfl | rfl | rfl | rfl | h5
  · rw [vs0] at h
    simp only [Bool.and_eq_true, beq_iff_eq, empty_iff] at h
    exact h.2.2.1
  · exact absurd rfl hk.1
  · exact absurd rfl hk.2
  · rw [vs3] at h
    simp only [Bool.and_eq_true, beq_iff_eq, empty_iff] at h
    exact h.2.2.1
  · rw [vs4] at h
    simp only [Bool.and_eq_true, beq_iff_eq, empty_iff] at h
    exact h.2.2.1
  · rw [vsnd5 _ _ _ _ _ h5] at h; cases h
theorem cmpV_ok {n s m t : Int} (h1 : SndD n s) (h2 : SndD m t) : cmpV n s m t = .tuple #[.int .i64 (sgn (unt n s) (unt m t)), .int .i64 0] := if_pos ⟨h1, h2⟩
set_option maxRecDepth 100000 in
set_option maxHeartbeats 4000000 in
theorem order_any (a b : Val) (ha : vsnd a = true) (hb : vsnd b = true) (w : World) : Calls Tryd.prog 21 #[a.val, b.val] w fun e w' => e = .returned (.int .i64 (vcmp a b)) ∧ Bel w w' := by
  obtain ⟨k, n, s, t, m⟩ := a
  obtain ⟨k', n', s', t', m'⟩ := b
  by_cases hk : k = k'
  · subst hk
    have e0 : (k != k) = false := by simp
    by_cases h1 : k = 1
    · subst h1
      have L := Lib.hid (show vcmp ⟨1, n, s, t, m⟩ ⟨1, n', s', t', m'⟩ = sgn (unt n s) (unt n' s') from rfl)
      have c := fun w => cmp_any n s n' s' w
      rw [cmpV_ok (vs_dec ha) (vs_dec hb)] at c
      obtain ⟨z, hz⟩ : ∃ z, z = sgn (unt n s) (unt n' s') := ⟨_, rfl⟩
      rw [← hz] at c L
      have C := Lib.hid c
      clear c hz ha hb e0
      go_enter Tryd.func21, Tryd.ntmps21
      go_wp2_with (go_at_call 35; refine (C.out _).mono ?_; rintro e W1 ⟨rfl, hb1⟩)
      go_ret
      exact ⟨by (rw [L.out]) <;> rfl, (((Bel.refl _).alloc _).alloc _).trans hb1⟩
    · by_cases h2 : k = 2
      · subst h2
        have L := Lib.hid (show vcmp ⟨2, n, s, t, m⟩ ⟨2, n', s', t', m'⟩ = Lib.compareBytes t.data.toList t'.data.toList from rfl)
        have c := fun w => Tryd.strings_Compare t t' w
        obtain ⟨z, hz⟩ : ∃ z, z = Lib.compareBytes t.data.toList t'.data.toList := ⟨_, rfl⟩
        rw [← hz] at c L
        have C := Lib.hid c
        clear c hz ha hb e0 h1
        go_enter Tryd.func21, Tryd.ntmps21
        go_wp2_with (go_at_call 36; refine (C.out _).mono ?_; rintro e W1 ⟨rfl, rfl⟩)
        go_ret
        exact ⟨by (rw [L.out]) <;> rfl, (((Bel.refl _).alloc _).alloc _)⟩
      · have L := Lib.hid (show vcmp ⟨k, n, s, t, m⟩ ⟨k, n', s', t', m'⟩ = Lib.compareInt m m' by
          unfold vcmp
          rw [if_neg (fun h => h rfl), if_neg h1, if_neg h2])
        have c := fun w => Tryd.cmp_Compare_int m m' w
        obtain ⟨z, hz⟩ : ∃ z, z = Lib.compareInt m m' := ⟨_, rfl⟩
        rw [← hz] at c L
        have C := Lib.hid c
        have k1 : (k == 1) = false := by rw [beq_eq_false_iff_ne]; exact h1
        have k2 : (k == 2) = false := by rw [beq_eq_false_iff_ne]; exact h2
        clear c hz ha hb h1 h2
        go_enter Tryd.func21, Tryd.ntmps21
        go_wp2_with (go_at_call 34; refine (C.out _).mono ?_; rintro e W1 ⟨rfl, rfl⟩)
        go_ret
        exact ⟨by (rw [L.out]) <;> rfl, (((Bel.refl _).alloc _).alloc _)⟩
  · have L := Lib.hid (show vcmp ⟨k, n, s, t, m⟩ ⟨k', n', s', t', m'⟩ = Lib.compareInt k k' by unfold vcmp; rw [if_pos hk])
    have c := fun w => Tryd.cmp_Compare_int k k' w
    obtain ⟨z, hz⟩ : ∃ z, z = Lib.compareInt k k' := ⟨_, rfl⟩
    rw [← hz] at c L
    have C := Lib.hid c
    have e0 : (k == k') = false := by rw [beq_eq_false_iff_ne]; exact hk
    have e1 : (k != k') = true := by rw [bne, e0]; rfl
    clear c hz ha hb hk
    go_enter Tryd.func21, Tryd.ntmps21
    go_wp2_with (go_at_call 34; refine (C.out _).mono ?_; rintro e W1 ⟨rfl, rfl⟩)
    go_ret
    exact ⟨by (rw [L.out]) <;> rfl, (((Bel.refl _).alloc _).alloc _)⟩
def vcmpV (a b : Val) : Value := if vsnd a = true ∧ vsnd b = true then .tuple #[.int .i64 (vcmp a b), .int .i64 0] else .tuple #[.int .i64 0, .int .i64 2]
theorem vals2 {w : World} {g : Nat} {a b : Val} (hb : g < w.heap.size) (h0 : w.cell? ⟨g, 0, none⟩ = some (.int .i64 a.kind)) (h1 : w.cell? ⟨g, 1, none⟩ = some (.int .i64 a.n)) (h2 : w.cell? ⟨g, 2, none⟩ = some (.int .i64 a.scale)) (h3 : w.cell? ⟨g, 3, none⟩ = some (.string a.text)) (h4 : w.cell? ⟨g, 4, none⟩ = some (.int .i64 a.num))
    (h5 : w.cell? ⟨g, 5, none⟩ = some (.int .i64 b.kind)) (h6 : w.cell? ⟨g, 6, none⟩ = some (.int .i64 b.n)) (h7 : w.cell? ⟨g, 7, none⟩ = some (.int .i64 b.scale)) (h8 : w.cell? ⟨g, 8, none⟩ = some (.string b.text)) (h9 : w.cell? ⟨g, 9, none⟩ = some (.int .i64 b.num)) : Vals w (some ⟨g, 0, none⟩) [a, b] := by
  intro _
  refine ⟨g, 0, rfl, hb, fun i v hv => ?_⟩
  match i, hv with
  | 0, hv =>
    simp at hv
    subst hv
    exact ⟨h0, h1, h2, h3, h4⟩
  | 1, hv =>
    simp at hv
    subst hv
    exact ⟨h5, h6, h7, h8, h9⟩
  | i + 2, hv => simp at hv
set_option maxRecDepth 100000 in
set_option maxHeartbeats 4000000 in
theorem vcompare_any (a b : Val) (ha : a.text.size ≤ 9223372036854775807) (hb : b.text.size ≤ 9223372036854775807) (w : World) : Calls Tryd.prog 12 #[a.val, b.val] w fun e w' => e = .returned (vcmpV a b) ∧ Bel w w' := by
  have cs : ∀ (W : World) (g : Nat), Vals W (some ⟨g, 0, none⟩) [a, b] → Calls Tryd.prog 20 #[.slice (some ⟨g, 0, none⟩) 2 2] W fun e w' => e = .returned (.bool (allV [a, b])) ∧ Bel W w' := fun W g hv =>
    allSound_any_V [a, b] (some ⟨g, 0, none⟩) 2 W hv (by simp [maxLen]) (fun v hv => by
      rcases List.mem_cons.1 hv with rfl | hv
      · exact ha
      · rw [List.mem_singleton.1 hv]; exact hb)
  have hall : allV [a, b] = (vsnd a && vsnd b) := by simp [allV]
  rw [hall] at cs
  cases hs : (vsnd a && vsnd b) with
  | false =>
    have L := Lib.hid (show vcmpV a b = .tuple #[.int .i64 0, .int .i64 2] from if_neg (fun h => by rw [h.1, h.2] at hs; cases hs))
    rw [hs] at cs
    have CS := Lib.hid cs
    obtain ⟨k, n, s, t, m⟩ := a
    obtain ⟨k', n', s', t', m'⟩ := b
    clear cs hs hall ha hb
    go_enter Tryd.func12, Tryd.ntmps12
    go_wp2_with (go_at_call 20; with_reducible refine (CS.out _ _ ?hv2).mono ?_; (case hv2 => exact vals2 (by simp) (by simp [go_sem]) (by simp [go_sem]) (by simp [go_sem]) (by simp [go_sem]) (by simp [go_sem]) (by simp [go_sem]) (by simp [go_sem]) (by simp [go_sem]) (by simp [go_sem]) (by simp [go_sem])); rintro e W1 ⟨rfl, hb1⟩)
    go_ret2
    exact ⟨by (rw [L.out]) <;> rfl, ((((Bel.refl _).alloc _).alloc _).alloc _).trans hb1⟩
  | true =>
    have hh := Bool.and_eq_true_iff.1 hs
    have L := Lib.hid (show vcmpV a b = .tuple #[.int .i64 (vcmp a b), .int .i64 0] from if_pos hh)
    rw [hs] at cs
    have CS := Lib.hid cs
    have co := fun w => order_any a b hh.1 hh.2 w
    obtain ⟨z, hz⟩ : ∃ z, z = vcmp a b := ⟨_, rfl⟩
    rw [← hz] at co L
    have CO := Lib.hid co
    obtain ⟨k, n, s, t, m⟩ := a
    obtain ⟨k', n', s', t', m'⟩ := b
    clear cs hs hall ha hb hh co hz
    go_enter Tryd.func12, Tryd.ntmps12
    go_wp2_with (first
      | (go_at_call 20; with_reducible refine (CS.out _ _ ?hv2).mono ?_; (case hv2 => exact vals2 (by simp) (by simp [go_sem]) (by simp [go_sem]) (by simp [go_sem]) (by simp [go_sem]) (by simp [go_sem]) (by simp [go_sem]) (by simp [go_sem]) (by simp [go_sem]) (by simp [go_sem]) (by simp [go_sem])); rintro e W1 ⟨rfl, hb1⟩; obtain ⟨hc, hf⟩ := bcell hb1)
      | (go_at_call 21; refine (CO.out _).mono ?_; rintro e W2 ⟨rfl, hb2⟩))
    go_ret2
    exact ⟨by (rw [L.out]) <;> rfl, (((((Bel.refl _).alloc _).alloc _).alloc _).trans hb1).trans hb2⟩
end Go.Proofs.YtladmlnopbnlgaaDoor
