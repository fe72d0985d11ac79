import Derived.Test.YtobdokeklcdpoaaDoorMkz
import Derived.Test.YtobdokeklcdpoaaDoorMky
namespace Go.Proofs.YtobdokeklcdpoaaDoor
set_option linter.unusedSimpArgs false
set_option linter.unusedVariables false
open Go.RowKit

/-! The law Parts. -/
theorem tagL_len (nm : List UInt8) : ∀ (f d : Nat) (l : List UInt8) (acc : List (List UInt8 × List UInt8)) (rest : List UInt8) (m : Mk), tagL nm f d l acc = .ok rest (some m) → m.attrs.length ≤ acc.length + l.length := by
  intro f
  induction f with
  | zero => intro d l acc rest m h; cases h
  | succ f ih =>
    intro d l acc rest m h
    have hl := tw_lens whB l
    rw [tag_step] at h
    split at h
    · simp only [Res.ok.injEq, Option.some.injEq] at h
      rw [← h.2]
      exact Nat.le_add_right _ _
    · split at h
      · simp only [Res.ok.injEq, Option.some.injEq] at h
        rw [← h.2]
        exact Nat.le_add_right _ _
      · split at h
        · cases h
        · split at h
          · cases h
          · rename_i r2 acc' d' ha
            have h1 := ih _ _ _ _ _ h
            have h2 := attL_acc ha
            obtain ⟨pre, e1, e2, _⟩ := attL_ok ha
            have h3 := congrArg List.length e1
            rw [List.length_append] at h3
            have := List.length_pos_iff.2 e2
            omega
theorem stepL_len {l rest : List UInt8} {m : Mk} (h : stepL l = .ok rest (some m)) : m.attrs.length ≤ l.length := by
  unfold stepL at h
  split at h
  · unfold comL at h
    split at h
    · split at h
      · split at h
        · simp at h
        · cases h
      · cases h
    · cases h
  · split at h
    · unfold secL at h
      split at h
      · split at h
        · simp only [Res.ok.injEq, Option.some.injEq] at h
          rw [← h.2]; exact Nat.zero_le _
        · cases h
      · cases h
    · split at h
      · unfold endL at h
        split at h
        · simp only [Res.ok.injEq, Option.some.injEq] at h
          rw [← h.2]; exact Nat.zero_le _
        · cases h
      · split at h
        · unfold begL at h
          split at h
          · have h1 := tagL_len _ _ _ _ _ _ _ h
            have h2 := tw_lens nmByte (l.drop 1)
            rw [List.length_drop] at h2
            simp only [List.length_nil] at h1
            omega
          · cases h
        · unfold plnL at h
          split at h
          · simp only [Res.ok.injEq, Option.some.injEq] at h
            rw [← h.2]; exact Nat.zero_le _
          · cases h
theorem Run.lens {p : Nat} {l l2 : List UInt8} {ms : List Mk} (h : Run p l ms l2) : ms.length ≤ l.length ∧ ∀ m ∈ ms, m.attrs.length ≤ l.length := by
  induction h with
  | nil p l => exact ⟨Nat.zero_le _, fun m h => by cases h⟩
  | @cons p l r m ms l2 hl hs hr ih =>
    have hlt := step_less hl hs
    cases m with
    | none => exact ⟨by have := ih.1; simp only [optM, List.nil_append]; omega, fun x hx => by have := ih.2 x hx; omega⟩
    | some m =>
      have h1 := stepL_len hs
      refine ⟨by have := ih.1; simp only [optM, List.singleton_append, List.length_cons]; omega, fun x hx => ?_⟩
      rcases List.mem_append.1 hx with hx | hx
      · simp only [optM, List.mem_singleton] at hx
        rw [hx]
        exact h1
      · have := ih.2 x hx; omega
theorem marksS_lens (s : ByteArray) : (marksS s).1.length ≤ 65536 ∧ ∀ m ∈ (marksS s).1, m.attrs.length ≤ 65536 := by
  by_cases h : (marksS s).2.2 = 0
  · obtain ⟨h1, _, h2⟩ := marksS_right s h
    obtain ⟨h3, h4⟩ := h2.lens
    rw [size_list] at h3 h4
    exact ⟨by omega, fun m hm => by have := h4 m hm; omega⟩
  · obtain ⟨h1, _⟩ := marksS_wrong s h
    rw [h1]
    exact ⟨by simp, fun m hm => by cases hm⟩
theorem Mks.take {w : World} {A : Option Addr} {ms : List Mk} (h : Mks w A ms) (n : Nat) : Mks w A (ms.take n) := fun h0 => by
  obtain ⟨b, off, e, hlt, hc⟩ := h (by rw [List.length_take] at h0; omega)
  refine ⟨b, off, e, hlt, fun j m hj => hc j m ?_⟩
  rw [List.getElem?_take] at hj
  split at hj
  · exact hj
  · cases hj
theorem Mks.drop {w : World} {b off : Nat} {ms : List Mk} (h : Mks w (some ⟨b, off, none⟩) ms) (n : Nat) : Mks w (some ⟨b, off + n * 5, none⟩) (ms.drop n) := fun h0 => by
  obtain ⟨b', off', e, hlt, hc⟩ := h (by rw [List.length_drop] at h0; omega)
  cases e
  refine ⟨b, off + n * 5, rfl, hlt, fun j m hj => ?_⟩
  rw [List.getElem?_drop] at hj
  have := hc (n + j) m hj
  rwa [show off + (n + j) * 5 = off + n * 5 + j * 5 by rw [Nat.add_mul]; omega] at this
set_option maxRecDepth 100000 in
set_option maxHeartbeats 8000000 in
theorem law_Parts (s : ByteArray) (k : Int) (hs : s.size ≤ 9223372036854775807) (hk : 0 ≤ k ∧ k ≤ 255) (w : World) (hm : Mx w) : Calls Tryd.prog 5 #[.string s, .int .u8 k] w fun r w' => r = .returned (.bool true) ∧ Bel w w' := by
  have C := Lib.hid (marks_any s w hm)
  have CA := Lib.hid fun W (hb : Bel w W) => mawake_any W (hm.keep hb)
  have CM := Lib.hid fun W (hb : Bel w W) z => marks_any z W (hm.keep hb)
  have hR := marksS_right s
  have hW := marksS_wrong s
  have hP := parts_is s
  have hL := marksS_lens s
  have hsi : (s.size : Int) ≤ 9223372036854775807 := by omega
  unfold MarksOut at C
  generalize marksS s = m at *
  obtain ⟨ms, at_, e⟩ := m
  simp only at C hR hW hP hL
  clear hm
  by_cases he : e = 0
  · subst he
    have e0 : ((0 : Nat) : Int) = 0 := rfl
    simp only [e0] at C
    have hs6 := (hR rfl).1
    clear hR hW
    by_cases h0 : ms.length = 0
    · obtain rfl : ms = [] := List.eq_nil_of_length_eq_zero h0
      simp only [List.length_nil] at C
      clear hP hL h0 hk
      go_enter Tryd.func5, Tryd.ntmps5
      go_wp2_with (first
        | (go_at_call 9; refine (CA.out _ (hb1.trans hb2)).mono ?_; rintro r W3 ⟨rfl, hb3⟩)
        | (go_at_call 9; refine (CA.out _ hb1).mono ?_; rintro r W2 ⟨rfl, hb2⟩)
        | (go_at_call 10; refine C.out.mono ?_; rintro r W1 ⟨hb1, A, c, rfl, _, _⟩))
      go_ret
      exact ⟨rfl, (hb1.trans hb2).trans hb3⟩
    · obtain ⟨n, hn⟩ : ∃ n, n = k.toNat % ms.length := ⟨_, rfl⟩
      have hnl : n < ms.length := by rw [hn]; exact Nat.mod_lt _ (by omega)
      have hkn : Int.tmod k (ms.length : Int) = n := by
        obtain ⟨q, rfl⟩ : ∃ q : Nat, k = q := ⟨k.toNat, by omega⟩
        rw [hn]
        simp only [Int.toNat_natCast]
        exact (Int.ofNat_tmod q ms.length).symm
      obtain ⟨m, hmn⟩ : ∃ m, ms[n]? = some m := ⟨_, List.getElem?_eq_getElem hnl⟩
      obtain ⟨at1, p1, p2, p3, p4⟩ := hP rfl n m hmn
      have q3 := p3 (s.extract 0 at1) (by rw [Lib.extract_data, List.drop_zero]; rfl)
      obtain ⟨ns, q4, q5, n0, q6, q7⟩ := p4 (s.extract at1 s.size) (by rw [ext_end])
      have CZ := Lib.hid (show ∀ W, Bel w W → Calls Tryd.prog 10 #[.string (s.extract 0 at1)] W fun r w' => Bel W w' ∧ ∃ A c, r = .returned (.tuple #[.slice A n c, .int .i64 0, .int .i64 0]) ∧ Mks w' A (ms.take n) from fun W hb => (CM.out W hb (s.extract 0 at1)).mono fun r w' ⟨h1, A, c, h2, h3, _⟩ => by
        rw [q3] at h2 h3
        refine ⟨h1, A, c, ?_, h3⟩
        rw [h2]
        simp only [List.length_take]
        rw [Nat.min_eq_left (by omega)]
        rfl)
      have hnsl : ns.length = ms.length - n := by
        have := congrArg List.length q5
        simpa using this
      have CY := Lib.hid (show ∀ W, Bel w W → Calls Tryd.prog 10 #[.string (s.extract at1 s.size)] W fun r w' => Bel W w' ∧ ∃ A c, r = .returned (.tuple #[.slice A ns.length c, .int .i64 0, .int .i64 0]) ∧ Mks w' A ns from fun W hb => (CM.out W hb (s.extract at1 s.size)).mono fun r w' ⟨h1, A, c, h2, h3, _⟩ => by
        rw [q4] at h2 h3
        exact ⟨h1, A, c, h2, h3⟩)
      have hL2 := marksS_lens (s.extract at1 s.size)
      rw [q4] at hL2
      have S1 := Lib.hid fun W A B c d (hA : Mks W A (ms.take n)) (hB : Mks W B (ms.take n)) => same_yes (ms.take n) (ms.take n) A B c d W hA hB rfl (by rw [List.length_take]; have := hL.1; omega) (fun x hx => by have := hL.2 x (List.mem_of_mem_take hx); omega)
      have S2 := Lib.hid fun W A B c d (hA : Mks W A ns) (hB : Mks W B (ms.drop n)) => same_yes ns (ms.drop n) A B c d W hA hB q5 (by have := hL2.1; simp only at this; omega) (fun x hx => by have := hL2.2 x hx; omega)
      rw [List.length_take, Nat.min_eq_left (show n ≤ ms.length by omega)] at S1
      rw [List.length_drop, hnsl] at S2
      rw [hnsl] at CY
      have HN0 := Lib.hid (show ns[0]? = some n0 from by rw [← List.head?_eq_getElem?]; exact q6)
      have HN1 := Lib.hid (show 0 < ns.length from by omega)
      have HP7 := Lib.hid q7
      have i0 : (0 : Int) < ms.length := by omega
      have i1 : (n : Int) < ms.length := by omega
      have i2 : (n : Int) ≤ ms.length := by omega
      have i3 : (ms.length : Int) ≤ 65536 := by have := hL.1; omega
      have i4 : (at1 : Int) ≤ s.size := by omega
      have i5 : ((ms.length : Int) == 0) = false := by rw [beq_eq_false_iff_ne]; omega
      have w1 : IntKind.i64.wrap ((n : Int) + ((ms.length - n : Nat) : Int)) = ms.length := by rw [IntKind.wrap_i64]; omega
      have i6 : (0 : Int) < ((ms.length - n : Nat) : Int) := by omega
      have HMN := Lib.hid (And.intro hmn p1)
      have HNL := Lib.hid hnl
      clear hP hL hL2 h0 hn hnl hmn p1 p2 p3 p4 q3 q4 q5 q6 q7 CM hnsl
      go_enter Tryd.func5, Tryd.ntmps5
      go_upto_region 4 with (first
        | (go_at_call 9; refine (CA.out _ hb1).mono ?_; rintro r W2 ⟨rfl, hb2⟩)
        | (go_at_call 10; refine C.out.mono ?_; rintro r W1 ⟨hb1, A, c, rfl, hM, hcap⟩))
      obtain ⟨b, off, rfl, hlt, hc⟩ := hM (by have := HNL.out; omega)
      obtain ⟨A1, c1, k0, k1, k2, k3, k4, k5⟩ := (hc n m HMN.out.1).keep hb2 hlt
      rw [HMN.out.2] at k1
      have hb12 := hb1.trans hb2
      have HM2 := Lib.hid (hM.keep hb2)
      have hci : (ms.length : Int) ≤ c := by omega
      have hcap2 : n ≤ c := by have := HNL.out; omega
      clear hc k0 k2 k3 k4 k5 hM hlt
      go_upto_region 8 with (first
        | (go_at_call 10; have _u := hb3; refine (CY.out _ (hb12.trans hb3)).mono ?_; rintro r W4 ⟨hb4, A4, c4, rfl, M4⟩)
        | (go_at_call 10; refine (CZ.out _ hb12).mono ?_; rintro r W3 ⟨hb3, A3, c3, rfl, M3⟩))
      have HA := Lib.hid (M3.keep hb4)
      have HT := Lib.hid (((HM2.out.keep hb3).keep hb4).take n)
      have HD := Lib.hid (((HM2.out.keep hb3).keep hb4).drop n)
      have HS := Lib.hid M4
      clear M3 M4 k1
      go_upto_region 10 with (first
        | (go_at_call 11; have _u := hb5; with_reducible refine Calls.mono (S2.out _ _ _ _ _ (HS.out.keep hb5) (HD.out.keep hb5)) ?_; rintro r W6 ⟨rfl, hb6⟩)
        | (go_at_call 11; with_reducible refine Calls.mono (S1.out _ _ _ _ _ HA.out HT.out) ?_; rintro r W5 ⟨rfl, hb5⟩))
      obtain ⟨b4, o4, rfl, hlt4, hc4⟩ := ((HS.out.keep hb5).keep hb6) HN1.out
      obtain ⟨A5, c5, k0, k1, k2, k3, k4, k5⟩ := hc4 0 n0 HN0.out
      rw [HP7.out] at k1
      simp only [Nat.zero_mul, Nat.add_zero] at k1
      clear hc4 k0 k2 k3 k4 k5
      have i7 : (((ms.length - n : Nat) : Int) == 0) = false := by rw [beq_eq_false_iff_ne]; omega
      go_wp2
      go_ret
      exact ⟨rfl, ((((hb12.trans hb3).trans hb4).trans hb5).trans hb6)⟩
  · have en : (((e : Nat) : Int) == 0) = false := by rw [beq_eq_false_iff_ne]; omega
    clear hR hW hP hL he hk
    go_enter Tryd.func5, Tryd.ntmps5
    go_wp2_with (first
      | (go_at_call 9; refine (CA.out _ (hb1.trans hb2)).mono ?_; rintro r W3 ⟨rfl, hb3⟩)
      | (go_at_call 9; refine (CA.out _ hb1).mono ?_; rintro r W2 ⟨rfl, hb2⟩)
      | (go_at_call 10; refine C.out.mono ?_; rintro r W1 ⟨hb1, A, c, rfl, _, _⟩))
    go_ret
    exact ⟨rfl, (hb1.trans hb2).trans hb3⟩
end Go.Proofs.YtobdokeklcdpoaaDoor
