import Derived.Test.YtobdokeklcdpoaaDoorMkx
namespace Go.Proofs.YtobdokeklcdpoaaDoor
set_option linter.unusedSimpArgs false
set_option linter.unusedVariables false
open Go.RowKit

/-! The simplest facts; the law Places. -/
def LIT : ByteArray := ⟨#[60, 97, 32, 98, 61, 34, 49, 34, 62, 120, 60, 33, 45, 45, 32, 121, 32, 45, 45, 62, 60, 99, 47, 62, 60, 47, 97, 62]⟩
def LMS : List Mk := [⟨1, 0, [97], [([98], [49])], []⟩, ⟨3, 9, [], [], [120]⟩, ⟨4, 20, [99], [], []⟩, ⟨2, 24, [97], [], []⟩]
theorem lit_marks : marksS LIT = (LMS, 0, 0) := by kernel_rfl
set_option maxRecDepth 100000 in
set_option maxHeartbeats 4000000 in
theorem mawake_any (w : World) (hm : Mx w) : Calls Tryd.prog 9 #[] w fun r w' => r = .returned (.bool true) ∧ Bel w w' := by
  have C := Lib.hid (marks_any LIT w hm)
  unfold MarksOut at C
  rw [lit_marks] at C
  unfold LIT at C
  go_enter Tryd.func9, Tryd.ntmps9
  go_upto_region 2 with (go_at_call 10; refine C.out.mono ?_; rintro r W1 ⟨hb1, A, c, rfl, hM, _⟩)
  obtain ⟨b, off, rfl, hlt, hc⟩ := hM (by decide)
  obtain ⟨A0, c0, k00, k01, k02, k03, k04, k05⟩ := hc 0 ⟨1, 0, [97], [([98], [49])], []⟩ rfl
  obtain ⟨A1, c1, k10, k11, k12, k13, k14, k15⟩ := hc 1 ⟨3, 9, [], [], [120]⟩ rfl
  obtain ⟨A2, c2, k20, k21, k22, k23, k24, k25⟩ := hc 2 ⟨4, 20, [99], [], []⟩ rfl
  obtain ⟨b5, o5, rfl, hlt5, hc5⟩ := k05 (by decide)
  have y1 := hc5 1 _ rfl
  simp only [Nat.zero_mul, Nat.add_zero, Nat.one_mul] at k00 k01 k02 k03 k04 k10 k11 k12 k13 k14 k20 k21 k22 k23 k24
  have e1 : ([(([98] : List UInt8), ([49] : List UInt8))]).length = 1 := rfl
  simp only [e1] at k03
  have e2 : bytesOf [49] = ⟨#[49]⟩ := rfl
  have e3 : bytesOf [120] = ⟨#[120]⟩ := rfl
  rw [e2] at y1
  rw [e3] at k14
  have e4 : LMS.length = 4 := rfl
  simp only [e4]
  clear hc hM hc5 k05 k15 k25 e1 e2 e3 e4
  go_wp2
  go_ret
  exact ⟨rfl, hb1⟩
set_option maxRecDepth 100000 in
set_option maxHeartbeats 4000000 in
theorem law_Places (s : ByteArray) (hs : s.size ≤ 9223372036854775807) (w : World) (hm : Mx w) : Calls Tryd.prog 6 #[.string s] w fun r w' => r = .returned (.bool true) ∧ Bel w w' := by
  have C := Lib.hid (marks_any s w hm)
  have CA := Lib.hid fun W (hb : Bel w W) => mawake_any W (hm.keep hb)
  have CM := Lib.hid fun W (hb : Bel w W) z => marks_any z W (hm.keep hb)
  have hR := marksS_right s
  have hW := marksS_wrong s
  have hsi : (s.size : Int) ≤ 9223372036854775807 := by omega
  unfold MarksOut at C
  generalize marksS s = m at *
  obtain ⟨ms, at_, e⟩ := m
  simp only at C hR hW
  clear hm
  by_cases he : e = 0
  · subst he
    have h1 := (hR rfl).2.1
    subst h1
    clear hR hW hs
    have e0 : ((0 : Nat) : Int) = 0 := rfl
    simp only [e0] at C
    have HB := Lib.hid (Bel.refl w)
    go_enter Tryd.func6, Tryd.ntmps6
    go_wp2_with (first
      | (go_at_call 9; refine (CA.out _ (hb1.trans hb2)).mono ?_; rintro r W3 ⟨rfl, hb3⟩)
      | (go_at_call 9; refine (CA.out _ hb1).mono ?_; rintro r W2 ⟨rfl, hb2⟩)
      | (go_at_call 10; refine C.out.mono ?_; rintro r W1 ⟨hb1, A, c, rfl, _⟩))
    go_ret
    exact ⟨rfl, (hb1.trans hb2).trans hb3⟩
  · obtain ⟨h1, h2⟩ := hW he
    subst h1
    have en : (((e : Nat) : Int) == 0) = false := by rw [beq_eq_false_iff_ne]; omega
    have HE := Lib.hid he
    clear hR hW he
    have i0 : (0 : Int) ≤ at_ := by omega
    have i1 : (at_ : Int) ≤ s.size := by
      rcases h2 with h | h | h
      · omega
      · omega
      · omega
    have hl0 : ([] : List Mk).length = 0 := rfl
    simp only [hl0] at C
    have d0 : decide ((at_ : Int) < 0) = false := by exact decide_eq_false (by omega)
    have d1 : decide ((s.size : Int) < (at_ : Int)) = false := by exact decide_eq_false (by omega)
    have stop : ∀ n : Nat, e = n → n = 10 ∨ n = 6 ∨ n = 7 → (n = 10 → 65536 < s.size ∧ at_ = 0) → (n ≠ 10 → at_ < s.size) → Calls Tryd.prog 6 #[.string s] w fun r w' => r = .returned (.bool true) ∧ Bel w w' := by
      intro n hn hk k1 k2
      subst hn
      clear h2 HE
      rcases hk with rfl | rfl | rfl
      · obtain ⟨k3, rfl⟩ := k1 rfl
        have i3 : (65536 : Int) < s.size := by omega
        clear k1 k2 k3 d0 d1 i0 en hs
        go_enter Tryd.func6, Tryd.ntmps6
        go_wp2_with (first
          | (go_at_call 9; refine (CA.out _ hb1).mono ?_; rintro r W2 ⟨rfl, hb2⟩)
          | (go_at_call 10; refine C.out.mono ?_; rintro r W1 ⟨hb1, A, c, rfl, _⟩))
        go_ret
        exact ⟨rfl, hb1.trans hb2⟩
      · have i3 : (at_ : Int) < s.size := by have := k2 (by decide); omega
        clear k1 k2 en hs d0 d1
        go_enter Tryd.func6, Tryd.ntmps6
        go_wp2_with (first
          | (go_at_call 9; refine (CA.out _ hb1).mono ?_; rintro r W2 ⟨rfl, hb2⟩)
          | (go_at_call 10; refine C.out.mono ?_; rintro r W1 ⟨hb1, A, c, rfl, _⟩))
        go_ret
        exact ⟨rfl, hb1.trans hb2⟩
      · have i3 : (at_ : Int) < s.size := by have := k2 (by decide); omega
        clear k1 k2 en hs d0 d1
        go_enter Tryd.func6, Tryd.ntmps6
        go_wp2_with (first
          | (go_at_call 9; refine (CA.out _ hb1).mono ?_; rintro r W2 ⟨rfl, hb2⟩)
          | (go_at_call 10; refine C.out.mono ?_; rintro r W1 ⟨hb1, A, c, rfl, _⟩))
        go_ret
        exact ⟨rfl, hb1.trans hb2⟩
    rcases h2 with ⟨rfl, h3, h4⟩ | ⟨h3, h4⟩ | ⟨rfl, h3, h4, h5⟩
    · exact stop 10 rfl (.inl rfl) (fun _ => ⟨h3, h4⟩) (fun h => absurd rfl h)
    · refine stop e rfl (by omega) (fun h => by omega) (fun _ => h4)
    · have hz := h5 (s.extract 0 at_) (by rw [Lib.extract_data, List.drop_zero]; rfl)
      have CZ := Lib.hid (show ∀ W, Bel w W → Calls Tryd.prog 10 #[.string (s.extract 0 at_)] W fun r w' => ∃ A n c q, r = .returned (.tuple #[.slice A n c, .int .i64 q, .int .i64 0]) ∧ Bel W w' from fun W hb => (CM.out W hb (s.extract 0 at_)).mono fun r w' ⟨h1, A, c, h2, _⟩ => ⟨A, _, c, _, by rw [hz] at h2; exact h2, h1⟩)
      have hg : s[at_].toNat = 60 := by
        rw [List.getElem?_eq_getElem (by rw [size_list]; exact h3)] at h4
        have := Option.some.inj h4
        show (s.data.toList[at_]'(by rw [size_list]; exact h3)).toNat = 60
        rw [this]; rfl
      have hgi : ((s[at_].toNat : Int) == 60) = true := by rw [hg]; rfl
      have i3 : (at_ : Int) < s.size := by omega
      clear h4 h5 hz stop en hs d0 d1 hg HE
      go_enter Tryd.func6, Tryd.ntmps6
      go_wp2_with (first
        | (go_at_call 10; refine (CZ.out _ (hb1.trans hb2)).mono ?_; rintro r W3 ⟨A3, n3, c3, q3, rfl, hb3⟩)
        | (go_at_call 9; refine (CA.out _ hb1).mono ?_; rintro r W2 ⟨rfl, hb2⟩)
        | (go_at_call 10; refine C.out.mono ?_; rintro r W1 ⟨hb1, A, c, rfl, _⟩))
      go_ret
      exact ⟨rfl, (hb1.trans hb2).trans hb3⟩
end Go.Proofs.YtobdokeklcdpoaaDoor
