import Derived.Test.YteblpdoljhmcmaaPlg
namespace Go.Proofs.Yteblpdoljhmcmaa
set_option linter.unusedSimpArgs false
set_option linter.unusedVariables false
open Go.RowKit Go.Lib
attribute [local go_sem ↓] eql_val neq_val

/-! The laws' rules that fire. -/
theorem risF_mono {c c' : Int} (h : c ≤ c') : ∀ {l : List Int} {nx : Int}, risF c nx l = true → risF c' nx l = true
  | [], _, _ => rfl
  | a :: l, nx, h1 => by
    simp only [risF, Bool.and_eq_true, Bool.not_eq_true', Bool.or_eq_false_iff, decide_eq_false_iff_not] at h1 ⊢
    exact ⟨⟨h1.1.1, by omega⟩, risF_mono h h1.2⟩
theorem risF_snoc {k : Int} : ∀ {l : List Int} {nx : Int}, risF k nx l = true → nx ≤ k → risF (k + 1) nx (l ++ [k]) = true
  | [], nx, _, h => by simp [risF]; omega
  | a :: l, nx, h1, h => by
    simp only [risF, Bool.and_eq_true, Bool.not_eq_true', Bool.or_eq_false_iff, decide_eq_false_iff_not, List.cons_append] at h1 ⊢
    exact ⟨⟨h1.1.1, by omega⟩, risF_snoc h1.2 (by omega)⟩
theorem risF_len {c : Int} : ∀ {l : List Int} {nx : Int}, risF c nx l = true → nx ≤ c → (l.length : Int) ≤ c - nx
  | [], nx, _, h => by simp; omega
  | a :: l, nx, h1, h => by
    simp only [risF, Bool.and_eq_true, Bool.not_eq_true', Bool.or_eq_false_iff, decide_eq_false_iff_not] at h1
    have := risF_len h1.2 (by omega)
    simp only [List.length_cons]
    omega
def FiredOut (n : Int) (w : World) (e : Ending) (w' : World) : Prop := ∃ v l, e = .returned v ∧ OwnI w' w.heap.size v l ∧ risF n 0 l = true ∧ l.length ≤ 16 ∧ Bel w w'
set_option maxRecDepth 100000 in
set_option maxHeartbeats 4000000 in
theorem fired_any (n : Nat) (m : Int) (w : World) (hn : (n : Int) ≤ 9223372036854775807) (hm : 0 ≤ m ∧ m ≤ 65535) :
    Calls Try.prog 14 #[.int .i64 n, .int .u16 m] w (FiredOut n w) := by
  go_enter Try.func14, Try.ntmps14
  go_wp2_with fail
  go_loopg [5, 6] 16 (fun g o i wr => ∃ (k : Nat) (l : List Int), i = .int .i64 k ∧ k ≤ 16 ∧ k ≤ n ∧ Hid (g = 16 - k ∧ risF k 0 l = true ∧ l.length ≤ k) ∧ Bel w wr ∧ OwnI wr w.heap.size o l)
  case atStart => exact ⟨0, [], rfl, Nat.zero_le _, Nat.zero_le _, ⟨rfl, rfl, Nat.le_refl _⟩, (Bel.refl _).alloc _, OwnI.lit (w := w) [] (Bel.refl _) rfl (by simp)⟩
  case round =>
    obtain ⟨k, l, rfl, hk, hkn, hh, hb, hown⟩ := hrel
    have OW := Lib.hid hown
    clear hown
    by_cases hp : k < 16 ∧ k < n
    · obtain ⟨hp1, hp2⟩ := hp
      have i1 : (k : Int) < n := by omega
      have i2 : (k : Int) < 16 := by omega
      have i3 : (0 : Int) ≤ (k : Int) := by omega
      have PL := Lib.hid (show l.length + 1 ≤ 2097152 from by have := hh.out.2.2; omega)
      have L2 := Lib.hid (show l.length + 1 ≤ k + 1 from by have := hh.out.2.2; omega)
      have R1 := Lib.hid (show risF ((k : Int) + 1) 0 l = true from risF_mono (by omega) hh.out.2.1)
      have R2 := Lib.hid (show risF ((k : Int) + 1) 0 (l ++ [(k : Int)]) = true from risF_snoc hh.out.2.1 (by omega))
      go_wp2_with (at_builtin; refine wpList_app rfl (.tmp 22) (.tmp 24) _ rfl (app_ints (w0 := w) (W := wr) (ys := [(k : Int)]) hb ((Bel.refl _).alloc _) OW.out (ints_lit [(k : Int)] rfl) rfl (fun h => by cases h) PL.out _) ?_; rintro v' w' ⟨o', b', _, _, _⟩)
      · go_roundg (16 - (k + 1))
        case measure => have := hh.out.1; omega
        case rel => exact ⟨k + 1, l ++ [(k : Int)], by go_num, by omega, by omega, ⟨rfl, by have := R2.out; rwa [show ((k : Int) + 1) = ((k + 1 : Nat) : Int) by omega] at this, by rw [List.length_append]; exact L2.out⟩, b', o'⟩
      · go_roundg (16 - (k + 1))
        case measure => have := hh.out.1; omega
        case rel => exact ⟨k + 1, l, by go_num, by omega, by omega, ⟨rfl, by have := R1.out; rwa [show ((k : Int) + 1) = ((k + 1 : Nat) : Int) by omega] at this, Nat.le_of_succ_le L2.out⟩, hb, OW.out⟩
    · have RF := Lib.hid (show risF n 0 l = true from risF_mono (by omega) hh.out.2.1)
      have LF := Lib.hid (show l.length ≤ 16 from Nat.le_trans hh.out.2.2 hk)
      by_cases h1 : k < n
      · have i1 : (k : Int) < n := by omega
        have i2 : ¬ (k : Int) < 16 := by omega
        go_wp2_with fail
        go_ret
        exact ⟨_, l, rfl, OW.out, RF.out, LF.out, hb⟩
      · have i1 : ¬ (k : Int) < n := by omega
        go_wp2_with fail
        go_ret
        exact ⟨_, l, rfl, OW.out, RF.out, LF.out, hb⟩
end Go.Proofs.Yteblpdoljhmcmaa
