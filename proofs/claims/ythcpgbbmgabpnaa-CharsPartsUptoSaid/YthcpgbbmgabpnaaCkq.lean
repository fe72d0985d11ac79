import Derived.Test.YthcpgbbmgabpnaaCkp
namespace Go.Proofs.Ythcpgbbmgabpnaa
set_option linter.unusedSimpArgs false
set_option linter.unusedVariables false
open Go.RowKit

/-! Chars: the law Parts. -/
theorem app_list (a b : ByteArray) : (a ++ b).data.toList = a.data.toList ++ b.data.toList := by
  rw [ByteArray.data_append]
  simp
theorem app_drop (a b : ByteArray) (pos : Nat) : (a ++ b).data.toList.drop (a.size + pos) = b.data.toList.drop pos := by
  rw [app_list, ← size_list a, List.drop_append, List.drop_of_length_le (by omega), List.nil_append]
  congr 1
  omega
theorem bad_shift (a b : ByteArray) : ∀ f pos, badFrom (a ++ b) f (a.size + pos) = if badFrom b f pos = -1 then -1 else (a.size : Int) + badFrom b f pos := by
  intro f
  induction f with
  | zero => intro pos; rfl
  | succ f ih =>
    intro pos
    have hsz : (a ++ b).size = a.size + b.size := ByteArray.size_append
    rw [badFrom, badFrom, hsz]
    by_cases hp : pos < b.size
    · rw [if_pos (by omega), if_pos hp, okAt_L, wdAt_L, app_drop, ← okAt_L, ← wdAt_L]
      by_cases hok : okAt b pos = true
      · rw [if_pos hok, if_pos hok, Nat.add_assoc]
        exact ih _
      · rw [if_neg hok, if_neg hok, if_neg (by omega)]
        omega
    · rw [if_neg (by omega), if_neg hp]
      rfl
theorem bad_fuel (s : ByteArray) : ∀ f f' pos, s.size ≤ f + pos → s.size ≤ f' + pos → badFrom s f pos = badFrom s f' pos := by
  intro f
  induction f with
  | zero =>
    intro f' pos h h'
    cases f' with
    | zero => rfl
    | succ f' => rw [badFrom, badFrom, if_neg (by omega)]
  | succ f ih =>
    intro f' pos h h'
    cases f' with
    | zero => rw [badFrom, badFrom, if_neg (by omega)]
    | succ f' =>
      rw [badFrom, badFrom]
      have := wd_pos s pos
      rw [ih f' (pos + wdAt s pos) (by omega) (by omega)]
theorem bad_front (a b : ByteArray) : ∀ f pos, pos ≤ a.size → badFrom a f pos = -1 → a.size ≤ f + pos → ∀ F F', (a ++ b).size ≤ F + pos → (a ++ b).size ≤ F' + a.size → badFrom (a ++ b) F pos = badFrom (a ++ b) F' a.size := by
  intro f
  have hsz : (a ++ b).size = a.size + b.size := ByteArray.size_append
  induction f with
  | zero =>
    intro pos hp _ hf F F' hF hF'
    obtain rfl : pos = a.size := by omega
    exact bad_fuel _ _ _ _ hF hF'
  | succ f ih =>
    intro pos hp hb hf F F' hF hF'
    by_cases hlt : pos < a.size
    · rw [badFrom, if_pos hlt] at hb
      by_cases hok : okAt a pos = true
      · rw [if_pos hok] at hb
        have hwd := wd_pos a pos
        have hwl := wdAt_le a pos hlt
        have hne : a.data.toList.drop pos ≠ [] := by
          intro e
          have := drop_len a pos
          rw [e] at this
          simp at this; omega
        have hd : (a ++ b).data.toList.drop pos = a.data.toList.drop pos ++ b.data.toList := by
          rw [app_list, List.drop_append_of_le_length (by rw [size_list]; omega)]
        have hx := ok_app (a.data.toList.drop pos) b.data.toList hne (by rw [← okAt_L]; exact hok)
        have hok2 : okAt (a ++ b) pos = true := by rw [okAt_L, hd]; exact hx.1
        have hwd2 : wdAt (a ++ b) pos = wdAt a pos := by rw [wdAt_L, wdAt_L, hd]; exact congrArg Prod.snd hx.2
        obtain ⟨F1, rfl⟩ : ∃ F1, F = F1 + 1 := ⟨F - 1, by omega⟩
        rw [badFrom, if_pos (by omega), if_pos hok2, hwd2]
        exact ih _ hwl hb (by omega) _ _ (by omega) hF'
      · rw [if_neg hok] at hb
        exact absurd hb (by omega)
    · obtain rfl : pos = a.size := by omega
      exact bad_fuel _ _ _ _ hF hF'
theorem bad_app (a b : ByteArray) (hg : goodB a = true) : badV (a ++ b) = if badV b = -1 then -1 else (a.size : Int) + badV b := by
  have hsz : (a ++ b).size = a.size + b.size := ByteArray.size_append
  unfold badV
  rw [bad_front a b a.size 0 (Nat.zero_le _) (of_decide_eq_true hg) (by omega) (a ++ b).size b.size (by omega) (by omega)]
  have := bad_shift a b b.size 0
  rwa [Nat.add_zero] at this
theorem bad_le (s : ByteArray) : ∀ f pos, badFrom s f pos ≤ s.size := by
  intro f
  induction f with
  | zero => intro pos; show (-1 : Int) ≤ _; omega
  | succ f ih =>
    intro pos
    rw [badFrom]
    split
    · split
      · exact ih _
      · omega
    · omega
theorem bad_sg (s : ByteArray) : badV s = -1 ∨ 0 ≤ badV s := badFrom_sg s s.size 0
theorem escT_app (a b : ByteArray) (ha : goodB a = true) (hb : goodB b = true) : escT (a ++ b) = escT a ++ escT b ∧ goodB (a ++ b) = true := by
  have h1 : goodB (a ++ b) = true := by
    unfold goodB
    rw [bad_app a b ha, if_pos (of_decide_eq_true hb)]
    rfl
  refine ⟨?_, h1⟩
  rw [escT, escT, escT, if_pos h1, if_pos ha, if_pos hb, app_list, escL_append, app_bytesOf]
set_option maxRecDepth 100000 in
set_option maxHeartbeats 4000000 in
theorem law_parts (a b : ByteArray) (hsa : a.size ≤ 1048576) (hsb : b.size ≤ 1048576) (w : World) : Calls Try.prog 7 #[.string a, .string b] w fun e w' => e = .returned (.bool true) ∧ Bel w w' := by
  have hsz : (a ++ b).size = a.size + b.size := ByteArray.size_append
  have hai : (a.size : Int) ≤ 1048576 := by omega
  have hbi : (b.size : Int) ≤ 1048576 := by omega
  have c0 := fun w => rgood_any a (by omega) w
  cases hg : goodB a with
  | false =>
    rw [hg] at c0
    have C0 := Lib.hid c0
    clear c0 hg hsz
    go_enter Try.func7, Try.ntmps7
    go_wp2_with (first
      | (go_at_call 9; refine (awake_any _).mono ?_; rintro e V0 ⟨rfl, b0⟩)
      | (go_at_call 13; refine (C0.out _).mono ?_; rintro e V1 ⟨rfl, rfl⟩))
    go_ret
    rename_i vq bq
    exact ⟨rfl, bq.trans b0⟩
  | true =>
    rw [hg] at c0
    have C0 := Lib.hid c0
    have c1 := fun w => bad_any (a ++ b) (by omega) w
    have c2 := fun w => bad_any b (by omega) w
    have c3 := fun w => escape_any a (by omega) w
    have c4 := fun w => escape_any b (by omega) w
    have c5 := fun w => escape_any (a ++ b) (by omega) w
    have hba := bad_app a b hg
    have e3 : escN a = 0 := by rw [escN, hg]; rfl
    rw [e3] at c3
    have hza := escT_size a
    have hzb := escT_size b
    cases hgb : goodB b with
    | true =>
      have hb1 : badV b = -1 := of_decide_eq_true hgb
      rw [hb1, if_pos rfl] at hba
      rw [hba] at c1
      rw [hb1] at c2
      have e4 : escN b = 0 := by rw [escN, hgb]; rfl
      have happ := escT_app a b hg hgb
      have e5 : escN (a ++ b) = 0 := by rw [escN, happ.2]; rfl
      rw [e4] at c4
      rw [e5, happ.1] at c5
      obtain ⟨x, hx⟩ : ∃ x, x = escT a := ⟨_, rfl⟩
      obtain ⟨y, hy⟩ : ∃ y, y = escT b := ⟨_, rfl⟩
      rw [← hx, ← hy] at c5
      rw [← hx] at c3 hza
      rw [← hy] at c4 hzb
      have C1 := Lib.hid c1
      have C2 := Lib.hid c2
      have C3 := Lib.hid c3
      have C4 := Lib.hid c4
      have C5 := Lib.hid c5
      have hxi : (x.size : Int) ≤ 6291456 := by omega
      have hyi : (y.size : Int) ≤ 6291456 := by omega
      clear c0 c1 c2 c3 c4 c5 hx hy hg hgb hba hb1 e3 e4 e5 happ hsz
      go_enter Try.func7, Try.ntmps7
      go_wp2_with (first
        | (go_at_call 9; refine (awake_any _).mono ?_; rintro e V0 ⟨rfl, b0⟩)
        | (go_at_call 13; refine (C0.out _).mono ?_; rintro e V1 ⟨rfl, rfl⟩)
        | (go_at_call 10; with_reducible refine (C1.out _).mono ?_; rintro e V1 ⟨rfl, b1⟩)
        | (go_at_call 10; with_reducible refine (C2.out _).mono ?_; rintro e V2 ⟨rfl, b2⟩)
        | (go_at_call 16; with_reducible refine (C3.out _).mono ?_; rintro e V3 ⟨rfl, b3⟩)
        | (go_at_call 16; with_reducible refine (C4.out _).mono ?_; rintro e V4 ⟨rfl, b4⟩)
        | (go_at_call 16; with_reducible refine (C5.out _).mono ?_; rintro e V5 ⟨rfl, b5⟩))
      go_ret
      exact ⟨rfl, ((((b0.trans b1).trans b2).trans b3).trans b4).trans b5⟩
    | false =>
      have hb1 : badV b ≠ -1 := of_decide_eq_false hgb
      have hb0 : 0 ≤ badV b := (bad_sg b).resolve_left hb1
      have hble : badV b ≤ b.size := bad_le b _ _
      rw [if_neg hb1] at hba
      obtain ⟨z, hz⟩ : ∃ z, z = badV b := ⟨_, rfl⟩
      rw [← hz] at hba c2 hb0 hble
      rw [hba] at c1
      have e4 : escN b = 6 := by rw [escN, hgb]; rfl
      have hgab : goodB (a ++ b) = false := by
        unfold goodB
        rw [hba]
        exact decide_eq_false (by omega)
      have e5 : escN (a ++ b) = 6 := by rw [escN, hgab]; rfl
      rw [e4] at c4
      rw [e5] at c5
      obtain ⟨x, hx⟩ : ∃ x, x = escT a := ⟨_, rfl⟩
      obtain ⟨y, hy⟩ : ∃ y, y = escT b := ⟨_, rfl⟩
      obtain ⟨q, hq⟩ : ∃ q, q = escT (a ++ b) := ⟨_, rfl⟩
      rw [← hq] at c5
      rw [← hx] at c3 hza
      rw [← hy] at c4 hzb
      have C1 := Lib.hid c1
      have C2 := Lib.hid c2
      have C3 := Lib.hid c3
      have C4 := Lib.hid c4
      have C5 := Lib.hid c5
      have g1 : decide ((a.size : Int) + z < 0) = false := by exact decide_eq_false (by omega)
      have g2 : decide (z < 0) = false := by exact decide_eq_false (by omega)
      have g3 : decide (0 ≤ (a.size : Int) + z) = true := by exact decide_eq_true (by omega)
      have zi : z ≤ 1048576 := by omega
      clear c0 c1 c2 c3 c4 c5 hx hy hq hg hgb hba hb1 e3 e4 e5 hgab hsz hz
      go_enter Try.func7, Try.ntmps7
      go_wp2_with (first
        | (go_at_call 9; refine (awake_any _).mono ?_; rintro e V0 ⟨rfl, b0⟩)
        | (go_at_call 13; refine (C0.out _).mono ?_; rintro e V1 ⟨rfl, rfl⟩)
        | (go_at_call 10; with_reducible refine (C1.out _).mono ?_; rintro e V1 ⟨rfl, b1⟩)
        | (go_at_call 10; with_reducible refine (C2.out _).mono ?_; rintro e V2 ⟨rfl, b2⟩)
        | (go_at_call 16; with_reducible refine (C3.out _).mono ?_; rintro e V3 ⟨rfl, b3⟩)
        | (go_at_call 16; with_reducible refine (C4.out _).mono ?_; rintro e V4 ⟨rfl, b4⟩)
        | (go_at_call 16; with_reducible refine (C5.out _).mono ?_; rintro e V5 ⟨rfl, b5⟩))
      go_ret
      exact ⟨rfl, ((((b0.trans b1).trans b2).trans b3).trans b4).trans b5⟩
end Go.Proofs.Ythcpgbbmgabpnaa
