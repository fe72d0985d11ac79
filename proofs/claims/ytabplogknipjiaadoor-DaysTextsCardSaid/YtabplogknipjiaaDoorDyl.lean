import Derived.Test.YtabplogknipjiaaDoorDyk
namespace Go.Proofs.YtabplogknipjiaaDoor
set_option linter.unusedSimpArgs false
set_option linter.unusedVariables false
open Go.RowKit

/-! Days: there and back. -/
theorem dgt_nat (n k : Nat) : (dgt n k).toNat = 48 + n / k % 10 := by
  unfold dgt
  rw [UInt8.toNat_ofNat']
  omega
theorem dB_dgt (n k : Nat) : dB (dgt n k) = true := by simp only [dB, dgt_nat, decide_eq_true_eq]; omega
theorem numL_4 (n : Nat) (h : n < 10000) : numL [dgt n 1000, dgt n 100, dgt n 10, dgt n 1] = n := by
  simp only [numL, List.foldl_cons, List.foldl_nil, dgt_nat]; omega
theorem numL_2 (n : Nat) (h : n < 100) : numL [dgt n 10, dgt n 1] = n := by
  simp only [numL, List.foldl_cons, List.foldl_nil, dgt_nat]; omega
theorem parse_txt (y m d : Nat) (hy : y < 10000) (hm : m < 100) (hd : d < 100) : parseV (txt y m d) = dayV y m d := by
  have : parseV (txt y m d) = parseL (dgt y 1000) (dgt y 100) (dgt y 10) (dgt y 1) (dgt m 10) (dgt m 1) (dgt d 10) (dgt d 1) := by simp [parseV, txt]
  rw [this, parseL, if_pos ⟨by simp [dOk, dB_dgt], by simp [dOk, dB_dgt], by simp [dOk, dB_dgt]⟩, numL_4 y hy, numL_2 m hm, numL_2 d hd]
theorem back (n : Int) (h1 : 0 ≤ n) (h2 : n ≤ 3652058) : dateV n = .tuple #[.int .i64 (dY n), .int .i64 (dM n), .int .i64 (dD n), .int .i64 0] ∧
    dayV (dY n) (dM n) (dD n) = .tuple #[.int .i64 n, .int .i64 0] ∧ textV n = .tuple #[.string (dtx n), .int .i64 0] ∧
    parseV (dtx n) = .tuple #[.int .i64 n, .int .i64 0] ∧ (dtx n).size = 10 := by
  obtain ⟨hs, hn⟩ := date_spec n h1 h2
  have hs' := hs
  obtain ⟨s1, s2, s3, s4, s5, s6⟩ := hs'
  have s7 := lenM_bd (dY n) (dM n)
  have hd : dayV (dY n) (dM n) (dD n) = .tuple #[.int .i64 n, .int .i64 0] := by rw [show dayV (dY n) (dM n) (dD n) = _ from if_pos hs, hn]
  refine ⟨if_pos ⟨h1, h2⟩, hd, if_pos ⟨h1, h2⟩, ?_, rfl⟩
  unfold dtx
  rw [parse_txt _ _ _ (by omega) (by omega) (by omega), show ((dY n).toNat : Int) = dY n by omega, show ((dM n).toNat : Int) = dM n by omega, show ((dD n).toNat : Int) = dD n by omega, hd]
theorem top_date : dY 3652058 = 9999 ∧ dM 3652058 = 12 ∧ dD 3652058 = 31 := by
  obtain ⟨a, b, c⟩ := date_is (n := 3652058) (a := 9999) (b := 12) (c := 31) (by decide) (by decide)
  exact ⟨a.symm, b.symm, c.symm⟩
theorem next_date (n : Int) (h1 : 0 ≤ n) (h2 : n < 3652058) :
    (dY (n + 1) = dY n ∧ dM (n + 1) = dM n ∧ dD (n + 1) = dD n + 1) ∨ (dY (n + 1) = dY n ∧ dM (n + 1) = dM n + 1 ∧ dD (n + 1) = 1 ∧ 28 ≤ dD n) ∨
      (dY (n + 1) = dY n + 1 ∧ dM (n + 1) = 1 ∧ dD (n + 1) = 1 ∧ dM n = 12 ∧ dD n = 31) := by
  obtain ⟨hs, hn⟩ := date_spec n h1 (by omega)
  obtain ⟨a, b, c, hs', hn', h⟩ := num_next _ _ _ hs (by omega)
  obtain ⟨rfl, rfl, rfl⟩ := date_is (n := n + 1) hs' (by omega)
  exact h

set_option maxRecDepth 100000 in
set_option maxHeartbeats 4000000 in
/-- A day's date has that day; its text is read as it; the next day is the next date. -/
theorem law_Back (x : Int) (h0 : 0 ≤ x) (h1 : x ≤ 4294967295) (w : World) (ht : Tab w) : Calls Tryd.prog 5 #[.int .u32 x] w fun e w' => e = .returned (.bool true) ∧ Bel w w' := by
  obtain ⟨k, hk⟩ : ∃ k, x % 3652059 = k := ⟨_, rfl⟩
  have k0 : 0 ≤ k := by omega
  have k1 : k ≤ 3652058 := by omega
  obtain ⟨e1, e2, e3, e4, e5⟩ := back k k0 k1
  obtain ⟨⟨s1, s2, s3, s4, s5, s6⟩, -⟩ := date_spec k k0 k1
  have s7 := lenM_bd (dY k) (dM k)
  have s8 : dD k ≤ 31 := by omega
  clear s6 s7
  have hb : Bel w w := Bel.refl _
  have E := Lib.hid (And.intro e1 (And.intro e2 (And.intro e3 e4)))
  clear e1 e2 e3 e4
  generalize htx : dtx k = T at *
  clear htx
  by_cases hkm : k = 3652058
  · obtain ⟨t1, t2, t3⟩ := top_date
    have e6 := Lib.hid (show dateV (k + 1) = .tuple #[.int .i64 0, .int .i64 0, .int .i64 0, .int .i64 3] from if_neg (by omega))
    rw [← hkm] at t1 t2 t3
    rw [t1, t2, t3] at E
    have KM : (k == 3652058) = true := by simpa using hkm
    have E2 := E.out
    have E6 := e6.out
    clear t1 t2 t3 hkm s1 s2 s3 s4 s5 s8 e6 E
    obtain ⟨e1, e2, e3, e4⟩ := E2
    have C2 := day_any 9999 12 31
    rw [e2] at C2
    have E1 := Lib.hid e1
    have E3 := Lib.hid e3
    have E4 := Lib.hid e4
    have E6' := Lib.hid E6
    have C2' := Lib.hid C2
    clear e1 e2 e3 e4 E6 C2
    go_enter Tryd.func5, Tryd.ntmps5
    go_wp2_with (first
      | (go_at_call 10; refine (date_any _ _).mono ?_; rintro e w1 ⟨rfl, hb1⟩; (first | rw [E1.out] | rw [E6'.out]); replace hb := hb.trans hb1; clear hb1)
      | (go_at_call 8; refine (C2'.out _).mono ?_; rintro e w1 ⟨rfl, hb1⟩; replace hb := hb.trans hb1; clear hb1)
      | (go_at_call 13; refine (text_any _ _ (ht.keep hb)).mono ?_; rintro e w1 ⟨rfl, hb1⟩; rw [E3.out]; replace hb := hb.trans hb1; clear hb1)
      | (go_at_call 15; refine (parse_any _ _).mono ?_; rintro e w1 ⟨rfl, hb1⟩; rw [E4.out]; replace hb := hb.trans hb1; clear hb1)
      | (go_at_call 12; refine (awake_any _ (ht.keep hb)).mono ?_; rintro e w1 ⟨rfl, hb1⟩; replace hb := hb.trans hb1; clear hb1))
    go_ret
    exact ⟨rfl, hb⟩
  · have KM : (k == 3652058) = false := by simpa using hkm
    have hnx := next_date k k0 (by omega)
    have e6 : dateV (k + 1) = .tuple #[.int .i64 (dY (k + 1)), .int .i64 (dM (k + 1)), .int .i64 (dD (k + 1)), .int .i64 0] := if_pos ⟨by omega, by omega⟩
    generalize dY (k + 1) = p at *
    generalize dM (k + 1) = q at *
    generalize dD (k + 1) = r at *
    generalize dY k = Y at *
    generalize dM k = M at *
    generalize dD k = D at *
    obtain ⟨e1, e2, e3, e4⟩ := E.out
    have C2 := day_any Y M D
    rw [e2] at C2
    have C2' := Lib.hid C2
    have E1 := Lib.hid e1
    have E3 := Lib.hid e3
    have E4 := Lib.hid e4
    clear e1 e2 e3 e4 C2 E hkm
    have n1 : (M == M + 1) = false := by simp <;> omega
    have n2 : (Y == Y + 1) = false := by simp <;> omega
    have n3 : (M + 1 == M) = false := by simp <;> omega
    have n4 : (Y + 1 == Y) = false := by simp <;> omega
    rcases hnx with ⟨rfl, rfl, rfl⟩ | ⟨rfl, rfl, rfl, hD⟩ | ⟨rfl, rfl, rfl, rfl, rfl⟩
    all_goals
      have E6' := Lib.hid e6
      clear e6
      go_enter Tryd.func5, Tryd.ntmps5
      go_wp2_with (first
        | (go_at_call 10; refine (date_any _ _).mono ?_; rintro e w1 ⟨rfl, hb1⟩; (first | rw [E1.out] | rw [E6'.out]); replace hb := hb.trans hb1; clear hb1)
        | (go_at_call 8; refine (C2'.out _).mono ?_; rintro e w1 ⟨rfl, hb1⟩; replace hb := hb.trans hb1; clear hb1)
        | (go_at_call 13; refine (text_any _ _ (ht.keep hb)).mono ?_; rintro e w1 ⟨rfl, hb1⟩; rw [E3.out]; replace hb := hb.trans hb1; clear hb1)
        | (go_at_call 15; refine (parse_any _ _).mono ?_; rintro e w1 ⟨rfl, hb1⟩; rw [E4.out]; replace hb := hb.trans hb1; clear hb1)
        | (go_at_call 12; refine (awake_any _ (ht.keep hb)).mono ?_; rintro e w1 ⟨rfl, hb1⟩; replace hb := hb.trans hb1; clear hb1))
      go_ret
      exact ⟨rfl, hb⟩
end Go.Proofs.YtabplogknipjiaaDoor
