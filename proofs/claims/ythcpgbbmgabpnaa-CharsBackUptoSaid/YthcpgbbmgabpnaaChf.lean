import Derived.Test.YthcpgbbmgabpnaaChe
namespace Go.Proofs.Ythcpgbbmgabpnaa
set_option linter.unusedSimpArgs false
set_option linter.unusedVariables false
open Go.RowKit

/-! Chars: the document's first bad byte; Good. -/
theorem firstT_le (r0 n least : Nat) (g : Nat → Nat) (m : Nat) : (firstT r0 n least g m).2 ≤ m := by
  unfold firstT
  split
  · rename_i h; exact h.1
  · exact Nat.zero_le _
theorem first_le (g : Nat → Nat) (m : Nat) (hm : 0 < m) : (first g m).2 ≤ m := by
  rw [first_T g m hm]
  split
  · exact firstT_le ..
  · split
    · exact firstT_le ..
    · split
      · exact firstT_le ..
      · split
        · exact firstT_le ..
        · exact Nat.zero_le _
theorem gOf_ext (s : ByteArray) (pos : Nat) : gOf (s.extract pos s.size) 0 = gOf s pos := by
  funext i
  rw [gOf_list, gOf_list, List.drop_zero, ext_end]
theorem first_ok (s : ByteArray) (pos : Nat) (h : pos < s.size) : (first (gOf s pos) (s.size - pos)).2 = if okAt s pos = true then wdAt s pos else 0 := by
  rw [← first_is (gOf s pos) (s.size - pos) (gOf_lt s pos) (by omega)]
  unfold okAt wdAt
  split <;> rfl
theorem ext_size (s : ByteArray) (pos : Nat) : (s.extract pos s.size).size = s.size - pos := by simp [ByteArray.size_extract]
set_option maxRecDepth 100000 in
set_option maxHeartbeats 4000000 in
theorem rbad_any (s : ByteArray) (hs : s.size ≤ 9223372036854775807) (w : World) : Calls Try.prog 11 #[.string s] w fun e w' => e = .returned (.int .i64 (badV s)) ∧ w' = w := by
  have hsi : (s.size : Int) ≤ 9223372036854775807 := by omega
  go_enter Try.func11, Try.ntmps11
  go_wp2_with fail
  go_loopg [3] s.size (fun g v wr => ∃ pos fuel : Nat, v = .int .i64 pos ∧ pos ≤ s.size ∧ Hid (badV s = badFrom s fuel pos ∧ s.size ≤ fuel + pos ∧ g = s.size - pos) ∧ wr = w)
  case atStart => exact ⟨0, s.size, rfl, Nat.zero_le _, ⟨rfl, by omega, rfl⟩, rfl⟩
  case round =>
    obtain ⟨pos, fuel, rfl, hpl, hh, rfl⟩ := hrel
    by_cases hp : pos < s.size
    · have hz : 0 < (s.extract pos s.size).size := by rw [ext_size]; omega
      have hc := fun w => rfirst_any (s.extract pos s.size) hz (by rw [ext_size]; omega) w
      rw [gOf_ext, ext_size] at hc
      have hle := first_le (gOf s pos) (s.size - pos) (by omega)
      have hok := first_ok s pos hp
      obtain ⟨f, rfl⟩ : ∃ f, fuel = f + 1 := ⟨fuel - 1, by have := hh.out.2.1; omega⟩
      have hstep := hh.out.1
      rw [badFrom, if_pos hp] at hstep
      have hwd := wd_pos s pos
      obtain ⟨a, ha⟩ : ∃ a, a = (first (gOf s pos) (s.size - pos)).1 := ⟨_, rfl⟩
      obtain ⟨n, hn⟩ : ∃ n, n = (first (gOf s pos) (s.size - pos)).2 := ⟨_, rfl⟩
      rw [← ha, ← hn] at hc
      rw [← hn] at hle hok
      have HC := Lib.hid hc
      have i1 : (pos : Int) < s.size := by omega
      have i2 : (n : Int) + pos ≤ s.size := by omega
      cases hv : okAt s pos with
      | false =>
        rw [hv, if_neg (by decide)] at hok
        rw [hv, if_neg (by decide)] at hstep
        have L := Lib.hid hstep
        subst hok
        clear hstep hwd hle hc ha hn hv hz
        go_wp2_with (go_at_call 23; refine (HC.out _).mono ?_; rintro e W1 ⟨rfl, rfl⟩)
        go_ret
        exact ⟨by (rw [L.out]) <;> rfl, rfl⟩
      | true =>
        rw [hv, if_pos rfl] at hok
        rw [hv, if_pos rfl] at hstep
        have L := Lib.hid (show badV s = badFrom s f (pos + n) by rw [hstep, hok])
        have n1 : (1 : Int) ≤ n := by omega
        have e1 : ((n : Int) == 0) = false := by rw [beq_eq_false_iff_ne]; omega
        clear hstep hwd hle hc ha hn hv hok hz
        go_wp2_with (go_at_call 23; refine (HC.out _).mono ?_; rintro e W1 ⟨rfl, rfl⟩)
        go_roundg (s.size - (pos + n))
        case measure => have := hh.out.2.2; omega
        case rel => exact ⟨pos + n, f, by go_num, by omega, ⟨L.out, by have := hh.out.2.1; omega, rfl⟩, rfl⟩
    · have L := Lib.hid (show badV s = -1 by
        rw [hh.out.1]
        cases fuel with
        | zero => rfl
        | succ f => rw [badFrom, if_neg hp])
      go_wp2_with fail
      go_ret
      exact ⟨by (rw [L.out]) <;> rfl, rfl⟩
end Go.Proofs.Ythcpgbbmgabpnaa
