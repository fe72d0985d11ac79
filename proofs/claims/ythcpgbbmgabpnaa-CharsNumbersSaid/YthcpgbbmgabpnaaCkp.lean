import Derived.Test.YthcpgbbmgabpnaaCko
namespace Go.Proofs.Ythcpgbbmgabpnaa
set_option linter.unusedSimpArgs false
set_option linter.unusedVariables false
open Go.RowKit

/-! Chars: the law Back. -/
theorem escT_size (s : ByteArray) : (escT s).size ≤ 6 * s.size := by
  unfold escT
  split
  · rw [bytesOf_size]
    have := escL_len s.data.toList
    rw [size_list] at this
    exact this
  · exact Nat.zero_le _
theorem escT_clean (s : ByteArray) (hg : goodB s = true) (i : Nat) (h : i < (escT s).size) : clean (escT s)[i] := by
  have h1 : escT s = bytesOf (escL s.data.toList) := by rw [escT, if_pos hg]
  have h2 : (escT s)[i] ∈ escL s.data.toList := by
    have : (escT s).data.toList = escL s.data.toList := by rw [h1]; rfl
    rw [← this]
    rw [List.mem_iff_getElem]
    exact ⟨i, by rw [size_list]; exact h, rfl⟩
  exact esc_clean s hg _ h2
set_option maxRecDepth 100000 in
set_option maxHeartbeats 4000000 in
theorem law_back (s : ByteArray) (hs : s.size ≤ 1048576) (w : World) : Calls Try.prog 6 #[.string s] w fun e w' => e = .returned (.bool true) ∧ Bel w w' := by
  have c1 := fun w => escape_any s (by omega) w
  have c2 := fun w => good_any s (by omega) w
  cases hg : goodB s with
  | false =>
    rw [hg] at c2
    have C2 := Lib.hid c2
    have hn : escN s = 6 := by rw [escN, hg]; rfl
    rw [hn] at c1
    obtain ⟨z, hz⟩ : ∃ z, z = escT s := ⟨_, rfl⟩
    rw [← hz] at c1
    have C1 := Lib.hid c1
    clear c1 c2 hz hg hn
    go_enter Try.func6, Try.ntmps6
    go_wp2_with (first
      | (go_at_call 9; refine (awake_any _).mono ?_; rintro e V0 ⟨rfl, b0⟩)
      | (go_at_call 16; refine (C1.out _).mono ?_; rintro e V1 ⟨rfl, b1⟩))
    go_wp2_with (first
      | (go_at_call 9; refine (awake_any _).mono ?_; rintro e V2 ⟨rfl, b2⟩)
      | (go_at_call 12; refine (C2.out _).mono ?_; rintro e V3 ⟨rfl, b3⟩))
    go_ret
    rename_i vq bq
    exact ⟨rfl, ((b1.trans bq).trans b0).trans b3⟩
  | true =>
    have hn : escN s = 0 := by rw [escN, hg]; rfl
    rw [hn] at c1
    have c3 := fun w => unescape_any (escT s) (by have := escT_size s; omega) w
    rw [back_is s hg] at c3
    have hcl := fun i h => escT_clean s hg i h
    have hsz := escT_size s
    obtain ⟨z, hz⟩ : ∃ z, z = escT s := ⟨_, rfl⟩
    rw [← hz] at c1 c3 hsz
    have HCL := Lib.hid (show ∀ i (h : i < z.size), clean z[i] by rw [hz]; exact hcl)
    have C1 := Lib.hid c1
    have C3 := Lib.hid (show ∀ w, Calls Try.prog 18 #[.string z] w fun e w' => e = .returned (.tuple #[.string s, .int .i64 0, .int .i64 0]) ∧ Bel w w' by
      unfold unV at c3
      simp only [bytesOf_data] at c3
      exact c3)
    have hzi : (z.size : Int) ≤ 6291456 := by omega
    clear c1 c2 c3 hz hg hn hcl
    go_enter Try.func6, Try.ntmps6
    go_wp2_with (first
      | (go_at_call 9; refine (awake_any _).mono ?_; rintro e V0 ⟨rfl, b0⟩)
      | (go_at_call 16; refine (C1.out _).mono ?_; rintro e V1 ⟨rfl, b1⟩)
      | (go_at_call 18; refine (C3.out _).mono ?_; rintro e V3 ⟨rfl, b3⟩))
    go_loopg [8] z.size (fun g v wr => ∃ k : Nat, v = .int .i64 k ∧ k ≤ z.size ∧ Hid (g = z.size - k) ∧ wr = V3)
    case atStart => exact ⟨0, rfl, Nat.zero_le _, rfl, rfl⟩
    case round =>
      obtain ⟨k, rfl, hk, hh, rfl⟩ := hrel
      by_cases hp : k < z.size
      · have j1 : (k : Int) < z.size := by omega
        have hc := HCL.out k hp
        have e60 : ((z[k].toNat : Int) == 60) = false := by rw [beq_eq_false_iff_ne]; have := hc.1; omega
        have e62 : ((z[k].toNat : Int) == 62) = false := by rw [beq_eq_false_iff_ne]; have := hc.2.1; omega
        have e34 : ((z[k].toNat : Int) == 34) = false := by rw [beq_eq_false_iff_ne]; have := hc.2.2.1; omega
        have e39 : ((z[k].toNat : Int) == 39) = false := by rw [beq_eq_false_iff_ne]; have := hc.2.2.2.1; omega
        have l32 : decide ((z[k].toNat : Int) < 32) = false := by exact decide_eq_false (by have := hc.2.2.2.2; omega)
        clear hc
        go_wp2_with fail
        go_roundg (z.size - (k + 1))
        case measure => have := hh.out; omega
        case rel => exact ⟨k + 1, by go_num, by omega, rfl, rfl⟩
      · go_wp2_with fail
        go_ret
        exact ⟨rfl, (b1.trans b0).trans b3⟩
end Go.Proofs.Ythcpgbbmgabpnaa
