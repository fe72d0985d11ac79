import Derived.Test.YthcpgbbmgabpnaaCke
import Derived.Test.YthcpgbbmgabpnaaCkd
namespace Go.Proofs.Ythcpgbbmgabpnaa
set_option linter.unusedSimpArgs false
set_option linter.unusedVariables false
open Go.RowKit

/-! Chars: digits to any base, and what they are worth. -/
set_option maxRecDepth 100000 in
theorem digit10_is (r : Nat) (hr : r ≤ 2147483647) (w : World) : Calls Try.prog 25 #[.int .i32 r, .int .i64 10] w fun e w' => e = .returned (.bool (decide (dvB r < 10))) ∧ w' = w := by
  have hi : (r : Int) ≤ 2147483647 := by omega
  have hc : (0 ≤ r ∧ r ≤ 47) ∨ (48 ≤ r ∧ r ≤ 57) ∨ (58 ≤ r ∧ r ≤ 64) ∨ (65 ≤ r ∧ r ≤ 70) ∨ (71 ≤ r ∧ r ≤ 96) ∨ (97 ≤ r ∧ r ≤ 102) ∨ (103 ≤ r ∧ r ≤ 2147483647) := by omega
  rcases hc with h | h | h | h | h | h | h
  · have hd : dvB r = 99 := by unfold dvB; rw [if_neg (by omega), if_neg (by omega), if_neg (by omega)]
    have L := Lib.hid (show decide (dvB r < 10) = false by rw [hd]; exact decide_eq_false (by omega))
    clear hd
    have g48 : decide ((48 : Int) ≤ r) = false := by exact decide_eq_false (by omega)
    have gl48 : decide ((r : Int) < 48) = true := by exact decide_eq_true (by omega)
    have g65 : decide ((65 : Int) ≤ r) = false := by exact decide_eq_false (by omega)
    have gl65 : decide ((r : Int) < 65) = true := by exact decide_eq_true (by omega)
    have g97 : decide ((97 : Int) ≤ r) = false := by exact decide_eq_false (by omega)
    have gl97 : decide ((r : Int) < 97) = true := by exact decide_eq_true (by omega)
    have l57 : decide ((r : Int) ≤ 57) = true := by exact decide_eq_true (by omega)
    have l70 : decide ((r : Int) ≤ 70) = true := by exact decide_eq_true (by omega)
    have l102 : decide ((r : Int) ≤ 102) = true := by exact decide_eq_true (by omega)
    clear h hr hi
    go_enter Try.func25, Try.ntmps25
    go_wp2_with fail
    go_ret
    exact ⟨by (rw [L.out]) <;> rfl, rfl⟩
  · have hd : dvB r = r - 48 := by unfold dvB; rw [if_pos (by omega)]
    have L := Lib.hid (show decide (dvB r < 10) = true by rw [hd]; exact decide_eq_true (by omega))
    clear hd
    have g48 : decide ((48 : Int) ≤ r) = true := by exact decide_eq_true (by omega)
    have gl48 : decide ((r : Int) < 48) = false := by exact decide_eq_false (by omega)
    have g65 : decide ((65 : Int) ≤ r) = false := by exact decide_eq_false (by omega)
    have gl65 : decide ((r : Int) < 65) = true := by exact decide_eq_true (by omega)
    have g97 : decide ((97 : Int) ≤ r) = false := by exact decide_eq_false (by omega)
    have gl97 : decide ((r : Int) < 97) = true := by exact decide_eq_true (by omega)
    have l57 : decide ((r : Int) ≤ 57) = true := by exact decide_eq_true (by omega)
    have l70 : decide ((r : Int) ≤ 70) = true := by exact decide_eq_true (by omega)
    have l102 : decide ((r : Int) ≤ 102) = true := by exact decide_eq_true (by omega)
    clear h hr hi
    go_enter Try.func25, Try.ntmps25
    go_wp2_with fail
    go_ret
    exact ⟨by (rw [L.out]) <;> rfl, rfl⟩
  · have hd : dvB r = 99 := by unfold dvB; rw [if_neg (by omega), if_neg (by omega), if_neg (by omega)]
    have L := Lib.hid (show decide (dvB r < 10) = false by rw [hd]; exact decide_eq_false (by omega))
    clear hd
    have g48 : decide ((48 : Int) ≤ r) = true := by exact decide_eq_true (by omega)
    have gl48 : decide ((r : Int) < 48) = false := by exact decide_eq_false (by omega)
    have g65 : decide ((65 : Int) ≤ r) = false := by exact decide_eq_false (by omega)
    have gl65 : decide ((r : Int) < 65) = true := by exact decide_eq_true (by omega)
    have g97 : decide ((97 : Int) ≤ r) = false := by exact decide_eq_false (by omega)
    have gl97 : decide ((r : Int) < 97) = true := by exact decide_eq_true (by omega)
    have l57 : decide ((r : Int) ≤ 57) = false := by exact decide_eq_false (by omega)
    have l70 : decide ((r : Int) ≤ 70) = true := by exact decide_eq_true (by omega)
    have l102 : decide ((r : Int) ≤ 102) = true := by exact decide_eq_true (by omega)
    clear h hr hi
    go_enter Try.func25, Try.ntmps25
    go_wp2_with fail
    go_ret
    exact ⟨by (rw [L.out]) <;> rfl, rfl⟩
  · have hd : dvB r = r - 55 := by unfold dvB; rw [if_neg (by omega), if_neg (by omega), if_pos (by omega)]
    have L := Lib.hid (show decide (dvB r < 10) = false by rw [hd]; exact decide_eq_false (by omega))
    clear hd
    have g48 : decide ((48 : Int) ≤ r) = true := by exact decide_eq_true (by omega)
    have gl48 : decide ((r : Int) < 48) = false := by exact decide_eq_false (by omega)
    have g65 : decide ((65 : Int) ≤ r) = true := by exact decide_eq_true (by omega)
    have gl65 : decide ((r : Int) < 65) = false := by exact decide_eq_false (by omega)
    have g97 : decide ((97 : Int) ≤ r) = false := by exact decide_eq_false (by omega)
    have gl97 : decide ((r : Int) < 97) = true := by exact decide_eq_true (by omega)
    have l57 : decide ((r : Int) ≤ 57) = false := by exact decide_eq_false (by omega)
    have l70 : decide ((r : Int) ≤ 70) = true := by exact decide_eq_true (by omega)
    have l102 : decide ((r : Int) ≤ 102) = true := by exact decide_eq_true (by omega)
    clear h hr hi
    go_enter Try.func25, Try.ntmps25
    go_wp2_with fail
    go_ret
    exact ⟨by (rw [L.out]) <;> rfl, rfl⟩
  · have hd : dvB r = 99 := by unfold dvB; rw [if_neg (by omega), if_neg (by omega), if_neg (by omega)]
    have L := Lib.hid (show decide (dvB r < 10) = false by rw [hd]; exact decide_eq_false (by omega))
    clear hd
    have g48 : decide ((48 : Int) ≤ r) = true := by exact decide_eq_true (by omega)
    have gl48 : decide ((r : Int) < 48) = false := by exact decide_eq_false (by omega)
    have g65 : decide ((65 : Int) ≤ r) = true := by exact decide_eq_true (by omega)
    have gl65 : decide ((r : Int) < 65) = false := by exact decide_eq_false (by omega)
    have g97 : decide ((97 : Int) ≤ r) = false := by exact decide_eq_false (by omega)
    have gl97 : decide ((r : Int) < 97) = true := by exact decide_eq_true (by omega)
    have l57 : decide ((r : Int) ≤ 57) = false := by exact decide_eq_false (by omega)
    have l70 : decide ((r : Int) ≤ 70) = false := by exact decide_eq_false (by omega)
    have l102 : decide ((r : Int) ≤ 102) = true := by exact decide_eq_true (by omega)
    clear h hr hi
    go_enter Try.func25, Try.ntmps25
    go_wp2_with fail
    go_ret
    exact ⟨by (rw [L.out]) <;> rfl, rfl⟩
  · have hd : dvB r = r - 87 := by unfold dvB; rw [if_neg (by omega), if_pos (by omega)]
    have L := Lib.hid (show decide (dvB r < 10) = false by rw [hd]; exact decide_eq_false (by omega))
    clear hd
    have g48 : decide ((48 : Int) ≤ r) = true := by exact decide_eq_true (by omega)
    have gl48 : decide ((r : Int) < 48) = false := by exact decide_eq_false (by omega)
    have g65 : decide ((65 : Int) ≤ r) = true := by exact decide_eq_true (by omega)
    have gl65 : decide ((r : Int) < 65) = false := by exact decide_eq_false (by omega)
    have g97 : decide ((97 : Int) ≤ r) = true := by exact decide_eq_true (by omega)
    have gl97 : decide ((r : Int) < 97) = false := by exact decide_eq_false (by omega)
    have l57 : decide ((r : Int) ≤ 57) = false := by exact decide_eq_false (by omega)
    have l70 : decide ((r : Int) ≤ 70) = false := by exact decide_eq_false (by omega)
    have l102 : decide ((r : Int) ≤ 102) = true := by exact decide_eq_true (by omega)
    clear h hr hi
    go_enter Try.func25, Try.ntmps25
    go_wp2_with fail
    go_ret
    exact ⟨by (rw [L.out]) <;> rfl, rfl⟩
  · have hd : dvB r = 99 := by unfold dvB; rw [if_neg (by omega), if_neg (by omega), if_neg (by omega)]
    have L := Lib.hid (show decide (dvB r < 10) = false by rw [hd]; exact decide_eq_false (by omega))
    clear hd
    have g48 : decide ((48 : Int) ≤ r) = true := by exact decide_eq_true (by omega)
    have gl48 : decide ((r : Int) < 48) = false := by exact decide_eq_false (by omega)
    have g65 : decide ((65 : Int) ≤ r) = true := by exact decide_eq_true (by omega)
    have gl65 : decide ((r : Int) < 65) = false := by exact decide_eq_false (by omega)
    have g97 : decide ((97 : Int) ≤ r) = true := by exact decide_eq_true (by omega)
    have gl97 : decide ((r : Int) < 97) = false := by exact decide_eq_false (by omega)
    have l57 : decide ((r : Int) ≤ 57) = false := by exact decide_eq_false (by omega)
    have l70 : decide ((r : Int) ≤ 70) = false := by exact decide_eq_false (by omega)
    have l102 : decide ((r : Int) ≤ 102) = false := by exact decide_eq_false (by omega)
    clear h hr hi
    go_enter Try.func25, Try.ntmps25
    go_wp2_with fail
    go_ret
    exact ⟨by (rw [L.out]) <;> rfl, rfl⟩
set_option maxRecDepth 100000 in
theorem digit16_is (r : Nat) (hr : r ≤ 2147483647) (w : World) : Calls Try.prog 25 #[.int .i32 r, .int .i64 16] w fun e w' => e = .returned (.bool (decide (dvB r < 16))) ∧ w' = w := by
  have hi : (r : Int) ≤ 2147483647 := by omega
  have hc : (0 ≤ r ∧ r ≤ 47) ∨ (48 ≤ r ∧ r ≤ 57) ∨ (58 ≤ r ∧ r ≤ 64) ∨ (65 ≤ r ∧ r ≤ 70) ∨ (71 ≤ r ∧ r ≤ 96) ∨ (97 ≤ r ∧ r ≤ 102) ∨ (103 ≤ r ∧ r ≤ 2147483647) := by omega
  rcases hc with h | h | h | h | h | h | h
  · have hd : dvB r = 99 := by unfold dvB; rw [if_neg (by omega), if_neg (by omega), if_neg (by omega)]
    have L := Lib.hid (show decide (dvB r < 16) = false by rw [hd]; exact decide_eq_false (by omega))
    clear hd
    have g48 : decide ((48 : Int) ≤ r) = false := by exact decide_eq_false (by omega)
    have gl48 : decide ((r : Int) < 48) = true := by exact decide_eq_true (by omega)
    have g65 : decide ((65 : Int) ≤ r) = false := by exact decide_eq_false (by omega)
    have gl65 : decide ((r : Int) < 65) = true := by exact decide_eq_true (by omega)
    have g97 : decide ((97 : Int) ≤ r) = false := by exact decide_eq_false (by omega)
    have gl97 : decide ((r : Int) < 97) = true := by exact decide_eq_true (by omega)
    have l57 : decide ((r : Int) ≤ 57) = true := by exact decide_eq_true (by omega)
    have l70 : decide ((r : Int) ≤ 70) = true := by exact decide_eq_true (by omega)
    have l102 : decide ((r : Int) ≤ 102) = true := by exact decide_eq_true (by omega)
    clear h hr hi
    go_enter Try.func25, Try.ntmps25
    go_wp2_with fail
    go_ret
    exact ⟨by (rw [L.out]) <;> rfl, rfl⟩
  · have hd : dvB r = r - 48 := by unfold dvB; rw [if_pos (by omega)]
    have L := Lib.hid (show decide (dvB r < 16) = true by rw [hd]; exact decide_eq_true (by omega))
    clear hd
    have g48 : decide ((48 : Int) ≤ r) = true := by exact decide_eq_true (by omega)
    have gl48 : decide ((r : Int) < 48) = false := by exact decide_eq_false (by omega)
    have g65 : decide ((65 : Int) ≤ r) = false := by exact decide_eq_false (by omega)
    have gl65 : decide ((r : Int) < 65) = true := by exact decide_eq_true (by omega)
    have g97 : decide ((97 : Int) ≤ r) = false := by exact decide_eq_false (by omega)
    have gl97 : decide ((r : Int) < 97) = true := by exact decide_eq_true (by omega)
    have l57 : decide ((r : Int) ≤ 57) = true := by exact decide_eq_true (by omega)
    have l70 : decide ((r : Int) ≤ 70) = true := by exact decide_eq_true (by omega)
    have l102 : decide ((r : Int) ≤ 102) = true := by exact decide_eq_true (by omega)
    clear h hr hi
    go_enter Try.func25, Try.ntmps25
    go_wp2_with fail
    go_ret
    exact ⟨by (rw [L.out]) <;> rfl, rfl⟩
  · have hd : dvB r = 99 := by unfold dvB; rw [if_neg (by omega), if_neg (by omega), if_neg (by omega)]
    have L := Lib.hid (show decide (dvB r < 16) = false by rw [hd]; exact decide_eq_false (by omega))
    clear hd
    have g48 : decide ((48 : Int) ≤ r) = true := by exact decide_eq_true (by omega)
    have gl48 : decide ((r : Int) < 48) = false := by exact decide_eq_false (by omega)
    have g65 : decide ((65 : Int) ≤ r) = false := by exact decide_eq_false (by omega)
    have gl65 : decide ((r : Int) < 65) = true := by exact decide_eq_true (by omega)
    have g97 : decide ((97 : Int) ≤ r) = false := by exact decide_eq_false (by omega)
    have gl97 : decide ((r : Int) < 97) = true := by exact decide_eq_true (by omega)
    have l57 : decide ((r : Int) ≤ 57) = false := by exact decide_eq_false (by omega)
    have l70 : decide ((r : Int) ≤ 70) = true := by exact decide_eq_true (by omega)
    have l102 : decide ((r : Int) ≤ 102) = true := by exact decide_eq_true (by omega)
    clear h hr hi
    go_enter Try.func25, Try.ntmps25
    go_wp2_with fail
    go_ret
    exact ⟨by (rw [L.out]) <;> rfl, rfl⟩
  · have hd : dvB r = r - 55 := by unfold dvB; rw [if_neg (by omega), if_neg (by omega), if_pos (by omega)]
    have L := Lib.hid (show decide (dvB r < 16) = true by rw [hd]; exact decide_eq_true (by omega))
    clear hd
    have g48 : decide ((48 : Int) ≤ r) = true := by exact decide_eq_true (by omega)
    have gl48 : decide ((r : Int) < 48) = false := by exact decide_eq_false (by omega)
    have g65 : decide ((65 : Int) ≤ r) = true := by exact decide_eq_true (by omega)
    have gl65 : decide ((r : Int) < 65) = false := by exact decide_eq_false (by omega)
    have g97 : decide ((97 : Int) ≤ r) = false := by exact decide_eq_false (by omega)
    have gl97 : decide ((r : Int) < 97) = true := by exact decide_eq_true (by omega)
    have l57 : decide ((r : Int) ≤ 57) = false := by exact decide_eq_false (by omega)
    have l70 : decide ((r : Int) ≤ 70) = true := by exact decide_eq_true (by omega)
    have l102 : decide ((r : Int) ≤ 102) = true := by exact decide_eq_true (by omega)
    clear h hr hi
    go_enter Try.func25, Try.ntmps25
    go_wp2_with fail
    go_ret
    exact ⟨by (rw [L.out]) <;> rfl, rfl⟩
  · have hd : dvB r = 99 := by unfold dvB; rw [if_neg (by omega), if_neg (by omega), if_neg (by omega)]
    have L := Lib.hid (show decide (dvB r < 16) = false by rw [hd]; exact decide_eq_false (by omega))
    clear hd
    have g48 : decide ((48 : Int) ≤ r) = true := by exact decide_eq_true (by omega)
    have gl48 : decide ((r : Int) < 48) = false := by exact decide_eq_false (by omega)
    have g65 : decide ((65 : Int) ≤ r) = true := by exact decide_eq_true (by omega)
    have gl65 : decide ((r : Int) < 65) = false := by exact decide_eq_false (by omega)
    have g97 : decide ((97 : Int) ≤ r) = false := by exact decide_eq_false (by omega)
    have gl97 : decide ((r : Int) < 97) = true := by exact decide_eq_true (by omega)
    have l57 : decide ((r : Int) ≤ 57) = false := by exact decide_eq_false (by omega)
    have l70 : decide ((r : Int) ≤ 70) = false := by exact decide_eq_false (by omega)
    have l102 : decide ((r : Int) ≤ 102) = true := by exact decide_eq_true (by omega)
    clear h hr hi
    go_enter Try.func25, Try.ntmps25
    go_wp2_with fail
    go_ret
    exact ⟨by (rw [L.out]) <;> rfl, rfl⟩
  · have hd : dvB r = r - 87 := by unfold dvB; rw [if_neg (by omega), if_pos (by omega)]
    have L := Lib.hid (show decide (dvB r < 16) = true by rw [hd]; exact decide_eq_true (by omega))
    clear hd
    have g48 : decide ((48 : Int) ≤ r) = true := by exact decide_eq_true (by omega)
    have gl48 : decide ((r : Int) < 48) = false := by exact decide_eq_false (by omega)
    have g65 : decide ((65 : Int) ≤ r) = true := by exact decide_eq_true (by omega)
    have gl65 : decide ((r : Int) < 65) = false := by exact decide_eq_false (by omega)
    have g97 : decide ((97 : Int) ≤ r) = true := by exact decide_eq_true (by omega)
    have gl97 : decide ((r : Int) < 97) = false := by exact decide_eq_false (by omega)
    have l57 : decide ((r : Int) ≤ 57) = false := by exact decide_eq_false (by omega)
    have l70 : decide ((r : Int) ≤ 70) = false := by exact decide_eq_false (by omega)
    have l102 : decide ((r : Int) ≤ 102) = true := by exact decide_eq_true (by omega)
    clear h hr hi
    go_enter Try.func25, Try.ntmps25
    go_wp2_with fail
    go_ret
    exact ⟨by (rw [L.out]) <;> rfl, rfl⟩
  · have hd : dvB r = 99 := by unfold dvB; rw [if_neg (by omega), if_neg (by omega), if_neg (by omega)]
    have L := Lib.hid (show decide (dvB r < 16) = false by rw [hd]; exact decide_eq_false (by omega))
    clear hd
    have g48 : decide ((48 : Int) ≤ r) = true := by exact decide_eq_true (by omega)
    have gl48 : decide ((r : Int) < 48) = false := by exact decide_eq_false (by omega)
    have g65 : decide ((65 : Int) ≤ r) = true := by exact decide_eq_true (by omega)
    have gl65 : decide ((r : Int) < 65) = false := by exact decide_eq_false (by omega)
    have g97 : decide ((97 : Int) ≤ r) = true := by exact decide_eq_true (by omega)
    have gl97 : decide ((r : Int) < 97) = false := by exact decide_eq_false (by omega)
    have l57 : decide ((r : Int) ≤ 57) = false := by exact decide_eq_false (by omega)
    have l70 : decide ((r : Int) ≤ 70) = false := by exact decide_eq_false (by omega)
    have l102 : decide ((r : Int) ≤ 102) = false := by exact decide_eq_false (by omega)
    clear h hr hi
    go_enter Try.func25, Try.ntmps25
    go_wp2_with fail
    go_ret
    exact ⟨by (rw [L.out]) <;> rfl, rfl⟩
set_option maxRecDepth 100000 in
theorem worth_is (r : Nat) (hv : dvB r < 16) (w : World) : Calls Try.prog 45 #[.int .i32 r] w fun e w' => e = .returned (.int .i64 (dvB r : Nat)) ∧ w' = w := by
  have hc : (48 ≤ r ∧ r ≤ 57) ∨ (65 ≤ r ∧ r ≤ 70) ∨ (97 ≤ r ∧ r ≤ 102) := by
    unfold dvB at hv
    split at hv
    · omega
    split at hv
    · omega
    split at hv
    · omega
    · omega
  rcases hc with h | h | h
  · have L := Lib.hid (show dvB r = r - 48 by unfold dvB; rw [if_pos (by omega)])
    have b1 : (48 : Int) ≤ r := by omega
    have b2 : (r : Int) ≤ 57 := by omega
    have g65 : decide ((65 : Int) ≤ r) = false := by exact decide_eq_false (by omega)
    have gl65 : decide ((r : Int) < 65) = true := by exact decide_eq_true (by omega)
    have g97 : decide ((97 : Int) ≤ r) = false := by exact decide_eq_false (by omega)
    have gl97 : decide ((r : Int) < 97) = true := by exact decide_eq_true (by omega)
    clear hv
    go_enter Try.func45, Try.ntmps45
    go_wp2_with fail
    go_ret
    exact ⟨by rw [L.out]; exact congrArg (fun z => Ending.returned (.int .i64 z)) (by omega), rfl⟩
  · have L := Lib.hid (show dvB r = r - 55 by unfold dvB; rw [if_neg (by omega), if_neg (by omega), if_pos (by omega)])
    have b1 : (65 : Int) ≤ r := by omega
    have b2 : (r : Int) ≤ 70 := by omega
    have g65 : decide ((65 : Int) ≤ r) = true := by exact decide_eq_true (by omega)
    have gl65 : decide ((r : Int) < 65) = false := by exact decide_eq_false (by omega)
    have g97 : decide ((97 : Int) ≤ r) = false := by exact decide_eq_false (by omega)
    have gl97 : decide ((r : Int) < 97) = true := by exact decide_eq_true (by omega)
    clear hv
    go_enter Try.func45, Try.ntmps45
    go_wp2_with fail
    go_ret
    exact ⟨by rw [L.out]; exact congrArg (fun z => Ending.returned (.int .i64 z)) (by omega), rfl⟩
  · have L := Lib.hid (show dvB r = r - 87 by unfold dvB; rw [if_neg (by omega), if_pos (by omega)])
    have b1 : (97 : Int) ≤ r := by omega
    have b2 : (r : Int) ≤ 102 := by omega
    have g65 : decide ((65 : Int) ≤ r) = true := by exact decide_eq_true (by omega)
    have gl65 : decide ((r : Int) < 65) = false := by exact decide_eq_false (by omega)
    have g97 : decide ((97 : Int) ≤ r) = true := by exact decide_eq_true (by omega)
    have gl97 : decide ((r : Int) < 97) = false := by exact decide_eq_false (by omega)
    clear hv
    go_enter Try.func45, Try.ntmps45
    go_wp2_with fail
    go_ret
    exact ⟨by rw [L.out]; exact congrArg (fun z => Ending.returned (.int .i64 z)) (by omega), rfl⟩
end Go.Proofs.Ythcpgbbmgabpnaa
