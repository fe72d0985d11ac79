import Derived.Test.YthcpgbbmgabpnaaCha
namespace Go.Proofs.Ythcpgbbmgabpnaa
set_option linter.unusedSimpArgs false
set_option linter.unusedVariables false
open Go.RowKit

/-! Chars: whether a sign may stand. -/
set_option maxRecDepth 100000 in
set_option maxHeartbeats 4000000 in
theorem rsign_any (r : Nat) (hr : r ≤ 2147483647) (w : World) : Calls Try.prog 20 #[.int .i64 r] w fun e w' => e = .returned (.bool (sgn r)) ∧ w' = w := by
  have hi : (r : Int) ≤ 2147483647 := by omega
  have hc : (r < 9) ∨ (r = 9) ∨ (r = 10) ∨ (10 < r ∧ r < 13) ∨ (r = 13) ∨ (13 < r ∧ r < 32) ∨ (32 ≤ r ∧ r ≤ 55295) ∨ (55295 < r ∧ r < 57344) ∨ (57344 ≤ r ∧ r ≤ 65533) ∨ (65533 < r ∧ r < 65536) ∨ (65536 ≤ r ∧ r ≤ 1114111) ∨ (1114111 < r) := by omega
  have hs := sgn_iff r
  rcases hc with h | h | h | h | h | h | h | h | h | h | h | h
  · have L := Lib.hid (show sgn r = false from by rw [Bool.eq_false_iff]; exact fun h' => by have := hs.1 h'; omega)
    have e9 : ((r : Int) == 9) = false := by rw [beq_eq_false_iff_ne]; omega
    have e10 : ((r : Int) == 10) = false := by rw [beq_eq_false_iff_ne]; omega
    have e13 : ((r : Int) == 13) = false := by rw [beq_eq_false_iff_ne]; omega
    have g32 : decide ((32 : Int) ≤ r) = false := by exact decide_eq_false (by omega)
    have g57344 : decide ((57344 : Int) ≤ r) = false := by exact decide_eq_false (by omega)
    have g65536 : decide ((65536 : Int) ≤ r) = false := by exact decide_eq_false (by omega)
    have l55295 : decide ((r : Int) ≤ 55295) = true := by exact decide_eq_true (by omega)
    have l65533 : decide ((r : Int) ≤ 65533) = true := by exact decide_eq_true (by omega)
    have l1114111 : decide ((r : Int) ≤ 1114111) = true := by exact decide_eq_true (by omega)
    clear hs h hr hi
    go_enter Try.func20, Try.ntmps20
    go_wp2
    go_ret
    exact ⟨by (rw [L.out]) <;> rfl, rfl⟩
  · have L := Lib.hid (show sgn r = true from hs.2 (by omega))
    subst h
    clear hs hr hi
    go_enter Try.func20, Try.ntmps20
    go_wp2
    go_ret
    exact ⟨by (rw [L.out]) <;> rfl, rfl⟩
  · have L := Lib.hid (show sgn r = true from hs.2 (by omega))
    subst h
    clear hs hr hi
    go_enter Try.func20, Try.ntmps20
    go_wp2
    go_ret
    exact ⟨by (rw [L.out]) <;> rfl, rfl⟩
  · have L := Lib.hid (show sgn r = false from by rw [Bool.eq_false_iff]; exact fun h' => by have := hs.1 h'; omega)
    have e9 : ((r : Int) == 9) = false := by rw [beq_eq_false_iff_ne]; omega
    have e10 : ((r : Int) == 10) = false := by rw [beq_eq_false_iff_ne]; omega
    have e13 : ((r : Int) == 13) = false := by rw [beq_eq_false_iff_ne]; omega
    have g32 : decide ((32 : Int) ≤ r) = false := by exact decide_eq_false (by omega)
    have g57344 : decide ((57344 : Int) ≤ r) = false := by exact decide_eq_false (by omega)
    have g65536 : decide ((65536 : Int) ≤ r) = false := by exact decide_eq_false (by omega)
    have l55295 : decide ((r : Int) ≤ 55295) = true := by exact decide_eq_true (by omega)
    have l65533 : decide ((r : Int) ≤ 65533) = true := by exact decide_eq_true (by omega)
    have l1114111 : decide ((r : Int) ≤ 1114111) = true := by exact decide_eq_true (by omega)
    clear hs h hr hi
    go_enter Try.func20, Try.ntmps20
    go_wp2
    go_ret
    exact ⟨by (rw [L.out]) <;> rfl, rfl⟩
  · have L := Lib.hid (show sgn r = true from hs.2 (by omega))
    subst h
    clear hs hr hi
    go_enter Try.func20, Try.ntmps20
    go_wp2
    go_ret
    exact ⟨by (rw [L.out]) <;> rfl, rfl⟩
  · have L := Lib.hid (show sgn r = false from by rw [Bool.eq_false_iff]; exact fun h' => by have := hs.1 h'; omega)
    have e9 : ((r : Int) == 9) = false := by rw [beq_eq_false_iff_ne]; omega
    have e10 : ((r : Int) == 10) = false := by rw [beq_eq_false_iff_ne]; omega
    have e13 : ((r : Int) == 13) = false := by rw [beq_eq_false_iff_ne]; omega
    have g32 : decide ((32 : Int) ≤ r) = false := by exact decide_eq_false (by omega)
    have g57344 : decide ((57344 : Int) ≤ r) = false := by exact decide_eq_false (by omega)
    have g65536 : decide ((65536 : Int) ≤ r) = false := by exact decide_eq_false (by omega)
    have l55295 : decide ((r : Int) ≤ 55295) = true := by exact decide_eq_true (by omega)
    have l65533 : decide ((r : Int) ≤ 65533) = true := by exact decide_eq_true (by omega)
    have l1114111 : decide ((r : Int) ≤ 1114111) = true := by exact decide_eq_true (by omega)
    clear hs h hr hi
    go_enter Try.func20, Try.ntmps20
    go_wp2
    go_ret
    exact ⟨by (rw [L.out]) <;> rfl, rfl⟩
  · have L := Lib.hid (show sgn r = true from hs.2 (by omega))
    have e9 : ((r : Int) == 9) = false := by rw [beq_eq_false_iff_ne]; omega
    have e10 : ((r : Int) == 10) = false := by rw [beq_eq_false_iff_ne]; omega
    have e13 : ((r : Int) == 13) = false := by rw [beq_eq_false_iff_ne]; omega
    have g32 : decide ((32 : Int) ≤ r) = true := by exact decide_eq_true (by omega)
    have g57344 : decide ((57344 : Int) ≤ r) = false := by exact decide_eq_false (by omega)
    have g65536 : decide ((65536 : Int) ≤ r) = false := by exact decide_eq_false (by omega)
    have l55295 : decide ((r : Int) ≤ 55295) = true := by exact decide_eq_true (by omega)
    have l65533 : decide ((r : Int) ≤ 65533) = true := by exact decide_eq_true (by omega)
    have l1114111 : decide ((r : Int) ≤ 1114111) = true := by exact decide_eq_true (by omega)
    clear hs h hr hi
    go_enter Try.func20, Try.ntmps20
    go_wp2
    go_ret
    exact ⟨by (rw [L.out]) <;> rfl, rfl⟩
  · have L := Lib.hid (show sgn r = false from by rw [Bool.eq_false_iff]; exact fun h' => by have := hs.1 h'; omega)
    have e9 : ((r : Int) == 9) = false := by rw [beq_eq_false_iff_ne]; omega
    have e10 : ((r : Int) == 10) = false := by rw [beq_eq_false_iff_ne]; omega
    have e13 : ((r : Int) == 13) = false := by rw [beq_eq_false_iff_ne]; omega
    have g32 : decide ((32 : Int) ≤ r) = true := by exact decide_eq_true (by omega)
    have g57344 : decide ((57344 : Int) ≤ r) = false := by exact decide_eq_false (by omega)
    have g65536 : decide ((65536 : Int) ≤ r) = false := by exact decide_eq_false (by omega)
    have l55295 : decide ((r : Int) ≤ 55295) = false := by exact decide_eq_false (by omega)
    have l65533 : decide ((r : Int) ≤ 65533) = true := by exact decide_eq_true (by omega)
    have l1114111 : decide ((r : Int) ≤ 1114111) = true := by exact decide_eq_true (by omega)
    clear hs h hr hi
    go_enter Try.func20, Try.ntmps20
    go_wp2
    go_ret
    exact ⟨by (rw [L.out]) <;> rfl, rfl⟩
  · have L := Lib.hid (show sgn r = true from hs.2 (by omega))
    have e9 : ((r : Int) == 9) = false := by rw [beq_eq_false_iff_ne]; omega
    have e10 : ((r : Int) == 10) = false := by rw [beq_eq_false_iff_ne]; omega
    have e13 : ((r : Int) == 13) = false := by rw [beq_eq_false_iff_ne]; omega
    have g32 : decide ((32 : Int) ≤ r) = true := by exact decide_eq_true (by omega)
    have g57344 : decide ((57344 : Int) ≤ r) = true := by exact decide_eq_true (by omega)
    have g65536 : decide ((65536 : Int) ≤ r) = false := by exact decide_eq_false (by omega)
    have l55295 : decide ((r : Int) ≤ 55295) = false := by exact decide_eq_false (by omega)
    have l65533 : decide ((r : Int) ≤ 65533) = true := by exact decide_eq_true (by omega)
    have l1114111 : decide ((r : Int) ≤ 1114111) = true := by exact decide_eq_true (by omega)
    clear hs h hr hi
    go_enter Try.func20, Try.ntmps20
    go_wp2
    go_ret
    exact ⟨by (rw [L.out]) <;> rfl, rfl⟩
  · have L := Lib.hid (show sgn r = false from by rw [Bool.eq_false_iff]; exact fun h' => by have := hs.1 h'; omega)
    have e9 : ((r : Int) == 9) = false := by rw [beq_eq_false_iff_ne]; omega
    have e10 : ((r : Int) == 10) = false := by rw [beq_eq_false_iff_ne]; omega
    have e13 : ((r : Int) == 13) = false := by rw [beq_eq_false_iff_ne]; omega
    have g32 : decide ((32 : Int) ≤ r) = true := by exact decide_eq_true (by omega)
    have g57344 : decide ((57344 : Int) ≤ r) = true := by exact decide_eq_true (by omega)
    have g65536 : decide ((65536 : Int) ≤ r) = false := by exact decide_eq_false (by omega)
    have l55295 : decide ((r : Int) ≤ 55295) = false := by exact decide_eq_false (by omega)
    have l65533 : decide ((r : Int) ≤ 65533) = false := by exact decide_eq_false (by omega)
    have l1114111 : decide ((r : Int) ≤ 1114111) = true := by exact decide_eq_true (by omega)
    clear hs h hr hi
    go_enter Try.func20, Try.ntmps20
    go_wp2
    go_ret
    exact ⟨by (rw [L.out]) <;> rfl, rfl⟩
  · have L := Lib.hid (show sgn r = true from hs.2 (by omega))
    have e9 : ((r : Int) == 9) = false := by rw [beq_eq_false_iff_ne]; omega
    have e10 : ((r : Int) == 10) = false := by rw [beq_eq_false_iff_ne]; omega
    have e13 : ((r : Int) == 13) = false := by rw [beq_eq_false_iff_ne]; omega
    have g32 : decide ((32 : Int) ≤ r) = true := by exact decide_eq_true (by omega)
    have g57344 : decide ((57344 : Int) ≤ r) = true := by exact decide_eq_true (by omega)
    have g65536 : decide ((65536 : Int) ≤ r) = true := by exact decide_eq_true (by omega)
    have l55295 : decide ((r : Int) ≤ 55295) = false := by exact decide_eq_false (by omega)
    have l65533 : decide ((r : Int) ≤ 65533) = false := by exact decide_eq_false (by omega)
    have l1114111 : decide ((r : Int) ≤ 1114111) = true := by exact decide_eq_true (by omega)
    clear hs h hr hi
    go_enter Try.func20, Try.ntmps20
    go_wp2
    go_ret
    exact ⟨by (rw [L.out]) <;> rfl, rfl⟩
  · have L := Lib.hid (show sgn r = false from by rw [Bool.eq_false_iff]; exact fun h' => by have := hs.1 h'; omega)
    have e9 : ((r : Int) == 9) = false := by rw [beq_eq_false_iff_ne]; omega
    have e10 : ((r : Int) == 10) = false := by rw [beq_eq_false_iff_ne]; omega
    have e13 : ((r : Int) == 13) = false := by rw [beq_eq_false_iff_ne]; omega
    have g32 : decide ((32 : Int) ≤ r) = true := by exact decide_eq_true (by omega)
    have g57344 : decide ((57344 : Int) ≤ r) = true := by exact decide_eq_true (by omega)
    have g65536 : decide ((65536 : Int) ≤ r) = true := by exact decide_eq_true (by omega)
    have l55295 : decide ((r : Int) ≤ 55295) = false := by exact decide_eq_false (by omega)
    have l65533 : decide ((r : Int) ≤ 65533) = false := by exact decide_eq_false (by omega)
    have l1114111 : decide ((r : Int) ≤ 1114111) = false := by exact decide_eq_false (by omega)
    clear hs h hr hi
    go_enter Try.func20, Try.ntmps20
    go_wp2
    go_ret
    exact ⟨by (rw [L.out]) <;> rfl, rfl⟩
set_option maxRecDepth 100000 in
set_option maxHeartbeats 4000000 in
theorem valid_any (r : Nat) (hr : r ≤ 2147483647) (w : World) : Calls Try.prog 21 #[.int .i32 r] w fun e w' => e = .returned (.bool (sgn r)) ∧ w' = w := by
  have hi : (r : Int) ≤ 2147483647 := by omega
  have hc : (r < 9) ∨ (r = 9) ∨ (r = 10) ∨ (10 < r ∧ r < 13) ∨ (r = 13) ∨ (13 < r ∧ r < 32) ∨ (32 ≤ r ∧ r ≤ 55295) ∨ (55295 < r ∧ r < 57344) ∨ (57344 ≤ r ∧ r ≤ 65533) ∨ (65533 < r ∧ r < 65536) ∨ (65536 ≤ r ∧ r ≤ 1114111) ∨ (1114111 < r) := by omega
  have hs := sgn_iff r
  rcases hc with h | h | h | h | h | h | h | h | h | h | h | h
  · have L := Lib.hid (show sgn r = false from by rw [Bool.eq_false_iff]; exact fun h' => by have := hs.1 h'; omega)
    have e9 : ((r : Int) == 9) = false := by rw [beq_eq_false_iff_ne]; omega
    have e10 : ((r : Int) == 10) = false := by rw [beq_eq_false_iff_ne]; omega
    have e13 : ((r : Int) == 13) = false := by rw [beq_eq_false_iff_ne]; omega
    have g32 : decide ((32 : Int) ≤ r) = false := by exact decide_eq_false (by omega)
    have g57344 : decide ((57344 : Int) ≤ r) = false := by exact decide_eq_false (by omega)
    have g65536 : decide ((65536 : Int) ≤ r) = false := by exact decide_eq_false (by omega)
    have l55295 : decide ((r : Int) ≤ 55295) = true := by exact decide_eq_true (by omega)
    have l65533 : decide ((r : Int) ≤ 65533) = true := by exact decide_eq_true (by omega)
    have l1114111 : decide ((r : Int) ≤ 1114111) = true := by exact decide_eq_true (by omega)
    clear hs h hr hi
    go_enter Try.func21, Try.ntmps21
    go_wp2
    go_ret
    exact ⟨by (rw [L.out]) <;> rfl, rfl⟩
  · have L := Lib.hid (show sgn r = true from hs.2 (by omega))
    subst h
    clear hs hr hi
    go_enter Try.func21, Try.ntmps21
    go_wp2
    go_ret
    exact ⟨by (rw [L.out]) <;> rfl, rfl⟩
  · have L := Lib.hid (show sgn r = true from hs.2 (by omega))
    subst h
    clear hs hr hi
    go_enter Try.func21, Try.ntmps21
    go_wp2
    go_ret
    exact ⟨by (rw [L.out]) <;> rfl, rfl⟩
  · have L := Lib.hid (show sgn r = false from by rw [Bool.eq_false_iff]; exact fun h' => by have := hs.1 h'; omega)
    have e9 : ((r : Int) == 9) = false := by rw [beq_eq_false_iff_ne]; omega
    have e10 : ((r : Int) == 10) = false := by rw [beq_eq_false_iff_ne]; omega
    have e13 : ((r : Int) == 13) = false := by rw [beq_eq_false_iff_ne]; omega
    have g32 : decide ((32 : Int) ≤ r) = false := by exact decide_eq_false (by omega)
    have g57344 : decide ((57344 : Int) ≤ r) = false := by exact decide_eq_false (by omega)
    have g65536 : decide ((65536 : Int) ≤ r) = false := by exact decide_eq_false (by omega)
    have l55295 : decide ((r : Int) ≤ 55295) = true := by exact decide_eq_true (by omega)
    have l65533 : decide ((r : Int) ≤ 65533) = true := by exact decide_eq_true (by omega)
    have l1114111 : decide ((r : Int) ≤ 1114111) = true := by exact decide_eq_true (by omega)
    clear hs h hr hi
    go_enter Try.func21, Try.ntmps21
    go_wp2
    go_ret
    exact ⟨by (rw [L.out]) <;> rfl, rfl⟩
  · have L := Lib.hid (show sgn r = true from hs.2 (by omega))
    subst h
    clear hs hr hi
    go_enter Try.func21, Try.ntmps21
    go_wp2
    go_ret
    exact ⟨by (rw [L.out]) <;> rfl, rfl⟩
  · have L := Lib.hid (show sgn r = false from by rw [Bool.eq_false_iff]; exact fun h' => by have := hs.1 h'; omega)
    have e9 : ((r : Int) == 9) = false := by rw [beq_eq_false_iff_ne]; omega
    have e10 : ((r : Int) == 10) = false := by rw [beq_eq_false_iff_ne]; omega
    have e13 : ((r : Int) == 13) = false := by rw [beq_eq_false_iff_ne]; omega
    have g32 : decide ((32 : Int) ≤ r) = false := by exact decide_eq_false (by omega)
    have g57344 : decide ((57344 : Int) ≤ r) = false := by exact decide_eq_false (by omega)
    have g65536 : decide ((65536 : Int) ≤ r) = false := by exact decide_eq_false (by omega)
    have l55295 : decide ((r : Int) ≤ 55295) = true := by exact decide_eq_true (by omega)
    have l65533 : decide ((r : Int) ≤ 65533) = true := by exact decide_eq_true (by omega)
    have l1114111 : decide ((r : Int) ≤ 1114111) = true := by exact decide_eq_true (by omega)
    clear hs h hr hi
    go_enter Try.func21, Try.ntmps21
    go_wp2
    go_ret
    exact ⟨by (rw [L.out]) <;> rfl, rfl⟩
  · have L := Lib.hid (show sgn r = true from hs.2 (by omega))
    have e9 : ((r : Int) == 9) = false := by rw [beq_eq_false_iff_ne]; omega
    have e10 : ((r : Int) == 10) = false := by rw [beq_eq_false_iff_ne]; omega
    have e13 : ((r : Int) == 13) = false := by rw [beq_eq_false_iff_ne]; omega
    have g32 : decide ((32 : Int) ≤ r) = true := by exact decide_eq_true (by omega)
    have g57344 : decide ((57344 : Int) ≤ r) = false := by exact decide_eq_false (by omega)
    have g65536 : decide ((65536 : Int) ≤ r) = false := by exact decide_eq_false (by omega)
    have l55295 : decide ((r : Int) ≤ 55295) = true := by exact decide_eq_true (by omega)
    have l65533 : decide ((r : Int) ≤ 65533) = true := by exact decide_eq_true (by omega)
    have l1114111 : decide ((r : Int) ≤ 1114111) = true := by exact decide_eq_true (by omega)
    clear hs h hr hi
    go_enter Try.func21, Try.ntmps21
    go_wp2
    go_ret
    exact ⟨by (rw [L.out]) <;> rfl, rfl⟩
  · have L := Lib.hid (show sgn r = false from by rw [Bool.eq_false_iff]; exact fun h' => by have := hs.1 h'; omega)
    have e9 : ((r : Int) == 9) = false := by rw [beq_eq_false_iff_ne]; omega
    have e10 : ((r : Int) == 10) = false := by rw [beq_eq_false_iff_ne]; omega
    have e13 : ((r : Int) == 13) = false := by rw [beq_eq_false_iff_ne]; omega
    have g32 : decide ((32 : Int) ≤ r) = true := by exact decide_eq_true (by omega)
    have g57344 : decide ((57344 : Int) ≤ r) = false := by exact decide_eq_false (by omega)
    have g65536 : decide ((65536 : Int) ≤ r) = false := by exact decide_eq_false (by omega)
    have l55295 : decide ((r : Int) ≤ 55295) = false := by exact decide_eq_false (by omega)
    have l65533 : decide ((r : Int) ≤ 65533) = true := by exact decide_eq_true (by omega)
    have l1114111 : decide ((r : Int) ≤ 1114111) = true := by exact decide_eq_true (by omega)
    clear hs h hr hi
    go_enter Try.func21, Try.ntmps21
    go_wp2
    go_ret
    exact ⟨by (rw [L.out]) <;> rfl, rfl⟩
  · have L := Lib.hid (show sgn r = true from hs.2 (by omega))
    have e9 : ((r : Int) == 9) = false := by rw [beq_eq_false_iff_ne]; omega
    have e10 : ((r : Int) == 10) = false := by rw [beq_eq_false_iff_ne]; omega
    have e13 : ((r : Int) == 13) = false := by rw [beq_eq_false_iff_ne]; omega
    have g32 : decide ((32 : Int) ≤ r) = true := by exact decide_eq_true (by omega)
    have g57344 : decide ((57344 : Int) ≤ r) = true := by exact decide_eq_true (by omega)
    have g65536 : decide ((65536 : Int) ≤ r) = false := by exact decide_eq_false (by omega)
    have l55295 : decide ((r : Int) ≤ 55295) = false := by exact decide_eq_false (by omega)
    have l65533 : decide ((r : Int) ≤ 65533) = true := by exact decide_eq_true (by omega)
    have l1114111 : decide ((r : Int) ≤ 1114111) = true := by exact decide_eq_true (by omega)
    clear hs h hr hi
    go_enter Try.func21, Try.ntmps21
    go_wp2
    go_ret
    exact ⟨by (rw [L.out]) <;> rfl, rfl⟩
  · have L := Lib.hid (show sgn r = false from by rw [Bool.eq_false_iff]; exact fun h' => by have := hs.1 h'; omega)
    have e9 : ((r : Int) == 9) = false := by rw [beq_eq_false_iff_ne]; omega
    have e10 : ((r : Int) == 10) = false := by rw [beq_eq_false_iff_ne]; omega
    have e13 : ((r : Int) == 13) = false := by rw [beq_eq_false_iff_ne]; omega
    have g32 : decide ((32 : Int) ≤ r) = true := by exact decide_eq_true (by omega)
    have g57344 : decide ((57344 : Int) ≤ r) = true := by exact decide_eq_true (by omega)
    have g65536 : decide ((65536 : Int) ≤ r) = false := by exact decide_eq_false (by omega)
    have l55295 : decide ((r : Int) ≤ 55295) = false := by exact decide_eq_false (by omega)
    have l65533 : decide ((r : Int) ≤ 65533) = false := by exact decide_eq_false (by omega)
    have l1114111 : decide ((r : Int) ≤ 1114111) = true := by exact decide_eq_true (by omega)
    clear hs h hr hi
    go_enter Try.func21, Try.ntmps21
    go_wp2
    go_ret
    exact ⟨by (rw [L.out]) <;> rfl, rfl⟩
  · have L := Lib.hid (show sgn r = true from hs.2 (by omega))
    have e9 : ((r : Int) == 9) = false := by rw [beq_eq_false_iff_ne]; omega
    have e10 : ((r : Int) == 10) = false := by rw [beq_eq_false_iff_ne]; omega
    have e13 : ((r : Int) == 13) = false := by rw [beq_eq_false_iff_ne]; omega
    have g32 : decide ((32 : Int) ≤ r) = true := by exact decide_eq_true (by omega)
    have g57344 : decide ((57344 : Int) ≤ r) = true := by exact decide_eq_true (by omega)
    have g65536 : decide ((65536 : Int) ≤ r) = true := by exact decide_eq_true (by omega)
    have l55295 : decide ((r : Int) ≤ 55295) = false := by exact decide_eq_false (by omega)
    have l65533 : decide ((r : Int) ≤ 65533) = false := by exact decide_eq_false (by omega)
    have l1114111 : decide ((r : Int) ≤ 1114111) = true := by exact decide_eq_true (by omega)
    clear hs h hr hi
    go_enter Try.func21, Try.ntmps21
    go_wp2
    go_ret
    exact ⟨by (rw [L.out]) <;> rfl, rfl⟩
  · have L := Lib.hid (show sgn r = false from by rw [Bool.eq_false_iff]; exact fun h' => by have := hs.1 h'; omega)
    have e9 : ((r : Int) == 9) = false := by rw [beq_eq_false_iff_ne]; omega
    have e10 : ((r : Int) == 10) = false := by rw [beq_eq_false_iff_ne]; omega
    have e13 : ((r : Int) == 13) = false := by rw [beq_eq_false_iff_ne]; omega
    have g32 : decide ((32 : Int) ≤ r) = true := by exact decide_eq_true (by omega)
    have g57344 : decide ((57344 : Int) ≤ r) = true := by exact decide_eq_true (by omega)
    have g65536 : decide ((65536 : Int) ≤ r) = true := by exact decide_eq_true (by omega)
    have l55295 : decide ((r : Int) ≤ 55295) = false := by exact decide_eq_false (by omega)
    have l65533 : decide ((r : Int) ≤ 65533) = false := by exact decide_eq_false (by omega)
    have l1114111 : decide ((r : Int) ≤ 1114111) = false := by exact decide_eq_false (by omega)
    clear hs h hr hi
    go_enter Try.func21, Try.ntmps21
    go_wp2
    go_ret
    exact ⟨by (rw [L.out]) <;> rfl, rfl⟩
end Go.Proofs.Ythcpgbbmgabpnaa
