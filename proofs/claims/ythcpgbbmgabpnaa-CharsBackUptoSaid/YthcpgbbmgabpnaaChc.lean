import Derived.Test.YthcpgbbmgabpnaaChb
import Derived.Test.YthcpgbbmgabpnaaShelf
namespace Go.Proofs.Ythcpgbbmgabpnaa
set_option linter.unusedSimpArgs false
set_option linter.unusedVariables false
open Go.RowKit

/-! Chars: a wrong byte, or the sign of the same number. -/
/-- Whether a text begins with the three bytes of U+FFFD. -/
def ownB (s : ByteArray) : Bool := Lib.hasPrefix s.data.toList [239, 191, 189]
theorem hasPrefix_any (s : ByteArray) (w : World) : Calls Try.prog 33 #[.string s, .string ⟨#[239, 191, 189]⟩] w fun e w' => e = .returned (.bool (ownB s)) ∧ w' = w :=
  Try.strings_HasPrefix s ⟨#[239, 191, 189]⟩ w
def brokenB (s : ByteArray) (r : Nat) : Bool := decide (r = 65533) && !ownB s
set_option maxRecDepth 100000 in
theorem broken_any (s : ByteArray) (r : Nat) (hr : r ≤ 2147483647) (w : World) : Calls Try.prog 22 #[.string s, .int .i32 r] w fun e w' => e = .returned (.bool (brokenB s r)) ∧ w' = w := by
  by_cases h : r = 65533
  · have L := Lib.hid (show brokenB s r = !ownB s by rw [brokenB, h]; simp)
    subst h
    clear hr
    go_enter Try.func22, Try.ntmps22
    go_wp2_with (go_at_call 33; refine (hasPrefix_any _ _).mono ?_; rintro e W1 ⟨rfl, rfl⟩)
    go_ret
    exact ⟨by (rw [L.out]) <;> rfl, rfl⟩
  · have L := Lib.hid (show brokenB s r = false by rw [brokenB, decide_eq_false h]; rfl)
    have e1 : ((r : Int) == 65533) = false := by rw [beq_eq_false_iff_ne]; omega
    clear h hr
    go_enter Try.func22, Try.ntmps22
    go_wp2_with fail
    go_ret
    exact ⟨by (rw [L.out]) <;> rfl, rfl⟩
end Go.Proofs.Ythcpgbbmgabpnaa
