import Derived.Test.YthcpgbbmgabpnaaChf
namespace Go.Proofs.Ythcpgbbmgabpnaa
set_option linter.unusedSimpArgs false
set_option linter.unusedVariables false
open Go.RowKit

/-! Chars: whether all signs may stand. -/
def goodB (s : ByteArray) : Bool := decide (badV s = -1)
theorem badFrom_sg (s : ByteArray) (f : Nat) : ∀ pos, badFrom s f pos = -1 ∨ 0 ≤ badFrom s f pos := by
  induction f with
  | zero => intro pos; exact .inl rfl
  | succ f ih =>
    intro pos
    unfold badFrom
    split
    · split
      · exact ih _
      · exact .inr (by omega)
    · exact .inl rfl
theorem good_any (s : ByteArray) (hs : s.size ≤ 9223372036854775807) (w : World) : Calls Try.prog 12 #[.string s] w fun e w' => e = .returned (.bool (goodB s)) ∧ Bel w w' := by
  have hc := fun w => bad_any s hs w
  have h1 := badFrom_sg s s.size 0
  have L := Lib.hid (show goodB s = (badV s == -1) from rfl)
  obtain ⟨z, hz⟩ : ∃ z, z = badV s := ⟨_, rfl⟩
  rw [← hz] at hc L
  have HC := Lib.hid hc
  clear hc h1 hz
  go_enter Try.func12, Try.ntmps12
  go_wp2_with (go_at_call 10; refine (HC.out _).mono ?_; rintro e W1 ⟨rfl, hb⟩)
  go_ret
  exact ⟨by (rw [L.out]) <;> rfl, hb⟩
theorem rgood_any (s : ByteArray) (hs : s.size ≤ 9223372036854775807) (w : World) : Calls Try.prog 13 #[.string s] w fun e w' => e = .returned (.bool (goodB s)) ∧ w' = w := by
  have hc := fun w => rbad_any s hs w
  have h1 : badV s = -1 ∨ 0 ≤ badV s := badFrom_sg s s.size 0
  obtain ⟨z, hz⟩ : ∃ z, z = badV s := ⟨_, rfl⟩
  have L := Lib.hid (show goodB s = decide (z < 0) by rw [hz, goodB, decide_eq_decide]; omega)
  rw [← hz] at hc
  have HC := Lib.hid hc
  clear hc h1 hz
  go_enter Try.func13, Try.ntmps13
  go_wp2_with (go_at_call 11; refine (HC.out _).mono ?_; rintro e W1 ⟨rfl, rfl⟩)
  go_ret
  exact ⟨by (rw [L.out]) <;> rfl, rfl⟩
end Go.Proofs.Ythcpgbbmgabpnaa
