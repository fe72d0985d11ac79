import Derived.Test.YtladmlnopbnlgaaGreatDoorZsf
namespace Go.Proofs.YtladmlnopbnlgaaGreatDoor
set_option linter.unusedSimpArgs false
set_option linter.unusedVariables false
open Go.RowKit Go.Lib Go.Sort

/-! Values: Sort. -/
def SortPost (vs : List Val) (w : World) (e : Ending) (w' : World) : Prop :=
  ∃ r B c', e = .returned (.tuple #[.slice B r.length c', .int .i64 0]) ∧ SrtOf vs r ∧ Vals w' B r ∧ Bel w w'
theorem sv_of (vs : List Val) (h : allV vs = true) : ∃ xs : List SV, xs.map Subtype.val = vs := by
  unfold allV at h
  rw [List.all_eq_true] at h
  exact ⟨vs.attach.map fun v => ⟨v.1, h v.1 v.2⟩, by simp [List.map_map, Function.comp_def]⟩
set_option maxRecDepth 100000 in
set_option maxHeartbeats 800000 in
theorem vsort_no (vs : List Val) (A : Option Addr) (c : Nat) (w : World) (hv : Vals w A vs) (hl : vs.length ≤ 1000000) (ho : ∀ v ∈ vs, v.text.size ≤ 9223372036854775807) (hall : allV vs = false) :
    Calls Tryz.prog 4 #[.slice A vs.length c] w fun e w' => e = .returned (.tuple #[.slice none 0 0, .int .i64 2]) ∧ Bel w w' := by
  have ca := fun w hv => allSound_any_V vs A c w hv (by unfold maxLen; omega) ho
  rw [hall] at ca
  have CA := Lib.hid ca
  have HV := Lib.hid hv
  clear ca hv ho hall
  go_enter Tryz.func4, Tryz.ntmps4
  go_wp2_with (go_at_call 8; refine (CA.out _ HV.out).mono ?_; rintro e W1 ⟨rfl, hb1⟩)
  go_ret2
  exact ⟨rfl, hb1⟩
set_option maxRecDepth 100000 in
set_option maxHeartbeats 800000 in
theorem vsort_nil (c : Nat) (hc : c = 0) (w : World) :
    Calls Tryz.prog 4 #[.slice none 0 c] w (SortPost [] w) := by
  subst hc
  have ca : ∀ w, Calls Tryz.prog 8 #[.slice none 0 0] w fun e w' => e = .returned (.bool true) ∧ Bel w w' := fun w => allSound_any_V [] none 0 w (fun h => absurd h (by simp)) (by unfold maxLen; simp) (by simp)
  have CA := Lib.hid ca
  clear ca
  have C1 := Lib.hid fun w => cloneN_any 0 0 w
  have C2 := Lib.hid fun w => sortN_any none 0 (.func (.func 11) #[] #[]) w
  have C3 := Lib.hid fun w => compact0_any none 0 w
  have C4 := Lib.hid fun w => clip_any none 0 0 (by omega) (by unfold maxLen; omega) w (fun _ => rfl)
  go_enter Tryz.func4, Tryz.ntmps4
  go_wp2_with (first
    | (go_at_call 8; go_loud (refine (CA.out _).mono ?_; rintro e W1 ⟨rfl, hb1⟩))
    | (go_at_call 9; go_loud (refine (C1.out _).mono ?_; rintro e W2 ⟨rfl, rfl⟩))
    | (go_at_call 10; refine (C2.out _).mono ?_; rintro e W3 ⟨rfl, rfl⟩)
    | (go_at_call 13; refine (C3.out _).mono ?_; rintro e W4 ⟨rfl, rfl⟩)
    | (go_at_call 12; refine (C4.out _).mono ?_; rintro e W5 ⟨rfl, hb5⟩))
  go_ret2
  exact ⟨[], none, 0, rfl, ⟨List.Pairwise.nil, fun v => Iff.rfl⟩, fun h => absurd h (by simp), hb1.trans hb5⟩
end Go.Proofs.YtladmlnopbnlgaaGreatDoor
