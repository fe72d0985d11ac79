import Derived.Test.YtladmlnopbnlgaaGreatDoorZsi
namespace Go.Proofs.YtladmlnopbnlgaaGreatDoor
set_option linter.unusedSimpArgs false
set_option linter.unusedVariables false
open Go.RowKit

/-! Values: the document's Sort where a value is not sound. -/
set_option maxRecDepth 100000 in
set_option maxHeartbeats 1500000 in
theorem rsort_no (vs : List Val) (A : Option Addr) (c : Nat) (w : World) (hv : Vals w A vs) (hl : vs.length ≤ 1000000) (ho : ∀ v ∈ vs, v.text.size ≤ 9223372036854775807) (hall : allV vs = false) :
    Calls Tryz.prog 5 #[.slice A vs.length c] w fun e w' => e = .returned (.tuple #[.slice none 0 0, .int .i64 2]) ∧ Bel w w' := by
  have hli : (vs.length : Int) ≤ 9223372036854775807 := by omega
  have HO := Lib.hid ho
  have HL := Lib.hid hall
  clear ho hall
  go_enter Tryz.func5, Tryz.ntmps5
  go_wp2_with fail
  go_loopg [5] vs.length (fun g i wr => ∃ k : Nat, i = .int .i64 k ∧ k ≤ vs.length ∧ Hid (allV (vs.take k) = true ∧ g = vs.length - k) ∧ Bel w wr)
  case atStart => exact ⟨0, rfl, Nat.zero_le _, ⟨rfl, rfl⟩, (Bel.refl _).alloc _⟩
  case round =>
    obtain ⟨k, rfl, hk, hh, hb⟩ := hrel
    by_cases hp : k < vs.length
    · obtain ⟨b, off, rfl, hlt, hat⟩ := hv (by omega)
      obtain ⟨v, hvk⟩ : ∃ v, vs[k]? = some v := ⟨_, List.getElem?_eq_getElem hp⟩
      have ha := (hat k v hvk).keep hb hlt
      have hmem : v ∈ vs := List.mem_of_getElem? hvk
      have cc := fun w => rvsound_any v (HO.out v hmem) w
      have hst : allV (vs.take (k + 1)) = (allV (vs.take k) && vsnd v) := by
        unfold allV
        rw [List.take_add_one, hvk, List.all_append]
        simp
      obtain ⟨q, hq⟩ : ∃ q, q = vsnd v := ⟨_, rfl⟩
      rw [← hq] at cc hst
      have C := Lib.hid cc
      have HS := Lib.hid (show allV (vs.take (k + 1)) = q by rw [hst, hh.out.1]; rfl)
      obtain ⟨vk, vn, vsc, vt, vm⟩ := v
      obtain ⟨a0, a1, a2, a3, a4⟩ := ha
      have i1 : (k : Int) < vs.length := by omega
      clear hv hat hvk cc hst hq hmem
      cases q with
      | false =>
        go_wp2_with (go_at_call 14; refine (C.out _).mono ?_; rintro e W1 ⟨rfl, hb1⟩)
        go_ret2
        exact ⟨rfl, hb.trans hb1⟩
      | true =>
        go_wp2_with (go_at_call 14; refine (C.out _).mono ?_; rintro e W1 ⟨rfl, hb1⟩)
        go_roundg (vs.length - (k + 1))
        case measure => have := hh.out.2; omega
        case rel => exact ⟨k + 1, by go_num, by omega, ⟨HS.out, rfl⟩, hb.trans hb1⟩
    · exfalso
      have h := hh.out.1
      rw [List.take_of_length_le (by omega)] at h
      rw [HL.out] at h
      cases h
end Go.Proofs.YtladmlnopbnlgaaGreatDoor
