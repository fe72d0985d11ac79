import Derived.Test.YtcknjhgolajclaaDoorDer
namespace Go.Proofs.YtcknjhgolajclaaDoor
set_option linter.unusedSimpArgs false
set_option linter.unusedVariables false
open Go.RowKit

/-! Deci: the simplest facts. -/
theorem awake_p : parseV [49, 50, 46, 53, 48] = .tuple #[decA 125 1, .int .i64 0] := by rfl
theorem dec12 : Lib.decDigits 12 = [49, 50] := by rw [decS 12 (by omega), dec1 _ (by omega)]; rfl
theorem dec5 : Lib.decDigits 5 = [53] := by rw [dec1 _ (by omega)]; rfl
theorem awake_t : textV 125 1 = .tuple #[.string ⟨#[49, 50, 46, 53]⟩, .int .i64 0] := by
  rw [show textV 125 1 = _ from if_pos (by decide)]
  have : txtL (decide ((125 : Int) < 0)) (125 : Int).natAbs (1 : Int).toNat = [49, 50, 46, 53] := by
    unfold txtL padL
    rw [show (125 : Int).natAbs / P10 (1 : Int).toNat = 12 from by decide, show (125 : Int).natAbs % P10 (1 : Int).toNat = 5 from by decide, dec12, dec5]
    decide
  rw [this]
theorem awake_d : divV 2 0 3 0 = .tuple #[decA 666667 6, .int .i64 0] := by
  unfold divV
  rw [if_pos (by decide), if_neg (by decide)]
  have h : heven ((2 : Int).natAbs * P10 ((0 : Int) + 6).toNat) ((3 : Int).natAbs * P10 (0 : Int).toNat) = 666667 := by decide +kernel
  rw [h]
  rfl
theorem awake_any (w : World) (ht : Tab w) : Calls Tryd.prog 12 #[] w fun e w' => e = .returned (.bool true) ∧ Bel w w' := by
  have hp := parse_any ⟨#[49, 50, 46, 53, 48]⟩ (by decide)
  have hx := fun w => text_any 125 1 w
  have hd := fun w => div_any 2 0 3 0 w
  rw [show (⟨#[49, 50, 46, 53, 48]⟩ : ByteArray).data.toList = [49, 50, 46, 53, 48] from rfl, awake_p] at hp
  rw [awake_t] at hx
  rw [awake_d] at hd
  have HP := Lib.hid hp
  have HX := Lib.hid hx
  have HD := Lib.hid hd
  clear hp hx hd
  go_enter Tryd.func12, Tryd.ntmps12
  go_wp2_with (first
    | (go_at_call 21; refine (HP.out _).mono ?_; rintro e w1 ⟨rfl, hb1⟩)
    | (go_at_call 19; refine (HX.out _ (ht.keep (hb1.alloc _))).mono ?_; rintro e w2 ⟨rfl, hb2⟩; replace hb2 := (hb1.alloc _).trans hb2)
    | (go_at_call 17; refine (HD.out _).mono ?_; rintro e w3 ⟨rfl, hb3⟩))
  go_ret
  exact ⟨rfl, (hb2.trans hb3).alloc _⟩
end Go.Proofs.YtcknjhgolajclaaDoor
