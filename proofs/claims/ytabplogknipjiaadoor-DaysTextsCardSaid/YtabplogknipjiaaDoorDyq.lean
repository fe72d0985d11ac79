import Derived.Test.YtabplogknipjiaaDoorDyp
namespace Go.Proofs.YtabplogknipjiaaDoor
set_option linter.unusedSimpArgs false
set_option linter.unusedVariables false
open Go.RowKit

theorem textV_sh (n : Int) : ∃ s e, textV n = .tuple #[.string s, .int .i64 e] := by
  unfold textV
  split
  · exact ⟨_, _, rfl⟩
  · exact ⟨_, _, rfl⟩
theorem parseL_sh (a b c d f g i j : UInt8) : ∃ x e, parseL a b c d f g i j = .tuple #[.int .i64 x, .int .i64 e] := by
  unfold parseL
  split
  · exact dayV_sh _ _ _
  · exact ⟨_, _, rfl⟩
theorem parseV_sh (s : ByteArray) : ∃ x e, parseV s = .tuple #[.int .i64 x, .int .i64 e] := by
  unfold parseV
  split
  · split
    · exact parseL_sh _ _ _ _ _ _ _ _
    · exact ⟨_, _, rfl⟩
  · exact ⟨_, _, rfl⟩
set_option maxHeartbeats 800000 in
/-- Any day as text, and the day that any text is: as the document says. -/
theorem law_Texts (n : Int) (s : ByteArray) (w : World) (ht : Tab w) : Calls Tryd.prog 4 #[.int .i64 n, .string s] w fun e w' => e = .returned (.bool true) ∧ Bel w w' := by
  obtain ⟨x1, x2, hx⟩ := textV_sh n
  obtain ⟨z1, z2, hz⟩ := parseV_sh s
  have c1 := text_any n
  have c2 := rtext_any n
  have c3 := parse_any s
  have c4 := rparse_any s
  rw [hx] at c1 c2
  rw [hz] at c3 c4
  have C1 := Lib.hid c1
  have C2 := Lib.hid c2
  have C3 := Lib.hid c3
  have C4 := Lib.hid c4
  clear c1 c2 c3 c4 hx hz
  have hb : Bel w w := Bel.refl _
  go_enter Tryd.func4, Tryd.ntmps4
  go_wp2_with (first
    | (go_at_call 13; refine (C1.out _ (ht.keep hb)).mono ?_; rintro e w1 ⟨rfl, hb1⟩; replace hb := hb.trans hb1; clear hb1)
    | (go_at_call 14; refine (C2.out _).mono ?_; rintro e w1 ⟨rfl, hb1⟩; replace hb := hb.trans hb1; clear hb1)
    | (go_at_call 15; refine (C3.out _).mono ?_; rintro e w1 ⟨rfl, hb1⟩; replace hb := hb.trans hb1; clear hb1)
    | (go_at_call 16; refine (C4.out _).mono ?_; rintro e w1 ⟨rfl, hb1⟩; replace hb := hb.trans hb1; clear hb1)
    | (go_at_call 12; refine (awake_any _ (ht.keep hb)).mono ?_; rintro e w1 ⟨rfl, hb1⟩; replace hb := hb.trans hb1; clear hb1))
  go_ret
  exact ⟨rfl, hb⟩
end Go.Proofs.YtabplogknipjiaaDoor
