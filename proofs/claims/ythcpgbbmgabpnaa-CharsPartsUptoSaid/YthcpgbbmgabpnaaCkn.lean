import Derived.Test.YthcpgbbmgabpnaaCkm
import Derived.Test.YthcpgbbmgabpnaaChj
namespace Go.Proofs.Ythcpgbbmgabpnaa
set_option linter.unusedSimpArgs false
set_option linter.unusedVariables false
open Go.RowKit

/-! Chars: the simplest facts; the laws Look, Escape, Unescape. -/
set_option maxRecDepth 100000 in
set_option maxHeartbeats 4000000 in
theorem awake_any (w : World) : Calls Try.prog 9 #[] w fun e w' => e = .returned (.bool true) ∧ Bel w w' := by
  have E1 := Lib.hid (show ∀ w, Calls Try.prog 16 #[.string ⟨#[97, 60, 10]⟩] w fun e w' => e = .returned (.tuple #[.string ⟨#[97, 38, 108, 116, 59, 38, 35, 49, 48, 59]⟩, .int .i64 0]) ∧ Bel w w' from fun w => by
    have h := escape_any ⟨#[97, 60, 10]⟩ (by decide) w
    rw [show escT ⟨#[97, 60, 10]⟩ = ⟨#[97, 38, 108, 116, 59, 38, 35, 49, 48, 59]⟩ by decide +kernel, show escN ⟨#[97, 60, 10]⟩ = 0 by decide +kernel] at h
    exact h)
  have E2 := Lib.hid (show ∀ w, Calls Try.prog 18 #[.string ⟨#[38, 35, 120, 52, 49, 59, 38, 97, 109, 112, 59]⟩] w fun e w' => e = .returned (.tuple #[.string ⟨#[65, 38]⟩, .int .i64 0, .int .i64 0]) ∧ Bel w w' from fun w => by
    have h := unescape_any ⟨#[38, 35, 120, 52, 49, 59, 38, 97, 109, 112, 59]⟩ (by decide) w
    rw [show unS ⟨#[38, 35, 120, 52, 49, 59, 38, 97, 109, 112, 59]⟩ = ([65, 38], 0, 0) by decide +kernel] at h
    exact h)
  have N1 := Lib.hid (show ∀ w, Calls Try.prog 14 #[.string ⟨#[97, 95, 49]⟩] w fun e w' => e = .returned (.bool true) ∧ Bel w w' from fun w => by
    have h := name_any ⟨#[97, 95, 49]⟩ (by decide) w
    rw [show nameB ⟨#[97, 95, 49]⟩ = true by decide +kernel] at h
    exact h)
  have N2 := Lib.hid (show ∀ w, Calls Try.prog 14 #[.string ⟨#[49, 97]⟩] w fun e w' => e = .returned (.bool false) ∧ Bel w w' from fun w => by
    have h := name_any ⟨#[49, 97]⟩ (by decide) w
    rw [show nameB ⟨#[49, 97]⟩ = false by decide +kernel] at h
    exact h)
  have G1 := Lib.hid (show ∀ w, Calls Try.prog 12 #[.string ⟨#[195, 169]⟩] w fun e w' => e = .returned (.bool true) ∧ Bel w w' from fun w => by
    have h := good_any ⟨#[195, 169]⟩ (by decide) w
    rw [show goodB ⟨#[195, 169]⟩ = true by decide +kernel] at h
    exact h)
  have B1 := Lib.hid (show ∀ w, Calls Try.prog 10 #[.string ⟨#[97, 0]⟩] w fun e w' => e = .returned (.int .i64 1) ∧ Bel w w' from fun w => by
    have h := bad_any ⟨#[97, 0]⟩ (by decide) w
    rw [show badV ⟨#[97, 0]⟩ = 1 by decide +kernel] at h
    exact h)
  go_enter Try.func9, Try.ntmps9
  go_wp2_with (first
    | (go_at_call 16; with_reducible refine (E1.out _).mono ?_; rintro e V1 ⟨rfl, b1⟩)
    | (go_at_call 18; with_reducible refine (E2.out _).mono ?_; rintro e V2 ⟨rfl, b2⟩)
    | (go_at_call 14; with_reducible refine (N1.out _).mono ?_; rintro e V3 ⟨rfl, b3⟩)
    | (go_at_call 14; with_reducible refine (N2.out _).mono ?_; rintro e V4 ⟨rfl, b4⟩)
    | (go_at_call 12; with_reducible refine (G1.out _).mono ?_; rintro e V5 ⟨rfl, b5⟩)
    | (go_at_call 10; with_reducible refine (B1.out _).mono ?_; rintro e V6 ⟨rfl, b6⟩))
  go_ret
  exact ⟨rfl, ((((b1.trans b2).trans b3).trans b4).trans b5).trans b6⟩
set_option maxRecDepth 100000 in
set_option maxHeartbeats 4000000 in
theorem law_look (s : ByteArray) (hs : s.size ≤ 9223372036854775807) (w : World) : Calls Try.prog 3 #[.string s] w fun e w' => e = .returned (.bool true) ∧ Bel w w' := by
  have c1 := fun w => bad_any s hs w
  have c2 := fun w => rbad_any s hs w
  obtain ⟨z, hz⟩ : ∃ z, z = badV s := ⟨_, rfl⟩
  rw [← hz] at c1 c2
  have c3 := fun w => good_any s hs w
  have c4 := fun w => rgood_any s hs w
  obtain ⟨g, hg⟩ : ∃ g, g = goodB s := ⟨_, rfl⟩
  rw [← hg] at c3 c4
  have c5 := fun w => name_any s hs w
  have c6 := fun w => rname_any s hs w
  obtain ⟨n, hn⟩ : ∃ n, n = nameB s := ⟨_, rfl⟩
  rw [← hn] at c5 c6
  have C1 := Lib.hid c1
  have C2 := Lib.hid c2
  have C3 := Lib.hid c3
  have C4 := Lib.hid c4
  have C5 := Lib.hid c5
  have C6 := Lib.hid c6
  have ez : (z == z) = true := by simp
  clear c1 c2 c3 c4 c5 c6 hz hg hn
  go_enter Try.func3, Try.ntmps3
  go_wp2_with (first
    | (go_at_call 9; refine (awake_any _).mono ?_; rintro e V0 ⟨rfl, b0⟩)
    | (go_at_call 10; refine (C1.out _).mono ?_; rintro e V1 ⟨rfl, b1⟩)
    | (go_at_call 11; refine (C2.out _).mono ?_; rintro e V2 ⟨rfl, rfl⟩)
    | (go_at_call 12; refine (C3.out _).mono ?_; rintro e V3 ⟨rfl, b3⟩)
    | (go_at_call 13; refine (C4.out _).mono ?_; rintro e V4 ⟨rfl, rfl⟩)
    | (go_at_call 14; refine (C5.out _).mono ?_; rintro e V5 ⟨rfl, b5⟩)
    | (go_at_call 15; refine (C6.out _).mono ?_; rintro e V6 ⟨rfl, rfl⟩))
  go_ret
  exact ⟨rfl, ((b0.trans b1).trans b3).trans b5⟩
set_option maxRecDepth 100000 in
set_option maxHeartbeats 4000000 in
theorem law_escape (s : ByteArray) (hs : s.size ≤ 17592186044416) (w : World) : Calls Try.prog 4 #[.string s] w fun e w' => e = .returned (.bool true) ∧ Bel w w' := by
  have c1 := fun w => escape_any s hs w
  have c2 := fun w => rescape_any s hs w
  obtain ⟨z, hz⟩ : ∃ z, z = escT s := ⟨_, rfl⟩
  obtain ⟨n, hn⟩ : ∃ n, n = escN s := ⟨_, rfl⟩
  rw [← hz, ← hn] at c1 c2
  have C1 := Lib.hid c1
  have C2 := Lib.hid c2
  clear c1 c2 hz hn
  go_enter Try.func4, Try.ntmps4
  go_wp2_with (first
    | (go_at_call 9; refine (awake_any _).mono ?_; rintro e V0 ⟨rfl, b0⟩)
    | (go_at_call 16; refine (C1.out _).mono ?_; rintro e V1 ⟨rfl, b1⟩)
    | (go_at_call 17; refine (C2.out _).mono ?_; rintro e V2 ⟨rfl, rfl⟩))
  go_ret
  exact ⟨rfl, b1.trans b0⟩
set_option maxRecDepth 100000 in
set_option maxHeartbeats 4000000 in
theorem law_unescape (s : ByteArray) (hs : s.size ≤ 140737488351232) (w : World) : Calls Try.prog 5 #[.string s] w fun e w' => e = .returned (.bool true) ∧ Bel w w' := by
  have c1 := fun w => unescape_any s hs w
  have c2 := fun w => runescape_any s hs w
  unfold unV at c1 c2
  obtain ⟨z, hz⟩ : ∃ z, z = bytesOf (unS s).1 := ⟨_, rfl⟩
  obtain ⟨n, hn⟩ : ∃ n, n = (unS s).2.1 := ⟨_, rfl⟩
  obtain ⟨m, hm⟩ : ∃ m, m = (unS s).2.2 := ⟨_, rfl⟩
  rw [← hz, ← hn, ← hm] at c1 c2
  have C1 := Lib.hid c1
  have C2 := Lib.hid c2
  clear c1 c2 hz hn hm
  go_enter Try.func5, Try.ntmps5
  go_wp2_with (first
    | (go_at_call 9; refine (awake_any _).mono ?_; rintro e V0 ⟨rfl, b0⟩)
    | (go_at_call 18; refine (C1.out _).mono ?_; rintro e V1 ⟨rfl, b1⟩)
    | (go_at_call 19; refine (C2.out _).mono ?_; rintro e V2 ⟨rfl, b2⟩))
  go_ret
  exact ⟨rfl, (b1.trans b2).trans b0⟩
end Go.Proofs.Ythcpgbbmgabpnaa
