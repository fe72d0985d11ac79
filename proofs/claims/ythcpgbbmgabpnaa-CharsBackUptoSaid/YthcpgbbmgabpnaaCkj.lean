import Derived.Test.YthcpgbbmgabpnaaCki
import Derived.Laws.IdiomStrings
namespace Go.Proofs.Ythcpgbbmgabpnaa
set_option linter.unusedSimpArgs false
set_option linter.unusedVariables false
open Go.RowKit

/-! Chars: a sign as bytes. -/
theorem conv_new (w : World) (l : List UInt8) (C : Array Value) (hC : C = (l.map fun b => Value.int .u8 (b.toNat : Int)).toArray) (n c : Nat) (hn : n = l.length) :
    (convert 32 9 (.slice (some ⟨w.heap.size, 0, none⟩) n c)).run Try.prog (w.alloc (.cells C 5)) = .ok (.string (bytesOf l)) (w.alloc (.cells C 5)) := by
  subst hn
  refine run_convert_bytes_back _ _ _ 5 _ c l Try.underlying32 Try.underlying5 Try.underlying9 ?_
  intro j hj
  have h1 := World.cell?_alloc_mark w C 5 (0, 0) j
  have ha : (⟨w.heap.size, 0, none⟩ : Addr).add j = ⟨w.heap.size, j, none⟩ := by simp [Addr.add]; exact fun h => h.symm
  rw [ha, h1, hC]
  simp [hj]
theorem enc_cells (r : Int) : ((Lib.encodeRune r).map fun b => Value.int .u8 (b.toNat : Int)) = (Lib.encodeRuneZ r).map fun x => Value.int .u8 x := Lib.byteCells_encodeRune r
set_option maxRecDepth 100000 in
set_option maxHeartbeats 2000000 in
theorem utf_any (r : Nat) (h : sgn r = true) (w : World) : Calls Try.prog 39 #[.int .i64 r] w fun e w' => e = .returned (.string (bytesOf (Lib.encodeRune r))) ∧ Bel w w' := by
  have hs := (sgn_iff r).1 h
  have hc : (0 ≤ r ∧ r ≤ 127) ∨ (128 ≤ r ∧ r ≤ 2047) ∨ (2048 ≤ r ∧ r ≤ 65535) ∨ (65536 ≤ r ∧ r ≤ 1114111) := by omega
  rcases hc with hc | hc | hc | hc
  · have hz := Lib.encodeRuneZ_one (r := (r : Int)) (by omega) (by omega)
    have hcv := conv_new w (Lib.encodeRune (r : Int)) #[.int .u8 (r : Int)] (by rw [enc_cells, hz]; rfl) 1 1 (by rw [← Lib.runeCells_length]; unfold Lib.runeCells; rw [hz]; rfl)
    obtain ⟨b, hb⟩ : ∃ b, b = bytesOf (Lib.encodeRune (r : Int)) := ⟨_, rfl⟩
    rw [← hb] at hcv ⊢
    have g128 : decide ((r : Int) < 128) = true := by exact decide_eq_true (by omega)
    have g2048 : decide ((r : Int) < 2048) = true := by exact decide_eq_true (by omega)
    have g65536 : decide ((r : Int) < 65536) = true := by exact decide_eq_true (by omega)
    have b1 : (0 : Int) ≤ r := by omega
    have b2 : (r : Int) ≤ 127 := by omega
    clear hz hb hs hc h
    go_enter Try.func39, Try.ntmps39
    go_wp2_with fail
    go_ret
    exact ⟨rfl, (Bel.refl _).alloc _⟩
  · have hz := Lib.encodeRuneZ_two (r := (r : Int)) (by omega) (by omega)
    have hcv := conv_new w (Lib.encodeRune (r : Int)) #[.int .u8 (192 + (r : Int) / 64), .int .u8 (128 + (r : Int) % 64)] (by rw [enc_cells, hz]; rfl) 2 2 (by rw [← Lib.runeCells_length]; unfold Lib.runeCells; rw [hz]; rfl)
    obtain ⟨b, hb⟩ : ∃ b, b = bytesOf (Lib.encodeRune (r : Int)) := ⟨_, rfl⟩
    rw [← hb] at hcv ⊢
    have g128 : decide ((r : Int) < 128) = false := by exact decide_eq_false (by omega)
    have g2048 : decide ((r : Int) < 2048) = true := by exact decide_eq_true (by omega)
    have g65536 : decide ((r : Int) < 65536) = true := by exact decide_eq_true (by omega)
    have b1 : (128 : Int) ≤ r := by omega
    have b2 : (r : Int) ≤ 2047 := by omega
    clear hz hb hs hc h
    go_enter Try.func39, Try.ntmps39
    go_wp2_with fail
    go_ret
    exact ⟨rfl, (Bel.refl _).alloc _⟩
  · have hv : ((2048 : Int) ≤ r ∧ (r : Int) < 55296) ∨ ((57343 : Int) < r ∧ (r : Int) ≤ 65535) := by omega
    have hz := Lib.encodeRuneZ_three hv
    have hcv := conv_new w (Lib.encodeRune (r : Int)) #[.int .u8 (224 + (r : Int) / 4096), .int .u8 (128 + (r : Int) / 64 % 64), .int .u8 (128 + (r : Int) % 64)] (by rw [enc_cells, hz]; rfl) 3 3 (by rw [← Lib.runeCells_length]; unfold Lib.runeCells; rw [hz]; rfl)
    obtain ⟨b, hb⟩ : ∃ b, b = bytesOf (Lib.encodeRune (r : Int)) := ⟨_, rfl⟩
    rw [← hb] at hcv ⊢
    have g128 : decide ((r : Int) < 128) = false := by exact decide_eq_false (by omega)
    have g2048 : decide ((r : Int) < 2048) = false := by exact decide_eq_false (by omega)
    have g65536 : decide ((r : Int) < 65536) = true := by exact decide_eq_true (by omega)
    have b1 : (2048 : Int) ≤ r := by omega
    have b2 : (r : Int) ≤ 65535 := by omega
    clear hz hb hs hc h hv
    go_enter Try.func39, Try.ntmps39
    go_wp2_with fail
    go_ret
    exact ⟨rfl, (Bel.refl _).alloc _⟩
  · have hz := Lib.encodeRuneZ_four (r := (r : Int)) (by omega) (by omega)
    have hcv := conv_new w (Lib.encodeRune (r : Int)) #[.int .u8 (240 + (r : Int) / 262144), .int .u8 (128 + (r : Int) / 4096 % 64), .int .u8 (128 + (r : Int) / 64 % 64), .int .u8 (128 + (r : Int) % 64)] (by rw [enc_cells, hz]; rfl) 4 4 (by rw [← Lib.runeCells_length]; unfold Lib.runeCells; rw [hz]; rfl)
    obtain ⟨b, hb⟩ : ∃ b, b = bytesOf (Lib.encodeRune (r : Int)) := ⟨_, rfl⟩
    rw [← hb] at hcv ⊢
    have g128 : decide ((r : Int) < 128) = false := by exact decide_eq_false (by omega)
    have g2048 : decide ((r : Int) < 2048) = false := by exact decide_eq_false (by omega)
    have g65536 : decide ((r : Int) < 65536) = false := by exact decide_eq_false (by omega)
    have b1 : (65536 : Int) ≤ r := by omega
    have b2 : (r : Int) ≤ 1114111 := by omega
    clear hz hb hs hc h
    go_enter Try.func39, Try.ntmps39
    go_wp2_with fail
    go_ret
    exact ⟨rfl, (Bel.refl _).alloc _⟩
end Go.Proofs.Ythcpgbbmgabpnaa
