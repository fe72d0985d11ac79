
import Derived.Test.YtpmmbcobjibpeaaGreatDoorKit
import Derived.Test.YtpmmbcobjibpeaaGreatDoorRow
import Derived.Test.YtpmmbcobjibpeaaGreatDoorOpn
import Derived.Test.YtpmmbcobjibpeaaGreatDoorOwn
import Derived.Test.YtpmmbcobjibpeaaGreatDoorUni
import Derived.Test.YtpmmbcobjibpeaaGreatDoorShelf
import Derived.Test.YtpmmbcobjibpeaaGreatDoorVal
import Derived.Test.YtpmmbcobjibpeaaGreatDoorSxa
import Derived.Laws.Cover1
namespace Go.Proofs.YtpmmbcobjibpeaaGreatDoor
set_option linter.unusedSimpArgs false
set_option linter.unusedVariables false
attribute [local go_sem ↓] eql_val neq_val
/-! Merged out of the texts of the layers below: only what is used. -/
section
open Go.RowKit
def vsnd (v : Val) : Bool :=
  if v.kind = 0 then veq v ⟨0, 0, 0, ⟨#[]⟩, 0⟩
  else if v.kind = 1 then veq v ⟨1, v.n, v.scale, ⟨#[]⟩, 0⟩ && sndB v.n v.scale
  else if v.kind = 2 then veq v ⟨2, 0, 0, v.text, 0⟩ && (decide (v.text.size ≤ 256) && goodB v.text)
  else if v.kind = 3 then veq v ⟨3, 0, 0, ⟨#[]⟩, v.num⟩ && (decide (v.num = 0) || decide (v.num = 1))
  else if v.kind = 4 then veq v ⟨4, 0, 0, ⟨#[]⟩, v.num⟩ && (decide (0 ≤ v.num) && decide (v.num ≤ 3652058))
  else false
theorem vsnd0 (n s m : Int) (t : ByteArray) : vsnd ⟨0, n, s, t, m⟩ = veq ⟨0, n, s, t, m⟩ ⟨0, 0, 0, ⟨#[]⟩, 0⟩ := rfl
theorem vsnd1 (n s m : Int) (t : ByteArray) : vsnd ⟨1, n, s, t, m⟩ = (veq ⟨1, n, s, t, m⟩ ⟨1, n, s, ⟨#[]⟩, 0⟩ && sndB n s) := rfl
theorem vsnd2 (n s m : Int) (t : ByteArray) : vsnd ⟨2, n, s, t, m⟩ = (veq ⟨2, n, s, t, m⟩ ⟨2, 0, 0, t, 0⟩ && (decide (t.size ≤ 256) && goodB t)) := rfl
theorem vsnd3 (n s m : Int) (t : ByteArray) : vsnd ⟨3, n, s, t, m⟩ = (veq ⟨3, n, s, t, m⟩ ⟨3, 0, 0, ⟨#[]⟩, m⟩ && (decide (m = 0) || decide (m = 1))) := rfl
theorem vsnd4 (n s m : Int) (t : ByteArray) : vsnd ⟨4, n, s, t, m⟩ = (veq ⟨4, n, s, t, m⟩ ⟨4, 0, 0, ⟨#[]⟩, m⟩ && (decide (0 ≤ m) && decide (m ≤ 3652058))) := rfl
theorem vsnd5 (k n s m : Int) (t : ByteArray) (h : k ≠ 0 ∧ k ≠ 1 ∧ k ≠ 2 ∧ k ≠ 3 ∧ k ≠ 4) : vsnd ⟨k, n, s, t, m⟩ = false := by
  unfold vsnd
  rw [if_neg h.1, if_neg h.2.1, if_neg h.2.2.1, if_neg h.2.2.2.1, if_neg h.2.2.2.2]
theorem kinds (k : Int) : k = 0 ∨ k = 1 ∨ k = 2 ∨ k = 3 ∨ k = 4 ∨ (k ≠ 0 ∧ k ≠ 1 ∧ k ≠ 2 ∧ k ≠ 3 ∧ k ≠ 4) := by omega
set_option maxRecDepth 100000 in
set_option maxHeartbeats 4000000 in
theorem vsound_any (v : Val) (hv : v.text.size ≤ 9223372036854775807) (w : World) : Calls Tryz.prog 31 #[v.val] w fun e w' => e = .returned (.bool (vsnd v)) ∧ Bel w w' := by
  obtain ⟨k, n, s, t, m⟩ := v
  have hv : t.size ≤ 9223372036854775807 := hv
  rcases kinds k with rfl | rfl | rfl | rfl | rfl | hk
  · have L := Lib.hid (vsnd0 n s m t)
    go_enter Tryz.func31, Tryz.ntmps31
    go_wp2_with fail
    go_ret
    exact ⟨by (rw [L.out]) <;> rfl, (Bel.refl _).alloc _⟩
  · have L0 := vsnd1 n s m t
    cases hq : veq ⟨1, n, s, t, m⟩ ⟨1, n, s, ⟨#[]⟩, 0⟩ with
    | false =>
      have L := Lib.hid (show vsnd ⟨1, n, s, t, m⟩ = false by rw [L0, hq]; rfl)
      clear L0
      go_enter Tryz.func31, Tryz.ntmps31
      go_wp2_with fail
      go_ret
      exact ⟨by (rw [L.out]) <;> rfl, (Bel.refl _).alloc _⟩
    | true =>
      have L := Lib.hid (show vsnd ⟨1, n, s, t, m⟩ = sndB n s by rw [L0, hq]; rfl)
      clear L0
      go_enter Tryz.func31, Tryz.ntmps31
      go_wp2_with (go_at_call 57; refine (sound_any n s _).mono ?_; rintro e W1 ⟨rfl, hb1⟩)
      go_ret
      exact ⟨by (rw [L.out]) <;> rfl, ((Bel.refl _).alloc _).trans hb1⟩
  · have L0 := vsnd2 n s m t
    cases hq : veq ⟨2, n, s, t, m⟩ ⟨2, 0, 0, t, 0⟩ with
    | false =>
      have L := Lib.hid (show vsnd ⟨2, n, s, t, m⟩ = false by rw [L0, hq]; rfl)
      clear L0
      go_enter Tryz.func31, Tryz.ntmps31
      go_wp2_with fail
      go_ret
      exact ⟨by (rw [L.out]) <;> rfl, (Bel.refl _).alloc _⟩
    | true =>
      by_cases hz : t.size ≤ 256
      · have L := Lib.hid (show vsnd ⟨2, n, s, t, m⟩ = goodB t by rw [L0, hq, decide_eq_true hz]; rfl)
        have gz : decide ((t.size : Int) ≤ 256) = true := by exact decide_eq_true (by omega)
        clear L0
        go_enter Tryz.func31, Tryz.ntmps31
        go_wp2_with (go_at_call 58; refine (good_any t hv _).mono ?_; rintro e W1 ⟨rfl, hb1⟩)
        go_ret
        exact ⟨by (rw [L.out]) <;> rfl, ((Bel.refl _).alloc _).trans hb1⟩
      · have L := Lib.hid (show vsnd ⟨2, n, s, t, m⟩ = false by rw [L0, hq, decide_eq_false hz]; rfl)
        have gz : decide ((t.size : Int) ≤ 256) = false := by exact decide_eq_false (by omega)
        clear L0
        go_enter Tryz.func31, Tryz.ntmps31
        go_wp2_with fail
        go_ret
        exact ⟨by (rw [L.out]) <;> rfl, (Bel.refl _).alloc _⟩
  · have L0 := vsnd3 n s m t
    cases hq : veq ⟨3, n, s, t, m⟩ ⟨3, 0, 0, ⟨#[]⟩, m⟩ with
    | false =>
      have L := Lib.hid (show vsnd ⟨3, n, s, t, m⟩ = false by rw [L0, hq]; rfl)
      clear L0
      go_enter Tryz.func31, Tryz.ntmps31
      go_wp2_with fail
      go_ret
      exact ⟨by (rw [L.out]) <;> rfl, (Bel.refl _).alloc _⟩
    | true =>
      by_cases h0 : m = 0
      · have L := Lib.hid (show vsnd ⟨3, n, s, t, m⟩ = true by rw [L0, hq, decide_eq_true h0]; rfl)
        have g0 : (m == 0) = true := by rw [beq_iff_eq]; exact h0
        clear L0 h0
        go_enter Tryz.func31, Tryz.ntmps31
        go_wp2_with fail
        go_ret
        exact ⟨by (rw [L.out]) <;> rfl, (Bel.refl _).alloc _⟩
      · have g0 : (m == 0) = false := by rw [beq_eq_false_iff_ne]; exact h0
        by_cases h1 : m = 1
        · have L := Lib.hid (show vsnd ⟨3, n, s, t, m⟩ = true by rw [L0, hq, decide_eq_true h1]; simp)
          have g1 : (m == 1) = true := by rw [beq_iff_eq]; exact h1
          clear L0 h0 h1
          go_enter Tryz.func31, Tryz.ntmps31
          go_wp2_with fail
          go_ret
          exact ⟨by (rw [L.out]) <;> rfl, (Bel.refl _).alloc _⟩
        · have L := Lib.hid (show vsnd ⟨3, n, s, t, m⟩ = false by rw [L0, hq, decide_eq_false h0, decide_eq_false h1]; rfl)
          have g1 : (m == 1) = false := by rw [beq_eq_false_iff_ne]; exact h1
          clear L0 h0 h1
          go_enter Tryz.func31, Tryz.ntmps31
          go_wp2_with fail
          go_ret
          exact ⟨by (rw [L.out]) <;> rfl, (Bel.refl _).alloc _⟩
  · have L0 := vsnd4 n s m t
    cases hq : veq ⟨4, n, s, t, m⟩ ⟨4, 0, 0, ⟨#[]⟩, m⟩ with
    | false =>
      have L := Lib.hid (show vsnd ⟨4, n, s, t, m⟩ = false by rw [L0, hq]; rfl)
      clear L0
      go_enter Tryz.func31, Tryz.ntmps31
      go_wp2_with fail
      go_ret
      exact ⟨by (rw [L.out]) <;> rfl, (Bel.refl _).alloc _⟩
    | true =>
      by_cases h0 : 0 ≤ m
      · have g0 : decide (0 ≤ m) = true := by exact decide_eq_true h0
        by_cases h1 : m ≤ 3652058
        · have g1 : decide (m ≤ 3652058) = true := by exact decide_eq_true h1
          have L := Lib.hid (show vsnd ⟨4, n, s, t, m⟩ = true by rw [L0, hq, g0, g1]; rfl)
          clear L0
          go_enter Tryz.func31, Tryz.ntmps31
          go_wp2_with fail
          go_ret
          exact ⟨by (rw [L.out]) <;> rfl, (Bel.refl _).alloc _⟩
        · have g1 : decide (m ≤ 3652058) = false := by exact decide_eq_false h1
          have L := Lib.hid (show vsnd ⟨4, n, s, t, m⟩ = false by rw [L0, hq, g0, g1]; rfl)
          clear L0
          go_enter Tryz.func31, Tryz.ntmps31
          go_wp2_with fail
          go_ret
          exact ⟨by (rw [L.out]) <;> rfl, (Bel.refl _).alloc _⟩
      · have g0 : decide (0 ≤ m) = false := by exact decide_eq_false h0
        have L := Lib.hid (show vsnd ⟨4, n, s, t, m⟩ = false by rw [L0, hq, g0]; rfl)
        clear L0
        go_enter Tryz.func31, Tryz.ntmps31
        go_wp2_with fail
        go_ret
        exact ⟨by (rw [L.out]) <;> rfl, (Bel.refl _).alloc _⟩
  · have L := Lib.hid (vsnd5 k n s m t hk)
    have k0 : (k == 0) = false := by rw [beq_eq_false_iff_ne]; exact hk.1
    have k1 : (k == 1) = false := by rw [beq_eq_false_iff_ne]; exact hk.2.1
    have k2 : (k == 2) = false := by rw [beq_eq_false_iff_ne]; exact hk.2.2.1
    have k3 : (k == 3) = false := by rw [beq_eq_false_iff_ne]; exact hk.2.2.2.1
    have k4 : (k == 4) = false := by rw [beq_eq_false_iff_ne]; exact hk.2.2.2.2
    clear hk
    go_enter Tryz.func31, Tryz.ntmps31
    go_wp2_with fail
    go_ret
    exact ⟨by (rw [L.out]) <;> rfl, (Bel.refl _).alloc _⟩
theorem gOf_in (s : ByteArray) (pos i : Nat) (h : pos + i < s.size) : gOf s pos i = s[pos + i].toNat := by
  rw [gOf_list, List.getD_eq_getElem?_getD, List.getElem?_drop, List.getElem?_eq_getElem (by rw [size_list_C]; exact h)]
  rfl
theorem acc_lt (r0 : Nat) (g : Nat → Nat) : ∀ k, conts g k → accF r0 g k < (r0 + 1) * 64 ^ k
  | 0, _ => by show r0 < _; omega
  | k + 1, h => by
    have h1 := (conts_s g k).1 h
    have h2 := acc_lt r0 g k h1.1
    show accF r0 g k * 64 + (g (k + 1) - 0x80) < _
    rw [Nat.pow_succ, ← Nat.mul_assoc]
    omega
theorem gOf_in0 (s : ByteArray) (pos : Nat) (h : pos < s.size) : gOf s pos 0 = s[pos].toNat := gOf_in s pos 0 h
/-- One sign more of a text, or the end. -/
theorem good_step (s : ByteArray) (fuel pos : Nat) (hp : pos < s.size) (h : goodB s = decide (badFrom s (fuel + 1) pos = -1)) :
    goodB s = if (first (gOf s pos) (s.size - pos)).2 = 0 then false else decide (badFrom s fuel (pos + (first (gOf s pos) (s.size - pos)).2) = -1) := by
  rw [h, badFrom, if_pos hp]
  have hok := first_ok s pos hp
  have hwd := wd_pos s pos
  cases hv : okAt s pos with
  | true =>
    rw [hv, if_pos rfl] at hok
    rw [if_pos rfl, if_neg (by omega), hok]
  | false =>
    rw [hv, if_neg (by decide)] at hok
    rw [if_neg (by decide), if_pos hok]
    exact decide_eq_false (by omega)
set_option maxRecDepth 100000 in
set_option maxHeartbeats 8000000 in
theorem rgood4_any (s : ByteArray) (hs : s.size ≤ 9223372036854775000) (w : World) : Calls Tryz.prog 62 #[.string s] w fun e w' => e = .returned (.bool (goodB s)) ∧ w' = w := by
  have hsi : (s.size : Int) ≤ 9223372036854775000 := by omega
  go_enter Tryz.func62, Tryz.ntmps62
  go_wp2_with fail
  go_loopg [3] s.size (fun g v wr => ∃ pos fuel : Nat, v = .int .i64 pos ∧ pos ≤ s.size ∧ Hid (goodB s = decide (badFrom s fuel pos = -1) ∧ s.size ≤ fuel + pos ∧ g = s.size - pos) ∧ wr = w)
  case atStart => exact ⟨0, s.size, rfl, Nat.zero_le _, ⟨rfl, by omega, rfl⟩, rfl⟩
  case round =>
    obtain ⟨pos, fuel, rfl, hpl, hh, rfl⟩ := hrel
    by_cases hp : pos < s.size
    · obtain ⟨f, rfl⟩ : ∃ f, fuel = f + 1 := ⟨fuel - 1, by have := hh.out.2.1; omega⟩
      have hst := good_step s f pos hp hh.out.1
      have ST := Lib.hid hst
      have NO := Lib.hid (show first (gOf s pos) (s.size - pos) = (0, 0) → goodB s = false from fun h => by rw [ST.out, h]; rfl)
      have e0 := gOf_in0 s pos hp
      have b0 := s[pos].toNat_lt
      have hF := first_T (gOf s pos) (s.size - pos) (by omega)
      have i1 : (pos : Int) < s.size := by omega
      clear hst
      have hc5 : (gOf s pos 0 < 0x80) ∨ (0xC0 ≤ gOf s pos 0 ∧ gOf s pos 0 < 0xE0) ∨ (0xE0 ≤ gOf s pos 0 ∧ gOf s pos 0 < 0xF0) ∨ (0xF0 ≤ gOf s pos 0 ∧ gOf s pos 0 < 0xF8) ∨ ((0x80 ≤ gOf s pos 0 ∧ gOf s pos 0 < 0xC0) ∨ 0xF8 ≤ gOf s pos 0) := by omega
      rcases hc5 with cc | cc | cc | cc | cc
      · have hT : first (gOf s pos) (s.size - pos) = firstT (gOf s pos 0) 1 0 (gOf s pos) (s.size - pos) := by rw [hF, if_pos cc]
        obtain ⟨R, hR⟩ : ∃ R, R = gOf s pos 0 := ⟨_, rfl⟩
        rw [← hR] at hT
        have hRi : (s[pos].toNat : Int) = (R : Int) := by omega
        have hR127 : R ≤ 127 := by omega
        have RMX := Lib.hid (show R ≤ 127 by omega)
        have b1 : (0 : Int) ≤ s[pos].toNat := by omega
        have b2 : (s[pos].toNat : Int) < 128 := by omega
        have BD := Lib.hid (fun k hk => acc_bd R (gOf s pos) hR127 (gOf_lt s pos) k hk)
        have HT := Lib.hid hT
        have HRI := Lib.hid hRi
        clear hF hT hRi hR127 hR cc b0 e0
        go_wp2_with fail
        go_loopg [6, 8] 1 (fun g v6 v8 wr2 => ∃ k : Nat, v6 = .int .i64 ((accF R (gOf s pos) k : Nat) : Int) ∧ v8 = .int .i64 ((k : Int) + 1) ∧ Hid (k ≤ 1 - 1 ∧ conts (gOf s pos) k ∧ pos + k < s.size ∧ g = 1 - k) ∧ wr2 = wr)
        case atStart => exact ⟨0, by first | rw [HRI.out]; rfl | (rw [← HRI.out]; rfl), rfl, ⟨by omega, conts1 _, by omega, rfl⟩, rfl⟩
        case round =>
          obtain ⟨k, rfl, rfl, hh2, rfl⟩ := hrel
          obtain ⟨hk, hct, hki, -⟩ := hh2.out
          have hbd := BD.out k (by omega)
          have hbi : ((accF R (gOf s pos) k : Nat) : Int) ≤ 40000000 := by omega
          · obtain rfl : k = 0 := by omega
            have HF2 := Lib.hid (show firstT R 1 0 (gOf s pos) (s.size - pos) = if 1 ≤ s.size - pos ∧ conts (gOf s pos) (1 - 1) ∧ 0 ≤ accF R (gOf s pos) (1 - 1) ∧ sgn_C (accF R (gOf s pos) (1 - 1)) = true then (accF R (gOf s pos) (1 - 1), 1) else (0, 0) from rfl)
            by_cases hns : 1 ≤ s.size - pos
            · obtain ⟨a, ha⟩ : ∃ a, a = accF R (gOf s pos) (1 - 1) := ⟨_, rfl⟩
              have hmx : a ≤ 127 := by
                have h1 := acc_lt R (gOf s pos) (1 - 1) (show conts (gOf s pos) (1 - 1) from hct)
                have h2 := RMX.out
                have h3 : 64 ^ (1 - 1) = 1 := by decide
                rw [h3] at h1
                omega
              rw [← ha] at hbi HF2 ⊢
              have NN := Lib.hid (show ¬ (0 ≤ a ∧ sgn_C a = true) → goodB s = false from fun h => NO.out (by rw [HT.out, HF2.out, if_neg (fun h' => h h'.2.2)]))
              have YY := Lib.hid (show 0 ≤ a → sgn_C a = true → goodB s = decide (badFrom s f (pos + 1) = -1) from fun h1 h2 => by
                have h3 := ST.out
                have h4 : firstT R 1 0 (gOf s pos) (s.size - pos) = (a, 1) := by rw [HF2.out]; exact if_pos ⟨hns, hct, h1, h2⟩
                rw [HT.out, h4] at h3
                rw [h3]
                exact if_neg (by simp))
              have FU := Lib.hid hns
              clear hbd ha hk hct hns hki
              have FA := Lib.hid (sgn_iff a)
              have ac : (0 ≤ a ∧ a ≤ 8) ∨ (9 ≤ a ∧ a ≤ 9) ∨ (10 ≤ a ∧ a ≤ 10) ∨ (11 ≤ a ∧ a ≤ 12) ∨ (13 ≤ a ∧ a ≤ 13) ∨ (14 ≤ a ∧ a ≤ 31) ∨ (32 ≤ a ∧ a ≤ 127) := by omega
              rcases ac with ac | ac | ac | ac | ac | ac | ac
              · have e9 : ((a : Int) == 9) = false := by rw [beq_eq_false_iff_ne]; omega
                have e10 : ((a : Int) == 10) = false := by rw [beq_eq_false_iff_ne]; omega
                have e13 : ((a : Int) == 13) = false := by rw [beq_eq_false_iff_ne]; omega
                have g32 : decide ((32 : Int) ≤ a) = false := by exact decide_eq_false (by omega)
                have g57344 : decide ((57344 : Int) ≤ a) = false := by exact decide_eq_false (by omega)
                have g65536 : decide ((65536 : Int) ≤ a) = false := by exact decide_eq_false (by omega)
                have l55295 : decide ((a : Int) ≤ 55295) = true := by exact decide_eq_true (by omega)
                have l65533 : decide ((a : Int) ≤ 65533) = true := by exact decide_eq_true (by omega)
                have l1114111 : decide ((a : Int) ≤ 1114111) = true := by exact decide_eq_true (by omega)
                have gl : decide ((a : Int) < 0) = false := by exact decide_eq_false (by omega)
                have L := Lib.hid (show goodB s = false from NN.out (fun h => by have h3 := FA.out.1 h.2; omega))
                clear ac
                go_wp2_with fail
                go_ret
                exact ⟨by (rw [L.out]) <;> rfl, rfl⟩
              · have e9 : ((a : Int) == 9) = true := by rw [beq_iff_eq]; omega
                have e10 : ((a : Int) == 10) = false := by rw [beq_eq_false_iff_ne]; omega
                have e13 : ((a : Int) == 13) = false := by rw [beq_eq_false_iff_ne]; omega
                have g32 : decide ((32 : Int) ≤ a) = false := by exact decide_eq_false (by omega)
                have g57344 : decide ((57344 : Int) ≤ a) = false := by exact decide_eq_false (by omega)
                have g65536 : decide ((65536 : Int) ≤ a) = false := by exact decide_eq_false (by omega)
                have l55295 : decide ((a : Int) ≤ 55295) = true := by exact decide_eq_true (by omega)
                have l65533 : decide ((a : Int) ≤ 65533) = true := by exact decide_eq_true (by omega)
                have l1114111 : decide ((a : Int) ≤ 1114111) = true := by exact decide_eq_true (by omega)
                have gl : decide ((a : Int) < 0) = false := by exact decide_eq_false (by omega)
                have L := Lib.hid (YY.out (by omega) (FA.out.2 (by omega)))
                clear ac
                go_wp2_with fail
                go_roundg (s.size - (pos + 1))
                case measure => have h1 := hh.out.2.2; have h2 := FU.out; omega
                case rel => exact ⟨pos + 1, f, by go_num, by have h2 := FU.out; omega, ⟨L.out, by have := hh.out.2.1; omega, rfl⟩, rfl⟩
              · have e9 : ((a : Int) == 9) = false := by rw [beq_eq_false_iff_ne]; omega
                have e10 : ((a : Int) == 10) = true := by rw [beq_iff_eq]; omega
                have e13 : ((a : Int) == 13) = false := by rw [beq_eq_false_iff_ne]; omega
                have g32 : decide ((32 : Int) ≤ a) = false := by exact decide_eq_false (by omega)
                have g57344 : decide ((57344 : Int) ≤ a) = false := by exact decide_eq_false (by omega)
                have g65536 : decide ((65536 : Int) ≤ a) = false := by exact decide_eq_false (by omega)
                have l55295 : decide ((a : Int) ≤ 55295) = true := by exact decide_eq_true (by omega)
                have l65533 : decide ((a : Int) ≤ 65533) = true := by exact decide_eq_true (by omega)
                have l1114111 : decide ((a : Int) ≤ 1114111) = true := by exact decide_eq_true (by omega)
                have gl : decide ((a : Int) < 0) = false := by exact decide_eq_false (by omega)
                have L := Lib.hid (YY.out (by omega) (FA.out.2 (by omega)))
                clear ac
                go_wp2_with fail
                go_roundg (s.size - (pos + 1))
                case measure => have h1 := hh.out.2.2; have h2 := FU.out; omega
                case rel => exact ⟨pos + 1, f, by go_num, by have h2 := FU.out; omega, ⟨L.out, by have := hh.out.2.1; omega, rfl⟩, rfl⟩
              · have e9 : ((a : Int) == 9) = false := by rw [beq_eq_false_iff_ne]; omega
                have e10 : ((a : Int) == 10) = false := by rw [beq_eq_false_iff_ne]; omega
                have e13 : ((a : Int) == 13) = false := by rw [beq_eq_false_iff_ne]; omega
                have g32 : decide ((32 : Int) ≤ a) = false := by exact decide_eq_false (by omega)
                have g57344 : decide ((57344 : Int) ≤ a) = false := by exact decide_eq_false (by omega)
                have g65536 : decide ((65536 : Int) ≤ a) = false := by exact decide_eq_false (by omega)
                have l55295 : decide ((a : Int) ≤ 55295) = true := by exact decide_eq_true (by omega)
                have l65533 : decide ((a : Int) ≤ 65533) = true := by exact decide_eq_true (by omega)
                have l1114111 : decide ((a : Int) ≤ 1114111) = true := by exact decide_eq_true (by omega)
                have gl : decide ((a : Int) < 0) = false := by exact decide_eq_false (by omega)
                have L := Lib.hid (show goodB s = false from NN.out (fun h => by have h3 := FA.out.1 h.2; omega))
                clear ac
                go_wp2_with fail
                go_ret
                exact ⟨by (rw [L.out]) <;> rfl, rfl⟩
              · have e9 : ((a : Int) == 9) = false := by rw [beq_eq_false_iff_ne]; omega
                have e10 : ((a : Int) == 10) = false := by rw [beq_eq_false_iff_ne]; omega
                have e13 : ((a : Int) == 13) = true := by rw [beq_iff_eq]; omega
                have g32 : decide ((32 : Int) ≤ a) = false := by exact decide_eq_false (by omega)
                have g57344 : decide ((57344 : Int) ≤ a) = false := by exact decide_eq_false (by omega)
                have g65536 : decide ((65536 : Int) ≤ a) = false := by exact decide_eq_false (by omega)
                have l55295 : decide ((a : Int) ≤ 55295) = true := by exact decide_eq_true (by omega)
                have l65533 : decide ((a : Int) ≤ 65533) = true := by exact decide_eq_true (by omega)
                have l1114111 : decide ((a : Int) ≤ 1114111) = true := by exact decide_eq_true (by omega)
                have gl : decide ((a : Int) < 0) = false := by exact decide_eq_false (by omega)
                have L := Lib.hid (YY.out (by omega) (FA.out.2 (by omega)))
                clear ac
                go_wp2_with fail
                go_roundg (s.size - (pos + 1))
                case measure => have h1 := hh.out.2.2; have h2 := FU.out; omega
                case rel => exact ⟨pos + 1, f, by go_num, by have h2 := FU.out; omega, ⟨L.out, by have := hh.out.2.1; omega, rfl⟩, rfl⟩
              · have e9 : ((a : Int) == 9) = false := by rw [beq_eq_false_iff_ne]; omega
                have e10 : ((a : Int) == 10) = false := by rw [beq_eq_false_iff_ne]; omega
                have e13 : ((a : Int) == 13) = false := by rw [beq_eq_false_iff_ne]; omega
                have g32 : decide ((32 : Int) ≤ a) = false := by exact decide_eq_false (by omega)
                have g57344 : decide ((57344 : Int) ≤ a) = false := by exact decide_eq_false (by omega)
                have g65536 : decide ((65536 : Int) ≤ a) = false := by exact decide_eq_false (by omega)
                have l55295 : decide ((a : Int) ≤ 55295) = true := by exact decide_eq_true (by omega)
                have l65533 : decide ((a : Int) ≤ 65533) = true := by exact decide_eq_true (by omega)
                have l1114111 : decide ((a : Int) ≤ 1114111) = true := by exact decide_eq_true (by omega)
                have gl : decide ((a : Int) < 0) = false := by exact decide_eq_false (by omega)
                have L := Lib.hid (show goodB s = false from NN.out (fun h => by have h3 := FA.out.1 h.2; omega))
                clear ac
                go_wp2_with fail
                go_ret
                exact ⟨by (rw [L.out]) <;> rfl, rfl⟩
              · have e9 : ((a : Int) == 9) = false := by rw [beq_eq_false_iff_ne]; omega
                have e10 : ((a : Int) == 10) = false := by rw [beq_eq_false_iff_ne]; omega
                have e13 : ((a : Int) == 13) = false := by rw [beq_eq_false_iff_ne]; omega
                have g32 : decide ((32 : Int) ≤ a) = true := by exact decide_eq_true (by omega)
                have g57344 : decide ((57344 : Int) ≤ a) = false := by exact decide_eq_false (by omega)
                have g65536 : decide ((65536 : Int) ≤ a) = false := by exact decide_eq_false (by omega)
                have l55295 : decide ((a : Int) ≤ 55295) = true := by exact decide_eq_true (by omega)
                have l65533 : decide ((a : Int) ≤ 65533) = true := by exact decide_eq_true (by omega)
                have l1114111 : decide ((a : Int) ≤ 1114111) = true := by exact decide_eq_true (by omega)
                have gl : decide ((a : Int) < 0) = false := by exact decide_eq_false (by omega)
                have L := Lib.hid (YY.out (by omega) (FA.out.2 (by omega)))
                clear ac
                go_wp2_with fail
                go_roundg (s.size - (pos + 1))
                case measure => have h1 := hh.out.2.2; have h2 := FU.out; omega
                case rel => exact ⟨pos + 1, f, by go_num, by have h2 := FU.out; omega, ⟨L.out, by have := hh.out.2.1; omega, rfl⟩, rfl⟩
            · exfalso
              have h1 := hct
              omega
      · have hT : first (gOf s pos) (s.size - pos) = firstT (gOf s pos 0 - 0xC0) 2 128 (gOf s pos) (s.size - pos) := by rw [hF, if_neg (by omega), if_pos cc]
        obtain ⟨R, hR⟩ : ∃ R, R = gOf s pos 0 - 0xC0 := ⟨_, rfl⟩
        rw [← hR] at hT
        have hRi : (s[pos].toNat : Int) - 192 = (R : Int) := by omega
        have hR127 : R ≤ 127 := by omega
        have RMX := Lib.hid (show R ≤ 31 by omega)
        have b1 : (192 : Int) ≤ s[pos].toNat := by omega
        have b2 : (s[pos].toNat : Int) < 224 := by omega
        have BD := Lib.hid (fun k hk => acc_bd R (gOf s pos) hR127 (gOf_lt s pos) k hk)
        have HT := Lib.hid hT
        have HRI := Lib.hid hRi
        clear hF hT hRi hR127 hR cc b0 e0
        go_wp2_with fail
        go_loopg [6, 8] 2 (fun g v6 v8 wr2 => ∃ k : Nat, v6 = .int .i64 ((accF R (gOf s pos) k : Nat) : Int) ∧ v8 = .int .i64 ((k : Int) + 1) ∧ Hid (k ≤ 2 - 1 ∧ conts (gOf s pos) k ∧ pos + k < s.size ∧ g = 2 - k) ∧ wr2 = wr)
        case atStart => exact ⟨0, by first | rw [HRI.out]; rfl | (rw [← HRI.out]; rfl), rfl, ⟨by omega, conts1 _, by omega, rfl⟩, rfl⟩
        case round =>
          obtain ⟨k, rfl, rfl, hh2, rfl⟩ := hrel
          obtain ⟨hk, hct, hki, -⟩ := hh2.out
          have hbd := BD.out k (by omega)
          have hbi : ((accF R (gOf s pos) k : Nat) : Int) ≤ 40000000 := by omega
          by_cases hlt : k + 1 < 2
          · have k1 : (k : Int) + 1 < 2 := by omega
            by_cases hin : pos + (k + 1) < s.size
            · have hga := gOf_in s pos (k + 1) hin
              have hg1 := gOf_lt s pos (k + 1)
              have CS := Lib.hid (conts_s (gOf s pos) k)
              have HAC := Lib.hid (show accF R (gOf s pos) (k + 1) = accF R (gOf s pos) k * 64 + (gOf s pos (k + 1) - 0x80) from rfl)
              have k2 : (pos : Int) + ((k : Int) + 1) < s.size := by omega
              rw [hga] at CS HAC hg1
              obtain ⟨a, ha⟩ : ∃ a, a = accF R (gOf s pos) k := ⟨_, rfl⟩
              rw [← ha] at hbi HAC ⊢
              have k3 : (s[pos + (k + 1)].toNat : Int) ≤ 255 := by omega
              by_cases hc : 0x80 ≤ s[pos + (k + 1)].toNat ∧ s[pos + (k + 1)].toNat < 0xC0
              · obtain ⟨hc1, hc2⟩ := hc
                have k4 : (128 : Int) ≤ s[pos + (k + 1)].toNat := by omega
                have k5 : (s[pos + (k + 1)].toNat : Int) < 192 := by omega
                have NC := Lib.hid (CS.out.2 ⟨hct, hc1, hc2⟩)
                have E := Lib.hid (show (a : Int) * 64 + (s[pos + (k + 1)].toNat : Int) - 128 = ((accF R (gOf s pos) (k + 1) : Nat) : Int) by rw [HAC.out]; omega)
                clear hbd ha hga hg1 hc1 hc2 hk hct hki
                go_wp2_with fail
                go_roundg (gk - 1)
                case measure => have := hh2.out.2.2.2; omega
                case rel => exact ⟨k + 1, by rw [← E.out], by go_num, ⟨by omega, NC.out, by omega, by have := hh2.out.2.2.2; omega⟩, rfl⟩
              · have L := Lib.hid (show goodB s = false from NO.out (by
                  rw [HT.out, firstT, if_neg (fun h => hc (by rw [← hga]; exact h.2.1 (k + 1) (by omega) (by omega)))]))
                have k4 : (s[pos + (k + 1)].toNat : Int) < 128 ∨ (192 : Int) ≤ s[pos + (k + 1)].toNat := by omega
                clear hbd ha hga hg1 hc hk hct hki
                rcases k4 with k4 | k4
                all_goals
                  go_wp2_with fail
                  go_ret
                  exact ⟨by (rw [L.out]) <;> rfl, rfl⟩
            · have L := Lib.hid (show goodB s = false from NO.out (by rw [HT.out, firstT, if_neg (fun h => by have := h.1; omega)]))
              have k2 : (s.size : Int) ≤ (pos : Int) + ((k : Int) + 1) := by omega
              clear hbd hk hct hki
              go_wp2_with fail
              go_ret
              exact ⟨by (rw [L.out]) <;> rfl, rfl⟩
          · obtain rfl : k = 2 - 1 := by omega
            have HF2 := Lib.hid (show firstT R 2 128 (gOf s pos) (s.size - pos) = if 2 ≤ s.size - pos ∧ conts (gOf s pos) (2 - 1) ∧ 128 ≤ accF R (gOf s pos) (2 - 1) ∧ sgn_C (accF R (gOf s pos) (2 - 1)) = true then (accF R (gOf s pos) (2 - 1), 2) else (0, 0) from rfl)
            by_cases hns : 2 ≤ s.size - pos
            · obtain ⟨a, ha⟩ : ∃ a, a = accF R (gOf s pos) (2 - 1) := ⟨_, rfl⟩
              have hmx : a ≤ 2047 := by
                have h1 := acc_lt R (gOf s pos) (2 - 1) (show conts (gOf s pos) (2 - 1) from hct)
                have h2 := RMX.out
                have h3 : 64 ^ (2 - 1) = 64 := by decide
                rw [h3] at h1
                omega
              rw [← ha] at hbi HF2 ⊢
              have NN := Lib.hid (show ¬ (128 ≤ a ∧ sgn_C a = true) → goodB s = false from fun h => NO.out (by rw [HT.out, HF2.out, if_neg (fun h' => h h'.2.2)]))
              have YY := Lib.hid (show 128 ≤ a → sgn_C a = true → goodB s = decide (badFrom s f (pos + 2) = -1) from fun h1 h2 => by
                have h3 := ST.out
                have h4 : firstT R 2 128 (gOf s pos) (s.size - pos) = (a, 2) := by rw [HF2.out]; exact if_pos ⟨hns, hct, h1, h2⟩
                rw [HT.out, h4] at h3
                rw [h3]
                exact if_neg (by simp))
              have FU := Lib.hid hns
              clear hbd ha hk hct hns hki
              have FA := Lib.hid (sgn_iff a)
              by_cases hl : (a : Int) < 128
              · have L := Lib.hid (show goodB s = false from NN.out (fun h => by have := h.1; omega))
                go_wp2_with fail
                go_ret
                exact ⟨by (rw [L.out]) <;> rfl, rfl⟩
              · have gl : decide ((a : Int) < 128) = false := by exact decide_eq_false hl
                have HL := Lib.hid (show 128 ≤ a by omega)
                clear hl
                have ac : (128 ≤ a ∧ a ≤ 2047) := by have hl0 := HL.out; omega
                rcases ac with ac
                · have e9 : ((a : Int) == 9) = false := by rw [beq_eq_false_iff_ne]; omega
                  have e10 : ((a : Int) == 10) = false := by rw [beq_eq_false_iff_ne]; omega
                  have e13 : ((a : Int) == 13) = false := by rw [beq_eq_false_iff_ne]; omega
                  have g32 : decide ((32 : Int) ≤ a) = true := by exact decide_eq_true (by omega)
                  have g57344 : decide ((57344 : Int) ≤ a) = false := by exact decide_eq_false (by omega)
                  have g65536 : decide ((65536 : Int) ≤ a) = false := by exact decide_eq_false (by omega)
                  have l55295 : decide ((a : Int) ≤ 55295) = true := by exact decide_eq_true (by omega)
                  have l65533 : decide ((a : Int) ≤ 65533) = true := by exact decide_eq_true (by omega)
                  have l1114111 : decide ((a : Int) ≤ 1114111) = true := by exact decide_eq_true (by omega)
                  have L := Lib.hid (YY.out HL.out (FA.out.2 (by omega)))
                  clear ac
                  go_wp2_with fail
                  go_roundg (s.size - (pos + 2))
                  case measure => have h1 := hh.out.2.2; have h2 := FU.out; omega
                  case rel => exact ⟨pos + 2, f, by go_num, by have h2 := FU.out; omega, ⟨L.out, by have := hh.out.2.1; omega, rfl⟩, rfl⟩
            · exfalso
              have h1 := hct
              omega
      · have hT : first (gOf s pos) (s.size - pos) = firstT (gOf s pos 0 - 0xE0) 3 2048 (gOf s pos) (s.size - pos) := by rw [hF, if_neg (by omega), if_neg (by omega), if_pos cc]
        obtain ⟨R, hR⟩ : ∃ R, R = gOf s pos 0 - 0xE0 := ⟨_, rfl⟩
        rw [← hR] at hT
        have hRi : (s[pos].toNat : Int) - 224 = (R : Int) := by omega
        have hR127 : R ≤ 127 := by omega
        have RMX := Lib.hid (show R ≤ 15 by omega)
        have b1 : (224 : Int) ≤ s[pos].toNat := by omega
        have b2 : (s[pos].toNat : Int) < 240 := by omega
        have BD := Lib.hid (fun k hk => acc_bd R (gOf s pos) hR127 (gOf_lt s pos) k hk)
        have HT := Lib.hid hT
        have HRI := Lib.hid hRi
        clear hF hT hRi hR127 hR cc b0 e0
        go_wp2_with fail
        go_loopg [6, 8] 3 (fun g v6 v8 wr2 => ∃ k : Nat, v6 = .int .i64 ((accF R (gOf s pos) k : Nat) : Int) ∧ v8 = .int .i64 ((k : Int) + 1) ∧ Hid (k ≤ 3 - 1 ∧ conts (gOf s pos) k ∧ pos + k < s.size ∧ g = 3 - k) ∧ wr2 = wr)
        case atStart => exact ⟨0, by first | rw [HRI.out]; rfl | (rw [← HRI.out]; rfl), rfl, ⟨by omega, conts1 _, by omega, rfl⟩, rfl⟩
        case round =>
          obtain ⟨k, rfl, rfl, hh2, rfl⟩ := hrel
          obtain ⟨hk, hct, hki, -⟩ := hh2.out
          have hbd := BD.out k (by omega)
          have hbi : ((accF R (gOf s pos) k : Nat) : Int) ≤ 40000000 := by omega
          by_cases hlt : k + 1 < 3
          · have k1 : (k : Int) + 1 < 3 := by omega
            by_cases hin : pos + (k + 1) < s.size
            · have hga := gOf_in s pos (k + 1) hin
              have hg1 := gOf_lt s pos (k + 1)
              have CS := Lib.hid (conts_s (gOf s pos) k)
              have HAC := Lib.hid (show accF R (gOf s pos) (k + 1) = accF R (gOf s pos) k * 64 + (gOf s pos (k + 1) - 0x80) from rfl)
              have k2 : (pos : Int) + ((k : Int) + 1) < s.size := by omega
              rw [hga] at CS HAC hg1
              obtain ⟨a, ha⟩ : ∃ a, a = accF R (gOf s pos) k := ⟨_, rfl⟩
              rw [← ha] at hbi HAC ⊢
              have k3 : (s[pos + (k + 1)].toNat : Int) ≤ 255 := by omega
              by_cases hc : 0x80 ≤ s[pos + (k + 1)].toNat ∧ s[pos + (k + 1)].toNat < 0xC0
              · obtain ⟨hc1, hc2⟩ := hc
                have k4 : (128 : Int) ≤ s[pos + (k + 1)].toNat := by omega
                have k5 : (s[pos + (k + 1)].toNat : Int) < 192 := by omega
                have NC := Lib.hid (CS.out.2 ⟨hct, hc1, hc2⟩)
                have E := Lib.hid (show (a : Int) * 64 + (s[pos + (k + 1)].toNat : Int) - 128 = ((accF R (gOf s pos) (k + 1) : Nat) : Int) by rw [HAC.out]; omega)
                clear hbd ha hga hg1 hc1 hc2 hk hct hki
                go_wp2_with fail
                go_roundg (gk - 1)
                case measure => have := hh2.out.2.2.2; omega
                case rel => exact ⟨k + 1, by rw [← E.out], by go_num, ⟨by omega, NC.out, by omega, by have := hh2.out.2.2.2; omega⟩, rfl⟩
              · have L := Lib.hid (show goodB s = false from NO.out (by
                  rw [HT.out, firstT, if_neg (fun h => hc (by rw [← hga]; exact h.2.1 (k + 1) (by omega) (by omega)))]))
                have k4 : (s[pos + (k + 1)].toNat : Int) < 128 ∨ (192 : Int) ≤ s[pos + (k + 1)].toNat := by omega
                clear hbd ha hga hg1 hc hk hct hki
                rcases k4 with k4 | k4
                all_goals
                  go_wp2_with fail
                  go_ret
                  exact ⟨by (rw [L.out]) <;> rfl, rfl⟩
            · have L := Lib.hid (show goodB s = false from NO.out (by rw [HT.out, firstT, if_neg (fun h => by have := h.1; omega)]))
              have k2 : (s.size : Int) ≤ (pos : Int) + ((k : Int) + 1) := by omega
              clear hbd hk hct hki
              go_wp2_with fail
              go_ret
              exact ⟨by (rw [L.out]) <;> rfl, rfl⟩
          · obtain rfl : k = 3 - 1 := by omega
            have HF2 := Lib.hid (show firstT R 3 2048 (gOf s pos) (s.size - pos) = if 3 ≤ s.size - pos ∧ conts (gOf s pos) (3 - 1) ∧ 2048 ≤ accF R (gOf s pos) (3 - 1) ∧ sgn_C (accF R (gOf s pos) (3 - 1)) = true then (accF R (gOf s pos) (3 - 1), 3) else (0, 0) from rfl)
            by_cases hns : 3 ≤ s.size - pos
            · obtain ⟨a, ha⟩ : ∃ a, a = accF R (gOf s pos) (3 - 1) := ⟨_, rfl⟩
              have hmx : a ≤ 65535 := by
                have h1 := acc_lt R (gOf s pos) (3 - 1) (show conts (gOf s pos) (3 - 1) from hct)
                have h2 := RMX.out
                have h3 : 64 ^ (3 - 1) = 4096 := by decide
                rw [h3] at h1
                omega
              rw [← ha] at hbi HF2 ⊢
              have NN := Lib.hid (show ¬ (2048 ≤ a ∧ sgn_C a = true) → goodB s = false from fun h => NO.out (by rw [HT.out, HF2.out, if_neg (fun h' => h h'.2.2)]))
              have YY := Lib.hid (show 2048 ≤ a → sgn_C a = true → goodB s = decide (badFrom s f (pos + 3) = -1) from fun h1 h2 => by
                have h3 := ST.out
                have h4 : firstT R 3 2048 (gOf s pos) (s.size - pos) = (a, 3) := by rw [HF2.out]; exact if_pos ⟨hns, hct, h1, h2⟩
                rw [HT.out, h4] at h3
                rw [h3]
                exact if_neg (by simp))
              have FU := Lib.hid hns
              clear hbd ha hk hct hns hki
              have FA := Lib.hid (sgn_iff a)
              by_cases hl : (a : Int) < 2048
              · have L := Lib.hid (show goodB s = false from NN.out (fun h => by have := h.1; omega))
                go_wp2_with fail
                go_ret
                exact ⟨by (rw [L.out]) <;> rfl, rfl⟩
              · have gl : decide ((a : Int) < 2048) = false := by exact decide_eq_false hl
                have HL := Lib.hid (show 2048 ≤ a by omega)
                clear hl
                have ac : (2048 ≤ a ∧ a ≤ 55295) ∨ (55296 ≤ a ∧ a ≤ 57343) ∨ (57344 ≤ a ∧ a ≤ 65533) ∨ (65534 ≤ a ∧ a ≤ 65535) := by have hl0 := HL.out; omega
                rcases ac with ac | ac | ac | ac
                · have e9 : ((a : Int) == 9) = false := by rw [beq_eq_false_iff_ne]; omega
                  have e10 : ((a : Int) == 10) = false := by rw [beq_eq_false_iff_ne]; omega
                  have e13 : ((a : Int) == 13) = false := by rw [beq_eq_false_iff_ne]; omega
                  have g32 : decide ((32 : Int) ≤ a) = true := by exact decide_eq_true (by omega)
                  have g57344 : decide ((57344 : Int) ≤ a) = false := by exact decide_eq_false (by omega)
                  have g65536 : decide ((65536 : Int) ≤ a) = false := by exact decide_eq_false (by omega)
                  have l55295 : decide ((a : Int) ≤ 55295) = true := by exact decide_eq_true (by omega)
                  have l65533 : decide ((a : Int) ≤ 65533) = true := by exact decide_eq_true (by omega)
                  have l1114111 : decide ((a : Int) ≤ 1114111) = true := by exact decide_eq_true (by omega)
                  have L := Lib.hid (YY.out HL.out (FA.out.2 (by omega)))
                  clear ac
                  go_wp2_with fail
                  go_roundg (s.size - (pos + 3))
                  case measure => have h1 := hh.out.2.2; have h2 := FU.out; omega
                  case rel => exact ⟨pos + 3, f, by go_num, by have h2 := FU.out; omega, ⟨L.out, by have := hh.out.2.1; omega, rfl⟩, rfl⟩
                · have e9 : ((a : Int) == 9) = false := by rw [beq_eq_false_iff_ne]; omega
                  have e10 : ((a : Int) == 10) = false := by rw [beq_eq_false_iff_ne]; omega
                  have e13 : ((a : Int) == 13) = false := by rw [beq_eq_false_iff_ne]; omega
                  have g32 : decide ((32 : Int) ≤ a) = true := by exact decide_eq_true (by omega)
                  have g57344 : decide ((57344 : Int) ≤ a) = false := by exact decide_eq_false (by omega)
                  have g65536 : decide ((65536 : Int) ≤ a) = false := by exact decide_eq_false (by omega)
                  have l55295 : decide ((a : Int) ≤ 55295) = false := by exact decide_eq_false (by omega)
                  have l65533 : decide ((a : Int) ≤ 65533) = true := by exact decide_eq_true (by omega)
                  have l1114111 : decide ((a : Int) ≤ 1114111) = true := by exact decide_eq_true (by omega)
                  have L := Lib.hid (show goodB s = false from NN.out (fun h => by have h3 := FA.out.1 h.2; omega))
                  clear ac
                  go_wp2_with fail
                  go_ret
                  exact ⟨by (rw [L.out]) <;> rfl, rfl⟩
                · have e9 : ((a : Int) == 9) = false := by rw [beq_eq_false_iff_ne]; omega
                  have e10 : ((a : Int) == 10) = false := by rw [beq_eq_false_iff_ne]; omega
                  have e13 : ((a : Int) == 13) = false := by rw [beq_eq_false_iff_ne]; omega
                  have g32 : decide ((32 : Int) ≤ a) = true := by exact decide_eq_true (by omega)
                  have g57344 : decide ((57344 : Int) ≤ a) = true := by exact decide_eq_true (by omega)
                  have g65536 : decide ((65536 : Int) ≤ a) = false := by exact decide_eq_false (by omega)
                  have l55295 : decide ((a : Int) ≤ 55295) = false := by exact decide_eq_false (by omega)
                  have l65533 : decide ((a : Int) ≤ 65533) = true := by exact decide_eq_true (by omega)
                  have l1114111 : decide ((a : Int) ≤ 1114111) = true := by exact decide_eq_true (by omega)
                  have L := Lib.hid (YY.out HL.out (FA.out.2 (by omega)))
                  clear ac
                  go_wp2_with fail
                  go_roundg (s.size - (pos + 3))
                  case measure => have h1 := hh.out.2.2; have h2 := FU.out; omega
                  case rel => exact ⟨pos + 3, f, by go_num, by have h2 := FU.out; omega, ⟨L.out, by have := hh.out.2.1; omega, rfl⟩, rfl⟩
                · have e9 : ((a : Int) == 9) = false := by rw [beq_eq_false_iff_ne]; omega
                  have e10 : ((a : Int) == 10) = false := by rw [beq_eq_false_iff_ne]; omega
                  have e13 : ((a : Int) == 13) = false := by rw [beq_eq_false_iff_ne]; omega
                  have g32 : decide ((32 : Int) ≤ a) = true := by exact decide_eq_true (by omega)
                  have g57344 : decide ((57344 : Int) ≤ a) = true := by exact decide_eq_true (by omega)
                  have g65536 : decide ((65536 : Int) ≤ a) = false := by exact decide_eq_false (by omega)
                  have l55295 : decide ((a : Int) ≤ 55295) = false := by exact decide_eq_false (by omega)
                  have l65533 : decide ((a : Int) ≤ 65533) = false := by exact decide_eq_false (by omega)
                  have l1114111 : decide ((a : Int) ≤ 1114111) = true := by exact decide_eq_true (by omega)
                  have L := Lib.hid (show goodB s = false from NN.out (fun h => by have h3 := FA.out.1 h.2; omega))
                  clear ac
                  go_wp2_with fail
                  go_ret
                  exact ⟨by (rw [L.out]) <;> rfl, rfl⟩
            · exfalso
              have h1 := hct
              omega
      · have hT : first (gOf s pos) (s.size - pos) = firstT (gOf s pos 0 - 0xF0) 4 65536 (gOf s pos) (s.size - pos) := by rw [hF, if_neg (by omega), if_neg (by omega), if_neg (by omega), if_pos cc]
        obtain ⟨R, hR⟩ : ∃ R, R = gOf s pos 0 - 0xF0 := ⟨_, rfl⟩
        rw [← hR] at hT
        have hRi : (s[pos].toNat : Int) - 240 = (R : Int) := by omega
        have hR127 : R ≤ 127 := by omega
        have RMX := Lib.hid (show R ≤ 7 by omega)
        have b1 : (240 : Int) ≤ s[pos].toNat := by omega
        have b2 : (s[pos].toNat : Int) < 248 := by omega
        have BD := Lib.hid (fun k hk => acc_bd R (gOf s pos) hR127 (gOf_lt s pos) k hk)
        have HT := Lib.hid hT
        have HRI := Lib.hid hRi
        clear hF hT hRi hR127 hR cc b0 e0
        go_wp2_with fail
        go_loopg [6, 8] 4 (fun g v6 v8 wr2 => ∃ k : Nat, v6 = .int .i64 ((accF R (gOf s pos) k : Nat) : Int) ∧ v8 = .int .i64 ((k : Int) + 1) ∧ Hid (k ≤ 4 - 1 ∧ conts (gOf s pos) k ∧ pos + k < s.size ∧ g = 4 - k) ∧ wr2 = wr)
        case atStart => exact ⟨0, by first | rw [HRI.out]; rfl | (rw [← HRI.out]; rfl), rfl, ⟨by omega, conts1 _, by omega, rfl⟩, rfl⟩
        case round =>
          obtain ⟨k, rfl, rfl, hh2, rfl⟩ := hrel
          obtain ⟨hk, hct, hki, -⟩ := hh2.out
          have hbd := BD.out k (by omega)
          have hbi : ((accF R (gOf s pos) k : Nat) : Int) ≤ 40000000 := by omega
          by_cases hlt : k + 1 < 4
          · have k1 : (k : Int) + 1 < 4 := by omega
            by_cases hin : pos + (k + 1) < s.size
            · have hga := gOf_in s pos (k + 1) hin
              have hg1 := gOf_lt s pos (k + 1)
              have CS := Lib.hid (conts_s (gOf s pos) k)
              have HAC := Lib.hid (show accF R (gOf s pos) (k + 1) = accF R (gOf s pos) k * 64 + (gOf s pos (k + 1) - 0x80) from rfl)
              have k2 : (pos : Int) + ((k : Int) + 1) < s.size := by omega
              rw [hga] at CS HAC hg1
              obtain ⟨a, ha⟩ : ∃ a, a = accF R (gOf s pos) k := ⟨_, rfl⟩
              rw [← ha] at hbi HAC ⊢
              have k3 : (s[pos + (k + 1)].toNat : Int) ≤ 255 := by omega
              by_cases hc : 0x80 ≤ s[pos + (k + 1)].toNat ∧ s[pos + (k + 1)].toNat < 0xC0
              · obtain ⟨hc1, hc2⟩ := hc
                have k4 : (128 : Int) ≤ s[pos + (k + 1)].toNat := by omega
                have k5 : (s[pos + (k + 1)].toNat : Int) < 192 := by omega
                have NC := Lib.hid (CS.out.2 ⟨hct, hc1, hc2⟩)
                have E := Lib.hid (show (a : Int) * 64 + (s[pos + (k + 1)].toNat : Int) - 128 = ((accF R (gOf s pos) (k + 1) : Nat) : Int) by rw [HAC.out]; omega)
                clear hbd ha hga hg1 hc1 hc2 hk hct hki
                go_wp2_with fail
                go_roundg (gk - 1)
                case measure => have := hh2.out.2.2.2; omega
                case rel => exact ⟨k + 1, by rw [← E.out], by go_num, ⟨by omega, NC.out, by omega, by have := hh2.out.2.2.2; omega⟩, rfl⟩
              · have L := Lib.hid (show goodB s = false from NO.out (by
                  rw [HT.out, firstT, if_neg (fun h => hc (by rw [← hga]; exact h.2.1 (k + 1) (by omega) (by omega)))]))
                have k4 : (s[pos + (k + 1)].toNat : Int) < 128 ∨ (192 : Int) ≤ s[pos + (k + 1)].toNat := by omega
                clear hbd ha hga hg1 hc hk hct hki
                rcases k4 with k4 | k4
                all_goals
                  go_wp2_with fail
                  go_ret
                  exact ⟨by (rw [L.out]) <;> rfl, rfl⟩
            · have L := Lib.hid (show goodB s = false from NO.out (by rw [HT.out, firstT, if_neg (fun h => by have := h.1; omega)]))
              have k2 : (s.size : Int) ≤ (pos : Int) + ((k : Int) + 1) := by omega
              clear hbd hk hct hki
              go_wp2_with fail
              go_ret
              exact ⟨by (rw [L.out]) <;> rfl, rfl⟩
          · obtain rfl : k = 4 - 1 := by omega
            have HF2 := Lib.hid (show firstT R 4 65536 (gOf s pos) (s.size - pos) = if 4 ≤ s.size - pos ∧ conts (gOf s pos) (4 - 1) ∧ 65536 ≤ accF R (gOf s pos) (4 - 1) ∧ sgn_C (accF R (gOf s pos) (4 - 1)) = true then (accF R (gOf s pos) (4 - 1), 4) else (0, 0) from rfl)
            by_cases hns : 4 ≤ s.size - pos
            · obtain ⟨a, ha⟩ : ∃ a, a = accF R (gOf s pos) (4 - 1) := ⟨_, rfl⟩
              have hmx : a ≤ 2097151 := by
                have h1 := acc_lt R (gOf s pos) (4 - 1) (show conts (gOf s pos) (4 - 1) from hct)
                have h2 := RMX.out
                have h3 : 64 ^ (4 - 1) = 262144 := by decide
                rw [h3] at h1
                omega
              rw [← ha] at hbi HF2 ⊢
              have NN := Lib.hid (show ¬ (65536 ≤ a ∧ sgn_C a = true) → goodB s = false from fun h => NO.out (by rw [HT.out, HF2.out, if_neg (fun h' => h h'.2.2)]))
              have YY := Lib.hid (show 65536 ≤ a → sgn_C a = true → goodB s = decide (badFrom s f (pos + 4) = -1) from fun h1 h2 => by
                have h3 := ST.out
                have h4 : firstT R 4 65536 (gOf s pos) (s.size - pos) = (a, 4) := by rw [HF2.out]; exact if_pos ⟨hns, hct, h1, h2⟩
                rw [HT.out, h4] at h3
                rw [h3]
                exact if_neg (by simp))
              have FU := Lib.hid hns
              clear hbd ha hk hct hns hki
              have FA := Lib.hid (sgn_iff a)
              by_cases hl : (a : Int) < 65536
              · have L := Lib.hid (show goodB s = false from NN.out (fun h => by have := h.1; omega))
                go_wp2_with fail
                go_ret
                exact ⟨by (rw [L.out]) <;> rfl, rfl⟩
              · have gl : decide ((a : Int) < 65536) = false := by exact decide_eq_false hl
                have HL := Lib.hid (show 65536 ≤ a by omega)
                clear hl
                have ac : (65536 ≤ a ∧ a ≤ 1114111) ∨ (1114112 ≤ a ∧ a ≤ 2097151) := by have hl0 := HL.out; omega
                rcases ac with ac | ac
                · have e9 : ((a : Int) == 9) = false := by rw [beq_eq_false_iff_ne]; omega
                  have e10 : ((a : Int) == 10) = false := by rw [beq_eq_false_iff_ne]; omega
                  have e13 : ((a : Int) == 13) = false := by rw [beq_eq_false_iff_ne]; omega
                  have g32 : decide ((32 : Int) ≤ a) = true := by exact decide_eq_true (by omega)
                  have g57344 : decide ((57344 : Int) ≤ a) = true := by exact decide_eq_true (by omega)
                  have g65536 : decide ((65536 : Int) ≤ a) = true := by exact decide_eq_true (by omega)
                  have l55295 : decide ((a : Int) ≤ 55295) = false := by exact decide_eq_false (by omega)
                  have l65533 : decide ((a : Int) ≤ 65533) = false := by exact decide_eq_false (by omega)
                  have l1114111 : decide ((a : Int) ≤ 1114111) = true := by exact decide_eq_true (by omega)
                  have L := Lib.hid (YY.out HL.out (FA.out.2 (by omega)))
                  clear ac
                  go_wp2_with fail
                  go_roundg (s.size - (pos + 4))
                  case measure => have h1 := hh.out.2.2; have h2 := FU.out; omega
                  case rel => exact ⟨pos + 4, f, by go_num, by have h2 := FU.out; omega, ⟨L.out, by have := hh.out.2.1; omega, rfl⟩, rfl⟩
                · have e9 : ((a : Int) == 9) = false := by rw [beq_eq_false_iff_ne]; omega
                  have e10 : ((a : Int) == 10) = false := by rw [beq_eq_false_iff_ne]; omega
                  have e13 : ((a : Int) == 13) = false := by rw [beq_eq_false_iff_ne]; omega
                  have g32 : decide ((32 : Int) ≤ a) = true := by exact decide_eq_true (by omega)
                  have g57344 : decide ((57344 : Int) ≤ a) = true := by exact decide_eq_true (by omega)
                  have g65536 : decide ((65536 : Int) ≤ a) = true := by exact decide_eq_true (by omega)
                  have l55295 : decide ((a : Int) ≤ 55295) = false := by exact decide_eq_false (by omega)
                  have l65533 : decide ((a : Int) ≤ 65533) = false := by exact decide_eq_false (by omega)
                  have l1114111 : decide ((a : Int) ≤ 1114111) = false := by exact decide_eq_false (by omega)
                  have L := Lib.hid (show goodB s = false from NN.out (fun h => by have h3 := FA.out.1 h.2; omega))
                  clear ac
                  go_wp2_with fail
                  go_ret
                  exact ⟨by (rw [L.out]) <;> rfl, rfl⟩
            · exfalso
              have h1 := hct
              omega
      · have L := Lib.hid (show goodB s = false from NO.out (by rw [hF, if_neg (by omega), if_neg (by omega), if_neg (by omega), if_neg (by omega)]))
        have k4 : (s[pos].toNat < 192) ∨ 248 ≤ s[pos].toNat := by omega
        have b2 : (s[pos].toNat : Int) ≤ 255 := by omega
        rcases k4 with k4 | k4
        · have f0 : decide ((s[pos].toNat : Int) < 128) = false := by exact decide_eq_false (by omega)
          have f1 : decide ((192 : Int) ≤ s[pos].toNat) = false := by exact decide_eq_false (by omega)
          have f2 : decide ((224 : Int) ≤ s[pos].toNat) = false := by exact decide_eq_false (by omega)
          have f3 : decide ((240 : Int) ≤ s[pos].toNat) = false := by exact decide_eq_false (by omega)
          clear hF cc b0 e0 k4
          go_wp2_with fail
          go_ret
          exact ⟨by (rw [L.out]) <;> rfl, rfl⟩
        · have f0 : decide ((s[pos].toNat : Int) < 128) = false := by exact decide_eq_false (by omega)
          have f1 : decide ((192 : Int) ≤ s[pos].toNat) = true := by exact decide_eq_true (by omega)
          have f2 : decide ((224 : Int) ≤ s[pos].toNat) = true := by exact decide_eq_true (by omega)
          have f3 : decide ((240 : Int) ≤ s[pos].toNat) = true := by exact decide_eq_true (by omega)
          have f4 : decide ((s[pos].toNat : Int) < 224) = false := by exact decide_eq_false (by omega)
          have f5 : decide ((s[pos].toNat : Int) < 240) = false := by exact decide_eq_false (by omega)
          have f6 : decide ((s[pos].toNat : Int) < 248) = false := by exact decide_eq_false (by omega)
          clear hF cc b0 e0 k4
          go_wp2_with fail
          go_ret
          exact ⟨by (rw [L.out]) <;> rfl, rfl⟩
    · have L := Lib.hid (show goodB s = true by
        rw [hh.out.1]
        cases fuel with
        | zero => rfl
        | succ f => rw [badFrom, if_neg hp]; rfl)
      go_wp2_with fail
      go_ret
      exact ⟨by (rw [L.out]) <;> rfl, rfl⟩
theorem bcell {W w1 : World} (hb : Bel W w1) : (∀ b o, b < W.heap.size → w1.cell? ⟨b, o, none⟩ = W.cell? ⟨b, o, none⟩) ∧ (∀ b o, b < W.heap.size → w1.frozen? ⟨b, o, none⟩ = W.frozen? ⟨b, o, none⟩) :=
  ⟨hb.cells, hb.frozens⟩
theorem empty_iff (t : ByteArray) : t.toList.isEmpty = true ↔ t = ⟨#[]⟩ := by
  rw [List.isEmpty_iff, ByteArray.toList_eq]
  constructor
  · intro h
    obtain ⟨⟨l⟩⟩ := t
    simp at h
    rw [h]
  · rintro rfl; rfl
theorem veq0 (k n s m : Int) (t : ByteArray) : veq ⟨k, n, s, t, m⟩ ⟨k, 0, 0, ⟨#[]⟩, 0⟩ = ((n == 0) && ((s == 0) && (t.toList.isEmpty && (m == 0)))) := by
  rw [Bool.eq_iff_iff, veq_iff]
  simp only [Val.mk.injEq, Bool.and_eq_true, beq_iff_eq, empty_iff, true_and]
theorem veq1 (k n s m : Int) (t : ByteArray) : veq ⟨k, n, s, t, m⟩ ⟨k, n, s, ⟨#[]⟩, 0⟩ = (t.toList.isEmpty && (m == 0)) := by
  rw [Bool.eq_iff_iff, veq_iff]
  simp only [Val.mk.injEq, Bool.and_eq_true, beq_iff_eq, empty_iff, true_and]
theorem veq2 (k n s m : Int) (t : ByteArray) : veq ⟨k, n, s, t, m⟩ ⟨k, 0, 0, t, 0⟩ = ((n == 0) && ((s == 0) && (m == 0))) := by
  rw [Bool.eq_iff_iff, veq_iff]
  simp only [Val.mk.injEq, Bool.and_eq_true, beq_iff_eq, true_and]
theorem veq3 (k n s m : Int) (t : ByteArray) : veq ⟨k, n, s, t, m⟩ ⟨k, 0, 0, ⟨#[]⟩, m⟩ = ((n == 0) && ((s == 0) && t.toList.isEmpty)) := by
  rw [Bool.eq_iff_iff, veq_iff]
  simp only [Val.mk.injEq, Bool.and_eq_true, beq_iff_eq, empty_iff, true_and, and_true]
theorem vs0 (n s m : Int) (t : ByteArray) : vsnd ⟨0, n, s, t, m⟩ = ((n == 0) && ((s == 0) && (t.toList.isEmpty && (m == 0)))) := by rw [vsnd0, veq0]
theorem vs1 (n s m : Int) (t : ByteArray) : vsnd ⟨1, n, s, t, m⟩ = (sndB n s && (t.toList.isEmpty && (m == 0))) := by rw [vsnd1, veq1, Bool.and_comm]
theorem vs2 (n s m : Int) (t : ByteArray) : vsnd ⟨2, n, s, t, m⟩ = ((n == 0) && ((s == 0) && ((m == 0) && (decide ((t.size : Int) ≤ 256) && goodB t)))) := by
  rw [vsnd2, veq2, show decide ((t.size : Int) ≤ 256) = decide (t.size ≤ 256) from decide_eq_decide.2 (by omega)]
  simp only [Bool.and_assoc]
theorem vs3 (n s m : Int) (t : ByteArray) : vsnd ⟨3, n, s, t, m⟩ = ((n == 0) && ((s == 0) && (t.toList.isEmpty && ((m == 0) || (m == 1))))) := by
  rw [vsnd3, veq3]
  simp only [Bool.and_assoc]
  rfl
theorem vs4 (n s m : Int) (t : ByteArray) : vsnd ⟨4, n, s, t, m⟩ = ((n == 0) && ((s == 0) && (t.toList.isEmpty && (decide (0 ≤ m) && decide (m ≤ 3652058))))) := by
  rw [vsnd4, veq3]
  simp only [Bool.and_assoc]
set_option maxRecDepth 100000 in
set_option maxHeartbeats 4000000 in
theorem rvsound_any (v : Val) (hv : v.text.size ≤ 9223372036854775807) (w : World) : Calls Tryz.prog 33 #[v.val] w fun e w' => e = .returned (.bool (vsnd v)) ∧ Bel w w' := by
  obtain ⟨k, n, s, t, m⟩ := v
  have hv : t.size ≤ 9223372036854775807 := hv
  have b0 : Bel w w := Bel.refl w
  rcases kinds k with rfl | rfl | rfl | rfl | rfl | hk
  · have LV := vs0 n s m t
    cases hn : (n == 0) with
    | false =>
      have L := Lib.hid (show vsnd ⟨0, n, s, t, m⟩ = false by (rw [LV, hn]) <;> rfl)
      clear LV
      go_enter Tryz.func33, Tryz.ntmps33
      go_wp2_with fail
      go_ret
      exact ⟨by (rw [L.out]) <;> rfl, (Bel.refl _).alloc _⟩
    | true =>
      cases hs : (s == 0) with
      | false =>
        have L := Lib.hid (show vsnd ⟨0, n, s, t, m⟩ = false by (rw [LV, hn, hs]) <;> rfl)
        clear LV
        go_enter Tryz.func33, Tryz.ntmps33
        go_wp2_with fail
        go_ret
        exact ⟨by (rw [L.out]) <;> rfl, (Bel.refl _).alloc _⟩
      | true =>
        cases ht : t.toList.isEmpty with
        | false =>
          have L := Lib.hid (show vsnd ⟨0, n, s, t, m⟩ = false by (rw [LV, hn, hs, ht]) <;> rfl)
          clear LV
          go_enter Tryz.func33, Tryz.ntmps33
          go_wp2_with fail
          go_ret
          exact ⟨by (rw [L.out]) <;> rfl, (Bel.refl _).alloc _⟩
        | true =>
          cases hm : (m == 0) with
          | false =>
            have L := Lib.hid (show vsnd ⟨0, n, s, t, m⟩ = false by (rw [LV, hn, hs, ht, hm]) <;> rfl)
            clear LV
            go_enter Tryz.func33, Tryz.ntmps33
            go_wp2_with fail
            go_ret
            exact ⟨by (rw [L.out]) <;> rfl, (Bel.refl _).alloc _⟩
          | true =>
            have L := Lib.hid (show vsnd ⟨0, n, s, t, m⟩ = true by (rw [LV, hn, hs, ht, hm]) <;> rfl)
            clear LV
            go_enter Tryz.func33, Tryz.ntmps33
            go_wp2_with fail
            go_ret
            exact ⟨by (rw [L.out]) <;> rfl, (Bel.refl _).alloc _⟩
  · have LV := vs1 n s m t
    have hnn : (n == 0) = true ∨ (n == 0) = false := by cases (n == 0) <;> simp
    have hss : (s == 0) = true ∨ (s == 0) = false := by cases (s == 0) <;> simp
    rcases hnn with hn | hn <;> rcases hss with hs | hs
    all_goals
     cases hd : sndB n s with
    | false =>
      have L := Lib.hid (show vsnd ⟨1, n, s, t, m⟩ = false by (rw [LV, hd]) <;> rfl)
      clear LV
      have HC := Lib.hid hd
      clear hd
      go_enter Tryz.func33, Tryz.ntmps33
      go_wp2_with (go_at_call 61; refine (rsound_any n s _).mono ?_; rintro e W1 ⟨rfl, hb1⟩; rw [HC.out]; obtain ⟨hc, hf⟩ := bcell hb1)
      go_ret
      exact ⟨by (rw [L.out]) <;> rfl, ((Bel.refl _).alloc _).trans hb1⟩
    | true =>
      cases ht : t.toList.isEmpty with
      | false =>
        have L := Lib.hid (show vsnd ⟨1, n, s, t, m⟩ = false by (rw [LV, hd, ht]) <;> rfl)
        clear LV
        have HC := Lib.hid hd
        clear hd
        go_enter Tryz.func33, Tryz.ntmps33
        go_wp2_with (go_at_call 61; refine (rsound_any n s _).mono ?_; rintro e W1 ⟨rfl, hb1⟩; rw [HC.out]; obtain ⟨hc, hf⟩ := bcell hb1)
        go_ret
        exact ⟨by (rw [L.out]) <;> rfl, ((Bel.refl _).alloc _).trans hb1⟩
      | true =>
        cases hm : (m == 0) with
        | false =>
          have L := Lib.hid (show vsnd ⟨1, n, s, t, m⟩ = false by (rw [LV, hd, ht, hm]) <;> rfl)
          clear LV
          have HC := Lib.hid hd
          clear hd
          go_enter Tryz.func33, Tryz.ntmps33
          go_wp2_with (go_at_call 61; refine (rsound_any n s _).mono ?_; rintro e W1 ⟨rfl, hb1⟩; rw [HC.out]; obtain ⟨hc, hf⟩ := bcell hb1)
          go_ret
          exact ⟨by (rw [L.out]) <;> rfl, ((Bel.refl _).alloc _).trans hb1⟩
        | true =>
          have L := Lib.hid (show vsnd ⟨1, n, s, t, m⟩ = true by (rw [LV, hd, ht, hm]) <;> rfl)
          clear LV
          have HC := Lib.hid hd
          clear hd
          go_enter Tryz.func33, Tryz.ntmps33
          go_wp2_with (go_at_call 61; refine (rsound_any n s _).mono ?_; rintro e W1 ⟨rfl, hb1⟩; rw [HC.out]; obtain ⟨hc, hf⟩ := bcell hb1)
          go_ret
          exact ⟨by (rw [L.out]) <;> rfl, ((Bel.refl _).alloc _).trans hb1⟩
  · have LV := vs2 n s m t
    cases hn : (n == 0) with
    | false =>
      have L := Lib.hid (show vsnd ⟨2, n, s, t, m⟩ = false by (rw [LV, hn]) <;> rfl)
      clear LV
      go_enter Tryz.func33, Tryz.ntmps33
      go_wp2_with fail
      go_ret
      exact ⟨by (rw [L.out]) <;> rfl, (Bel.refl _).alloc _⟩
    | true =>
      cases hs : (s == 0) with
      | false =>
        have L := Lib.hid (show vsnd ⟨2, n, s, t, m⟩ = false by (rw [LV, hn, hs]) <;> rfl)
        clear LV
        go_enter Tryz.func33, Tryz.ntmps33
        go_wp2_with fail
        go_ret
        exact ⟨by (rw [L.out]) <;> rfl, (Bel.refl _).alloc _⟩
      | true =>
        cases hm : (m == 0) with
        | false =>
          have L := Lib.hid (show vsnd ⟨2, n, s, t, m⟩ = false by (rw [LV, hn, hs, hm]) <;> rfl)
          clear LV
          go_enter Tryz.func33, Tryz.ntmps33
          go_wp2_with fail
          go_ret
          exact ⟨by (rw [L.out]) <;> rfl, (Bel.refl _).alloc _⟩
        | true =>
          cases hz : decide ((t.size : Int) ≤ 256) with
          | false =>
            have L := Lib.hid (show vsnd ⟨2, n, s, t, m⟩ = false by (rw [LV, hn, hs, hm, hz]) <;> rfl)
            clear LV
            go_enter Tryz.func33, Tryz.ntmps33
            go_wp2_with fail
            go_ret
            exact ⟨by (rw [L.out]) <;> rfl, (Bel.refl _).alloc _⟩
          | true =>
            cases hg : goodB t with
            | false =>
              have L := Lib.hid (show vsnd ⟨2, n, s, t, m⟩ = false by (rw [LV, hn, hs, hm, hz, hg]) <;> rfl)
              clear LV
              have HC := Lib.hid hg
              have HZ := Lib.hid (show t.size ≤ 256 by have h1 := of_decide_eq_true hz; omega)
              clear hg
              go_enter Tryz.func33, Tryz.ntmps33
              go_wp2_with (go_at_call 62; refine (rgood4_any t (by have := HZ.out; omega) _).mono ?_; rintro e W1 ⟨rfl, rfl⟩; rw [HC.out])
              go_ret
              exact ⟨by (rw [L.out]) <;> rfl, (Bel.refl _).alloc _⟩
            | true =>
              have L := Lib.hid (show vsnd ⟨2, n, s, t, m⟩ = true by (rw [LV, hn, hs, hm, hz, hg]) <;> rfl)
              clear LV
              have HC := Lib.hid hg
              have HZ := Lib.hid (show t.size ≤ 256 by have h1 := of_decide_eq_true hz; omega)
              clear hg
              go_enter Tryz.func33, Tryz.ntmps33
              go_wp2_with (go_at_call 62; refine (rgood4_any t (by have := HZ.out; omega) _).mono ?_; rintro e W1 ⟨rfl, rfl⟩; rw [HC.out])
              go_ret
              exact ⟨by (rw [L.out]) <;> rfl, (Bel.refl _).alloc _⟩
  · have LV := vs3 n s m t
    cases hn : (n == 0) with
    | false =>
      have L := Lib.hid (show vsnd ⟨3, n, s, t, m⟩ = false by (rw [LV, hn]) <;> rfl)
      clear LV
      go_enter Tryz.func33, Tryz.ntmps33
      go_wp2_with fail
      go_ret
      exact ⟨by (rw [L.out]) <;> rfl, (Bel.refl _).alloc _⟩
    | true =>
      cases hs : (s == 0) with
      | false =>
        have L := Lib.hid (show vsnd ⟨3, n, s, t, m⟩ = false by (rw [LV, hn, hs]) <;> rfl)
        clear LV
        go_enter Tryz.func33, Tryz.ntmps33
        go_wp2_with fail
        go_ret
        exact ⟨by (rw [L.out]) <;> rfl, (Bel.refl _).alloc _⟩
      | true =>
        cases ht : t.toList.isEmpty with
        | false =>
          have L := Lib.hid (show vsnd ⟨3, n, s, t, m⟩ = false by (rw [LV, hn, hs, ht]) <;> rfl)
          clear LV
          go_enter Tryz.func33, Tryz.ntmps33
          go_wp2_with fail
          go_ret
          exact ⟨by (rw [L.out]) <;> rfl, (Bel.refl _).alloc _⟩
        | true =>
          cases hm : (m == 0) with
          | true =>
            have L := Lib.hid (show vsnd ⟨3, n, s, t, m⟩ = true by (rw [LV, hn, hs, ht, hm]) <;> rfl)
            clear LV
            go_enter Tryz.func33, Tryz.ntmps33
            go_wp2_with fail
            go_ret
            exact ⟨by (rw [L.out]) <;> rfl, (Bel.refl _).alloc _⟩
          | false =>
            cases hm1 : (m == 1) with
            | true =>
              have L := Lib.hid (show vsnd ⟨3, n, s, t, m⟩ = true by (rw [LV, hn, hs, ht, hm, hm1]) <;> rfl)
              clear LV
              go_enter Tryz.func33, Tryz.ntmps33
              go_wp2_with fail
              go_ret
              exact ⟨by (rw [L.out]) <;> rfl, (Bel.refl _).alloc _⟩
            | false =>
              have L := Lib.hid (show vsnd ⟨3, n, s, t, m⟩ = false by (rw [LV, hn, hs, ht, hm, hm1]) <;> rfl)
              clear LV
              go_enter Tryz.func33, Tryz.ntmps33
              go_wp2_with fail
              go_ret
              exact ⟨by (rw [L.out]) <;> rfl, (Bel.refl _).alloc _⟩
  · have LV := vs4 n s m t
    cases hn : (n == 0) with
    | false =>
      have L := Lib.hid (show vsnd ⟨4, n, s, t, m⟩ = false by (rw [LV, hn]) <;> rfl)
      clear LV
      go_enter Tryz.func33, Tryz.ntmps33
      go_wp2_with fail
      go_ret
      exact ⟨by (rw [L.out]) <;> rfl, (Bel.refl _).alloc _⟩
    | true =>
      cases hs : (s == 0) with
      | false =>
        have L := Lib.hid (show vsnd ⟨4, n, s, t, m⟩ = false by (rw [LV, hn, hs]) <;> rfl)
        clear LV
        go_enter Tryz.func33, Tryz.ntmps33
        go_wp2_with fail
        go_ret
        exact ⟨by (rw [L.out]) <;> rfl, (Bel.refl _).alloc _⟩
      | true =>
        cases ht : t.toList.isEmpty with
        | false =>
          have L := Lib.hid (show vsnd ⟨4, n, s, t, m⟩ = false by (rw [LV, hn, hs, ht]) <;> rfl)
          clear LV
          go_enter Tryz.func33, Tryz.ntmps33
          go_wp2_with fail
          go_ret
          exact ⟨by (rw [L.out]) <;> rfl, (Bel.refl _).alloc _⟩
        | true =>
          cases hlo : decide (0 ≤ m) with
          | false =>
            have L := Lib.hid (show vsnd ⟨4, n, s, t, m⟩ = false by (rw [LV, hn, hs, ht, hlo]) <;> rfl)
            clear LV
            go_enter Tryz.func33, Tryz.ntmps33
            go_wp2_with fail
            go_ret
            exact ⟨by (rw [L.out]) <;> rfl, (Bel.refl _).alloc _⟩
          | true =>
            cases hhi : decide (m ≤ 3652058) with
            | false =>
              have L := Lib.hid (show vsnd ⟨4, n, s, t, m⟩ = false by (rw [LV, hn, hs, ht, hlo, hhi]) <;> rfl)
              clear LV
              go_enter Tryz.func33, Tryz.ntmps33
              go_wp2_with fail
              go_ret
              exact ⟨by (rw [L.out]) <;> rfl, (Bel.refl _).alloc _⟩
            | true =>
              have L := Lib.hid (show vsnd ⟨4, n, s, t, m⟩ = true by (rw [LV, hn, hs, ht, hlo, hhi]) <;> rfl)
              clear LV
              go_enter Tryz.func33, Tryz.ntmps33
              go_wp2_with fail
              go_ret
              exact ⟨by (rw [L.out]) <;> rfl, (Bel.refl _).alloc _⟩
  · have L := Lib.hid (vsnd5 k n s m t hk)
    have k0 : (k == 0) = false := by rw [beq_eq_false_iff_ne]; exact hk.1
    have k1 : (k == 1) = false := by rw [beq_eq_false_iff_ne]; exact hk.2.1
    have k2 : (k == 2) = false := by rw [beq_eq_false_iff_ne]; exact hk.2.2.1
    have k3 : (k == 3) = false := by rw [beq_eq_false_iff_ne]; exact hk.2.2.2.1
    have k4 : (k == 4) = false := by rw [beq_eq_false_iff_ne]; exact hk.2.2.2.2
    clear hk
    cases hn : (n == 0) with
    | false =>
      go_enter Tryz.func33, Tryz.ntmps33
      go_wp2_with fail
      go_ret
      exact ⟨by (rw [L.out]) <;> rfl, (Bel.refl _).alloc _⟩
    | true =>
      cases hs : (s == 0) with
      | false =>
        go_enter Tryz.func33, Tryz.ntmps33
        go_wp2_with fail
        go_ret
        exact ⟨by (rw [L.out]) <;> rfl, (Bel.refl _).alloc _⟩
      | true =>
        go_enter Tryz.func33, Tryz.ntmps33
        go_wp2_with fail
        go_ret
        exact ⟨by (rw [L.out]) <;> rfl, (Bel.refl _).alloc _⟩
theorem bless_iff : ∀ a b : List UInt8, Op.bytesLess a b = decide (Lib.compareBytes a b < 0)
  | [], [] => rfl
  | [], _ :: _ => rfl
  | _ :: _, [] => rfl
  | x :: a, y :: b => by
    have ih := bless_iff a b
    unfold Op.bytesLess Lib.compareBytes
    by_cases h1 : x < y
    · rw [if_pos h1, decide_eq_true h1]; rfl
    · rw [if_neg h1, decide_eq_false h1]
      by_cases h2 : y < x
      · rw [if_pos h2]
        have hne : (x == y) = false := by rw [beq_eq_false_iff_ne]; rintro rfl; exact h1 h2
        rw [hne]; rfl
      · rw [if_neg h2]
        have he : (x == y) = true := by
          rw [beq_iff_eq]
          apply UInt8.toNat_inj.1
          have g1 : ¬ x.toNat < y.toNat := fun h => h1 (UInt8.lt_iff_toNat_lt.2 h)
          have g2 : ¬ y.toNat < x.toNat := fun h => h2 (UInt8.lt_iff_toNat_lt.2 h)
          omega
        rw [he, ih]; simp
theorem cb_eq : ∀ a b : List UInt8, Lib.compareBytes a b = 0 ↔ a = b
  | [], [] => by simp [Lib.compareBytes]
  | [], _ :: _ => by simp [Lib.compareBytes]
  | _ :: _, [] => by simp [Lib.compareBytes]
  | x :: a, y :: b => by
    have ih := cb_eq a b
    unfold Lib.compareBytes
    by_cases h1 : x < y
    · rw [if_pos h1]
      constructor
      · intro h; omega
      · intro h
        have : x = y := (List.cons.inj h).1
        subst this
        exact absurd (UInt8.lt_iff_toNat_lt.1 h1) (Nat.lt_irrefl _)
    · rw [if_neg h1]
      by_cases h2 : y < x
      · rw [if_pos h2]
        constructor
        · intro h; omega
        · intro h
          have : x = y := (List.cons.inj h).1
          subst this
          exact absurd h2 h1
      · rw [if_neg h2, ih]
        have he : x = y := by
          apply UInt8.toNat_inj.1
          have g1 : ¬ x.toNat < y.toNat := fun h => h1 (UInt8.lt_iff_toNat_lt.2 h)
          have g2 : ¬ y.toNat < x.toNat := fun h => h2 (UInt8.lt_iff_toNat_lt.2 h)
          omega
        subst he
        simp
theorem cb_cases (a b : List UInt8) : Lib.compareBytes a b = -1 ∨ Lib.compareBytes a b = 0 ∨ Lib.compareBytes a b = 1 := by
  induction a generalizing b with
  | nil => cases b <;> simp [Lib.compareBytes]
  | cons x a ih =>
    cases b with
    | nil => simp [Lib.compareBytes]
    | cons y b =>
      unfold Lib.compareBytes
      split
      · left; rfl
      · split
        · right; right; rfl
        · exact ih b
def vcmp (a b : Val) : Int :=
  if a.kind ≠ b.kind then Lib.compareInt a.kind b.kind else if a.kind = 1 then sgn (unt a.n a.scale) (unt b.n b.scale) else if a.kind = 2 then Lib.compareBytes a.text.data.toList b.text.data.toList else Lib.compareInt a.num b.num
def allV (vs : List Val) : Bool := vs.all vsnd
def IdxPost (b : Bool) (w : World) (e : Ending) (w' : World) : Prop := ∃ r : Int, e = .returned (.int .i64 r) ∧ decide (0 ≤ r) = b ∧ Bel w w'
theorem notSound_any (v : Val) (hv : v.text.size ≤ 9223372036854775807) (w : World) : Calls Tryz.prog 187 #[v.val] w fun e w' => e = .returned (.bool (!vsnd v)) ∧ Bel w w' := by
  have c := fun w => vsound_any v hv w
  obtain ⟨b, hb⟩ : ∃ b, b = vsnd v := ⟨_, rfl⟩
  rw [← hb] at c
  have C := Lib.hid c
  have HB := Lib.hid hb
  clear c hb
  obtain ⟨k, n, s, t, m⟩ := v
  go_enter Tryz.func187, Tryz.ntmps187
  go_wp2_with (go_at_call 31; refine (C.out _).mono ?_; rintro e W1 ⟨rfl, hb1⟩)
  go_ret
  exact ⟨by (rw [← HB.out]) <;> rfl, ((Bel.refl _).alloc _).trans hb1⟩
set_option maxRecDepth 100000 in
set_option maxHeartbeats 2000000 in
theorem idxFunc_any (vs : List Val) (A : Option Addr) (c : Nat) (w : World) (hv : Vals w A vs) (hl : vs.length ≤ maxLen) (ho : ∀ v ∈ vs, v.text.size ≤ 9223372036854775807) :
    Calls Tryz.prog 198 #[.slice A vs.length c, .func (.func 187) #[] #[]] w (IdxPost (!allV vs) w) := by
  unfold maxLen at hl
  have hli : (vs.length : Int) ≤ 9223372036854775807 := by omega
  have HO := Lib.hid ho
  clear ho
  go_enter Tryz.func198, Tryz.ntmps198
  go_wp2_with fail
  go_loopg [8] vs.length (fun g i wr => ∃ k : Nat, i = .int .i64 k ∧ k ≤ vs.length ∧ Hid (allV (vs.take k) = true ∧ g = vs.length - k) ∧ Bel w wr)
  case atStart => exact ⟨0, rfl, Nat.zero_le _, ⟨rfl, rfl⟩, Bel.refl _⟩
  case round =>
    obtain ⟨k, rfl, hk, hh, hb⟩ := hrel
    by_cases hp : k < vs.length
    · obtain ⟨b, off, rfl, hlt, hat⟩ := hv (by omega)
      obtain ⟨v, hvk⟩ : ∃ v, vs[k]? = some v := ⟨_, List.getElem?_eq_getElem hp⟩
      have ha := (hat k v hvk).keep hb hlt
      have hmem : v ∈ vs := List.mem_of_getElem? hvk
      have c := fun w => notSound_any v (HO.out v hmem) w
      have hst : allV (vs.take (k + 1)) = (allV (vs.take k) && vsnd v) := by
        unfold allV
        rw [List.take_add_one, hvk, List.all_append]
        simp
      obtain ⟨q, hq⟩ : ∃ q, q = vsnd v := ⟨_, rfl⟩
      rw [← hq] at c hst
      have C := Lib.hid c
      have HS := Lib.hid (show allV (vs.take (k + 1)) = q by rw [hst, hh.out.1]; rfl)
      have HQ := Lib.hid (And.intro hq hmem)
      obtain ⟨vk, vn, vsc, vt, vm⟩ := v
      obtain ⟨a0, a1, a2, a3, a4⟩ := ha
      have i1 : (k : Int) < vs.length := by omega
      clear hv hat hvk c hst hq hmem
      cases q with
      | false =>
        have L := Lib.hid (show allV vs = false by
          unfold allV
          rw [List.all_eq_false]
          exact ⟨_, HQ.out.2, by rw [← HQ.out.1]; decide⟩)
        go_wp2_with (go_at_call 187; refine (C.out _).mono ?_; rintro e W1 ⟨rfl, hb1⟩)
        go_ret
        exact ⟨_, rfl, by rw [L.out]; exact decide_eq_true (by simp), hb.trans hb1⟩
      | true =>
        go_wp2_with (go_at_call 187; refine (C.out _).mono ?_; rintro e W1 ⟨rfl, hb1⟩)
        go_roundg (vs.length - (k + 1))
        case measure => have := hh.out.2; omega
        case rel => exact ⟨k + 1, by go_num, by omega, ⟨HS.out, rfl⟩, hb.trans hb1⟩
    · have L := Lib.hid (show allV vs = true by
        have h := hh.out.1
        rw [List.take_of_length_le (by omega)] at h
        exact h)
      go_wp2_with fail
      go_ret
      exact ⟨_, rfl, by rw [L.out]; rfl, hb⟩
set_option maxRecDepth 100000 in
theorem allSound_any_V (vs : List Val) (A : Option Addr) (c : Nat) (w : World) (hv : Vals w A vs) (hl : vs.length ≤ maxLen) (ho : ∀ v ∈ vs, v.text.size ≤ 9223372036854775807) :
    Calls Tryz.prog 167 #[.slice A vs.length c] w fun e w' => e = .returned (.bool (allV vs)) ∧ Bel w w' := by
  have ci := fun w hv => idxFunc_any vs A c w hv hl ho
  obtain ⟨q, hq⟩ : ∃ q, q = allV vs := ⟨_, rfl⟩
  rw [← hq] at ci ⊢
  have CI := Lib.hid ci
  have HV := Lib.hid hv
  have CC := Lib.hid (show ∀ w, Vals w A vs → Calls Tryz.prog 186 #[.slice A vs.length c, .func (.func 187) #[] #[]] w fun e w' => e = .returned (.bool (!q)) ∧ Bel w w' from fun w hv => by
    clear ci hq ho hl
    have HW := Lib.hid hv
    clear hv
    go_enter Tryz.func186, Tryz.ntmps186
    go_wp2_with (go_at_call 198; refine (CI.out _ HW.out).mono ?_; rintro e W1 ⟨r, rfl, hr, hb1⟩)
    go_ret
    exact ⟨rfl, hb1⟩)
  clear ci hq ho hl hv
  go_enter Tryz.func167, Tryz.ntmps167
  go_wp2_with (go_at_call 186; refine (CC.out _ HV.out).mono ?_; rintro e W1 ⟨rfl, hb1⟩)
  go_ret
  exact ⟨by simp, hb1⟩
theorem vs_dec {n s m : Int} {t : ByteArray} (h : vsnd ⟨1, n, s, t, m⟩ = true) : SndD n s := by
  rw [vs1] at h
  have := (Bool.and_eq_true_iff.1 h).1
  exact of_decide_eq_true this
theorem vs_text {n s m : Int} {t : ByteArray} (h : vsnd ⟨2, n, s, t, m⟩ = true) : m = 0 ∧ n = 0 ∧ s = 0 ∧ t.size ≤ 256 ∧ goodB t = true := by
  rw [vs2] at h
  simp only [Bool.and_eq_true, beq_iff_eq, decide_eq_true_eq] at h
  exact ⟨h.2.2.1, h.1, h.2.1, by omega, h.2.2.2.2⟩
theorem vs_other {k n s m : Int} {t : ByteArray} (hk : k ≠ 1 ∧ k ≠ 2) (h : vsnd ⟨k, n, s, t, m⟩ = true) : t = ⟨#[]⟩ := by
  rcases kinds k with rfl | rfl | rfl | rfl | rfl | h5
  · rw [vs0] at h
    simp only [Bool.and_eq_true, beq_iff_eq, empty_iff] at h
    exact h.2.2.1
  · exact absurd rfl hk.1
  · exact absurd rfl hk.2
  · rw [vs3] at h
    simp only [Bool.and_eq_true, beq_iff_eq, empty_iff] at h
    exact h.2.2.1
  · rw [vs4] at h
    simp only [Bool.and_eq_true, beq_iff_eq, empty_iff] at h
    exact h.2.2.1
  · rw [vsnd5 _ _ _ _ _ h5] at h; cases h
theorem cmpV_ok {n s m t : Int} (h1 : SndD n s) (h2 : SndD m t) : cmpV n s m t = .tuple #[.int .i64 (sgn (unt n s) (unt m t)), .int .i64 0] := if_pos ⟨h1, h2⟩
set_option maxRecDepth 100000 in
set_option maxHeartbeats 4000000 in
theorem order_any (a b : Val) (ha : vsnd a = true) (hb : vsnd b = true) (w : World) : Calls Tryz.prog 168 #[a.val, b.val] w fun e w' => e = .returned (.int .i64 (vcmp a b)) ∧ Bel w w' := by
  obtain ⟨k, n, s, t, m⟩ := a
  obtain ⟨k', n', s', t', m'⟩ := b
  by_cases hk : k = k'
  · subst hk
    have e0 : (k != k) = false := by simp
    by_cases h1 : k = 1
    · subst h1
      have L := Lib.hid (show vcmp ⟨1, n, s, t, m⟩ ⟨1, n', s', t', m'⟩ = sgn (unt n s) (unt n' s') from rfl)
      have c := fun w => cmp_any n s n' s' w
      rw [cmpV_ok (vs_dec ha) (vs_dec hb)] at c
      obtain ⟨z, hz⟩ : ∃ z, z = sgn (unt n s) (unt n' s') := ⟨_, rfl⟩
      rw [← hz] at c L
      have C := Lib.hid c
      clear c hz ha hb e0
      go_enter Tryz.func168, Tryz.ntmps168
      go_wp2_with (go_at_call 188; refine (C.out _).mono ?_; rintro e W1 ⟨rfl, hb1⟩)
      go_ret
      exact ⟨by (rw [L.out]) <;> rfl, (((Bel.refl _).alloc _).alloc _).trans hb1⟩
    · by_cases h2 : k = 2
      · subst h2
        have L := Lib.hid (show vcmp ⟨2, n, s, t, m⟩ ⟨2, n', s', t', m'⟩ = Lib.compareBytes t.data.toList t'.data.toList from rfl)
        have c := fun w => Tryz.strings_Compare t t' w
        obtain ⟨z, hz⟩ : ∃ z, z = Lib.compareBytes t.data.toList t'.data.toList := ⟨_, rfl⟩
        rw [← hz] at c L
        have C := Lib.hid c
        clear c hz ha hb e0 h1
        go_enter Tryz.func168, Tryz.ntmps168
        go_wp2_with (go_at_call 189; refine (C.out _).mono ?_; rintro e W1 ⟨rfl, rfl⟩)
        go_ret
        exact ⟨by (rw [L.out]) <;> rfl, (((Bel.refl _).alloc _).alloc _)⟩
      · have L := Lib.hid (show vcmp ⟨k, n, s, t, m⟩ ⟨k, n', s', t', m'⟩ = Lib.compareInt m m' by
          unfold vcmp
          rw [if_neg (fun h => h rfl), if_neg h1, if_neg h2])
        have c := fun w => Tryz.cmp_Compare_int m m' w
        obtain ⟨z, hz⟩ : ∃ z, z = Lib.compareInt m m' := ⟨_, rfl⟩
        rw [← hz] at c L
        have C := Lib.hid c
        have k1 : (k == 1) = false := by rw [beq_eq_false_iff_ne]; exact h1
        have k2 : (k == 2) = false := by rw [beq_eq_false_iff_ne]; exact h2
        clear c hz ha hb h1 h2
        go_enter Tryz.func168, Tryz.ntmps168
        go_wp2_with (go_at_call 77; refine (C.out _).mono ?_; rintro e W1 ⟨rfl, rfl⟩)
        go_ret
        exact ⟨by (rw [L.out]) <;> rfl, (((Bel.refl _).alloc _).alloc _)⟩
  · have L := Lib.hid (show vcmp ⟨k, n, s, t, m⟩ ⟨k', n', s', t', m'⟩ = Lib.compareInt k k' by unfold vcmp; rw [if_pos hk])
    have c := fun w => Tryz.cmp_Compare_int k k' w
    obtain ⟨z, hz⟩ : ∃ z, z = Lib.compareInt k k' := ⟨_, rfl⟩
    rw [← hz] at c L
    have C := Lib.hid c
    have e0 : (k == k') = false := by rw [beq_eq_false_iff_ne]; exact hk
    have e1 : (k != k') = true := by rw [bne, e0]; rfl
    clear c hz ha hb hk
    go_enter Tryz.func168, Tryz.ntmps168
    go_wp2_with (go_at_call 77; refine (C.out _).mono ?_; rintro e W1 ⟨rfl, rfl⟩)
    go_ret
    exact ⟨by (rw [L.out]) <;> rfl, (((Bel.refl _).alloc _).alloc _)⟩
def vcmpV (a b : Val) : Value := if vsnd a = true ∧ vsnd b = true then .tuple #[.int .i64 (vcmp a b), .int .i64 0] else .tuple #[.int .i64 0, .int .i64 2]
theorem vals2 {w : World} {g : Nat} {a b : Val} (hb : g < w.heap.size) (h0 : w.cell? ⟨g, 0, none⟩ = some (.int .i64 a.kind)) (h1 : w.cell? ⟨g, 1, none⟩ = some (.int .i64 a.n)) (h2 : w.cell? ⟨g, 2, none⟩ = some (.int .i64 a.scale)) (h3 : w.cell? ⟨g, 3, none⟩ = some (.string a.text)) (h4 : w.cell? ⟨g, 4, none⟩ = some (.int .i64 a.num))
    (h5 : w.cell? ⟨g, 5, none⟩ = some (.int .i64 b.kind)) (h6 : w.cell? ⟨g, 6, none⟩ = some (.int .i64 b.n)) (h7 : w.cell? ⟨g, 7, none⟩ = some (.int .i64 b.scale)) (h8 : w.cell? ⟨g, 8, none⟩ = some (.string b.text)) (h9 : w.cell? ⟨g, 9, none⟩ = some (.int .i64 b.num)) : Vals w (some ⟨g, 0, none⟩) [a, b] := by
  intro _
  refine ⟨g, 0, rfl, hb, fun i v hv => ?_⟩
  match i, hv with
  | 0, hv =>
    simp at hv
    subst hv
    exact ⟨h0, h1, h2, h3, h4⟩
  | 1, hv =>
    simp at hv
    subst hv
    exact ⟨h5, h6, h7, h8, h9⟩
  | i + 2, hv => simp at hv
set_option maxRecDepth 100000 in
set_option maxHeartbeats 4000000 in
theorem vcompare_any (a b : Val) (ha : a.text.size ≤ 9223372036854775807) (hb : b.text.size ≤ 9223372036854775807) (w : World) : Calls Tryz.prog 149 #[a.val, b.val] w fun e w' => e = .returned (vcmpV a b) ∧ Bel w w' := by
  have cs : ∀ (W : World) (g : Nat), Vals W (some ⟨g, 0, none⟩) [a, b] → Calls Tryz.prog 167 #[.slice (some ⟨g, 0, none⟩) 2 2] W fun e w' => e = .returned (.bool (allV [a, b])) ∧ Bel W w' := fun W g hv =>
    allSound_any_V [a, b] (some ⟨g, 0, none⟩) 2 W hv (by simp [maxLen]) (fun v hv => by
      rcases List.mem_cons.1 hv with rfl | hv
      · exact ha
      · rw [List.mem_singleton.1 hv]; exact hb)
  have hall : allV [a, b] = (vsnd a && vsnd b) := by simp [allV]
  rw [hall] at cs
  cases hs : (vsnd a && vsnd b) with
  | false =>
    have L := Lib.hid (show vcmpV a b = .tuple #[.int .i64 0, .int .i64 2] from if_neg (fun h => by rw [h.1, h.2] at hs; cases hs))
    rw [hs] at cs
    have CS := Lib.hid cs
    obtain ⟨k, n, s, t, m⟩ := a
    obtain ⟨k', n', s', t', m'⟩ := b
    clear cs hs hall ha hb
    go_enter Tryz.func149, Tryz.ntmps149
    go_wp2_with (go_at_call 167; with_reducible refine (CS.out _ _ ?hv2).mono ?_; (case hv2 => exact vals2 (by simp) (by simp [go_sem]) (by simp [go_sem]) (by simp [go_sem]) (by simp [go_sem]) (by simp [go_sem]) (by simp [go_sem]) (by simp [go_sem]) (by simp [go_sem]) (by simp [go_sem]) (by simp [go_sem])); rintro e W1 ⟨rfl, hb1⟩)
    go_ret2
    exact ⟨by (rw [L.out]) <;> rfl, ((((Bel.refl _).alloc _).alloc _).alloc _).trans hb1⟩
  | true =>
    have hh := Bool.and_eq_true_iff.1 hs
    have L := Lib.hid (show vcmpV a b = .tuple #[.int .i64 (vcmp a b), .int .i64 0] from if_pos hh)
    rw [hs] at cs
    have CS := Lib.hid cs
    have co := fun w => order_any a b hh.1 hh.2 w
    obtain ⟨z, hz⟩ : ∃ z, z = vcmp a b := ⟨_, rfl⟩
    rw [← hz] at co L
    have CO := Lib.hid co
    obtain ⟨k, n, s, t, m⟩ := a
    obtain ⟨k', n', s', t', m'⟩ := b
    clear cs hs hall ha hb hh co hz
    go_enter Tryz.func149, Tryz.ntmps149
    go_wp2_with (first
      | (go_at_call 167; with_reducible refine (CS.out _ _ ?hv2).mono ?_; (case hv2 => exact vals2 (by simp) (by simp [go_sem]) (by simp [go_sem]) (by simp [go_sem]) (by simp [go_sem]) (by simp [go_sem]) (by simp [go_sem]) (by simp [go_sem]) (by simp [go_sem]) (by simp [go_sem]) (by simp [go_sem])); rintro e W1 ⟨rfl, hb1⟩; obtain ⟨hc, hf⟩ := bcell hb1)
      | (go_at_call 168; refine (CO.out _).mono ?_; rintro e W2 ⟨rfl, hb2⟩))
    go_ret2
    exact ⟨by (rw [L.out]) <;> rfl, (((((Bel.refl _).alloc _).alloc _).alloc _).trans hb1).trans hb2⟩
theorem ci_lt {x y : Int} (h : x < y) : Lib.compareInt x y = -1 := if_pos h
theorem ci_gt {x y : Int} (h : y < x) : Lib.compareInt x y = 1 := by unfold Lib.compareInt; rw [if_neg (by omega), if_pos h]
theorem ci_eq (x : Int) : Lib.compareInt x x = 0 := by unfold Lib.compareInt; rw [if_neg (by omega), if_neg (by omega)]
set_option maxRecDepth 100000 in
set_option maxHeartbeats 8000000 in
theorem rvcompare_any (a b : Val) (ha : a.text.size ≤ 9223372036854775807) (hb : b.text.size ≤ 9223372036854775807) (w : World) : Calls Tryz.prog 67 #[a.val, b.val] w fun e w' => e = .returned (vcmpV a b) ∧ Bel w w' := by
  have sa := fun w => rvsound_any a ha w
  have sb := fun w => rvsound_any b hb w
  have SA := Lib.hid sa
  have SB := Lib.hid sb
  clear sa sb
  cases hva : vsnd a with
  | false =>
    have L := Lib.hid (show vcmpV a b = .tuple #[.int .i64 0, .int .i64 2] from if_neg (fun h => by rw [h.1] at hva; cases hva))
    have HA := Lib.hid hva
    have HB := HA
    obtain ⟨k, n, s, t, m⟩ := a
    obtain ⟨k', n', s', t', m'⟩ := b
    clear hva ha hb
    go_enter Tryz.func67, Tryz.ntmps67
    go_wp2_with (first
      | (go_at_call 33; with_reducible refine (SA.out _).mono ?_; rintro e W1 ⟨rfl, hb1⟩; rw [HA.out]; obtain ⟨hc, hf⟩ := bcell hb1; obtain ⟨hz0, hz1⟩ := Bel.lt2 hb1))
    go_ret2
    exact ⟨by (rw [L.out]) <;> rfl, (((((Bel.refl _).alloc _).alloc _).trans hb1))⟩
  | true =>
    cases hvb : vsnd b with
    | false =>
      have L := Lib.hid (show vcmpV a b = .tuple #[.int .i64 0, .int .i64 2] from if_neg (fun h => by rw [h.2] at hvb; cases hvb))
      have HA := Lib.hid hva
      have HB := Lib.hid hvb
      obtain ⟨k, n, s, t, m⟩ := a
      obtain ⟨k', n', s', t', m'⟩ := b
      clear hva hvb ha hb
      go_enter Tryz.func67, Tryz.ntmps67
      go_wp2_with (first
        | (go_at_call 33; with_reducible refine (SA.out _).mono ?_; rintro e W1 ⟨rfl, hb1⟩; rw [HA.out]; obtain ⟨hc, hf⟩ := bcell hb1; obtain ⟨hz0, hz1⟩ := Bel.lt2 hb1)
        | (go_at_call 33; with_reducible refine (SB.out _).mono ?_; rintro e W2 ⟨rfl, hb2⟩; rw [HB.out]; obtain ⟨hc2, hf2⟩ := bcell hb2))
      go_ret2
      exact ⟨by (rw [L.out]) <;> rfl, (((((Bel.refl _).alloc _).alloc _).trans hb1).trans hb2)⟩
    | true =>
      have L0 : vcmpV a b = .tuple #[.int .i64 (vcmp a b), .int .i64 0] := if_pos ⟨hva, hvb⟩
      have HA := Lib.hid hva
      have HB := Lib.hid hvb
      obtain ⟨k, n, s, t, m⟩ := a
      obtain ⟨k', n', s', t', m'⟩ := b
      by_cases hk : k = k'
      · subst hk
        have e0 : (k != k) = false := by simp
        by_cases h1 : k = 1
        · subst h1
          have hv : vcmp ⟨1, n, s, t, m⟩ ⟨1, n', s', t', m'⟩ = sgn (unt n s) (unt n' s') := rfl
          have c := fun w => rcmp_any n s n' s' w
          rw [cmpV_ok (vs_dec hva) (vs_dec hvb)] at c
          obtain ⟨z, hz⟩ : ∃ z, z = sgn (unt n s) (unt n' s') := ⟨_, rfl⟩
          rw [← hz] at c hv
          rw [hv] at L0
          have L := Lib.hid L0
          have C := Lib.hid c
          clear c hz hva hvb ha hb hv L0 e0
          go_enter Tryz.func67, Tryz.ntmps67
          go_wp2_with (first
            | (go_at_call 33; with_reducible refine (SA.out _).mono ?_; rintro e W1 ⟨rfl, hb1⟩; rw [HA.out]; obtain ⟨hc, hf⟩ := bcell hb1; obtain ⟨hz0, hz1⟩ := Bel.lt2 hb1)
            | (go_at_call 33; with_reducible refine (SB.out _).mono ?_; rintro e W2 ⟨rfl, hb2⟩; rw [HB.out]; obtain ⟨hc2, hf2⟩ := bcell hb2)
            | (go_at_call 100; refine (C.out _).mono ?_; rintro e W3 ⟨rfl, hb3⟩))
          go_ret2
          exact ⟨by (rw [L.out]) <;> rfl, ((((((Bel.refl _).alloc _).alloc _).trans hb1).trans hb2).trans hb3)⟩
        · have k1 : (k == 1) = false := by rw [beq_eq_false_iff_ne]; exact h1
          by_cases h2 : k = 2
          · subst h2
            have hm := (vs_text hva).1
            have hm' := (vs_text hvb).1
            subst hm hm'
            have hv : vcmp ⟨2, n, s, t, 0⟩ ⟨2, n', s', t', 0⟩ = Lib.compareBytes t.data.toList t'.data.toList := rfl
            have bl := bless_iff t.data.toList t'.data.toList
            have be := cb_eq t.data.toList t'.data.toList
            rw [← ByteArray.toList_eq, ← ByteArray.toList_eq] at bl be hv
            rcases cb_cases t.toList t'.toList with hc | hc | hc
            · rw [hc] at bl hv
              rw [hv] at L0
              have L := Lib.hid L0
              have q1 : Op.bytesLess t.toList t'.toList = true := by rw [bl]; rfl
              clear hva hvb ha hb hv L0 e0 bl be hc h1
              go_enter Tryz.func67, Tryz.ntmps67
              go_wp2_with (first
                | (go_at_call 33; with_reducible refine (SA.out _).mono ?_; rintro e W1 ⟨rfl, hb1⟩; rw [HA.out]; obtain ⟨hc, hf⟩ := bcell hb1; obtain ⟨hz0, hz1⟩ := Bel.lt2 hb1)
                | (go_at_call 33; with_reducible refine (SB.out _).mono ?_; rintro e W2 ⟨rfl, hb2⟩; rw [HB.out]; obtain ⟨hc2, hf2⟩ := bcell hb2))
              go_ret2
              exact ⟨by (rw [L.out]) <;> rfl, (((((Bel.refl _).alloc _).alloc _).trans hb1).trans hb2)⟩
            · have heq : (t.toList == t'.toList) = true := by rw [beq_iff_eq]; exact be.1 hc
              rw [hc] at bl hv
              rw [hv] at L0
              have L := Lib.hid L0
              have q1 : Op.bytesLess t.toList t'.toList = false := by rw [bl]; rfl
              clear hva hvb ha hb hv L0 e0 bl be hc h1
              go_enter Tryz.func67, Tryz.ntmps67
              go_wp2_with (first
                | (go_at_call 33; with_reducible refine (SA.out _).mono ?_; rintro e W1 ⟨rfl, hb1⟩; rw [HA.out]; obtain ⟨hc, hf⟩ := bcell hb1; obtain ⟨hz0, hz1⟩ := Bel.lt2 hb1)
                | (go_at_call 33; with_reducible refine (SB.out _).mono ?_; rintro e W2 ⟨rfl, hb2⟩; rw [HB.out]; obtain ⟨hc2, hf2⟩ := bcell hb2))
              go_ret2
              exact ⟨by (rw [L.out]) <;> rfl, (((((Bel.refl _).alloc _).alloc _).trans hb1).trans hb2)⟩
            · have heq : (t.toList == t'.toList) = false := by
                rw [beq_eq_false_iff_ne]
                intro h
                rw [be.2 h] at hc
                omega
              rw [hc] at bl hv
              rw [hv] at L0
              have L := Lib.hid L0
              have q1 : Op.bytesLess t.toList t'.toList = false := by rw [bl]; rfl
              clear hva hvb ha hb hv L0 e0 bl be hc h1
              go_enter Tryz.func67, Tryz.ntmps67
              go_wp2_with (first
                | (go_at_call 33; with_reducible refine (SA.out _).mono ?_; rintro e W1 ⟨rfl, hb1⟩; rw [HA.out]; obtain ⟨hc, hf⟩ := bcell hb1; obtain ⟨hz0, hz1⟩ := Bel.lt2 hb1)
                | (go_at_call 33; with_reducible refine (SB.out _).mono ?_; rintro e W2 ⟨rfl, hb2⟩; rw [HB.out]; obtain ⟨hc2, hf2⟩ := bcell hb2))
              go_ret2
              exact ⟨by (rw [L.out]) <;> rfl, (((((Bel.refl _).alloc _).alloc _).trans hb1).trans hb2)⟩
          · have ht := vs_other ⟨h1, h2⟩ hva
            have ht' := vs_other ⟨h1, h2⟩ hvb
            have q1 : Op.bytesLess t.toList t'.toList = false := by rw [ht, ht', ByteArray.toList_eq]; rfl
            have q2 : (t.toList == t'.toList) = true := by rw [ht, ht', ByteArray.toList_eq]; rfl
            have hv : vcmp ⟨k, n, s, t, m⟩ ⟨k, n', s', t', m'⟩ = Lib.compareInt m m' := by
              unfold vcmp
              rw [if_neg (fun h => h rfl), if_neg h1, if_neg h2]
            by_cases hl : m < m'
            · rw [ci_lt hl] at hv
              rw [hv] at L0
              have L := Lib.hid L0
              have g1 : decide (m < m') = true := by exact decide_eq_true hl
              clear hva hvb ha hb hv L0 e0 h1 h2 ht ht' hl
              go_enter Tryz.func67, Tryz.ntmps67
              go_wp2_with (first
                | (go_at_call 33; with_reducible refine (SA.out _).mono ?_; rintro e W1 ⟨rfl, hb1⟩; rw [HA.out]; obtain ⟨hc, hf⟩ := bcell hb1; obtain ⟨hz0, hz1⟩ := Bel.lt2 hb1)
                | (go_at_call 33; with_reducible refine (SB.out _).mono ?_; rintro e W2 ⟨rfl, hb2⟩; rw [HB.out]; obtain ⟨hc2, hf2⟩ := bcell hb2))
              go_ret2
              exact ⟨by (rw [L.out]) <;> rfl, (((((Bel.refl _).alloc _).alloc _).trans hb1).trans hb2)⟩
            · have g1 : decide (m < m') = false := by exact decide_eq_false hl
              by_cases hg : m' < m
              · rw [ci_gt hg] at hv
                rw [hv] at L0
                have L := Lib.hid L0
                have g2 : decide (m' < m) = true := by exact decide_eq_true hg
                clear hva hvb ha hb hv L0 e0 h1 h2 ht ht' hl hg
                go_enter Tryz.func67, Tryz.ntmps67
                go_wp2_with (first
                  | (go_at_call 33; with_reducible refine (SA.out _).mono ?_; rintro e W1 ⟨rfl, hb1⟩; rw [HA.out]; obtain ⟨hc, hf⟩ := bcell hb1; obtain ⟨hz0, hz1⟩ := Bel.lt2 hb1)
                  | (go_at_call 33; with_reducible refine (SB.out _).mono ?_; rintro e W2 ⟨rfl, hb2⟩; rw [HB.out]; obtain ⟨hc2, hf2⟩ := bcell hb2))
                go_ret2
                exact ⟨by (rw [L.out]) <;> rfl, (((((Bel.refl _).alloc _).alloc _).trans hb1).trans hb2)⟩
              · obtain rfl : m = m' := by omega
                rw [ci_eq] at hv
                rw [hv] at L0
                have L := Lib.hid L0
                clear hva hvb ha hb hv L0 e0 h1 h2 ht ht' hl hg
                go_enter Tryz.func67, Tryz.ntmps67
                go_wp2_with (first
                  | (go_at_call 33; with_reducible refine (SA.out _).mono ?_; rintro e W1 ⟨rfl, hb1⟩; rw [HA.out]; obtain ⟨hc, hf⟩ := bcell hb1; obtain ⟨hz0, hz1⟩ := Bel.lt2 hb1)
                  | (go_at_call 33; with_reducible refine (SB.out _).mono ?_; rintro e W2 ⟨rfl, hb2⟩; rw [HB.out]; obtain ⟨hc2, hf2⟩ := bcell hb2))
                go_ret2
                exact ⟨by (rw [L.out]) <;> rfl, (((((Bel.refl _).alloc _).alloc _).trans hb1).trans hb2)⟩
      · have e0 : (k == k') = false := by rw [beq_eq_false_iff_ne]; exact hk
        have e1 : (k != k') = true := by rw [bne, e0]; rfl
        have hv : vcmp ⟨k, n, s, t, m⟩ ⟨k', n', s', t', m'⟩ = Lib.compareInt k k' := by unfold vcmp; rw [if_pos hk]
        by_cases hl : k < k'
        · rw [ci_lt hl] at hv
          rw [hv] at L0
          have L := Lib.hid L0
          have g1 : decide (k < k') = true := by exact decide_eq_true hl
          clear hva hvb ha hb hv L0 hk hl
          go_enter Tryz.func67, Tryz.ntmps67
          go_wp2_with (first
            | (go_at_call 33; with_reducible refine (SA.out _).mono ?_; rintro e W1 ⟨rfl, hb1⟩; rw [HA.out]; obtain ⟨hc, hf⟩ := bcell hb1; obtain ⟨hz0, hz1⟩ := Bel.lt2 hb1)
            | (go_at_call 33; with_reducible refine (SB.out _).mono ?_; rintro e W2 ⟨rfl, hb2⟩; rw [HB.out]; obtain ⟨hc2, hf2⟩ := bcell hb2))
          go_ret2
          exact ⟨by (rw [L.out]) <;> rfl, (((((Bel.refl _).alloc _).alloc _).trans hb1).trans hb2)⟩
        · rw [ci_gt (by omega)] at hv
          rw [hv] at L0
          have L := Lib.hid L0
          have g1 : decide (k < k') = false := by exact decide_eq_false hl
          clear hva hvb ha hb hv L0 hk hl
          go_enter Tryz.func67, Tryz.ntmps67
          go_wp2_with (first
            | (go_at_call 33; with_reducible refine (SA.out _).mono ?_; rintro e W1 ⟨rfl, hb1⟩; rw [HA.out]; obtain ⟨hc, hf⟩ := bcell hb1; obtain ⟨hz0, hz1⟩ := Bel.lt2 hb1)
            | (go_at_call 33; with_reducible refine (SB.out _).mono ?_; rintro e W2 ⟨rfl, hb2⟩; rw [HB.out]; obtain ⟨hc2, hf2⟩ := bcell hb2))
          go_ret2
          exact ⟨by (rw [L.out]) <;> rfl, (((((Bel.refl _).alloc _).alloc _).trans hb1).trans hb2)⟩
theorem ci_anti (x y : Int) : Lib.compareInt y x = - Lib.compareInt x y := by
  unfold Lib.compareInt
  repeat' split
  all_goals omega
theorem ci_zero (x y : Int) : Lib.compareInt x y = 0 ↔ x = y := by
  unfold Lib.compareInt
  repeat' split
  all_goals omega
theorem ci_bd (x y : Int) : -1 ≤ Lib.compareInt x y ∧ Lib.compareInt x y ≤ 1 := by
  unfold Lib.compareInt
  repeat' split
  all_goals omega
theorem sg_ci (x y : Int) : sgn x y = Lib.compareInt x y := by
  unfold Lib.compareInt sgn
  repeat' split
  all_goals omega
theorem cb_anti : ∀ a b : List UInt8, Lib.compareBytes b a = - Lib.compareBytes a b
  | [], [] => rfl
  | [], _ :: _ => rfl
  | _ :: _, [] => rfl
  | x :: a, y :: b => by
    have ih := cb_anti a b
    unfold Lib.compareBytes
    by_cases h1 : x < y
    · have h2 : ¬ y < x := fun h => by have g1 := UInt8.lt_iff_toNat_lt.1 h; have g2 := UInt8.lt_iff_toNat_lt.1 h1; omega
      rw [if_pos h1, if_neg h2, if_pos h1]; rfl
    · rw [if_neg h1]
      by_cases h2 : y < x
      · rw [if_pos h2, if_neg h1, if_pos h2]
      · rw [if_neg h2, if_neg h1, if_neg h2]
        exact ih
theorem vcmp_anti (a b : Val) : vcmp b a = - vcmp a b := by
  unfold vcmp
  by_cases hk : a.kind = b.kind
  · rw [if_neg (fun h : b.kind ≠ a.kind => h hk.symm), if_neg (fun h : a.kind ≠ b.kind => h hk), ← hk]
    by_cases h1 : a.kind = 1
    · rw [if_pos h1, if_pos h1, sg_ci, sg_ci, ci_anti]
    · rw [if_neg h1, if_neg h1]
      by_cases h2 : a.kind = 2
      · rw [if_pos h2, if_pos h2, cb_anti]
      · rw [if_neg h2, if_neg h2, ci_anti]
  · rw [if_pos (fun h => hk h.symm), if_pos hk, ci_anti]
theorem vcmp_bd (a b : Val) : -1 ≤ vcmp a b ∧ vcmp a b ≤ 1 := by
  unfold vcmp
  split
  · exact ci_bd _ _
  · split
    · rw [sg_ci]; exact ci_bd _ _
    · split
      · rcases cb_cases a.text.data.toList b.text.data.toList with h | h | h <;> rw [h] <;> decide
      · exact ci_bd _ _
theorem unt_inj {n s m t : Int} (h1 : SndD n s) (h2 : SndD m t) (h : unt n s = unt m t) : n = m ∧ s = t := by
  obtain ⟨a0, a6, _, a10⟩ := h1
  obtain ⟨b0, b6, _, b10⟩ := h2
  unfold unt at h
  have key : ∀ (n m : Int) (i j : Nat), i < j → j ≤ 6 → n * (P10 j : Nat) = m * (P10 i : Nat) → m % 10 = 0 := by
    intro n m i j hij hj he
    obtain ⟨d, rfl⟩ : ∃ d, j = i + 1 + d := ⟨j - i - 1, by omega⟩
    have hp : ∀ k, P10 k = 10 ^ k := by
      intro k
      induction k with
      | zero => rfl
      | succ k ih => rw [Nat.pow_succ, ← ih, P10_s]
    rw [hp, hp, Nat.pow_add, Nat.pow_succ] at he
    have hpos : (0 : Int) < ((10 ^ i : Nat) : Int) := by
      have := Nat.pow_pos (n := i) (show 0 < 10 by omega)
      omega
    have he2 : (n * (10 ^ d : Nat) * 10) * ((10 ^ i : Nat) : Int) = m * ((10 ^ i : Nat) : Int) := by
      rw [← he]
      push_cast
      rw [Int.mul_assoc, Int.mul_assoc, Int.mul_assoc]
      congr 1
      rw [Int.mul_comm ((10 : Int) ^ d), Int.mul_comm 10 ((10 : Int) ^ i), ← Int.mul_assoc, Int.mul_comm ((10:Int) ^ i * 10)]
    have he3 := Int.eq_of_mul_eq_mul_right (by omega) he2
    omega
  have hst : s = t := by
    rcases Int.lt_trichotomy s t with hlt | heq | hgt
    · have := key m n (6 - t).toNat (6 - s).toNat (by omega) (by omega)
      have h3 := key n m (6 - t).toNat (6 - s).toNat (by omega) (by omega) h
      rcases b10 with hb | hb
      · omega
      · exact absurd h3 hb
    · exact heq
    · have h3 := key m n (6 - s).toNat (6 - t).toNat (by omega) (by omega) h.symm
      rcases a10 with ha | ha
      · omega
      · exact absurd h3 ha
  subst hst
  refine ⟨?_, rfl⟩
  have hpos : (P10 (6 - s).toNat : Int) ≠ 0 := by
    have := unt_sign 1 s
    unfold unt at this
    intro e
    rw [e] at this
    omega
  exact Int.eq_of_mul_eq_mul_right hpos h
/-- What a sound value of a kind has besides. -/
theorem vs_zero {n s m : Int} {t : ByteArray} (h : vsnd ⟨0, n, s, t, m⟩ = true) : n = 0 ∧ s = 0 ∧ t = ⟨#[]⟩ ∧ m = 0 := by
  rw [vs0] at h
  simp only [Bool.and_eq_true, beq_iff_eq, empty_iff] at h
  exact ⟨h.1, h.2.1, h.2.2.1, h.2.2.2⟩
theorem vs_one {n s m : Int} {t : ByteArray} (h : vsnd ⟨1, n, s, t, m⟩ = true) : t = ⟨#[]⟩ ∧ m = 0 := by
  rw [vs1] at h
  simp only [Bool.and_eq_true, beq_iff_eq, empty_iff] at h
  exact ⟨h.2.1, h.2.2⟩
theorem vs_three {n s m : Int} {t : ByteArray} (h : vsnd ⟨3, n, s, t, m⟩ = true) : n = 0 ∧ s = 0 ∧ t = ⟨#[]⟩ ∧ (m = 0 ∨ m = 1) := by
  rw [vs3] at h
  simp only [Bool.and_eq_true, beq_iff_eq, empty_iff, Bool.or_eq_true] at h
  exact ⟨h.1, h.2.1, h.2.2.1, h.2.2.2⟩
theorem vs_four {n s m : Int} {t : ByteArray} (h : vsnd ⟨4, n, s, t, m⟩ = true) : n = 0 ∧ s = 0 ∧ t = ⟨#[]⟩ := by
  rw [vs4] at h
  simp only [Bool.and_eq_true, beq_iff_eq, empty_iff] at h
  exact ⟨h.1, h.2.1, h.2.2.1⟩
theorem ba_eq {a b : ByteArray} (h : a.data.toList = b.data.toList) : a = b := by
  obtain ⟨⟨a⟩⟩ := a
  obtain ⟨⟨b⟩⟩ := b
  simp at h
  rw [h]
theorem same_kind {a b : Val} (ha : vsnd a = true) (hb : vsnd b = true) (hk : a.kind = b.kind) (h1 : a.kind = 1 → a.n = b.n ∧ a.scale = b.scale) (h2 : a.kind = 2 → a.text = b.text) (h3 : a.kind ≠ 1 → a.kind ≠ 2 → a.num = b.num) : a = b := by
  obtain ⟨k, n, s, t, m⟩ := a
  obtain ⟨k', n', s', t', m'⟩ := b
  simp only at hk h1 h2 h3
  subst hk
  rcases kinds k with rfl | rfl | rfl | rfl | rfl | h5
  · obtain ⟨rfl, rfl, rfl, rfl⟩ := vs_zero ha
    obtain ⟨rfl, rfl, rfl, rfl⟩ := vs_zero hb
    rfl
  · obtain ⟨rfl, rfl⟩ := vs_one ha
    obtain ⟨rfl, rfl⟩ := vs_one hb
    obtain ⟨rfl, rfl⟩ := h1 rfl
    rfl
  · obtain ⟨rfl, rfl, rfl, _⟩ := vs_text ha
    obtain ⟨rfl, rfl, rfl, _⟩ := vs_text hb
    rw [h2 rfl]
  · obtain ⟨rfl, rfl, rfl, _⟩ := vs_three ha
    obtain ⟨rfl, rfl, rfl, _⟩ := vs_three hb
    rw [h3 (by decide) (by decide)]
  · obtain ⟨rfl, rfl, rfl⟩ := vs_four ha
    obtain ⟨rfl, rfl, rfl⟩ := vs_four hb
    rw [h3 (by decide) (by decide)]
  · rw [vsnd5 _ _ _ _ _ h5] at ha
    cases ha
theorem vcmp_zero {a b : Val} (ha : vsnd a = true) (hb : vsnd b = true) : vcmp a b = 0 ↔ a = b := by
  constructor
  · intro h
    unfold vcmp at h
    by_cases hk : a.kind = b.kind
    · rw [if_neg (fun h => h hk)] at h
      by_cases h1 : a.kind = 1
      · rw [if_pos h1, sg_ci, ci_zero] at h
        have hda : SndD a.n a.scale := by
          obtain ⟨k, n, s, t, m⟩ := a
          simp only at h1
          subst h1
          exact vs_dec ha
        have hdb : SndD b.n b.scale := by
          obtain ⟨k, n, s, t, m⟩ := b
          simp only at hk
          rw [h1] at hk
          subst hk
          exact vs_dec hb
        have := unt_inj hda hdb h
        exact same_kind ha hb hk (fun _ => this) (fun h2 => absurd (h1.symm.trans h2) (by decide)) (fun h _ => absurd h1 h)
      · rw [if_neg h1] at h
        by_cases h2 : a.kind = 2
        · rw [if_pos h2, cb_eq] at h
          exact same_kind ha hb hk (fun h => absurd h h1) (fun _ => ba_eq h) (fun _ h => absurd h2 h)
        · rw [if_neg h2, ci_zero] at h
          exact same_kind ha hb hk (fun h => absurd h h1) (fun h => absurd h h2) (fun _ _ => h)
    · rw [if_pos hk, ci_zero] at h
      exact absurd h hk
  · rintro rfl
    unfold vcmp
    rw [if_neg (fun h => h rfl)]
    split
    · rw [sg_ci, ci_zero]
    · split
      · rw [cb_eq]
      · rw [ci_zero]
end
end Go.Proofs.YtpmmbcobjibpeaaGreatDoor
