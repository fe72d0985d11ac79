import Derived.Test.YtjckpkamhdbcnaaGreatDoorZe
import Derived.Test.YtjckpkamhdbcnaaGreatDoorZc
namespace Go.Proofs.YtjckpkamhdbcnaaGreatDoor
set_option maxRecDepth 100000
set_option maxHeartbeats 64000000
set_option linter.unusedSimpArgs false
set_option linter.unusedVariables false
open Go.RowKit
attribute [local go_sem ↓] Qas Qau
theorem Qji (g : Nat -> Nat) (m : Nat) : may g m = true ↔ (Qa0 (dec g m).1 = true /\ ((dec g m).1 = 0xFFFD -> own g m = true)) := by
 unfold may
 cases Qa0 (dec g m).1 <;> cases own g m <;> by_cases h : (dec g m).1 = 0xFFFD <;> simp [h]
theorem pair (g : Nat -> Nat) (m : Nat) (h0 : ∀ i, g i < 256) (P : Prop) [Decidable P] (r n : Nat) (hd : dec g m = if P then (r, n) else (0xFFFD, 1)) (hP : P -> (r = 0xFFFD -> own g m = true)) (hN : ¬ P -> own g m = false) :
  (if may g m = true then dec g m else (0, 0)) = if P /\ Qa0 r = true then (r, n) else (0, 0) := by
 by_cases hp : P
 ·rw [iP hp] at hd
  by_cases hs : Qa0 r = true
  ·rw [iP ((Qji g m).2 (by rw [hd]; exact ⟨hs, hP hp⟩)), iP ⟨hp, hs⟩, hd]
  rw [iN (fun h => hs (by have := ((Qji g m).1 h).1; rwa [hd] at this)), iN (fun h => hs h.2)]
 rw [iN hp] at hd
 rw [iN (fun h => by
  have := ((Qji g m).1 h).2 (by rw [hd])
  rw [hN hp] at this
  cases this), iN (fun h => hp h.1)]
theorem Qkq {g : Nat -> Nat} {m : Nat} (h : ¬ (2 < m /\ g 0 = 0xEF /\ g 1 = 0xBF /\ g 2 = 0xBD)) : own g m = false := by
 cases ho : own g m with
 | false => rfl
 | true => exact absurd ((Qis g m).1 ho) h
theorem Qrf (g : Nat -> Nat) (m : Nat) (h0 : ∀ i, g i < 256) (hm : 0 < m) : (if may g m = true then dec g m else (0, 0)) = first g m := by
 have a0 := h0 0
 have a1 := h0 1
 have a2 := h0 2
 have a3 := h0 3
 by_cases c1 : g 0 < 0x80
 ·have hd : dec g m = if True then (g 0, 1) else (0xFFFD, 1) := by rw [dec, iP c1, iP trivial]
  rw [pair g m h0 True _ _ hd (fun _ h => by omega) (fun h => absurd trivial h), first, iP c1]
  simp
 by_cases c2 : g 0 / 32 = 6
 ·have e : g 0 % 32 * 64 + g 1 % 64 = g 0 % 32 * 64 + g 1 % 64 := rfl
  have hd : dec g m = if ((1 < m /\ g 1 / 64 = 2) /\ 0x80 <= g 0 % 32 * 64 + g 1 % 64) then (g 0 % 32 * 64 + g 1 % 64, 2) else (0xFFFD, 1) := by
   rw [dec, iN c1]
   by_cases c3 : 1 < m /\ g 1 / 64 = 2
   ·rw [iP ⟨c2, c3⟩]
    by_cases c4 : 0x80 <= g 0 % 32 * 64 + g 1 % 64
    ·rw [iP c4, iP ⟨c3, c4⟩]
    rw [iN c4, iN (fun h => c4 h.2)]
   rw [iN (fun h => c3 h.2), iN (by omega), iN (by omega), iN (fun h => c3 h.1)]
  rw [pair g m h0 _ _ _ hd (fun _ h => by omega) (fun _ => Qkq (by omega)), first, iN c1, iP (show 0xC0 <= g 0 /\ g 0 < 0xE0 by omega)]
  by_cases c3 : 1 < m /\ g 1 / 64 = 2
  ·have e1 : (g 0 - 0xC0) * 64 + (g 1 - 0x80) = g 0 % 32 * 64 + g 1 % 64 := by omega
   rw [e1]
   have : (((1 < m /\ g 1 / 64 = 2) /\ 0x80 <= g 0 % 32 * 64 + g 1 % 64) /\ Qa0 (g 0 % 32 * 64 + g 1 % 64) = true) ↔ (1 < m /\ 0x80 <= g 1 /\ g 1 < 0xC0 /\ 0x80 <= g 0 % 32 * 64 + g 1 % 64 /\ Qa0 (g 0 % 32 * 64 + g 1 % 64) = true) := by
    constructor
    ·rintro ⟨⟨⟨x, y⟩, z⟩, u⟩; exact ⟨x, by omega, by omega, z, u⟩
    rintro ⟨x, y, y', z, u⟩; exact ⟨⟨⟨x, by omega⟩, z⟩, u⟩
   by_cases hq : (1 < m /\ 0x80 <= g 1 /\ g 1 < 0xC0 /\ 0x80 <= g 0 % 32 * 64 + g 1 % 64 /\ Qa0 (g 0 % 32 * 64 + g 1 % 64) = true)
   ·rw [iP hq, iP (this.2 hq)]
   rw [iN hq, iN (fun h => hq (this.1 h))]
  rw [iN (fun h => c3 h.1.1), iN (fun h => c3 ⟨h.1, by omega⟩)]
 by_cases c5 : g 0 / 16 = 14
 ·have hd : dec g m = if (((1 < m /\ g 1 / 64 = 2) /\ (2 < m /\ g 2 / 64 = 2)) /\ 0x800 <= g 0 % 16 * 4096 + g 1 % 64 * 64 + g 2 % 64 /\ (g 0 % 16 * 4096 + g 1 % 64 * 64 + g 2 % 64 < 0xD800 \/ 0xE000 <= g 0 % 16 * 4096 + g 1 % 64 * 64 + g 2 % 64)) then (g 0 % 16 * 4096 + g 1 % 64 * 64 + g 2 % 64, 3) else (0xFFFD, 1) := by
   rw [dec, iN c1, iN (fun h => c2 h.1)]
   by_cases c3 : (1 < m /\ g 1 / 64 = 2) /\ (2 < m /\ g 2 / 64 = 2)
   ·rw [iP ⟨c5, c3⟩]
    by_cases c4 : 0x800 <= g 0 % 16 * 4096 + g 1 % 64 * 64 + g 2 % 64 /\ (g 0 % 16 * 4096 + g 1 % 64 * 64 + g 2 % 64 < 0xD800 \/ 0xE000 <= g 0 % 16 * 4096 + g 1 % 64 * 64 + g 2 % 64)
    ·rw [iP c4, iP ⟨c3, c4⟩]
    rw [iN c4, iN (fun h => c4 h.2)]
   rw [iN (fun h => c3 h.2), iN (by omega), iN (fun h => c3 h.1)]
  rw [pair g m h0 _ _ _ hd (fun h h' => (Qis g m).2 (by omega)) (fun h => Qkq (by omega)), first, iN c1, iN (show ¬ (0xC0 <= g 0 /\ g 0 < 0xE0) by omega), iP (show 0xE0 <= g 0 /\ g 0 < 0xF0 by omega)]
  by_cases c3 : (1 < m /\ g 1 / 64 = 2) /\ (2 < m /\ g 2 / 64 = 2)
  ·have e1 : ((g 0 - 0xE0) * 64 + (g 1 - 0x80)) * 64 + (g 2 - 0x80) = g 0 % 16 * 4096 + g 1 % 64 * 64 + g 2 % 64 := by omega
   rw [e1]
   generalize g 0 % 16 * 4096 + g 1 % 64 * 64 + g 2 % 64 = r
   have := Qdp r
   by_cases hs : Qa0 r = true
   ·have hr := this.1 hs
    by_cases h8 : 0x800 <= r
    ·rw [iP ⟨⟨c3, h8, by omega⟩, hs⟩, iP ⟨by omega, by omega, by omega, by omega, by omega, h8, hs⟩]
    rw [iN (fun h => h8 h.1.2.1), iN (fun h => h8 h.2.2.2.2.2.1)]
   rw [iN (fun h => hs h.2), iN (fun h => hs h.2.2.2.2.2.2)]
  rw [iN (fun h => c3 h.1.1), iN (fun h => c3 (by omega))]
 by_cases c6 : g 0 / 8 = 30
 ·have hd : dec g m = if (((1 < m /\ g 1 / 64 = 2) /\ (2 < m /\ g 2 / 64 = 2) /\ (3 < m /\ g 3 / 64 = 2)) /\ 0x10000 <= g 0 % 8 * 262144 + g 1 % 64 * 4096 + g 2 % 64 * 64 + g 3 % 64 /\ g 0 % 8 * 262144 + g 1 % 64 * 4096 + g 2 % 64 * 64 + g 3 % 64 <= 0x10FFFF) then (g 0 % 8 * 262144 + g 1 % 64 * 4096 + g 2 % 64 * 64 + g 3 % 64, 4) else (0xFFFD, 1) := by
   rw [dec, iN c1, iN (fun h => c2 h.1), iN (fun h => c5 h.1)]
   by_cases c3 : (1 < m /\ g 1 / 64 = 2) /\ (2 < m /\ g 2 / 64 = 2) /\ (3 < m /\ g 3 / 64 = 2)
   ·rw [iP ⟨c6, c3⟩]
    by_cases c4 : 0x10000 <= g 0 % 8 * 262144 + g 1 % 64 * 4096 + g 2 % 64 * 64 + g 3 % 64 /\ g 0 % 8 * 262144 + g 1 % 64 * 4096 + g 2 % 64 * 64 + g 3 % 64 <= 0x10FFFF
    ·rw [iP c4, iP ⟨c3, c4⟩]
    rw [iN c4, iN (fun h => c4 h.2)]
   rw [iN (fun h => c3 h.2), iN (fun h => c3 h.1)]
  rw [pair g m h0 _ _ _ hd (fun h h' => by omega) (fun h => Qkq (by omega)), first, iN c1, iN (show ¬ (0xC0 <= g 0 /\ g 0 < 0xE0) by omega), iN (show ¬ (0xE0 <= g 0 /\ g 0 < 0xF0) by omega), iP (show 0xF0 <= g 0 /\ g 0 < 0xF8 by omega)]
  by_cases c3 : (1 < m /\ g 1 / 64 = 2) /\ (2 < m /\ g 2 / 64 = 2) /\ (3 < m /\ g 3 / 64 = 2)
  ·have e1 : (((g 0 - 0xF0) * 64 + (g 1 - 0x80)) * 64 + (g 2 - 0x80)) * 64 + (g 3 - 0x80) = g 0 % 8 * 262144 + g 1 % 64 * 4096 + g 2 % 64 * 64 + g 3 % 64 := by omega
   rw [e1]
   generalize g 0 % 8 * 262144 + g 1 % 64 * 4096 + g 2 % 64 * 64 + g 3 % 64 = r
   have := Qdp r
   by_cases hs : Qa0 r = true
   ·have hr := this.1 hs
    by_cases h8 : 0x10000 <= r
    ·rw [iP ⟨⟨c3, h8, by omega⟩, hs⟩, iP ⟨by omega, by omega, by omega, by omega, by omega, by omega, by omega, h8, hs⟩]
    rw [iN (fun h => h8 h.1.2.1), iN (fun h => h8 h.2.2.2.2.2.2.2.1)]
   rw [iN (fun h => hs h.2), iN (fun h => hs h.2.2.2.2.2.2.2.2)]
  rw [iN (fun h => c3 h.1.1), iN (fun h => c3 (by omega))]
 have hd : dec g m = if False then (0, 0) else (0xFFFD, 1) := by
  rw [dec, iN c1, iN (fun h => c2 h.1), iN (fun h => c5 h.1), iN (fun h => c6 h.1), iN (fun h => h)]
 rw [pair g m h0 False _ _ hd (fun h => h.elim) (fun _ => Qkq (by omega)), first, iN c1, iN (show ¬ (0xC0 <= g 0 /\ g 0 < 0xE0) by omega), iN (show ¬ (0xE0 <= g 0 /\ g 0 < 0xF0) by omega), iN (show ¬ (0xF0 <= g 0 /\ g 0 < 0xF8) by omega)]
 simp
theorem Qrg (s : ByteArray) (pos : Nat) (h : pos < s.size) : (first (gOf s pos) (s.size - pos)).2 = if okAt s pos = true then wdAt s pos else 0 := by
 rw [← Qrf (gOf s pos) (s.size - pos) (Qb9 s pos) (by omega)]
 unfold okAt wdAt
 split <;> rfl
theorem Qkr (s : ByteArray) (pos i : Nat) (h : pos + i < s.size) : gOf s pos i = s[pos + i].toNat := by
 rw [Qd2, List.getD_eq_getElem?_getD, List.getElem?_drop, gE (by rw [Qbn]; exact h)]
 rfl
theorem Qun (s : ByteArray) (pos : Nat) (h : pos < s.size) : gOf s pos 0 = s[pos].toNat := Qkr s pos 0 h
theorem Qh4 (r0 : Nat) (g : Nat -> Nat) : ∀ k, conts g k -> accF r0 g k < (r0 + 1) * 64 ^ k
 | 0, _ => by show r0 < _; omega
 | k + 1, h => by
  have h1 := (Qb6 g k).1 h
  have h2 := Qh4 r0 g k h1.1
  show accF r0 g k * 64 + (g (k + 1) - 0x80) < _
  rw [Nat.pow_succ, ← Nat.mul_assoc]
  omega
theorem Qon (s : ByteArray) (fuel pos : Nat) (hp : pos < s.size) (h : goodB s = decide (badFrom s (fuel + 1) pos = -1)) :
  goodB s = if (first (gOf s pos) (s.size - pos)).2 = 0 then false else decide (badFrom s fuel (pos + (first (gOf s pos) (s.size - pos)).2) = -1) := by
 rw [h, badFrom, iP hp]
 have hok := Qrg s pos hp
 have hwd := Qsi s pos
 cases hv : okAt s pos with
 | true =>
  rw [hv, iP rfl] at hok
  rw [iP rfl, iN (by omega), hok]
 | false =>
  rw [hv, iN (by decide)] at hok
  rw [iN (by decide), iP hok]
  exact dF (by omega)
theorem Qgd (s : ByteArray) (hs : s.size <= 9223372036854775000) (w : World) : Calls Tryz.prog 40 #[.string s] w fun e w' => e = .returned (.bool (goodB s)) /\ w' = w := by
 have hsi : (s.size : Int) <= 9223372036854775000 := by omega
 go_enter Tryz.func40, Tryz.ntmps40
 go_wp2_with fail
 go_loopg [3] s.size (fun g v wr => ∃ pos fuel : Nat, v = .int .i64 pos /\ pos <= s.size /\ Hid (goodB s = decide (badFrom s fuel pos = -1) /\ s.size <= fuel + pos /\ g = s.size - pos) /\ wr = w)
 case atStart => exact ⟨0, s.size, rfl, Nat.zero_le _, ⟨rfl, by omega, rfl⟩, rfl⟩
 case round =>
  obtain ⟨pos, fuel, rfl, hpl, hh, rfl⟩ := hrel
  by_cases hp : pos < s.size
  ·obtain ⟨f, rfl⟩ : ∃ f, fuel = f + 1 := ⟨fuel - 1, by have := hh.out.2.1; omega⟩
   have hst := Qon s f pos hp hh.out.1
   have ST := Hd hst
   have NO := Hd (show first (gOf s pos) (s.size - pos) = (0, 0) -> goodB s = false from fun h => by rw [ST.out, h]; rfl)
   have e0 := Qun s pos hp
   have b0 := s[pos].toNat_lt
   have hF := Qtk (gOf s pos) (s.size - pos) (by omega)
   have i1 : (pos : Int) < s.size := by omega
   clear hst
   have hc5 : (gOf s pos 0 < 0x80) \/ (0xC0 <= gOf s pos 0 /\ gOf s pos 0 < 0xE0) \/ (0xE0 <= gOf s pos 0 /\ gOf s pos 0 < 0xF0) \/ (0xF0 <= gOf s pos 0 /\ gOf s pos 0 < 0xF8) \/ ((0x80 <= gOf s pos 0 /\ gOf s pos 0 < 0xC0) \/ 0xF8 <= gOf s pos 0) := by omega
   rcases hc5 with cc | cc | cc | cc | cc
   ·have hT : first (gOf s pos) (s.size - pos) = firstT (gOf s pos 0) 1 0 (gOf s pos) (s.size - pos) := by rw [hF, iP cc]
    obtain ⟨R, hR⟩ : ∃ R, R = gOf s pos 0 := ⟨_, rfl⟩
    rw [← hR] at hT
    have hRi : (s[pos].toNat : Int) = (R : Int) := by omega
    have hR127 : R <= 127 := by omega
    have RMX := Hd (show R <= 127 by omega)
    have b1 : (0 : Int) <= s[pos].toNat := by omega
    have b2 : (s[pos].toNat : Int) < 128 := by omega
    have BD := Hd (fun k hk => Qj7 R (gOf s pos) hR127 (Qb9 s pos) k hk)
    have HT := Hd hT
    have HRI := Hd hRi
    clear hF hT hRi hR127 hR cc b0 e0
    go_wp2_with fail
    go_loopg [6, 8] 1 (fun g v6 v8 wr2 => ∃ k : Nat, v6 = .int .i64 ((accF R (gOf s pos) k : Nat) : Int) /\ v8 = .int .i64 ((k : Int) + 1) /\ Hid (k <= 1 - 1 /\ conts (gOf s pos) k /\ pos + k < s.size /\ g = 1 - k) /\ wr2 = wr)
    case atStart => exact ⟨0, by first | rw [HRI.out]; rfl | (rw [← HRI.out]; rfl), rfl, ⟨by omega, conts1 _, by omega, rfl⟩, rfl⟩
    case round =>
     obtain ⟨k, rfl, rfl, hh2, rfl⟩ := hrel
     obtain ⟨hk, hct, hki, -⟩ := hh2.out
     have hbd := BD.out k (by omega)
     have hbi : ((accF R (gOf s pos) k : Nat) : Int) <= 40000000 := by omega
     ·obtain rfl : k = 0 := by omega
      have HF2 := Hd (show firstT R 1 0 (gOf s pos) (s.size - pos) = if 1 <= s.size - pos /\ conts (gOf s pos) (1 - 1) /\ 0 <= accF R (gOf s pos) (1 - 1) /\ Qa0 (accF R (gOf s pos) (1 - 1)) = true then (accF R (gOf s pos) (1 - 1), 1) else (0, 0) from rfl)
      by_cases hns : 1 <= s.size - pos
      ·obtain ⟨a, ha⟩ : ∃ a, a = accF R (gOf s pos) (1 - 1) := ⟨_, rfl⟩
       have hmx : a <= 127 := by
        have h1 := Qh4 R (gOf s pos) (1 - 1) (show conts (gOf s pos) (1 - 1) from hct)
        have h2 := RMX.out
        have h3 : 64 ^ (1 - 1) = 1 := by decide
        rw [h3] at h1
        omega
       rw [← ha] at hbi HF2 ⊢
       have NN := Hd (show ¬ (0 <= a /\ Qa0 a = true) -> goodB s = false from fun h => NO.out (by rw [HT.out, HF2.out, iN (fun h' => h h'.2.2)]))
       have YY := Hd (show 0 <= a -> Qa0 a = true -> goodB s = decide (badFrom s f (pos + 1) = -1) from fun h1 h2 => by
        have h3 := ST.out
        have h4 : firstT R 1 0 (gOf s pos) (s.size - pos) = (a, 1) := by rw [HF2.out]; exact iP ⟨hns, hct, h1, h2⟩
        rw [HT.out, h4] at h3
        rw [h3]
        exact iN (by simp))
       have FU := Hd hns
       clear hbd ha hk hct hns hki
       have FA := Hd (Qdp a)
       have ac : (0 <= a /\ a <= 8) \/ (9 <= a /\ a <= 9) \/ (10 <= a /\ a <= 10) \/ (11 <= a /\ a <= 12) \/ (13 <= a /\ a <= 13) \/ (14 <= a /\ a <= 31) \/ (32 <= a /\ a <= 127) := by omega
       rcases ac with ac | ac | ac | ac | ac | ac | ac
       ·have e9 : ((a : Int) == 9) = false := by rw [bN]; omega
        have e10 : ((a : Int) == 10) = false := by rw [bN]; omega
        have e13 : ((a : Int) == 13) = false := by rw [bN]; omega
        have g32 : decide ((32 : Int) <= a) = false := by exact dF (by omega)
        have g57344 : decide ((57344 : Int) <= a) = false := by exact dF (by omega)
        have g65536 : decide ((65536 : Int) <= a) = false := by exact dF (by omega)
        have l55295 : decide ((a : Int) <= 55295) = true := by exact dT (by omega)
        have l65533 : decide ((a : Int) <= 65533) = true := by exact dT (by omega)
        have l1114111 : decide ((a : Int) <= 1114111) = true := by exact dT (by omega)
        have gl : decide ((a : Int) < 0) = false := by exact dF (by omega)
        have L := Hd (show goodB s = false from NN.out (fun h => by have h3 := FA.out.1 h.2; omega))
        clear ac
        go_wp2_with fail
        go_ret
        exact ⟨by (rw [L.out]) <;> rfl, rfl⟩
       ·have e9 : ((a : Int) == 9) = true := by rw [beq_iff_eq]; omega
        have e10 : ((a : Int) == 10) = false := by rw [bN]; omega
        have e13 : ((a : Int) == 13) = false := by rw [bN]; omega
        have g32 : decide ((32 : Int) <= a) = false := by exact dF (by omega)
        have g57344 : decide ((57344 : Int) <= a) = false := by exact dF (by omega)
        have g65536 : decide ((65536 : Int) <= a) = false := by exact dF (by omega)
        have l55295 : decide ((a : Int) <= 55295) = true := by exact dT (by omega)
        have l65533 : decide ((a : Int) <= 65533) = true := by exact dT (by omega)
        have l1114111 : decide ((a : Int) <= 1114111) = true := by exact dT (by omega)
        have gl : decide ((a : Int) < 0) = false := by exact dF (by omega)
        have L := Hd (YY.out (by omega) (FA.out.2 (by omega)))
        clear ac
        go_wp2_with fail
        go_roundg (s.size - (pos + 1))
        case measure => have h1 := hh.out.2.2; have h2 := FU.out; omega
        case rel => exact ⟨pos + 1, f, by go_num, by have h2 := FU.out; omega, ⟨L.out, by have := hh.out.2.1; omega, rfl⟩, rfl⟩
       ·have e9 : ((a : Int) == 9) = false := by rw [bN]; omega
        have e10 : ((a : Int) == 10) = true := by rw [beq_iff_eq]; omega
        have e13 : ((a : Int) == 13) = false := by rw [bN]; omega
        have g32 : decide ((32 : Int) <= a) = false := by exact dF (by omega)
        have g57344 : decide ((57344 : Int) <= a) = false := by exact dF (by omega)
        have g65536 : decide ((65536 : Int) <= a) = false := by exact dF (by omega)
        have l55295 : decide ((a : Int) <= 55295) = true := by exact dT (by omega)
        have l65533 : decide ((a : Int) <= 65533) = true := by exact dT (by omega)
        have l1114111 : decide ((a : Int) <= 1114111) = true := by exact dT (by omega)
        have gl : decide ((a : Int) < 0) = false := by exact dF (by omega)
        have L := Hd (YY.out (by omega) (FA.out.2 (by omega)))
        clear ac
        go_wp2_with fail
        go_roundg (s.size - (pos + 1))
        case measure => have h1 := hh.out.2.2; have h2 := FU.out; omega
        case rel => exact ⟨pos + 1, f, by go_num, by have h2 := FU.out; omega, ⟨L.out, by have := hh.out.2.1; omega, rfl⟩, rfl⟩
       ·have e9 : ((a : Int) == 9) = false := by rw [bN]; omega
        have e10 : ((a : Int) == 10) = false := by rw [bN]; omega
        have e13 : ((a : Int) == 13) = false := by rw [bN]; omega
        have g32 : decide ((32 : Int) <= a) = false := by exact dF (by omega)
        have g57344 : decide ((57344 : Int) <= a) = false := by exact dF (by omega)
        have g65536 : decide ((65536 : Int) <= a) = false := by exact dF (by omega)
        have l55295 : decide ((a : Int) <= 55295) = true := by exact dT (by omega)
        have l65533 : decide ((a : Int) <= 65533) = true := by exact dT (by omega)
        have l1114111 : decide ((a : Int) <= 1114111) = true := by exact dT (by omega)
        have gl : decide ((a : Int) < 0) = false := by exact dF (by omega)
        have L := Hd (show goodB s = false from NN.out (fun h => by have h3 := FA.out.1 h.2; omega))
        clear ac
        go_wp2_with fail
        go_ret
        exact ⟨by (rw [L.out]) <;> rfl, rfl⟩
       ·have e9 : ((a : Int) == 9) = false := by rw [bN]; omega
        have e10 : ((a : Int) == 10) = false := by rw [bN]; omega
        have e13 : ((a : Int) == 13) = true := by rw [beq_iff_eq]; omega
        have g32 : decide ((32 : Int) <= a) = false := by exact dF (by omega)
        have g57344 : decide ((57344 : Int) <= a) = false := by exact dF (by omega)
        have g65536 : decide ((65536 : Int) <= a) = false := by exact dF (by omega)
        have l55295 : decide ((a : Int) <= 55295) = true := by exact dT (by omega)
        have l65533 : decide ((a : Int) <= 65533) = true := by exact dT (by omega)
        have l1114111 : decide ((a : Int) <= 1114111) = true := by exact dT (by omega)
        have gl : decide ((a : Int) < 0) = false := by exact dF (by omega)
        have L := Hd (YY.out (by omega) (FA.out.2 (by omega)))
        clear ac
        go_wp2_with fail
        go_roundg (s.size - (pos + 1))
        case measure => have h1 := hh.out.2.2; have h2 := FU.out; omega
        case rel => exact ⟨pos + 1, f, by go_num, by have h2 := FU.out; omega, ⟨L.out, by have := hh.out.2.1; omega, rfl⟩, rfl⟩
       ·have e9 : ((a : Int) == 9) = false := by rw [bN]; omega
        have e10 : ((a : Int) == 10) = false := by rw [bN]; omega
        have e13 : ((a : Int) == 13) = false := by rw [bN]; omega
        have g32 : decide ((32 : Int) <= a) = false := by exact dF (by omega)
        have g57344 : decide ((57344 : Int) <= a) = false := by exact dF (by omega)
        have g65536 : decide ((65536 : Int) <= a) = false := by exact dF (by omega)
        have l55295 : decide ((a : Int) <= 55295) = true := by exact dT (by omega)
        have l65533 : decide ((a : Int) <= 65533) = true := by exact dT (by omega)
        have l1114111 : decide ((a : Int) <= 1114111) = true := by exact dT (by omega)
        have gl : decide ((a : Int) < 0) = false := by exact dF (by omega)
        have L := Hd (show goodB s = false from NN.out (fun h => by have h3 := FA.out.1 h.2; omega))
        clear ac
        go_wp2_with fail
        go_ret
        exact ⟨by (rw [L.out]) <;> rfl, rfl⟩
       have e9 : ((a : Int) == 9) = false := by rw [bN]; omega
       have e10 : ((a : Int) == 10) = false := by rw [bN]; omega
       have e13 : ((a : Int) == 13) = false := by rw [bN]; omega
       have g32 : decide ((32 : Int) <= a) = true := by exact dT (by omega)
       have g57344 : decide ((57344 : Int) <= a) = false := by exact dF (by omega)
       have g65536 : decide ((65536 : Int) <= a) = false := by exact dF (by omega)
       have l55295 : decide ((a : Int) <= 55295) = true := by exact dT (by omega)
       have l65533 : decide ((a : Int) <= 65533) = true := by exact dT (by omega)
       have l1114111 : decide ((a : Int) <= 1114111) = true := by exact dT (by omega)
       have gl : decide ((a : Int) < 0) = false := by exact dF (by omega)
       have L := Hd (YY.out (by omega) (FA.out.2 (by omega)))
       clear ac
       go_wp2_with fail
       go_roundg (s.size - (pos + 1))
       case measure => have h1 := hh.out.2.2; have h2 := FU.out; omega
       case rel => exact ⟨pos + 1, f, by go_num, by have h2 := FU.out; omega, ⟨L.out, by have := hh.out.2.1; omega, rfl⟩, rfl⟩
      exfalso
      have h1 := hct
      omega
   ·have hT : first (gOf s pos) (s.size - pos) = firstT (gOf s pos 0 - 0xC0) 2 128 (gOf s pos) (s.size - pos) := by rw [hF, iN (by omega), iP cc]
    obtain ⟨R, hR⟩ : ∃ R, R = gOf s pos 0 - 0xC0 := ⟨_, rfl⟩
    rw [← hR] at hT
    have hRi : (s[pos].toNat : Int) - 192 = (R : Int) := by omega
    have hR127 : R <= 127 := by omega
    have RMX := Hd (show R <= 31 by omega)
    have b1 : (192 : Int) <= s[pos].toNat := by omega
    have b2 : (s[pos].toNat : Int) < 224 := by omega
    have BD := Hd (fun k hk => Qj7 R (gOf s pos) hR127 (Qb9 s pos) k hk)
    have HT := Hd hT
    have HRI := Hd hRi
    clear hF hT hRi hR127 hR cc b0 e0
    go_wp2_with fail
    go_loopg [6, 8] 2 (fun g v6 v8 wr2 => ∃ k : Nat, v6 = .int .i64 ((accF R (gOf s pos) k : Nat) : Int) /\ v8 = .int .i64 ((k : Int) + 1) /\ Hid (k <= 2 - 1 /\ conts (gOf s pos) k /\ pos + k < s.size /\ g = 2 - k) /\ wr2 = wr)
    case atStart => exact ⟨0, by first | rw [HRI.out]; rfl | (rw [← HRI.out]; rfl), rfl, ⟨by omega, conts1 _, by omega, rfl⟩, rfl⟩
    case round =>
     obtain ⟨k, rfl, rfl, hh2, rfl⟩ := hrel
     obtain ⟨hk, hct, hki, -⟩ := hh2.out
     have hbd := BD.out k (by omega)
     have hbi : ((accF R (gOf s pos) k : Nat) : Int) <= 40000000 := by omega
     by_cases hlt : k + 1 < 2
     ·have k1 : (k : Int) + 1 < 2 := by omega
      by_cases hin : pos + (k + 1) < s.size
      ·have hga := Qkr s pos (k + 1) hin
       have hg1 := Qb9 s pos (k + 1)
       have CS := Hd (Qb6 (gOf s pos) k)
       have HAC := Hd (show accF R (gOf s pos) (k + 1) = accF R (gOf s pos) k * 64 + (gOf s pos (k + 1) - 0x80) from rfl)
       have k2 : (pos : Int) + ((k : Int) + 1) < s.size := by omega
       rw [hga] at CS HAC hg1
       obtain ⟨a, ha⟩ : ∃ a, a = accF R (gOf s pos) k := ⟨_, rfl⟩
       rw [← ha] at hbi HAC ⊢
       have k3 : (s[pos + (k + 1)].toNat : Int) <= 255 := by omega
       by_cases hc : 0x80 <= s[pos + (k + 1)].toNat /\ s[pos + (k + 1)].toNat < 0xC0
       ·obtain ⟨hc1, hc2⟩ := hc
        have k4 : (128 : Int) <= s[pos + (k + 1)].toNat := by omega
        have k5 : (s[pos + (k + 1)].toNat : Int) < 192 := by omega
        have NC := Hd (CS.out.2 ⟨hct, hc1, hc2⟩)
        have E := Hd (show (a : Int) * 64 + (s[pos + (k + 1)].toNat : Int) - 128 = ((accF R (gOf s pos) (k + 1) : Nat) : Int) by rw [HAC.out]; omega)
        clear hbd ha hga hg1 hc1 hc2 hk hct hki
        go_wp2_with fail
        go_roundg (gk - 1)
        case measure => have := hh2.out.2.2.2; omega
        case rel => exact ⟨k + 1, by rw [← E.out], by go_num, ⟨by omega, NC.out, by omega, by have := hh2.out.2.2.2; omega⟩, rfl⟩
       have L := Hd (show goodB s = false from NO.out (by
        rw [HT.out, firstT, iN (fun h => hc (by rw [← hga]; exact h.2.1 (k + 1) (by omega) (by omega)))]))
       have k4 : (s[pos + (k + 1)].toNat : Int) < 128 \/ (192 : Int) <= s[pos + (k + 1)].toNat := by omega
       clear hbd ha hga hg1 hc hk hct hki
       rcases k4 with k4 | k4
       all_goals
        go_wp2_with fail
        go_ret
        exact ⟨by (rw [L.out]) <;> rfl, rfl⟩
      have L := Hd (show goodB s = false from NO.out (by rw [HT.out, firstT, iN (fun h => by have := h.1; omega)]))
      have k2 : (s.size : Int) <= (pos : Int) + ((k : Int) + 1) := by omega
      clear hbd hk hct hki
      go_wp2_with fail
      go_ret
      exact ⟨by (rw [L.out]) <;> rfl, rfl⟩
     obtain rfl : k = 2 - 1 := by omega
     have HF2 := Hd (show firstT R 2 128 (gOf s pos) (s.size - pos) = if 2 <= s.size - pos /\ conts (gOf s pos) (2 - 1) /\ 128 <= accF R (gOf s pos) (2 - 1) /\ Qa0 (accF R (gOf s pos) (2 - 1)) = true then (accF R (gOf s pos) (2 - 1), 2) else (0, 0) from rfl)
     by_cases hns : 2 <= s.size - pos
     ·obtain ⟨a, ha⟩ : ∃ a, a = accF R (gOf s pos) (2 - 1) := ⟨_, rfl⟩
      have hmx : a <= 2047 := by
       have h1 := Qh4 R (gOf s pos) (2 - 1) (show conts (gOf s pos) (2 - 1) from hct)
       have h2 := RMX.out
       have h3 : 64 ^ (2 - 1) = 64 := by decide
       rw [h3] at h1
       omega
      rw [← ha] at hbi HF2 ⊢
      have NN := Hd (show ¬ (128 <= a /\ Qa0 a = true) -> goodB s = false from fun h => NO.out (by rw [HT.out, HF2.out, iN (fun h' => h h'.2.2)]))
      have YY := Hd (show 128 <= a -> Qa0 a = true -> goodB s = decide (badFrom s f (pos + 2) = -1) from fun h1 h2 => by
       have h3 := ST.out
       have h4 : firstT R 2 128 (gOf s pos) (s.size - pos) = (a, 2) := by rw [HF2.out]; exact iP ⟨hns, hct, h1, h2⟩
       rw [HT.out, h4] at h3
       rw [h3]
       exact iN (by simp))
      have FU := Hd hns
      clear hbd ha hk hct hns hki
      have FA := Hd (Qdp a)
      by_cases hl : (a : Int) < 128
      ·have L := Hd (show goodB s = false from NN.out (fun h => by have := h.1; omega))
       go_wp2_with fail
       go_ret
       exact ⟨by (rw [L.out]) <;> rfl, rfl⟩
      have gl : decide ((a : Int) < 128) = false := by exact dF hl
      have HL := Hd (show 128 <= a by omega)
      clear hl
      have ac : (128 <= a /\ a <= 2047) := by have hl0 := HL.out; omega
      rcases ac with ac
      ·have e9 : ((a : Int) == 9) = false := by rw [bN]; omega
       have e10 : ((a : Int) == 10) = false := by rw [bN]; omega
       have e13 : ((a : Int) == 13) = false := by rw [bN]; omega
       have g32 : decide ((32 : Int) <= a) = true := by exact dT (by omega)
       have g57344 : decide ((57344 : Int) <= a) = false := by exact dF (by omega)
       have g65536 : decide ((65536 : Int) <= a) = false := by exact dF (by omega)
       have l55295 : decide ((a : Int) <= 55295) = true := by exact dT (by omega)
       have l65533 : decide ((a : Int) <= 65533) = true := by exact dT (by omega)
       have l1114111 : decide ((a : Int) <= 1114111) = true := by exact dT (by omega)
       have L := Hd (YY.out HL.out (FA.out.2 (by omega)))
       clear ac
       go_wp2_with fail
       go_roundg (s.size - (pos + 2))
       case measure => have h1 := hh.out.2.2; have h2 := FU.out; omega
       case rel => exact ⟨pos + 2, f, by go_num, by have h2 := FU.out; omega, ⟨L.out, by have := hh.out.2.1; omega, rfl⟩, rfl⟩
     exfalso
     have h1 := hct
     omega
   ·have hT : first (gOf s pos) (s.size - pos) = firstT (gOf s pos 0 - 0xE0) 3 2048 (gOf s pos) (s.size - pos) := by rw [hF, iN (by omega), iN (by omega), iP cc]
    obtain ⟨R, hR⟩ : ∃ R, R = gOf s pos 0 - 0xE0 := ⟨_, rfl⟩
    rw [← hR] at hT
    have hRi : (s[pos].toNat : Int) - 224 = (R : Int) := by omega
    have hR127 : R <= 127 := by omega
    have RMX := Hd (show R <= 15 by omega)
    have b1 : (224 : Int) <= s[pos].toNat := by omega
    have b2 : (s[pos].toNat : Int) < 240 := by omega
    have BD := Hd (fun k hk => Qj7 R (gOf s pos) hR127 (Qb9 s pos) k hk)
    have HT := Hd hT
    have HRI := Hd hRi
    clear hF hT hRi hR127 hR cc b0 e0
    go_wp2_with fail
    go_loopg [6, 8] 3 (fun g v6 v8 wr2 => ∃ k : Nat, v6 = .int .i64 ((accF R (gOf s pos) k : Nat) : Int) /\ v8 = .int .i64 ((k : Int) + 1) /\ Hid (k <= 3 - 1 /\ conts (gOf s pos) k /\ pos + k < s.size /\ g = 3 - k) /\ wr2 = wr)
    case atStart => exact ⟨0, by first | rw [HRI.out]; rfl | (rw [← HRI.out]; rfl), rfl, ⟨by omega, conts1 _, by omega, rfl⟩, rfl⟩
    case round =>
     obtain ⟨k, rfl, rfl, hh2, rfl⟩ := hrel
     obtain ⟨hk, hct, hki, -⟩ := hh2.out
     have hbd := BD.out k (by omega)
     have hbi : ((accF R (gOf s pos) k : Nat) : Int) <= 40000000 := by omega
     by_cases hlt : k + 1 < 3
     ·have k1 : (k : Int) + 1 < 3 := by omega
      by_cases hin : pos + (k + 1) < s.size
      ·have hga := Qkr s pos (k + 1) hin
       have hg1 := Qb9 s pos (k + 1)
       have CS := Hd (Qb6 (gOf s pos) k)
       have HAC := Hd (show accF R (gOf s pos) (k + 1) = accF R (gOf s pos) k * 64 + (gOf s pos (k + 1) - 0x80) from rfl)
       have k2 : (pos : Int) + ((k : Int) + 1) < s.size := by omega
       rw [hga] at CS HAC hg1
       obtain ⟨a, ha⟩ : ∃ a, a = accF R (gOf s pos) k := ⟨_, rfl⟩
       rw [← ha] at hbi HAC ⊢
       have k3 : (s[pos + (k + 1)].toNat : Int) <= 255 := by omega
       by_cases hc : 0x80 <= s[pos + (k + 1)].toNat /\ s[pos + (k + 1)].toNat < 0xC0
       ·obtain ⟨hc1, hc2⟩ := hc
        have k4 : (128 : Int) <= s[pos + (k + 1)].toNat := by omega
        have k5 : (s[pos + (k + 1)].toNat : Int) < 192 := by omega
        have NC := Hd (CS.out.2 ⟨hct, hc1, hc2⟩)
        have E := Hd (show (a : Int) * 64 + (s[pos + (k + 1)].toNat : Int) - 128 = ((accF R (gOf s pos) (k + 1) : Nat) : Int) by rw [HAC.out]; omega)
        clear hbd ha hga hg1 hc1 hc2 hk hct hki
        go_wp2_with fail
        go_roundg (gk - 1)
        case measure => have := hh2.out.2.2.2; omega
        case rel => exact ⟨k + 1, by rw [← E.out], by go_num, ⟨by omega, NC.out, by omega, by have := hh2.out.2.2.2; omega⟩, rfl⟩
       have L := Hd (show goodB s = false from NO.out (by
        rw [HT.out, firstT, iN (fun h => hc (by rw [← hga]; exact h.2.1 (k + 1) (by omega) (by omega)))]))
       have k4 : (s[pos + (k + 1)].toNat : Int) < 128 \/ (192 : Int) <= s[pos + (k + 1)].toNat := by omega
       clear hbd ha hga hg1 hc hk hct hki
       rcases k4 with k4 | k4
       all_goals
        go_wp2_with fail
        go_ret
        exact ⟨by (rw [L.out]) <;> rfl, rfl⟩
      have L := Hd (show goodB s = false from NO.out (by rw [HT.out, firstT, iN (fun h => by have := h.1; omega)]))
      have k2 : (s.size : Int) <= (pos : Int) + ((k : Int) + 1) := by omega
      clear hbd hk hct hki
      go_wp2_with fail
      go_ret
      exact ⟨by (rw [L.out]) <;> rfl, rfl⟩
     obtain rfl : k = 3 - 1 := by omega
     have HF2 := Hd (show firstT R 3 2048 (gOf s pos) (s.size - pos) = if 3 <= s.size - pos /\ conts (gOf s pos) (3 - 1) /\ 2048 <= accF R (gOf s pos) (3 - 1) /\ Qa0 (accF R (gOf s pos) (3 - 1)) = true then (accF R (gOf s pos) (3 - 1), 3) else (0, 0) from rfl)
     by_cases hns : 3 <= s.size - pos
     ·obtain ⟨a, ha⟩ : ∃ a, a = accF R (gOf s pos) (3 - 1) := ⟨_, rfl⟩
      have hmx : a <= 65535 := by
       have h1 := Qh4 R (gOf s pos) (3 - 1) (show conts (gOf s pos) (3 - 1) from hct)
       have h2 := RMX.out
       have h3 : 64 ^ (3 - 1) = 4096 := by decide
       rw [h3] at h1
       omega
      rw [← ha] at hbi HF2 ⊢
      have NN := Hd (show ¬ (2048 <= a /\ Qa0 a = true) -> goodB s = false from fun h => NO.out (by rw [HT.out, HF2.out, iN (fun h' => h h'.2.2)]))
      have YY := Hd (show 2048 <= a -> Qa0 a = true -> goodB s = decide (badFrom s f (pos + 3) = -1) from fun h1 h2 => by
       have h3 := ST.out
       have h4 : firstT R 3 2048 (gOf s pos) (s.size - pos) = (a, 3) := by rw [HF2.out]; exact iP ⟨hns, hct, h1, h2⟩
       rw [HT.out, h4] at h3
       rw [h3]
       exact iN (by simp))
      have FU := Hd hns
      clear hbd ha hk hct hns hki
      have FA := Hd (Qdp a)
      by_cases hl : (a : Int) < 2048
      ·have L := Hd (show goodB s = false from NN.out (fun h => by have := h.1; omega))
       go_wp2_with fail
       go_ret
       exact ⟨by (rw [L.out]) <;> rfl, rfl⟩
      have gl : decide ((a : Int) < 2048) = false := by exact dF hl
      have HL := Hd (show 2048 <= a by omega)
      clear hl
      have ac : (2048 <= a /\ a <= 55295) \/ (55296 <= a /\ a <= 57343) \/ (57344 <= a /\ a <= 65533) \/ (65534 <= a /\ a <= 65535) := by have hl0 := HL.out; omega
      rcases ac with ac | ac | ac | ac
      ·have e9 : ((a : Int) == 9) = false := by rw [bN]; omega
       have e10 : ((a : Int) == 10) = false := by rw [bN]; omega
       have e13 : ((a : Int) == 13) = false := by rw [bN]; omega
       have g32 : decide ((32 : Int) <= a) = true := by exact dT (by omega)
       have g57344 : decide ((57344 : Int) <= a) = false := by exact dF (by omega)
       have g65536 : decide ((65536 : Int) <= a) = false := by exact dF (by omega)
       have l55295 : decide ((a : Int) <= 55295) = true := by exact dT (by omega)
       have l65533 : decide ((a : Int) <= 65533) = true := by exact dT (by omega)
       have l1114111 : decide ((a : Int) <= 1114111) = true := by exact dT (by omega)
       have L := Hd (YY.out HL.out (FA.out.2 (by omega)))
       clear ac
       go_wp2_with fail
       go_roundg (s.size - (pos + 3))
       case measure => have h1 := hh.out.2.2; have h2 := FU.out; omega
       case rel => exact ⟨pos + 3, f, by go_num, by have h2 := FU.out; omega, ⟨L.out, by have := hh.out.2.1; omega, rfl⟩, rfl⟩
      ·have e9 : ((a : Int) == 9) = false := by rw [bN]; omega
       have e10 : ((a : Int) == 10) = false := by rw [bN]; omega
       have e13 : ((a : Int) == 13) = false := by rw [bN]; omega
       have g32 : decide ((32 : Int) <= a) = true := by exact dT (by omega)
       have g57344 : decide ((57344 : Int) <= a) = false := by exact dF (by omega)
       have g65536 : decide ((65536 : Int) <= a) = false := by exact dF (by omega)
       have l55295 : decide ((a : Int) <= 55295) = false := by exact dF (by omega)
       have l65533 : decide ((a : Int) <= 65533) = true := by exact dT (by omega)
       have l1114111 : decide ((a : Int) <= 1114111) = true := by exact dT (by omega)
       have L := Hd (show goodB s = false from NN.out (fun h => by have h3 := FA.out.1 h.2; omega))
       clear ac
       go_wp2_with fail
       go_ret
       exact ⟨by (rw [L.out]) <;> rfl, rfl⟩
      ·have e9 : ((a : Int) == 9) = false := by rw [bN]; omega
       have e10 : ((a : Int) == 10) = false := by rw [bN]; omega
       have e13 : ((a : Int) == 13) = false := by rw [bN]; omega
       have g32 : decide ((32 : Int) <= a) = true := by exact dT (by omega)
       have g57344 : decide ((57344 : Int) <= a) = true := by exact dT (by omega)
       have g65536 : decide ((65536 : Int) <= a) = false := by exact dF (by omega)
       have l55295 : decide ((a : Int) <= 55295) = false := by exact dF (by omega)
       have l65533 : decide ((a : Int) <= 65533) = true := by exact dT (by omega)
       have l1114111 : decide ((a : Int) <= 1114111) = true := by exact dT (by omega)
       have L := Hd (YY.out HL.out (FA.out.2 (by omega)))
       clear ac
       go_wp2_with fail
       go_roundg (s.size - (pos + 3))
       case measure => have h1 := hh.out.2.2; have h2 := FU.out; omega
       case rel => exact ⟨pos + 3, f, by go_num, by have h2 := FU.out; omega, ⟨L.out, by have := hh.out.2.1; omega, rfl⟩, rfl⟩
      have e9 : ((a : Int) == 9) = false := by rw [bN]; omega
      have e10 : ((a : Int) == 10) = false := by rw [bN]; omega
      have e13 : ((a : Int) == 13) = false := by rw [bN]; omega
      have g32 : decide ((32 : Int) <= a) = true := by exact dT (by omega)
      have g57344 : decide ((57344 : Int) <= a) = true := by exact dT (by omega)
      have g65536 : decide ((65536 : Int) <= a) = false := by exact dF (by omega)
      have l55295 : decide ((a : Int) <= 55295) = false := by exact dF (by omega)
      have l65533 : decide ((a : Int) <= 65533) = false := by exact dF (by omega)
      have l1114111 : decide ((a : Int) <= 1114111) = true := by exact dT (by omega)
      have L := Hd (show goodB s = false from NN.out (fun h => by have h3 := FA.out.1 h.2; omega))
      clear ac
      go_wp2_with fail
      go_ret
      exact ⟨by (rw [L.out]) <;> rfl, rfl⟩
     exfalso
     have h1 := hct
     omega
   ·have hT : first (gOf s pos) (s.size - pos) = firstT (gOf s pos 0 - 0xF0) 4 65536 (gOf s pos) (s.size - pos) := by rw [hF, iN (by omega), iN (by omega), iN (by omega), iP cc]
    obtain ⟨R, hR⟩ : ∃ R, R = gOf s pos 0 - 0xF0 := ⟨_, rfl⟩
    rw [← hR] at hT
    have hRi : (s[pos].toNat : Int) - 240 = (R : Int) := by omega
    have hR127 : R <= 127 := by omega
    have RMX := Hd (show R <= 7 by omega)
    have b1 : (240 : Int) <= s[pos].toNat := by omega
    have b2 : (s[pos].toNat : Int) < 248 := by omega
    have BD := Hd (fun k hk => Qj7 R (gOf s pos) hR127 (Qb9 s pos) k hk)
    have HT := Hd hT
    have HRI := Hd hRi
    clear hF hT hRi hR127 hR cc b0 e0
    go_wp2_with fail
    go_loopg [6, 8] 4 (fun g v6 v8 wr2 => ∃ k : Nat, v6 = .int .i64 ((accF R (gOf s pos) k : Nat) : Int) /\ v8 = .int .i64 ((k : Int) + 1) /\ Hid (k <= 4 - 1 /\ conts (gOf s pos) k /\ pos + k < s.size /\ g = 4 - k) /\ wr2 = wr)
    case atStart => exact ⟨0, by first | rw [HRI.out]; rfl | (rw [← HRI.out]; rfl), rfl, ⟨by omega, conts1 _, by omega, rfl⟩, rfl⟩
    case round =>
     obtain ⟨k, rfl, rfl, hh2, rfl⟩ := hrel
     obtain ⟨hk, hct, hki, -⟩ := hh2.out
     have hbd := BD.out k (by omega)
     have hbi : ((accF R (gOf s pos) k : Nat) : Int) <= 40000000 := by omega
     by_cases hlt : k + 1 < 4
     ·have k1 : (k : Int) + 1 < 4 := by omega
      by_cases hin : pos + (k + 1) < s.size
      ·have hga := Qkr s pos (k + 1) hin
       have hg1 := Qb9 s pos (k + 1)
       have CS := Hd (Qb6 (gOf s pos) k)
       have HAC := Hd (show accF R (gOf s pos) (k + 1) = accF R (gOf s pos) k * 64 + (gOf s pos (k + 1) - 0x80) from rfl)
       have k2 : (pos : Int) + ((k : Int) + 1) < s.size := by omega
       rw [hga] at CS HAC hg1
       obtain ⟨a, ha⟩ : ∃ a, a = accF R (gOf s pos) k := ⟨_, rfl⟩
       rw [← ha] at hbi HAC ⊢
       have k3 : (s[pos + (k + 1)].toNat : Int) <= 255 := by omega
       by_cases hc : 0x80 <= s[pos + (k + 1)].toNat /\ s[pos + (k + 1)].toNat < 0xC0
       ·obtain ⟨hc1, hc2⟩ := hc
        have k4 : (128 : Int) <= s[pos + (k + 1)].toNat := by omega
        have k5 : (s[pos + (k + 1)].toNat : Int) < 192 := by omega
        have NC := Hd (CS.out.2 ⟨hct, hc1, hc2⟩)
        have E := Hd (show (a : Int) * 64 + (s[pos + (k + 1)].toNat : Int) - 128 = ((accF R (gOf s pos) (k + 1) : Nat) : Int) by rw [HAC.out]; omega)
        clear hbd ha hga hg1 hc1 hc2 hk hct hki
        go_wp2_with fail
        go_roundg (gk - 1)
        case measure => have := hh2.out.2.2.2; omega
        case rel => exact ⟨k + 1, by rw [← E.out], by go_num, ⟨by omega, NC.out, by omega, by have := hh2.out.2.2.2; omega⟩, rfl⟩
       have L := Hd (show goodB s = false from NO.out (by
        rw [HT.out, firstT, iN (fun h => hc (by rw [← hga]; exact h.2.1 (k + 1) (by omega) (by omega)))]))
       have k4 : (s[pos + (k + 1)].toNat : Int) < 128 \/ (192 : Int) <= s[pos + (k + 1)].toNat := by omega
       clear hbd ha hga hg1 hc hk hct hki
       rcases k4 with k4 | k4
       all_goals
        go_wp2_with fail
        go_ret
        exact ⟨by (rw [L.out]) <;> rfl, rfl⟩
      have L := Hd (show goodB s = false from NO.out (by rw [HT.out, firstT, iN (fun h => by have := h.1; omega)]))
      have k2 : (s.size : Int) <= (pos : Int) + ((k : Int) + 1) := by omega
      clear hbd hk hct hki
      go_wp2_with fail
      go_ret
      exact ⟨by (rw [L.out]) <;> rfl, rfl⟩
     obtain rfl : k = 4 - 1 := by omega
     have HF2 := Hd (show firstT R 4 65536 (gOf s pos) (s.size - pos) = if 4 <= s.size - pos /\ conts (gOf s pos) (4 - 1) /\ 65536 <= accF R (gOf s pos) (4 - 1) /\ Qa0 (accF R (gOf s pos) (4 - 1)) = true then (accF R (gOf s pos) (4 - 1), 4) else (0, 0) from rfl)
     by_cases hns : 4 <= s.size - pos
     ·obtain ⟨a, ha⟩ : ∃ a, a = accF R (gOf s pos) (4 - 1) := ⟨_, rfl⟩
      have hmx : a <= 2097151 := by
       have h1 := Qh4 R (gOf s pos) (4 - 1) (show conts (gOf s pos) (4 - 1) from hct)
       have h2 := RMX.out
       have h3 : 64 ^ (4 - 1) = 262144 := by decide
       rw [h3] at h1
       omega
      rw [← ha] at hbi HF2 ⊢
      have NN := Hd (show ¬ (65536 <= a /\ Qa0 a = true) -> goodB s = false from fun h => NO.out (by rw [HT.out, HF2.out, iN (fun h' => h h'.2.2)]))
      have YY := Hd (show 65536 <= a -> Qa0 a = true -> goodB s = decide (badFrom s f (pos + 4) = -1) from fun h1 h2 => by
       have h3 := ST.out
       have h4 : firstT R 4 65536 (gOf s pos) (s.size - pos) = (a, 4) := by rw [HF2.out]; exact iP ⟨hns, hct, h1, h2⟩
       rw [HT.out, h4] at h3
       rw [h3]
       exact iN (by simp))
      have FU := Hd hns
      clear hbd ha hk hct hns hki
      have FA := Hd (Qdp a)
      by_cases hl : (a : Int) < 65536
      ·have L := Hd (show goodB s = false from NN.out (fun h => by have := h.1; omega))
       go_wp2_with fail
       go_ret
       exact ⟨by (rw [L.out]) <;> rfl, rfl⟩
      have gl : decide ((a : Int) < 65536) = false := by exact dF hl
      have HL := Hd (show 65536 <= a by omega)
      clear hl
      have ac : (65536 <= a /\ a <= 1114111) \/ (1114112 <= a /\ a <= 2097151) := by have hl0 := HL.out; omega
      rcases ac with ac | ac
      ·have e9 : ((a : Int) == 9) = false := by rw [bN]; omega
       have e10 : ((a : Int) == 10) = false := by rw [bN]; omega
       have e13 : ((a : Int) == 13) = false := by rw [bN]; omega
       have g32 : decide ((32 : Int) <= a) = true := by exact dT (by omega)
       have g57344 : decide ((57344 : Int) <= a) = true := by exact dT (by omega)
       have g65536 : decide ((65536 : Int) <= a) = true := by exact dT (by omega)
       have l55295 : decide ((a : Int) <= 55295) = false := by exact dF (by omega)
       have l65533 : decide ((a : Int) <= 65533) = false := by exact dF (by omega)
       have l1114111 : decide ((a : Int) <= 1114111) = true := by exact dT (by omega)
       have L := Hd (YY.out HL.out (FA.out.2 (by omega)))
       clear ac
       go_wp2_with fail
       go_roundg (s.size - (pos + 4))
       case measure => have h1 := hh.out.2.2; have h2 := FU.out; omega
       case rel => exact ⟨pos + 4, f, by go_num, by have h2 := FU.out; omega, ⟨L.out, by have := hh.out.2.1; omega, rfl⟩, rfl⟩
      have e9 : ((a : Int) == 9) = false := by rw [bN]; omega
      have e10 : ((a : Int) == 10) = false := by rw [bN]; omega
      have e13 : ((a : Int) == 13) = false := by rw [bN]; omega
      have g32 : decide ((32 : Int) <= a) = true := by exact dT (by omega)
      have g57344 : decide ((57344 : Int) <= a) = true := by exact dT (by omega)
      have g65536 : decide ((65536 : Int) <= a) = true := by exact dT (by omega)
      have l55295 : decide ((a : Int) <= 55295) = false := by exact dF (by omega)
      have l65533 : decide ((a : Int) <= 65533) = false := by exact dF (by omega)
      have l1114111 : decide ((a : Int) <= 1114111) = false := by exact dF (by omega)
      have L := Hd (show goodB s = false from NN.out (fun h => by have h3 := FA.out.1 h.2; omega))
      clear ac
      go_wp2_with fail
      go_ret
      exact ⟨by (rw [L.out]) <;> rfl, rfl⟩
     exfalso
     have h1 := hct
     omega
   have L := Hd (show goodB s = false from NO.out (by rw [hF, iN (by omega), iN (by omega), iN (by omega), iN (by omega)]))
   have k4 : (s[pos].toNat < 192) \/ 248 <= s[pos].toNat := by omega
   have b2 : (s[pos].toNat : Int) <= 255 := by omega
   rcases k4 with k4 | k4
   ·have f0 : decide ((s[pos].toNat : Int) < 128) = false := by exact dF (by omega)
    have f1 : decide ((192 : Int) <= s[pos].toNat) = false := by exact dF (by omega)
    have f2 : decide ((224 : Int) <= s[pos].toNat) = false := by exact dF (by omega)
    have f3 : decide ((240 : Int) <= s[pos].toNat) = false := by exact dF (by omega)
    clear hF cc b0 e0 k4
    go_wp2_with fail
    go_ret
    exact ⟨by (rw [L.out]) <;> rfl, rfl⟩
   have f0 : decide ((s[pos].toNat : Int) < 128) = false := by exact dF (by omega)
   have f1 : decide ((192 : Int) <= s[pos].toNat) = true := by exact dT (by omega)
   have f2 : decide ((224 : Int) <= s[pos].toNat) = true := by exact dT (by omega)
   have f3 : decide ((240 : Int) <= s[pos].toNat) = true := by exact dT (by omega)
   have f4 : decide ((s[pos].toNat : Int) < 224) = false := by exact dF (by omega)
   have f5 : decide ((s[pos].toNat : Int) < 240) = false := by exact dF (by omega)
   have f6 : decide ((s[pos].toNat : Int) < 248) = false := by exact dF (by omega)
   clear hF cc b0 e0 k4
   go_wp2_with fail
   go_ret
   exact ⟨by (rw [L.out]) <;> rfl, rfl⟩
  have L := Hd (show goodB s = true by
   rw [hh.out.1]
   cases fuel with
   | zero => rfl
   | succ f => rw [badFrom, iN hp]; rfl)
  go_wp2_with fail
  go_ret
  exact ⟨by (rw [L.out]) <;> rfl, rfl⟩
theorem Qat (v : Val) (hv : v.text.size <= 9223372036854775807) (w : World) : Calls Tryz.prog 20 #[v.val] w fun e w' => e = .returned (.bool (vsnd v)) /\ Bel w w' := by
 obtain ⟨k, n, s, t, m⟩ := v
 have hv : t.size <= 9223372036854775807 := hv
 have b0 : Bel w w := Bel.refl w
 rcases kinds k with rfl | rfl | rfl | rfl | rfl | hk
 ·have LV := vs0 n s m t
  cases hn : (n == 0) with
  | false =>
   have L := Hd (show vsnd ⟨0, n, s, t, m⟩ = false by (rw [LV, hn]) <;> rfl)
   clear LV
   go_enter Tryz.func20, Tryz.ntmps20
   go_wp2_with fail
   go_ret
   exact ⟨by (rw [L.out]) <;> rfl, (Bel.refl _).alloc _⟩
  | true =>
   cases hs : (s == 0) with
   | false =>
    have L := Hd (show vsnd ⟨0, n, s, t, m⟩ = false by (rw [LV, hn, hs]) <;> rfl)
    clear LV
    go_enter Tryz.func20, Tryz.ntmps20
    go_wp2_with fail
    go_ret
    exact ⟨by (rw [L.out]) <;> rfl, (Bel.refl _).alloc _⟩
   | true =>
    cases ht : t.toList.isEmpty with
    | false =>
     have L := Hd (show vsnd ⟨0, n, s, t, m⟩ = false by (rw [LV, hn, hs, ht]) <;> rfl)
     clear LV
     go_enter Tryz.func20, Tryz.ntmps20
     go_wp2_with fail
     go_ret
     exact ⟨by (rw [L.out]) <;> rfl, (Bel.refl _).alloc _⟩
    | true =>
     cases hm : (m == 0) with
     | false =>
      have L := Hd (show vsnd ⟨0, n, s, t, m⟩ = false by (rw [LV, hn, hs, ht, hm]) <;> rfl)
      clear LV
      go_enter Tryz.func20, Tryz.ntmps20
      go_wp2_with fail
      go_ret
      exact ⟨by (rw [L.out]) <;> rfl, (Bel.refl _).alloc _⟩
     | true =>
      have L := Hd (show vsnd ⟨0, n, s, t, m⟩ = true by (rw [LV, hn, hs, ht, hm]) <;> rfl)
      clear LV
      go_enter Tryz.func20, Tryz.ntmps20
      go_wp2_with fail
      go_ret
      exact ⟨by (rw [L.out]) <;> rfl, (Bel.refl _).alloc _⟩
 ·have LV := vs1 n s m t
  have hnn : (n == 0) = true \/ (n == 0) = false := by cases (n == 0) <;> simp
  have hss : (s == 0) = true \/ (s == 0) = false := by cases (s == 0) <;> simp
  rcases hnn with hn | hn <;> rcases hss with hs | hs
  all_goals
   cases hd : sndB n s with
  | false =>
   have L := Hd (show vsnd ⟨1, n, s, t, m⟩ = false by (rw [LV, hd]) <;> rfl)
   clear LV
   have HC := Hd hd
   clear hd
   go_enter Tryz.func20, Tryz.ntmps20
   go_wp2_with (go_at_call 39; refine (Qai n s _).mono ?_; rintro e W1 ⟨rfl, hb1⟩; rw [HC.out]; obtain ⟨hc, hf⟩ := bcell hb1)
   go_ret
   exact ⟨by (rw [L.out]) <;> rfl, ((Bel.refl _).alloc _).trans hb1⟩
  | true =>
   cases ht : t.toList.isEmpty with
   | false =>
    have L := Hd (show vsnd ⟨1, n, s, t, m⟩ = false by (rw [LV, hd, ht]) <;> rfl)
    clear LV
    have HC := Hd hd
    clear hd
    go_enter Tryz.func20, Tryz.ntmps20
    go_wp2_with (go_at_call 39; refine (Qai n s _).mono ?_; rintro e W1 ⟨rfl, hb1⟩; rw [HC.out]; obtain ⟨hc, hf⟩ := bcell hb1)
    go_ret
    exact ⟨by (rw [L.out]) <;> rfl, ((Bel.refl _).alloc _).trans hb1⟩
   | true =>
    cases hm : (m == 0) with
    | false =>
     have L := Hd (show vsnd ⟨1, n, s, t, m⟩ = false by (rw [LV, hd, ht, hm]) <;> rfl)
     clear LV
     have HC := Hd hd
     clear hd
     go_enter Tryz.func20, Tryz.ntmps20
     go_wp2_with (go_at_call 39; refine (Qai n s _).mono ?_; rintro e W1 ⟨rfl, hb1⟩; rw [HC.out]; obtain ⟨hc, hf⟩ := bcell hb1)
     go_ret
     exact ⟨by (rw [L.out]) <;> rfl, ((Bel.refl _).alloc _).trans hb1⟩
    | true =>
     have L := Hd (show vsnd ⟨1, n, s, t, m⟩ = true by (rw [LV, hd, ht, hm]) <;> rfl)
     clear LV
     have HC := Hd hd
     clear hd
     go_enter Tryz.func20, Tryz.ntmps20
     go_wp2_with (go_at_call 39; refine (Qai n s _).mono ?_; rintro e W1 ⟨rfl, hb1⟩; rw [HC.out]; obtain ⟨hc, hf⟩ := bcell hb1)
     go_ret
     exact ⟨by (rw [L.out]) <;> rfl, ((Bel.refl _).alloc _).trans hb1⟩
 ·have LV := vs2 n s m t
  cases hn : (n == 0) with
  | false =>
   have L := Hd (show vsnd ⟨2, n, s, t, m⟩ = false by (rw [LV, hn]) <;> rfl)
   clear LV
   go_enter Tryz.func20, Tryz.ntmps20
   go_wp2_with fail
   go_ret
   exact ⟨by (rw [L.out]) <;> rfl, (Bel.refl _).alloc _⟩
  | true =>
   cases hs : (s == 0) with
   | false =>
    have L := Hd (show vsnd ⟨2, n, s, t, m⟩ = false by (rw [LV, hn, hs]) <;> rfl)
    clear LV
    go_enter Tryz.func20, Tryz.ntmps20
    go_wp2_with fail
    go_ret
    exact ⟨by (rw [L.out]) <;> rfl, (Bel.refl _).alloc _⟩
   | true =>
    cases hm : (m == 0) with
    | false =>
     have L := Hd (show vsnd ⟨2, n, s, t, m⟩ = false by (rw [LV, hn, hs, hm]) <;> rfl)
     clear LV
     go_enter Tryz.func20, Tryz.ntmps20
     go_wp2_with fail
     go_ret
     exact ⟨by (rw [L.out]) <;> rfl, (Bel.refl _).alloc _⟩
    | true =>
     cases hz : decide ((t.size : Int) <= 256) with
     | false =>
      have L := Hd (show vsnd ⟨2, n, s, t, m⟩ = false by (rw [LV, hn, hs, hm, hz]) <;> rfl)
      clear LV
      go_enter Tryz.func20, Tryz.ntmps20
      go_wp2_with fail
      go_ret
      exact ⟨by (rw [L.out]) <;> rfl, (Bel.refl _).alloc _⟩
     | true =>
      cases hg : goodB t with
      | false =>
       have L := Hd (show vsnd ⟨2, n, s, t, m⟩ = false by (rw [LV, hn, hs, hm, hz, hg]) <;> rfl)
       clear LV
       have HC := Hd hg
       have HZ := Hd (show t.size <= 256 by have h1 := of_decide_eq_true hz; omega)
       clear hg
       go_enter Tryz.func20, Tryz.ntmps20
       go_wp2_with (go_at_call 40; refine (Qgd t (by have := HZ.out; omega) _).mono ?_; rintro e W1 ⟨rfl, rfl⟩; rw [HC.out])
       go_ret
       exact ⟨by (rw [L.out]) <;> rfl, (Bel.refl _).alloc _⟩
      | true =>
       have L := Hd (show vsnd ⟨2, n, s, t, m⟩ = true by (rw [LV, hn, hs, hm, hz, hg]) <;> rfl)
       clear LV
       have HC := Hd hg
       have HZ := Hd (show t.size <= 256 by have h1 := of_decide_eq_true hz; omega)
       clear hg
       go_enter Tryz.func20, Tryz.ntmps20
       go_wp2_with (go_at_call 40; refine (Qgd t (by have := HZ.out; omega) _).mono ?_; rintro e W1 ⟨rfl, rfl⟩; rw [HC.out])
       go_ret
       exact ⟨by (rw [L.out]) <;> rfl, (Bel.refl _).alloc _⟩
 ·have LV := vs3 n s m t
  cases hn : (n == 0) with
  | false =>
   have L := Hd (show vsnd ⟨3, n, s, t, m⟩ = false by (rw [LV, hn]) <;> rfl)
   clear LV
   go_enter Tryz.func20, Tryz.ntmps20
   go_wp2_with fail
   go_ret
   exact ⟨by (rw [L.out]) <;> rfl, (Bel.refl _).alloc _⟩
  | true =>
   cases hs : (s == 0) with
   | false =>
    have L := Hd (show vsnd ⟨3, n, s, t, m⟩ = false by (rw [LV, hn, hs]) <;> rfl)
    clear LV
    go_enter Tryz.func20, Tryz.ntmps20
    go_wp2_with fail
    go_ret
    exact ⟨by (rw [L.out]) <;> rfl, (Bel.refl _).alloc _⟩
   | true =>
    cases ht : t.toList.isEmpty with
    | false =>
     have L := Hd (show vsnd ⟨3, n, s, t, m⟩ = false by (rw [LV, hn, hs, ht]) <;> rfl)
     clear LV
     go_enter Tryz.func20, Tryz.ntmps20
     go_wp2_with fail
     go_ret
     exact ⟨by (rw [L.out]) <;> rfl, (Bel.refl _).alloc _⟩
    | true =>
     cases hm : (m == 0) with
     | true =>
      have L := Hd (show vsnd ⟨3, n, s, t, m⟩ = true by (rw [LV, hn, hs, ht, hm]) <;> rfl)
      clear LV
      go_enter Tryz.func20, Tryz.ntmps20
      go_wp2_with fail
      go_ret
      exact ⟨by (rw [L.out]) <;> rfl, (Bel.refl _).alloc _⟩
     | false =>
      cases hm1 : (m == 1) with
      | true =>
       have L := Hd (show vsnd ⟨3, n, s, t, m⟩ = true by (rw [LV, hn, hs, ht, hm, hm1]) <;> rfl)
       clear LV
       go_enter Tryz.func20, Tryz.ntmps20
       go_wp2_with fail
       go_ret
       exact ⟨by (rw [L.out]) <;> rfl, (Bel.refl _).alloc _⟩
      | false =>
       have L := Hd (show vsnd ⟨3, n, s, t, m⟩ = false by (rw [LV, hn, hs, ht, hm, hm1]) <;> rfl)
       clear LV
       go_enter Tryz.func20, Tryz.ntmps20
       go_wp2_with fail
       go_ret
       exact ⟨by (rw [L.out]) <;> rfl, (Bel.refl _).alloc _⟩
 ·have LV := vs4 n s m t
  cases hn : (n == 0) with
  | false =>
   have L := Hd (show vsnd ⟨4, n, s, t, m⟩ = false by (rw [LV, hn]) <;> rfl)
   clear LV
   go_enter Tryz.func20, Tryz.ntmps20
   go_wp2_with fail
   go_ret
   exact ⟨by (rw [L.out]) <;> rfl, (Bel.refl _).alloc _⟩
  | true =>
   cases hs : (s == 0) with
   | false =>
    have L := Hd (show vsnd ⟨4, n, s, t, m⟩ = false by (rw [LV, hn, hs]) <;> rfl)
    clear LV
    go_enter Tryz.func20, Tryz.ntmps20
    go_wp2_with fail
    go_ret
    exact ⟨by (rw [L.out]) <;> rfl, (Bel.refl _).alloc _⟩
   | true =>
    cases ht : t.toList.isEmpty with
    | false =>
     have L := Hd (show vsnd ⟨4, n, s, t, m⟩ = false by (rw [LV, hn, hs, ht]) <;> rfl)
     clear LV
     go_enter Tryz.func20, Tryz.ntmps20
     go_wp2_with fail
     go_ret
     exact ⟨by (rw [L.out]) <;> rfl, (Bel.refl _).alloc _⟩
    | true =>
     cases hlo : decide (0 <= m) with
     | false =>
      have L := Hd (show vsnd ⟨4, n, s, t, m⟩ = false by (rw [LV, hn, hs, ht, hlo]) <;> rfl)
      clear LV
      go_enter Tryz.func20, Tryz.ntmps20
      go_wp2_with fail
      go_ret
      exact ⟨by (rw [L.out]) <;> rfl, (Bel.refl _).alloc _⟩
     | true =>
      cases hhi : decide (m <= 3652058) with
      | false =>
       have L := Hd (show vsnd ⟨4, n, s, t, m⟩ = false by (rw [LV, hn, hs, ht, hlo, hhi]) <;> rfl)
       clear LV
       go_enter Tryz.func20, Tryz.ntmps20
       go_wp2_with fail
       go_ret
       exact ⟨by (rw [L.out]) <;> rfl, (Bel.refl _).alloc _⟩
      | true =>
       have L := Hd (show vsnd ⟨4, n, s, t, m⟩ = true by (rw [LV, hn, hs, ht, hlo, hhi]) <;> rfl)
       clear LV
       go_enter Tryz.func20, Tryz.ntmps20
       go_wp2_with fail
       go_ret
       exact ⟨by (rw [L.out]) <;> rfl, (Bel.refl _).alloc _⟩
 have L := Hd (vsnd5 k n s m t hk)
 have k0 : (k == 0) = false := by rw [bN]; exact hk.1
 have k1 : (k == 1) = false := by rw [bN]; exact hk.2.1
 have k2 : (k == 2) = false := by rw [bN]; exact hk.2.2.1
 have k3 : (k == 3) = false := by rw [bN]; exact hk.2.2.2.1
 have k4 : (k == 4) = false := by rw [bN]; exact hk.2.2.2.2
 clear hk
 cases hn : (n == 0) with
 | false =>
  go_enter Tryz.func20, Tryz.ntmps20
  go_wp2_with fail
  go_ret
  exact ⟨by (rw [L.out]) <;> rfl, (Bel.refl _).alloc _⟩
 | true =>
  cases hs : (s == 0) with
  | false =>
   go_enter Tryz.func20, Tryz.ntmps20
   go_wp2_with fail
   go_ret
   exact ⟨by (rw [L.out]) <;> rfl, (Bel.refl _).alloc _⟩
  | true =>
   go_enter Tryz.func20, Tryz.ntmps20
   go_wp2_with fail
   go_ret
   exact ⟨by (rw [L.out]) <;> rfl, (Bel.refl _).alloc _⟩
end Go.Proofs.YtjckpkamhdbcnaaGreatDoor
