import Derived.Test.YthcpgbbmgabpnaaOpn
import Derived.Test.YthcpgbbmgabpnaaUni
import Derived.Test.YthcpgbbmgabpnaaOwn
import Derived.Laws.RangeAny
import Derived.Lib.OthersKept
namespace Go.Proofs.Ythcpgbbmgabpnaa
set_option linter.unusedSimpArgs false
set_option linter.unusedVariables false
open Go.RowKit

/-! Chars: the sign that bytes begin with: the library's way and the document's. -/
def sgn (r : Nat) : Bool := r == 9 || r == 10 || r == 13 || (decide (32 ≤ r) && decide (r ≤ 0xD7FF)) || (decide (0xE000 ≤ r) && decide (r ≤ 0xFFFD)) || (decide (0x10000 ≤ r) && decide (r ≤ 0x10FFFF))
/-- As Go ranges over a string: g the bytes from here on, m how many are left. -/
def dec (g : Nat → Nat) (m : Nat) : Nat × Nat :=
  if g 0 < 0x80 then (g 0, 1)
  else if g 0 / 32 = 6 ∧ (1 < m ∧ g 1 / 64 = 2) then
    (if 0x80 ≤ g 0 % 32 * 64 + g 1 % 64 then (g 0 % 32 * 64 + g 1 % 64, 2) else (0xFFFD, 1))
  else if g 0 / 16 = 14 ∧ (1 < m ∧ g 1 / 64 = 2) ∧ (2 < m ∧ g 2 / 64 = 2) then
    (if 0x800 ≤ g 0 % 16 * 4096 + g 1 % 64 * 64 + g 2 % 64 ∧ (g 0 % 16 * 4096 + g 1 % 64 * 64 + g 2 % 64 < 0xD800 ∨ 0xE000 ≤ g 0 % 16 * 4096 + g 1 % 64 * 64 + g 2 % 64) then
      (g 0 % 16 * 4096 + g 1 % 64 * 64 + g 2 % 64, 3) else (0xFFFD, 1))
  else if g 0 / 8 = 30 ∧ (1 < m ∧ g 1 / 64 = 2) ∧ (2 < m ∧ g 2 / 64 = 2) ∧ (3 < m ∧ g 3 / 64 = 2) then
    (if 0x10000 ≤ g 0 % 8 * 262144 + g 1 % 64 * 4096 + g 2 % 64 * 64 + g 3 % 64 ∧ g 0 % 8 * 262144 + g 1 % 64 * 4096 + g 2 % 64 * 64 + g 3 % 64 ≤ 0x10FFFF then
      (g 0 % 8 * 262144 + g 1 % 64 * 4096 + g 2 % 64 * 64 + g 3 % 64, 4) else (0xFFFD, 1))
  else (0xFFFD, 1)
/-- As the document looks: 0 for none. -/
def first (g : Nat → Nat) (m : Nat) : Nat × Nat :=
  if g 0 < 0x80 then (if sgn (g 0) = true then (g 0, 1) else (0, 0))
  else if 0xC0 ≤ g 0 ∧ g 0 < 0xE0 then
    (if 1 < m ∧ 0x80 ≤ g 1 ∧ g 1 < 0xC0 ∧ 0x80 ≤ (g 0 - 0xC0) * 64 + (g 1 - 0x80) ∧ sgn ((g 0 - 0xC0) * 64 + (g 1 - 0x80)) = true then ((g 0 - 0xC0) * 64 + (g 1 - 0x80), 2) else (0, 0))
  else if 0xE0 ≤ g 0 ∧ g 0 < 0xF0 then
    (if 2 < m ∧ 0x80 ≤ g 1 ∧ g 1 < 0xC0 ∧ 0x80 ≤ g 2 ∧ g 2 < 0xC0 ∧ 0x800 ≤ ((g 0 - 0xE0) * 64 + (g 1 - 0x80)) * 64 + (g 2 - 0x80) ∧ sgn (((g 0 - 0xE0) * 64 + (g 1 - 0x80)) * 64 + (g 2 - 0x80)) = true then
      (((g 0 - 0xE0) * 64 + (g 1 - 0x80)) * 64 + (g 2 - 0x80), 3) else (0, 0))
  else if 0xF0 ≤ g 0 ∧ g 0 < 0xF8 then
    (if 3 < m ∧ 0x80 ≤ g 1 ∧ g 1 < 0xC0 ∧ 0x80 ≤ g 2 ∧ g 2 < 0xC0 ∧ 0x80 ≤ g 3 ∧ g 3 < 0xC0 ∧ 0x10000 ≤ (((g 0 - 0xF0) * 64 + (g 1 - 0x80)) * 64 + (g 2 - 0x80)) * 64 + (g 3 - 0x80) ∧
        sgn ((((g 0 - 0xF0) * 64 + (g 1 - 0x80)) * 64 + (g 2 - 0x80)) * 64 + (g 3 - 0x80)) = true then
      ((((g 0 - 0xF0) * 64 + (g 1 - 0x80)) * 64 + (g 2 - 0x80)) * 64 + (g 3 - 0x80), 4) else (0, 0))
  else (0, 0)
/-- Whether the bytes are U+FFFD's own. -/
def own (g : Nat → Nat) (m : Nat) : Bool := decide (2 < m) && decide (g 0 = 0xEF) && decide (g 1 = 0xBF) && decide (g 2 = 0xBD)
/-- What the program holds for a sign that may stand. -/
def may (g : Nat → Nat) (m : Nat) : Bool := sgn (dec g m).1 && !(decide ((dec g m).1 = 0xFFFD) && !own g m)
theorem sgn_iff (r : Nat) : sgn r = true ↔ (r = 9 ∨ r = 10 ∨ r = 13 ∨ (32 ≤ r ∧ r ≤ 0xD7FF) ∨ (0xE000 ≤ r ∧ r ≤ 0xFFFD) ∨ (0x10000 ≤ r ∧ r ≤ 0x10FFFF)) := by
  unfold sgn
  simp only [Bool.or_eq_true, Bool.and_eq_true, beq_iff_eq, decide_eq_true_eq]
  omega
theorem own_iff (g : Nat → Nat) (m : Nat) : own g m = true ↔ (2 < m ∧ g 0 = 0xEF ∧ g 1 = 0xBF ∧ g 2 = 0xBD) := by
  unfold own
  simp only [Bool.and_eq_true, decide_eq_true_eq]
  omega
theorem may_iff (g : Nat → Nat) (m : Nat) : may g m = true ↔ (sgn (dec g m).1 = true ∧ ((dec g m).1 = 0xFFFD → own g m = true)) := by
  unfold may
  cases sgn (dec g m).1 <;> cases own g m <;> by_cases h : (dec g m).1 = 0xFFFD <;> simp [h]
theorem pair (g : Nat → Nat) (m : Nat) (h0 : ∀ i, g i < 256) (P : Prop) [Decidable P] (r n : Nat) (hd : dec g m = if P then (r, n) else (0xFFFD, 1)) (hP : P → (r = 0xFFFD → own g m = true)) (hN : ¬ P → own g m = false) :
    (if may g m = true then dec g m else (0, 0)) = if P ∧ sgn r = true then (r, n) else (0, 0) := by
  by_cases hp : P
  · rw [if_pos hp] at hd
    by_cases hs : sgn r = true
    · rw [if_pos ((may_iff g m).2 (by rw [hd]; exact ⟨hs, hP hp⟩)), if_pos ⟨hp, hs⟩, hd]
    · rw [if_neg (fun h => hs (by have := ((may_iff g m).1 h).1; rwa [hd] at this)), if_neg (fun h => hs h.2)]
  · rw [if_neg hp] at hd
    rw [if_neg (fun h => by
      have := ((may_iff g m).1 h).2 (by rw [hd])
      rw [hN hp] at this
      cases this), if_neg (fun h => hp h.1)]
theorem own_no {g : Nat → Nat} {m : Nat} (h : ¬ (2 < m ∧ g 0 = 0xEF ∧ g 1 = 0xBF ∧ g 2 = 0xBD)) : own g m = false := by
  cases ho : own g m with
  | false => rfl
  | true => exact absurd ((own_iff g m).1 ho) h
theorem first_is (g : Nat → Nat) (m : Nat) (h0 : ∀ i, g i < 256) (hm : 0 < m) : (if may g m = true then dec g m else (0, 0)) = first g m := by
  have a0 := h0 0
  have a1 := h0 1
  have a2 := h0 2
  have a3 := h0 3
  by_cases c1 : g 0 < 0x80
  · have hd : dec g m = if True then (g 0, 1) else (0xFFFD, 1) := by rw [dec, if_pos c1, if_pos trivial]
    rw [pair g m h0 True _ _ hd (fun _ h => by omega) (fun h => absurd trivial h), first, if_pos c1]
    simp
  · by_cases c2 : g 0 / 32 = 6
    · have e : g 0 % 32 * 64 + g 1 % 64 = g 0 % 32 * 64 + g 1 % 64 := rfl
      have hd : dec g m = if ((1 < m ∧ g 1 / 64 = 2) ∧ 0x80 ≤ g 0 % 32 * 64 + g 1 % 64) then (g 0 % 32 * 64 + g 1 % 64, 2) else (0xFFFD, 1) := by
        rw [dec, if_neg c1]
        by_cases c3 : 1 < m ∧ g 1 / 64 = 2
        · rw [if_pos ⟨c2, c3⟩]
          by_cases c4 : 0x80 ≤ g 0 % 32 * 64 + g 1 % 64
          · rw [if_pos c4, if_pos ⟨c3, c4⟩]
          · rw [if_neg c4, if_neg (fun h => c4 h.2)]
        · rw [if_neg (fun h => c3 h.2), if_neg (by omega), if_neg (by omega), if_neg (fun h => c3 h.1)]
      rw [pair g m h0 _ _ _ hd (fun _ h => by omega) (fun _ => own_no (by omega)), first, if_neg c1, if_pos (show 0xC0 ≤ g 0 ∧ g 0 < 0xE0 by omega)]
      by_cases c3 : 1 < m ∧ g 1 / 64 = 2
      · have e1 : (g 0 - 0xC0) * 64 + (g 1 - 0x80) = g 0 % 32 * 64 + g 1 % 64 := by omega
        rw [e1]
        have : (((1 < m ∧ g 1 / 64 = 2) ∧ 0x80 ≤ g 0 % 32 * 64 + g 1 % 64) ∧ sgn (g 0 % 32 * 64 + g 1 % 64) = true) ↔ (1 < m ∧ 0x80 ≤ g 1 ∧ g 1 < 0xC0 ∧ 0x80 ≤ g 0 % 32 * 64 + g 1 % 64 ∧ sgn (g 0 % 32 * 64 + g 1 % 64) = true) := by
          constructor
          · rintro ⟨⟨⟨x, y⟩, z⟩, u⟩; exact ⟨x, by omega, by omega, z, u⟩
          · rintro ⟨x, y, y', z, u⟩; exact ⟨⟨⟨x, by omega⟩, z⟩, u⟩
        by_cases hq : (1 < m ∧ 0x80 ≤ g 1 ∧ g 1 < 0xC0 ∧ 0x80 ≤ g 0 % 32 * 64 + g 1 % 64 ∧ sgn (g 0 % 32 * 64 + g 1 % 64) = true)
        · rw [if_pos hq, if_pos (this.2 hq)]
        · rw [if_neg hq, if_neg (fun h => hq (this.1 h))]
      · rw [if_neg (fun h => c3 h.1.1), if_neg (fun h => c3 ⟨h.1, by omega⟩)]
    · by_cases c5 : g 0 / 16 = 14
      · have hd : dec g m = if (((1 < m ∧ g 1 / 64 = 2) ∧ (2 < m ∧ g 2 / 64 = 2)) ∧ 0x800 ≤ g 0 % 16 * 4096 + g 1 % 64 * 64 + g 2 % 64 ∧ (g 0 % 16 * 4096 + g 1 % 64 * 64 + g 2 % 64 < 0xD800 ∨ 0xE000 ≤ g 0 % 16 * 4096 + g 1 % 64 * 64 + g 2 % 64)) then (g 0 % 16 * 4096 + g 1 % 64 * 64 + g 2 % 64, 3) else (0xFFFD, 1) := by
          rw [dec, if_neg c1, if_neg (fun h => c2 h.1)]
          by_cases c3 : (1 < m ∧ g 1 / 64 = 2) ∧ (2 < m ∧ g 2 / 64 = 2)
          · rw [if_pos ⟨c5, c3⟩]
            by_cases c4 : 0x800 ≤ g 0 % 16 * 4096 + g 1 % 64 * 64 + g 2 % 64 ∧ (g 0 % 16 * 4096 + g 1 % 64 * 64 + g 2 % 64 < 0xD800 ∨ 0xE000 ≤ g 0 % 16 * 4096 + g 1 % 64 * 64 + g 2 % 64)
            · rw [if_pos c4, if_pos ⟨c3, c4⟩]
            · rw [if_neg c4, if_neg (fun h => c4 h.2)]
          · rw [if_neg (fun h => c3 h.2), if_neg (by omega), if_neg (fun h => c3 h.1)]
        rw [pair g m h0 _ _ _ hd (fun h h' => (own_iff g m).2 (by omega)) (fun h => own_no (by omega)), first, if_neg c1, if_neg (show ¬ (0xC0 ≤ g 0 ∧ g 0 < 0xE0) by omega), if_pos (show 0xE0 ≤ g 0 ∧ g 0 < 0xF0 by omega)]
        by_cases c3 : (1 < m ∧ g 1 / 64 = 2) ∧ (2 < m ∧ g 2 / 64 = 2)
        · have e1 : ((g 0 - 0xE0) * 64 + (g 1 - 0x80)) * 64 + (g 2 - 0x80) = g 0 % 16 * 4096 + g 1 % 64 * 64 + g 2 % 64 := by omega
          rw [e1]
          generalize g 0 % 16 * 4096 + g 1 % 64 * 64 + g 2 % 64 = r
          have := sgn_iff r
          by_cases hs : sgn r = true
          · have hr := this.1 hs
            by_cases h8 : 0x800 ≤ r
            · rw [if_pos ⟨⟨c3, h8, by omega⟩, hs⟩, if_pos ⟨by omega, by omega, by omega, by omega, by omega, h8, hs⟩]
            · rw [if_neg (fun h => h8 h.1.2.1), if_neg (fun h => h8 h.2.2.2.2.2.1)]
          · rw [if_neg (fun h => hs h.2), if_neg (fun h => hs h.2.2.2.2.2.2)]
        · rw [if_neg (fun h => c3 h.1.1), if_neg (fun h => c3 (by omega))]
      · by_cases c6 : g 0 / 8 = 30
        · have hd : dec g m = if (((1 < m ∧ g 1 / 64 = 2) ∧ (2 < m ∧ g 2 / 64 = 2) ∧ (3 < m ∧ g 3 / 64 = 2)) ∧ 0x10000 ≤ g 0 % 8 * 262144 + g 1 % 64 * 4096 + g 2 % 64 * 64 + g 3 % 64 ∧ g 0 % 8 * 262144 + g 1 % 64 * 4096 + g 2 % 64 * 64 + g 3 % 64 ≤ 0x10FFFF) then (g 0 % 8 * 262144 + g 1 % 64 * 4096 + g 2 % 64 * 64 + g 3 % 64, 4) else (0xFFFD, 1) := by
            rw [dec, if_neg c1, if_neg (fun h => c2 h.1), if_neg (fun h => c5 h.1)]
            by_cases c3 : (1 < m ∧ g 1 / 64 = 2) ∧ (2 < m ∧ g 2 / 64 = 2) ∧ (3 < m ∧ g 3 / 64 = 2)
            · rw [if_pos ⟨c6, c3⟩]
              by_cases c4 : 0x10000 ≤ g 0 % 8 * 262144 + g 1 % 64 * 4096 + g 2 % 64 * 64 + g 3 % 64 ∧ g 0 % 8 * 262144 + g 1 % 64 * 4096 + g 2 % 64 * 64 + g 3 % 64 ≤ 0x10FFFF
              · rw [if_pos c4, if_pos ⟨c3, c4⟩]
              · rw [if_neg c4, if_neg (fun h => c4 h.2)]
            · rw [if_neg (fun h => c3 h.2), if_neg (fun h => c3 h.1)]
          rw [pair g m h0 _ _ _ hd (fun h h' => by omega) (fun h => own_no (by omega)), first, if_neg c1, if_neg (show ¬ (0xC0 ≤ g 0 ∧ g 0 < 0xE0) by omega), if_neg (show ¬ (0xE0 ≤ g 0 ∧ g 0 < 0xF0) by omega), if_pos (show 0xF0 ≤ g 0 ∧ g 0 < 0xF8 by omega)]
          by_cases c3 : (1 < m ∧ g 1 / 64 = 2) ∧ (2 < m ∧ g 2 / 64 = 2) ∧ (3 < m ∧ g 3 / 64 = 2)
          · have e1 : (((g 0 - 0xF0) * 64 + (g 1 - 0x80)) * 64 + (g 2 - 0x80)) * 64 + (g 3 - 0x80) = g 0 % 8 * 262144 + g 1 % 64 * 4096 + g 2 % 64 * 64 + g 3 % 64 := by omega
            rw [e1]
            generalize g 0 % 8 * 262144 + g 1 % 64 * 4096 + g 2 % 64 * 64 + g 3 % 64 = r
            have := sgn_iff r
            by_cases hs : sgn r = true
            · have hr := this.1 hs
              by_cases h8 : 0x10000 ≤ r
              · rw [if_pos ⟨⟨c3, h8, by omega⟩, hs⟩, if_pos ⟨by omega, by omega, by omega, by omega, by omega, by omega, by omega, h8, hs⟩]
              · rw [if_neg (fun h => h8 h.1.2.1), if_neg (fun h => h8 h.2.2.2.2.2.2.2.1)]
            · rw [if_neg (fun h => hs h.2), if_neg (fun h => hs h.2.2.2.2.2.2.2.2)]
          · rw [if_neg (fun h => c3 h.1.1), if_neg (fun h => c3 (by omega))]
        · have hd : dec g m = if False then (0, 0) else (0xFFFD, 1) := by
            rw [dec, if_neg c1, if_neg (fun h => c2 h.1), if_neg (fun h => c5 h.1), if_neg (fun h => c6 h.1), if_neg (fun h => h)]
          rw [pair g m h0 False _ _ hd (fun h => h.elim) (fun _ => own_no (by omega)), first, if_neg c1, if_neg (show ¬ (0xC0 ≤ g 0 ∧ g 0 < 0xE0) by omega), if_neg (show ¬ (0xE0 ≤ g 0 ∧ g 0 < 0xF0) by omega), if_neg (show ¬ (0xF0 ≤ g 0 ∧ g 0 < 0xF8) by omega)]
          simp
/-- The bytes from a place on. -/
def gOf (s : ByteArray) (pos i : Nat) : Nat := (s.get! (pos + i)).toNat
theorem gOf_lt (s : ByteArray) (pos i : Nat) : gOf s pos i < 256 := (s.get! (pos + i)).toNat_lt
theorem ite_ext {P Q : Prop} [Decidable P] [Decidable Q] {α : Type} {a b c d : α} (h : P ↔ Q) (h1 : Q → a = c) (h2 : ¬ Q → b = d) : (if P then a else b) = if Q then c else d := by
  by_cases hq : Q
  · rw [if_pos (h.2 hq), if_pos hq, h1 hq]
  · rw [if_neg (fun hp => hq (h.1 hp)), if_neg hq, h2 hq]
theorem decode_is (s : ByteArray) (pos : Nat) (h : pos < s.size) : Utf8.decode s pos = dec (gOf s pos) (s.size - pos) := by
  have a0 := gOf_lt s pos 0
  have a1 := gOf_lt s pos 1
  have a2 := gOf_lt s pos 2
  have a3 := gOf_lt s pos 3
  have c : ∀ k, (decide (pos + k < s.size) && gOf s pos k / 64 == 2) = decide (k < s.size - pos ∧ gOf s pos k / 64 = 2) := by
    intro k
    rw [Bool.eq_iff_iff]
    simp only [Bool.and_eq_true, decide_eq_true_eq, beq_iff_eq]
    omega
  have e : Utf8.decode s pos = (
    if gOf s pos 0 < 0x80 then (gOf s pos 0, 1)
    else if (gOf s pos 0 / 32 == 6 && (decide (pos + 1 < s.size) && gOf s pos 1 / 64 == 2)) = true then
      (if gOf s pos 0 % 32 * 64 + gOf s pos 1 % 64 ≥ 0x80 then (gOf s pos 0 % 32 * 64 + gOf s pos 1 % 64, 2) else (Utf8.runeError, 1))
    else if (gOf s pos 0 / 16 == 14 && (decide (pos + 1 < s.size) && gOf s pos 1 / 64 == 2) && (decide (pos + 2 < s.size) && gOf s pos 2 / 64 == 2)) = true then
      (if (decide (gOf s pos 0 % 16 * 4096 + gOf s pos 1 % 64 * 64 + gOf s pos 2 % 64 ≥ 0x800) && Utf8.valid (gOf s pos 0 % 16 * 4096 + gOf s pos 1 % 64 * 64 + gOf s pos 2 % 64 : Nat)) = true then (gOf s pos 0 % 16 * 4096 + gOf s pos 1 % 64 * 64 + gOf s pos 2 % 64, 3) else (Utf8.runeError, 1))
    else if (gOf s pos 0 / 8 == 30 && (decide (pos + 1 < s.size) && gOf s pos 1 / 64 == 2) && (decide (pos + 2 < s.size) && gOf s pos 2 / 64 == 2) && (decide (pos + 3 < s.size) && gOf s pos 3 / 64 == 2)) = true then
      (if (decide (gOf s pos 0 % 8 * 262144 + gOf s pos 1 % 64 * 4096 + gOf s pos 2 % 64 * 64 + gOf s pos 3 % 64 ≥ 0x10000) && Utf8.valid (gOf s pos 0 % 8 * 262144 + gOf s pos 1 % 64 * 4096 + gOf s pos 2 % 64 * 64 + gOf s pos 3 % 64 : Nat)) = true then (gOf s pos 0 % 8 * 262144 + gOf s pos 1 % 64 * 4096 + gOf s pos 2 % 64 * 64 + gOf s pos 3 % 64, 4) else (Utf8.runeError, 1))
    else (Utf8.runeError, 1)) := rfl
  rw [e, c 1, c 2, c 3]
  have v : ∀ r : Nat, Utf8.valid (r : Int) = true ↔ (r < 0xD800 ∨ (0xE000 ≤ r ∧ r ≤ 0x10FFFF)) := by
    intro r
    unfold Utf8.valid
    simp only [Bool.or_eq_true, Bool.and_eq_true, decide_eq_true_eq]
    omega
  simp only [Bool.and_eq_true, decide_eq_true_eq, beq_iff_eq, v]
  unfold dec Utf8.runeError
  generalize gOf s pos 0 = x0 at *
  generalize gOf s pos 1 = x1 at *
  generalize gOf s pos 2 = x2 at *
  generalize gOf s pos 3 = x3 at *
  refine ite_ext Iff.rfl (fun _ => rfl) fun h1 => ite_ext Iff.rfl (fun _ => ite_ext Iff.rfl (fun _ => rfl) fun _ => rfl) fun h2 => ite_ext (by rw [and_assoc]) (fun h3 => ?_) fun h3 => ite_ext (by rw [and_assoc, and_assoc]) (fun h5 => ?_) fun _ => rfl
  · have hb : x0 % 16 * 4096 + x1 % 64 * 64 + x2 % 64 ≤ 0xFFFF := by omega
    revert hb
    generalize x0 % 16 * 4096 + x1 % 64 * 64 + x2 % 64 = r
    intro hb
    exact ite_ext (by omega) (fun _ => rfl) fun _ => rfl
  · generalize x0 % 8 * 262144 + x1 % 64 * 4096 + x2 % 64 * 64 + x3 % 64 = r
    exact ite_ext (by omega) (fun _ => rfl) fun _ => rfl
/-- Whether a sign that may stand begins at a place, and how many bytes it has. -/
def okAt (s : ByteArray) (pos : Nat) : Bool := may (gOf s pos) (s.size - pos)
def wdAt (s : ByteArray) (pos : Nat) : Nat := (dec (gOf s pos) (s.size - pos)).2
def badFrom (s : ByteArray) : Nat → Nat → Int
  | 0, _ => -1
  | f + 1, pos => if pos < s.size then (if okAt s pos = true then badFrom s f (pos + wdAt s pos) else pos) else -1
def badV (s : ByteArray) : Int := badFrom s s.size 0
end Go.Proofs.Ythcpgbbmgabpnaa
