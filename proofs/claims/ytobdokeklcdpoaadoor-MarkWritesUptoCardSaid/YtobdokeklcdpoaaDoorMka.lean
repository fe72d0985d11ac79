import Derived.Test.YtobdokeklcdpoaaDoorKit
import Derived.Test.YtobdokeklcdpoaaDoorRow
import Derived.Test.YtobdokeklcdpoaaDoorOpn
import Derived.Test.YtobdokeklcdpoaaDoorOwn
import Derived.Test.YtobdokeklcdpoaaDoorUni
import Derived.Test.YtobdokeklcdpoaaDoorShelf
import Derived.Laws.RangeAny
import Derived.Lib.OthersKept
import Derived.Deep.LoopGhost
import Derived.Deep.QuietTactic
import Derived.BigQuiet
import Derived.Shelf.Strings.BuilderRune
import Derived.Lib.Hide
import Derived.Lib.MapLaws
namespace Go.Proofs.YtobdokeklcdpoaaDoor
set_option linter.unusedSimpArgs false
set_option linter.unusedVariables false
/-! Merged out of the texts of the layers below: only what is used. -/
section
open Go.RowKit
def sgn (r : Nat) : Bool := r == 9 || r == 10 || r == 13 || (decide (32 ≤ r) && decide (r ≤ 0xD7FF)) || (decide (0xE000 ≤ r) && decide (r ≤ 0xFFFD)) || (decide (0x10000 ≤ r) && decide (r ≤ 0x10FFFF))
/-- As Go ranges over a string: g the bytes from here on, m how many are left. -/
def dec (g : Nat → Nat) (m : Nat) : Nat × Nat :=
  if g 0 < 0x80 then (g 0, 1)
  else if g 0 / 32 = 6 ∧ (1 < m ∧ g 1 / 64 = 2) then
    (if 0x80 ≤ g 0 % 32 * 64 + g 1 % 64 then (g 0 % 32 * 64 + g 1 % 64, 2) else (0xFFFD, 1))
  else if g 0 / 16 = 14 ∧ (1 < m ∧ g 1 / 64 = 2) ∧ (2 < m ∧ g 2 / 64 = 2) then
    (if 0x800 ≤ g 0 % 16 * 4096 + g 1 % 64 * 64 + g 2 % 64 ∧ (g 0 % 16 * 4096 + g 1 % 64 * 64 + g 2 % 64 < 0xD800 ∨ 0xE000 ≤ g 0 % 16 * 4096 + g 1 % 64 * 64 + g 2 % 64) then
      (g 0 % 16 * 4096 + g 1 % 64 * 64 + g 2 % 64, 3) else (0xFFFD, 1))
  else if g 0 / 8 = 30 ∧ (1 < m ∧ g 1 / 64 = 2) ∧ (2 < m ∧ g 2 / 64 = 2) ∧ (3 < m ∧ g 3 / 64 = 2) then
    (if 0x10000 ≤ g 0 % 8 * 262144 + g 1 % 64 * 4096 + g 2 % 64 * 64 + g 3 % 64 ∧ g 0 % 8 * 262144 + g 1 % 64 * 4096 + g 2 % 64 * 64 + g 3 % 64 ≤ 0x10FFFF then
      (g 0 % 8 * 262144 + g 1 % 64 * 4096 + g 2 % 64 * 64 + g 3 % 64, 4) else (0xFFFD, 1))
  else (0xFFFD, 1)
/-- As the document looks: 0 for none. -/
def first (g : Nat → Nat) (m : Nat) : Nat × Nat :=
  if g 0 < 0x80 then (if sgn (g 0) = true then (g 0, 1) else (0, 0))
  else if 0xC0 ≤ g 0 ∧ g 0 < 0xE0 then
    (if 1 < m ∧ 0x80 ≤ g 1 ∧ g 1 < 0xC0 ∧ 0x80 ≤ (g 0 - 0xC0) * 64 + (g 1 - 0x80) ∧ sgn ((g 0 - 0xC0) * 64 + (g 1 - 0x80)) = true then ((g 0 - 0xC0) * 64 + (g 1 - 0x80), 2) else (0, 0))
  else if 0xE0 ≤ g 0 ∧ g 0 < 0xF0 then
    (if 2 < m ∧ 0x80 ≤ g 1 ∧ g 1 < 0xC0 ∧ 0x80 ≤ g 2 ∧ g 2 < 0xC0 ∧ 0x800 ≤ ((g 0 - 0xE0) * 64 + (g 1 - 0x80)) * 64 + (g 2 - 0x80) ∧ sgn (((g 0 - 0xE0) * 64 + (g 1 - 0x80)) * 64 + (g 2 - 0x80)) = true then
      (((g 0 - 0xE0) * 64 + (g 1 - 0x80)) * 64 + (g 2 - 0x80), 3) else (0, 0))
  else if 0xF0 ≤ g 0 ∧ g 0 < 0xF8 then
    (if 3 < m ∧ 0x80 ≤ g 1 ∧ g 1 < 0xC0 ∧ 0x80 ≤ g 2 ∧ g 2 < 0xC0 ∧ 0x80 ≤ g 3 ∧ g 3 < 0xC0 ∧ 0x10000 ≤ (((g 0 - 0xF0) * 64 + (g 1 - 0x80)) * 64 + (g 2 - 0x80)) * 64 + (g 3 - 0x80) ∧
        sgn ((((g 0 - 0xF0) * 64 + (g 1 - 0x80)) * 64 + (g 2 - 0x80)) * 64 + (g 3 - 0x80)) = true then
      ((((g 0 - 0xF0) * 64 + (g 1 - 0x80)) * 64 + (g 2 - 0x80)) * 64 + (g 3 - 0x80), 4) else (0, 0))
  else (0, 0)
/-- Whether the bytes are U+FFFD's own. -/
def own (g : Nat → Nat) (m : Nat) : Bool := decide (2 < m) && decide (g 0 = 0xEF) && decide (g 1 = 0xBF) && decide (g 2 = 0xBD)
/-- What the program holds for a sign that may stand. -/
def may (g : Nat → Nat) (m : Nat) : Bool := sgn (dec g m).1 && !(decide ((dec g m).1 = 0xFFFD) && !own g m)
theorem sgn_iff (r : Nat) : sgn r = true ↔ (r = 9 ∨ r = 10 ∨ r = 13 ∨ (32 ≤ r ∧ r ≤ 0xD7FF) ∨ (0xE000 ≤ r ∧ r ≤ 0xFFFD) ∨ (0x10000 ≤ r ∧ r ≤ 0x10FFFF)) := by
  unfold sgn
  simp only [Bool.or_eq_true, Bool.and_eq_true, beq_iff_eq, decide_eq_true_eq]
  omega
theorem own_iff (g : Nat → Nat) (m : Nat) : own g m = true ↔ (2 < m ∧ g 0 = 0xEF ∧ g 1 = 0xBF ∧ g 2 = 0xBD) := by
  unfold own
  simp only [Bool.and_eq_true, decide_eq_true_eq]
  omega
theorem may_iff (g : Nat → Nat) (m : Nat) : may g m = true ↔ (sgn (dec g m).1 = true ∧ ((dec g m).1 = 0xFFFD → own g m = true)) := by
  unfold may
  cases sgn (dec g m).1 <;> cases own g m <;> by_cases h : (dec g m).1 = 0xFFFD <;> simp [h]
theorem pair (g : Nat → Nat) (m : Nat) (h0 : ∀ i, g i < 256) (P : Prop) [Decidable P] (r n : Nat) (hd : dec g m = if P then (r, n) else (0xFFFD, 1)) (hP : P → (r = 0xFFFD → own g m = true)) (hN : ¬ P → own g m = false) :
    (if may g m = true then dec g m else (0, 0)) = if P ∧ sgn r = true then (r, n) else (0, 0) := by
  by_cases hp : P
  · rw [if_pos hp] at hd
    by_cases hs : sgn r = true
    · rw [if_pos ((may_iff g m).2 (by rw [hd]; exact ⟨hs, hP hp⟩)), if_pos ⟨hp, hs⟩, hd]
    · rw [if_neg (fun h => hs (by have := ((may_iff g m).1 h).1; rwa [hd] at this)), if_neg (fun h => hs h.2)]
  · rw [if_neg hp] at hd
    rw [if_neg (fun h => by
      have := ((may_iff g m).1 h).2 (by rw [hd])
      rw [hN hp] at this
      cases this), if_neg (fun h => hp h.1)]
theorem own_no {g : Nat → Nat} {m : Nat} (h : ¬ (2 < m ∧ g 0 = 0xEF ∧ g 1 = 0xBF ∧ g 2 = 0xBD)) : own g m = false := by
  cases ho : own g m with
  | false => rfl
  | true => exact absurd ((own_iff g m).1 ho) h
theorem first_is (g : Nat → Nat) (m : Nat) (h0 : ∀ i, g i < 256) (hm : 0 < m) : (if may g m = true then dec g m else (0, 0)) = first g m := by
  have a0 := h0 0
  have a1 := h0 1
  have a2 := h0 2
  have a3 := h0 3
  by_cases c1 : g 0 < 0x80
  · have hd : dec g m = if True then (g 0, 1) else (0xFFFD, 1) := by rw [dec, if_pos c1, if_pos trivial]
    rw [pair g m h0 True _ _ hd (fun _ h => by omega) (fun h => absurd trivial h), first, if_pos c1]
    simp
  · by_cases c2 : g 0 / 32 = 6
    · have e : g 0 % 32 * 64 + g 1 % 64 = g 0 % 32 * 64 + g 1 % 64 := rfl
      have hd : dec g m = if ((1 < m ∧ g 1 / 64 = 2) ∧ 0x80 ≤ g 0 % 32 * 64 + g 1 % 64) then (g 0 % 32 * 64 + g 1 % 64, 2) else (0xFFFD, 1) := by
        rw [dec, if_neg c1]
        by_cases c3 : 1 < m ∧ g 1 / 64 = 2
        · rw [if_pos ⟨c2, c3⟩]
          by_cases c4 : 0x80 ≤ g 0 % 32 * 64 + g 1 % 64
          · rw [if_pos c4, if_pos ⟨c3, c4⟩]
          · rw [if_neg c4, if_neg (fun h => c4 h.2)]
        · rw [if_neg (fun h => c3 h.2), if_neg (by omega), if_neg (by omega), if_neg (fun h => c3 h.1)]
      rw [pair g m h0 _ _ _ hd (fun _ h => by omega) (fun _ => own_no (by omega)), first, if_neg c1, if_pos (show 0xC0 ≤ g 0 ∧ g 0 < 0xE0 by omega)]
      by_cases c3 : 1 < m ∧ g 1 / 64 = 2
      · have e1 : (g 0 - 0xC0) * 64 + (g 1 - 0x80) = g 0 % 32 * 64 + g 1 % 64 := by omega
        rw [e1]
        have : (((1 < m ∧ g 1 / 64 = 2) ∧ 0x80 ≤ g 0 % 32 * 64 + g 1 % 64) ∧ sgn (g 0 % 32 * 64 + g 1 % 64) = true) ↔ (1 < m ∧ 0x80 ≤ g 1 ∧ g 1 < 0xC0 ∧ 0x80 ≤ g 0 % 32 * 64 + g 1 % 64 ∧ sgn (g 0 % 32 * 64 + g 1 % 64) = true) := by
          constructor
          · rintro ⟨⟨⟨x, y⟩, z⟩, u⟩; exact ⟨x, by omega, by omega, z, u⟩
          · rintro ⟨x, y, y', z, u⟩; exact ⟨⟨⟨x, by omega⟩, z⟩, u⟩
        by_cases hq : (1 < m ∧ 0x80 ≤ g 1 ∧ g 1 < 0xC0 ∧ 0x80 ≤ g 0 % 32 * 64 + g 1 % 64 ∧ sgn (g 0 % 32 * 64 + g 1 % 64) = true)
        · rw [if_pos hq, if_pos (this.2 hq)]
        · rw [if_neg hq, if_neg (fun h => hq (this.1 h))]
      · rw [if_neg (fun h => c3 h.1.1), if_neg (fun h => c3 ⟨h.1, by omega⟩)]
    · by_cases c5 : g 0 / 16 = 14
      · have hd : dec g m = if (((1 < m ∧ g 1 / 64 = 2) ∧ (2 < m ∧ g 2 / 64 = 2)) ∧ 0x800 ≤ g 0 % 16 * 4096 + g 1 % 64 * 64 + g 2 % 64 ∧ (g 0 % 16 * 4096 + g 1 % 64 * 64 + g 2 % 64 < 0xD800 ∨ 0xE000 ≤ g 0 % 16 * 4096 + g 1 % 64 * 64 + g 2 % 64)) then (g 0 % 16 * 4096 + g 1 % 64 * 64 + g 2 % 64, 3) else (0xFFFD, 1) := by
          rw [dec, if_neg c1, if_neg (fun h => c2 h.1)]
          by_cases c3 : (1 < m ∧ g 1 / 64 = 2) ∧ (2 < m ∧ g 2 / 64 = 2)
          · rw [if_pos ⟨c5, c3⟩]
            by_cases c4 : 0x800 ≤ g 0 % 16 * 4096 + g 1 % 64 * 64 + g 2 % 64 ∧ (g 0 % 16 * 4096 + g 1 % 64 * 64 + g 2 % 64 < 0xD800 ∨ 0xE000 ≤ g 0 % 16 * 4096 + g 1 % 64 * 64 + g 2 % 64)
            · rw [if_pos c4, if_pos ⟨c3, c4⟩]
            · rw [if_neg c4, if_neg (fun h => c4 h.2)]
          · rw [if_neg (fun h => c3 h.2), if_neg (by omega), if_neg (fun h => c3 h.1)]
        rw [pair g m h0 _ _ _ hd (fun h h' => (own_iff g m).2 (by omega)) (fun h => own_no (by omega)), first, if_neg c1, if_neg (show ¬ (0xC0 ≤ g 0 ∧ g 0 < 0xE0) by omega), if_pos (show 0xE0 ≤ g 0 ∧ g 0 < 0xF0 by omega)]
        by_cases c3 : (1 < m ∧ g 1 / 64 = 2) ∧ (2 < m ∧ g 2 / 64 = 2)
        · have e1 : ((g 0 - 0xE0) * 64 + (g 1 - 0x80)) * 64 + (g 2 - 0x80) = g 0 % 16 * 4096 + g 1 % 64 * 64 + g 2 % 64 := by omega
          rw [e1]
          generalize g 0 % 16 * 4096 + g 1 % 64 * 64 + g 2 % 64 = r
          have := sgn_iff r
          by_cases hs : sgn r = true
          · have hr := this.1 hs
            by_cases h8 : 0x800 ≤ r
            · rw [if_pos ⟨⟨c3, h8, by omega⟩, hs⟩, if_pos ⟨by omega, by omega, by omega, by omega, by omega, h8, hs⟩]
            · rw [if_neg (fun h => h8 h.1.2.1), if_neg (fun h => h8 h.2.2.2.2.2.1)]
          · rw [if_neg (fun h => hs h.2), if_neg (fun h => hs h.2.2.2.2.2.2)]
        · rw [if_neg (fun h => c3 h.1.1), if_neg (fun h => c3 (by omega))]
      · by_cases c6 : g 0 / 8 = 30
        · have hd : dec g m = if (((1 < m ∧ g 1 / 64 = 2) ∧ (2 < m ∧ g 2 / 64 = 2) ∧ (3 < m ∧ g 3 / 64 = 2)) ∧ 0x10000 ≤ g 0 % 8 * 262144 + g 1 % 64 * 4096 + g 2 % 64 * 64 + g 3 % 64 ∧ g 0 % 8 * 262144 + g 1 % 64 * 4096 + g 2 % 64 * 64 + g 3 % 64 ≤ 0x10FFFF) then (g 0 % 8 * 262144 + g 1 % 64 * 4096 + g 2 % 64 * 64 + g 3 % 64, 4) else (0xFFFD, 1) := by
            rw [dec, if_neg c1, if_neg (fun h => c2 h.1), if_neg (fun h => c5 h.1)]
            by_cases c3 : (1 < m ∧ g 1 / 64 = 2) ∧ (2 < m ∧ g 2 / 64 = 2) ∧ (3 < m ∧ g 3 / 64 = 2)
            · rw [if_pos ⟨c6, c3⟩]
              by_cases c4 : 0x10000 ≤ g 0 % 8 * 262144 + g 1 % 64 * 4096 + g 2 % 64 * 64 + g 3 % 64 ∧ g 0 % 8 * 262144 + g 1 % 64 * 4096 + g 2 % 64 * 64 + g 3 % 64 ≤ 0x10FFFF
              · rw [if_pos c4, if_pos ⟨c3, c4⟩]
              · rw [if_neg c4, if_neg (fun h => c4 h.2)]
            · rw [if_neg (fun h => c3 h.2), if_neg (fun h => c3 h.1)]
          rw [pair g m h0 _ _ _ hd (fun h h' => by omega) (fun h => own_no (by omega)), first, if_neg c1, if_neg (show ¬ (0xC0 ≤ g 0 ∧ g 0 < 0xE0) by omega), if_neg (show ¬ (0xE0 ≤ g 0 ∧ g 0 < 0xF0) by omega), if_pos (show 0xF0 ≤ g 0 ∧ g 0 < 0xF8 by omega)]
          by_cases c3 : (1 < m ∧ g 1 / 64 = 2) ∧ (2 < m ∧ g 2 / 64 = 2) ∧ (3 < m ∧ g 3 / 64 = 2)
          · have e1 : (((g 0 - 0xF0) * 64 + (g 1 - 0x80)) * 64 + (g 2 - 0x80)) * 64 + (g 3 - 0x80) = g 0 % 8 * 262144 + g 1 % 64 * 4096 + g 2 % 64 * 64 + g 3 % 64 := by omega
            rw [e1]
            generalize g 0 % 8 * 262144 + g 1 % 64 * 4096 + g 2 % 64 * 64 + g 3 % 64 = r
            have := sgn_iff r
            by_cases hs : sgn r = true
            · have hr := this.1 hs
              by_cases h8 : 0x10000 ≤ r
              · rw [if_pos ⟨⟨c3, h8, by omega⟩, hs⟩, if_pos ⟨by omega, by omega, by omega, by omega, by omega, by omega, by omega, h8, hs⟩]
              · rw [if_neg (fun h => h8 h.1.2.1), if_neg (fun h => h8 h.2.2.2.2.2.2.2.1)]
            · rw [if_neg (fun h => hs h.2), if_neg (fun h => hs h.2.2.2.2.2.2.2.2)]
          · rw [if_neg (fun h => c3 h.1.1), if_neg (fun h => c3 (by omega))]
        · have hd : dec g m = if False then (0, 0) else (0xFFFD, 1) := by
            rw [dec, if_neg c1, if_neg (fun h => c2 h.1), if_neg (fun h => c5 h.1), if_neg (fun h => c6 h.1), if_neg (fun h => h)]
          rw [pair g m h0 False _ _ hd (fun h => h.elim) (fun _ => own_no (by omega)), first, if_neg c1, if_neg (show ¬ (0xC0 ≤ g 0 ∧ g 0 < 0xE0) by omega), if_neg (show ¬ (0xE0 ≤ g 0 ∧ g 0 < 0xF0) by omega), if_neg (show ¬ (0xF0 ≤ g 0 ∧ g 0 < 0xF8) by omega)]
          simp
/-- The bytes from a place on. -/
def gOf (s : ByteArray) (pos i : Nat) : Nat := (s.get! (pos + i)).toNat
theorem gOf_lt (s : ByteArray) (pos i : Nat) : gOf s pos i < 256 := (s.get! (pos + i)).toNat_lt
theorem ite_ext {P Q : Prop} [Decidable P] [Decidable Q] {α : Type} {a b c d : α} (h : P ↔ Q) (h1 : Q → a = c) (h2 : ¬ Q → b = d) : (if P then a else b) = if Q then c else d := by
  by_cases hq : Q
  · rw [if_pos (h.2 hq), if_pos hq, h1 hq]
  · rw [if_neg (fun hp => hq (h.1 hp)), if_neg hq, h2 hq]
theorem decode_is (s : ByteArray) (pos : Nat) (h : pos < s.size) : Utf8.decode s pos = dec (gOf s pos) (s.size - pos) := by
  have a0 := gOf_lt s pos 0
  have a1 := gOf_lt s pos 1
  have a2 := gOf_lt s pos 2
  have a3 := gOf_lt s pos 3
  have c : ∀ k, (decide (pos + k < s.size) && gOf s pos k / 64 == 2) = decide (k < s.size - pos ∧ gOf s pos k / 64 = 2) := by
    intro k
    rw [Bool.eq_iff_iff]
    simp only [Bool.and_eq_true, decide_eq_true_eq, beq_iff_eq]
    omega
  have e : Utf8.decode s pos = (
    if gOf s pos 0 < 0x80 then (gOf s pos 0, 1)
    else if (gOf s pos 0 / 32 == 6 && (decide (pos + 1 < s.size) && gOf s pos 1 / 64 == 2)) = true then
      (if gOf s pos 0 % 32 * 64 + gOf s pos 1 % 64 ≥ 0x80 then (gOf s pos 0 % 32 * 64 + gOf s pos 1 % 64, 2) else (Utf8.runeError, 1))
    else if (gOf s pos 0 / 16 == 14 && (decide (pos + 1 < s.size) && gOf s pos 1 / 64 == 2) && (decide (pos + 2 < s.size) && gOf s pos 2 / 64 == 2)) = true then
      (if (decide (gOf s pos 0 % 16 * 4096 + gOf s pos 1 % 64 * 64 + gOf s pos 2 % 64 ≥ 0x800) && Utf8.valid (gOf s pos 0 % 16 * 4096 + gOf s pos 1 % 64 * 64 + gOf s pos 2 % 64 : Nat)) = true then (gOf s pos 0 % 16 * 4096 + gOf s pos 1 % 64 * 64 + gOf s pos 2 % 64, 3) else (Utf8.runeError, 1))
    else if (gOf s pos 0 / 8 == 30 && (decide (pos + 1 < s.size) && gOf s pos 1 / 64 == 2) && (decide (pos + 2 < s.size) && gOf s pos 2 / 64 == 2) && (decide (pos + 3 < s.size) && gOf s pos 3 / 64 == 2)) = true then
      (if (decide (gOf s pos 0 % 8 * 262144 + gOf s pos 1 % 64 * 4096 + gOf s pos 2 % 64 * 64 + gOf s pos 3 % 64 ≥ 0x10000) && Utf8.valid (gOf s pos 0 % 8 * 262144 + gOf s pos 1 % 64 * 4096 + gOf s pos 2 % 64 * 64 + gOf s pos 3 % 64 : Nat)) = true then (gOf s pos 0 % 8 * 262144 + gOf s pos 1 % 64 * 4096 + gOf s pos 2 % 64 * 64 + gOf s pos 3 % 64, 4) else (Utf8.runeError, 1))
    else (Utf8.runeError, 1)) := rfl
  rw [e, c 1, c 2, c 3]
  have v : ∀ r : Nat, Utf8.valid (r : Int) = true ↔ (r < 0xD800 ∨ (0xE000 ≤ r ∧ r ≤ 0x10FFFF)) := by
    intro r
    unfold Utf8.valid
    simp only [Bool.or_eq_true, Bool.and_eq_true, decide_eq_true_eq]
    omega
  simp only [Bool.and_eq_true, decide_eq_true_eq, beq_iff_eq, v]
  unfold dec Utf8.runeError
  generalize gOf s pos 0 = x0 at *
  generalize gOf s pos 1 = x1 at *
  generalize gOf s pos 2 = x2 at *
  generalize gOf s pos 3 = x3 at *
  refine ite_ext Iff.rfl (fun _ => rfl) fun h1 => ite_ext Iff.rfl (fun _ => ite_ext Iff.rfl (fun _ => rfl) fun _ => rfl) fun h2 => ite_ext (by rw [and_assoc]) (fun h3 => ?_) fun h3 => ite_ext (by rw [and_assoc, and_assoc]) (fun h5 => ?_) fun _ => rfl
  · have hb : x0 % 16 * 4096 + x1 % 64 * 64 + x2 % 64 ≤ 0xFFFF := by omega
    revert hb
    generalize x0 % 16 * 4096 + x1 % 64 * 64 + x2 % 64 = r
    intro hb
    exact ite_ext (by omega) (fun _ => rfl) fun _ => rfl
  · generalize x0 % 8 * 262144 + x1 % 64 * 4096 + x2 % 64 * 64 + x3 % 64 = r
    exact ite_ext (by omega) (fun _ => rfl) fun _ => rfl
/-- Whether a sign that may stand begins at a place, and how many bytes it has. -/
def okAt (s : ByteArray) (pos : Nat) : Bool := may (gOf s pos) (s.size - pos)
def wdAt (s : ByteArray) (pos : Nat) : Nat := (dec (gOf s pos) (s.size - pos)).2
def badFrom (s : ByteArray) : Nat → Nat → Int
  | 0, _ => -1
  | f + 1, pos => if pos < s.size then (if okAt s pos = true then badFrom s f (pos + wdAt s pos) else pos) else -1
def badV (s : ByteArray) : Int := badFrom s s.size 0
set_option maxRecDepth 100000 in
set_option maxHeartbeats 4000000 in
theorem rsign_any (r : Nat) (hr : r ≤ 2147483647) (w : World) : Calls Tryd.prog 64 #[.int .i64 r] w fun e w' => e = .returned (.bool (sgn r)) ∧ w' = w := by
  have hi : (r : Int) ≤ 2147483647 := by omega
  have hc : (r < 9) ∨ (r = 9) ∨ (r = 10) ∨ (10 < r ∧ r < 13) ∨ (r = 13) ∨ (13 < r ∧ r < 32) ∨ (32 ≤ r ∧ r ≤ 55295) ∨ (55295 < r ∧ r < 57344) ∨ (57344 ≤ r ∧ r ≤ 65533) ∨ (65533 < r ∧ r < 65536) ∨ (65536 ≤ r ∧ r ≤ 1114111) ∨ (1114111 < r) := by omega
  have hs := sgn_iff r
  rcases hc with h | h | h | h | h | h | h | h | h | h | h | h
  · have L := Lib.hid (show sgn r = false from by rw [Bool.eq_false_iff]; exact fun h' => by have := hs.1 h'; omega)
    have e9 : ((r : Int) == 9) = false := by rw [beq_eq_false_iff_ne]; omega
    have e10 : ((r : Int) == 10) = false := by rw [beq_eq_false_iff_ne]; omega
    have e13 : ((r : Int) == 13) = false := by rw [beq_eq_false_iff_ne]; omega
    have g32 : decide ((32 : Int) ≤ r) = false := by exact decide_eq_false (by omega)
    have g57344 : decide ((57344 : Int) ≤ r) = false := by exact decide_eq_false (by omega)
    have g65536 : decide ((65536 : Int) ≤ r) = false := by exact decide_eq_false (by omega)
    have l55295 : decide ((r : Int) ≤ 55295) = true := by exact decide_eq_true (by omega)
    have l65533 : decide ((r : Int) ≤ 65533) = true := by exact decide_eq_true (by omega)
    have l1114111 : decide ((r : Int) ≤ 1114111) = true := by exact decide_eq_true (by omega)
    clear hs h hr hi
    go_enter Tryd.func64, Tryd.ntmps64
    go_wp2
    go_ret
    exact ⟨by (rw [L.out]) <;> rfl, rfl⟩
  · have L := Lib.hid (show sgn r = true from hs.2 (by omega))
    subst h
    clear hs hr hi
    go_enter Tryd.func64, Tryd.ntmps64
    go_wp2
    go_ret
    exact ⟨by (rw [L.out]) <;> rfl, rfl⟩
  · have L := Lib.hid (show sgn r = true from hs.2 (by omega))
    subst h
    clear hs hr hi
    go_enter Tryd.func64, Tryd.ntmps64
    go_wp2
    go_ret
    exact ⟨by (rw [L.out]) <;> rfl, rfl⟩
  · have L := Lib.hid (show sgn r = false from by rw [Bool.eq_false_iff]; exact fun h' => by have := hs.1 h'; omega)
    have e9 : ((r : Int) == 9) = false := by rw [beq_eq_false_iff_ne]; omega
    have e10 : ((r : Int) == 10) = false := by rw [beq_eq_false_iff_ne]; omega
    have e13 : ((r : Int) == 13) = false := by rw [beq_eq_false_iff_ne]; omega
    have g32 : decide ((32 : Int) ≤ r) = false := by exact decide_eq_false (by omega)
    have g57344 : decide ((57344 : Int) ≤ r) = false := by exact decide_eq_false (by omega)
    have g65536 : decide ((65536 : Int) ≤ r) = false := by exact decide_eq_false (by omega)
    have l55295 : decide ((r : Int) ≤ 55295) = true := by exact decide_eq_true (by omega)
    have l65533 : decide ((r : Int) ≤ 65533) = true := by exact decide_eq_true (by omega)
    have l1114111 : decide ((r : Int) ≤ 1114111) = true := by exact decide_eq_true (by omega)
    clear hs h hr hi
    go_enter Tryd.func64, Tryd.ntmps64
    go_wp2
    go_ret
    exact ⟨by (rw [L.out]) <;> rfl, rfl⟩
  · have L := Lib.hid (show sgn r = true from hs.2 (by omega))
    subst h
    clear hs hr hi
    go_enter Tryd.func64, Tryd.ntmps64
    go_wp2
    go_ret
    exact ⟨by (rw [L.out]) <;> rfl, rfl⟩
  · have L := Lib.hid (show sgn r = false from by rw [Bool.eq_false_iff]; exact fun h' => by have := hs.1 h'; omega)
    have e9 : ((r : Int) == 9) = false := by rw [beq_eq_false_iff_ne]; omega
    have e10 : ((r : Int) == 10) = false := by rw [beq_eq_false_iff_ne]; omega
    have e13 : ((r : Int) == 13) = false := by rw [beq_eq_false_iff_ne]; omega
    have g32 : decide ((32 : Int) ≤ r) = false := by exact decide_eq_false (by omega)
    have g57344 : decide ((57344 : Int) ≤ r) = false := by exact decide_eq_false (by omega)
    have g65536 : decide ((65536 : Int) ≤ r) = false := by exact decide_eq_false (by omega)
    have l55295 : decide ((r : Int) ≤ 55295) = true := by exact decide_eq_true (by omega)
    have l65533 : decide ((r : Int) ≤ 65533) = true := by exact decide_eq_true (by omega)
    have l1114111 : decide ((r : Int) ≤ 1114111) = true := by exact decide_eq_true (by omega)
    clear hs h hr hi
    go_enter Tryd.func64, Tryd.ntmps64
    go_wp2
    go_ret
    exact ⟨by (rw [L.out]) <;> rfl, rfl⟩
  · have L := Lib.hid (show sgn r = true from hs.2 (by omega))
    have e9 : ((r : Int) == 9) = false := by rw [beq_eq_false_iff_ne]; omega
    have e10 : ((r : Int) == 10) = false := by rw [beq_eq_false_iff_ne]; omega
    have e13 : ((r : Int) == 13) = false := by rw [beq_eq_false_iff_ne]; omega
    have g32 : decide ((32 : Int) ≤ r) = true := by exact decide_eq_true (by omega)
    have g57344 : decide ((57344 : Int) ≤ r) = false := by exact decide_eq_false (by omega)
    have g65536 : decide ((65536 : Int) ≤ r) = false := by exact decide_eq_false (by omega)
    have l55295 : decide ((r : Int) ≤ 55295) = true := by exact decide_eq_true (by omega)
    have l65533 : decide ((r : Int) ≤ 65533) = true := by exact decide_eq_true (by omega)
    have l1114111 : decide ((r : Int) ≤ 1114111) = true := by exact decide_eq_true (by omega)
    clear hs h hr hi
    go_enter Tryd.func64, Tryd.ntmps64
    go_wp2
    go_ret
    exact ⟨by (rw [L.out]) <;> rfl, rfl⟩
  · have L := Lib.hid (show sgn r = false from by rw [Bool.eq_false_iff]; exact fun h' => by have := hs.1 h'; omega)
    have e9 : ((r : Int) == 9) = false := by rw [beq_eq_false_iff_ne]; omega
    have e10 : ((r : Int) == 10) = false := by rw [beq_eq_false_iff_ne]; omega
    have e13 : ((r : Int) == 13) = false := by rw [beq_eq_false_iff_ne]; omega
    have g32 : decide ((32 : Int) ≤ r) = true := by exact decide_eq_true (by omega)
    have g57344 : decide ((57344 : Int) ≤ r) = false := by exact decide_eq_false (by omega)
    have g65536 : decide ((65536 : Int) ≤ r) = false := by exact decide_eq_false (by omega)
    have l55295 : decide ((r : Int) ≤ 55295) = false := by exact decide_eq_false (by omega)
    have l65533 : decide ((r : Int) ≤ 65533) = true := by exact decide_eq_true (by omega)
    have l1114111 : decide ((r : Int) ≤ 1114111) = true := by exact decide_eq_true (by omega)
    clear hs h hr hi
    go_enter Tryd.func64, Tryd.ntmps64
    go_wp2
    go_ret
    exact ⟨by (rw [L.out]) <;> rfl, rfl⟩
  · have L := Lib.hid (show sgn r = true from hs.2 (by omega))
    have e9 : ((r : Int) == 9) = false := by rw [beq_eq_false_iff_ne]; omega
    have e10 : ((r : Int) == 10) = false := by rw [beq_eq_false_iff_ne]; omega
    have e13 : ((r : Int) == 13) = false := by rw [beq_eq_false_iff_ne]; omega
    have g32 : decide ((32 : Int) ≤ r) = true := by exact decide_eq_true (by omega)
    have g57344 : decide ((57344 : Int) ≤ r) = true := by exact decide_eq_true (by omega)
    have g65536 : decide ((65536 : Int) ≤ r) = false := by exact decide_eq_false (by omega)
    have l55295 : decide ((r : Int) ≤ 55295) = false := by exact decide_eq_false (by omega)
    have l65533 : decide ((r : Int) ≤ 65533) = true := by exact decide_eq_true (by omega)
    have l1114111 : decide ((r : Int) ≤ 1114111) = true := by exact decide_eq_true (by omega)
    clear hs h hr hi
    go_enter Tryd.func64, Tryd.ntmps64
    go_wp2
    go_ret
    exact ⟨by (rw [L.out]) <;> rfl, rfl⟩
  · have L := Lib.hid (show sgn r = false from by rw [Bool.eq_false_iff]; exact fun h' => by have := hs.1 h'; omega)
    have e9 : ((r : Int) == 9) = false := by rw [beq_eq_false_iff_ne]; omega
    have e10 : ((r : Int) == 10) = false := by rw [beq_eq_false_iff_ne]; omega
    have e13 : ((r : Int) == 13) = false := by rw [beq_eq_false_iff_ne]; omega
    have g32 : decide ((32 : Int) ≤ r) = true := by exact decide_eq_true (by omega)
    have g57344 : decide ((57344 : Int) ≤ r) = true := by exact decide_eq_true (by omega)
    have g65536 : decide ((65536 : Int) ≤ r) = false := by exact decide_eq_false (by omega)
    have l55295 : decide ((r : Int) ≤ 55295) = false := by exact decide_eq_false (by omega)
    have l65533 : decide ((r : Int) ≤ 65533) = false := by exact decide_eq_false (by omega)
    have l1114111 : decide ((r : Int) ≤ 1114111) = true := by exact decide_eq_true (by omega)
    clear hs h hr hi
    go_enter Tryd.func64, Tryd.ntmps64
    go_wp2
    go_ret
    exact ⟨by (rw [L.out]) <;> rfl, rfl⟩
  · have L := Lib.hid (show sgn r = true from hs.2 (by omega))
    have e9 : ((r : Int) == 9) = false := by rw [beq_eq_false_iff_ne]; omega
    have e10 : ((r : Int) == 10) = false := by rw [beq_eq_false_iff_ne]; omega
    have e13 : ((r : Int) == 13) = false := by rw [beq_eq_false_iff_ne]; omega
    have g32 : decide ((32 : Int) ≤ r) = true := by exact decide_eq_true (by omega)
    have g57344 : decide ((57344 : Int) ≤ r) = true := by exact decide_eq_true (by omega)
    have g65536 : decide ((65536 : Int) ≤ r) = true := by exact decide_eq_true (by omega)
    have l55295 : decide ((r : Int) ≤ 55295) = false := by exact decide_eq_false (by omega)
    have l65533 : decide ((r : Int) ≤ 65533) = false := by exact decide_eq_false (by omega)
    have l1114111 : decide ((r : Int) ≤ 1114111) = true := by exact decide_eq_true (by omega)
    clear hs h hr hi
    go_enter Tryd.func64, Tryd.ntmps64
    go_wp2
    go_ret
    exact ⟨by (rw [L.out]) <;> rfl, rfl⟩
  · have L := Lib.hid (show sgn r = false from by rw [Bool.eq_false_iff]; exact fun h' => by have := hs.1 h'; omega)
    have e9 : ((r : Int) == 9) = false := by rw [beq_eq_false_iff_ne]; omega
    have e10 : ((r : Int) == 10) = false := by rw [beq_eq_false_iff_ne]; omega
    have e13 : ((r : Int) == 13) = false := by rw [beq_eq_false_iff_ne]; omega
    have g32 : decide ((32 : Int) ≤ r) = true := by exact decide_eq_true (by omega)
    have g57344 : decide ((57344 : Int) ≤ r) = true := by exact decide_eq_true (by omega)
    have g65536 : decide ((65536 : Int) ≤ r) = true := by exact decide_eq_true (by omega)
    have l55295 : decide ((r : Int) ≤ 55295) = false := by exact decide_eq_false (by omega)
    have l65533 : decide ((r : Int) ≤ 65533) = false := by exact decide_eq_false (by omega)
    have l1114111 : decide ((r : Int) ≤ 1114111) = false := by exact decide_eq_false (by omega)
    clear hs h hr hi
    go_enter Tryd.func64, Tryd.ntmps64
    go_wp2
    go_ret
    exact ⟨by (rw [L.out]) <;> rfl, rfl⟩
set_option maxRecDepth 100000 in
set_option maxHeartbeats 4000000 in
theorem valid_any (r : Nat) (hr : r ≤ 2147483647) (w : World) : Calls Tryd.prog 50 #[.int .i32 r] w fun e w' => e = .returned (.bool (sgn r)) ∧ w' = w := by
  have hi : (r : Int) ≤ 2147483647 := by omega
  have hc : (r < 9) ∨ (r = 9) ∨ (r = 10) ∨ (10 < r ∧ r < 13) ∨ (r = 13) ∨ (13 < r ∧ r < 32) ∨ (32 ≤ r ∧ r ≤ 55295) ∨ (55295 < r ∧ r < 57344) ∨ (57344 ≤ r ∧ r ≤ 65533) ∨ (65533 < r ∧ r < 65536) ∨ (65536 ≤ r ∧ r ≤ 1114111) ∨ (1114111 < r) := by omega
  have hs := sgn_iff r
  rcases hc with h | h | h | h | h | h | h | h | h | h | h | h
  · have L := Lib.hid (show sgn r = false from by rw [Bool.eq_false_iff]; exact fun h' => by have := hs.1 h'; omega)
    have e9 : ((r : Int) == 9) = false := by rw [beq_eq_false_iff_ne]; omega
    have e10 : ((r : Int) == 10) = false := by rw [beq_eq_false_iff_ne]; omega
    have e13 : ((r : Int) == 13) = false := by rw [beq_eq_false_iff_ne]; omega
    have g32 : decide ((32 : Int) ≤ r) = false := by exact decide_eq_false (by omega)
    have g57344 : decide ((57344 : Int) ≤ r) = false := by exact decide_eq_false (by omega)
    have g65536 : decide ((65536 : Int) ≤ r) = false := by exact decide_eq_false (by omega)
    have l55295 : decide ((r : Int) ≤ 55295) = true := by exact decide_eq_true (by omega)
    have l65533 : decide ((r : Int) ≤ 65533) = true := by exact decide_eq_true (by omega)
    have l1114111 : decide ((r : Int) ≤ 1114111) = true := by exact decide_eq_true (by omega)
    clear hs h hr hi
    go_enter Tryd.func50, Tryd.ntmps50
    go_wp2
    go_ret
    exact ⟨by (rw [L.out]) <;> rfl, rfl⟩
  · have L := Lib.hid (show sgn r = true from hs.2 (by omega))
    subst h
    clear hs hr hi
    go_enter Tryd.func50, Tryd.ntmps50
    go_wp2
    go_ret
    exact ⟨by (rw [L.out]) <;> rfl, rfl⟩
  · have L := Lib.hid (show sgn r = true from hs.2 (by omega))
    subst h
    clear hs hr hi
    go_enter Tryd.func50, Tryd.ntmps50
    go_wp2
    go_ret
    exact ⟨by (rw [L.out]) <;> rfl, rfl⟩
  · have L := Lib.hid (show sgn r = false from by rw [Bool.eq_false_iff]; exact fun h' => by have := hs.1 h'; omega)
    have e9 : ((r : Int) == 9) = false := by rw [beq_eq_false_iff_ne]; omega
    have e10 : ((r : Int) == 10) = false := by rw [beq_eq_false_iff_ne]; omega
    have e13 : ((r : Int) == 13) = false := by rw [beq_eq_false_iff_ne]; omega
    have g32 : decide ((32 : Int) ≤ r) = false := by exact decide_eq_false (by omega)
    have g57344 : decide ((57344 : Int) ≤ r) = false := by exact decide_eq_false (by omega)
    have g65536 : decide ((65536 : Int) ≤ r) = false := by exact decide_eq_false (by omega)
    have l55295 : decide ((r : Int) ≤ 55295) = true := by exact decide_eq_true (by omega)
    have l65533 : decide ((r : Int) ≤ 65533) = true := by exact decide_eq_true (by omega)
    have l1114111 : decide ((r : Int) ≤ 1114111) = true := by exact decide_eq_true (by omega)
    clear hs h hr hi
    go_enter Tryd.func50, Tryd.ntmps50
    go_wp2
    go_ret
    exact ⟨by (rw [L.out]) <;> rfl, rfl⟩
  · have L := Lib.hid (show sgn r = true from hs.2 (by omega))
    subst h
    clear hs hr hi
    go_enter Tryd.func50, Tryd.ntmps50
    go_wp2
    go_ret
    exact ⟨by (rw [L.out]) <;> rfl, rfl⟩
  · have L := Lib.hid (show sgn r = false from by rw [Bool.eq_false_iff]; exact fun h' => by have := hs.1 h'; omega)
    have e9 : ((r : Int) == 9) = false := by rw [beq_eq_false_iff_ne]; omega
    have e10 : ((r : Int) == 10) = false := by rw [beq_eq_false_iff_ne]; omega
    have e13 : ((r : Int) == 13) = false := by rw [beq_eq_false_iff_ne]; omega
    have g32 : decide ((32 : Int) ≤ r) = false := by exact decide_eq_false (by omega)
    have g57344 : decide ((57344 : Int) ≤ r) = false := by exact decide_eq_false (by omega)
    have g65536 : decide ((65536 : Int) ≤ r) = false := by exact decide_eq_false (by omega)
    have l55295 : decide ((r : Int) ≤ 55295) = true := by exact decide_eq_true (by omega)
    have l65533 : decide ((r : Int) ≤ 65533) = true := by exact decide_eq_true (by omega)
    have l1114111 : decide ((r : Int) ≤ 1114111) = true := by exact decide_eq_true (by omega)
    clear hs h hr hi
    go_enter Tryd.func50, Tryd.ntmps50
    go_wp2
    go_ret
    exact ⟨by (rw [L.out]) <;> rfl, rfl⟩
  · have L := Lib.hid (show sgn r = true from hs.2 (by omega))
    have e9 : ((r : Int) == 9) = false := by rw [beq_eq_false_iff_ne]; omega
    have e10 : ((r : Int) == 10) = false := by rw [beq_eq_false_iff_ne]; omega
    have e13 : ((r : Int) == 13) = false := by rw [beq_eq_false_iff_ne]; omega
    have g32 : decide ((32 : Int) ≤ r) = true := by exact decide_eq_true (by omega)
    have g57344 : decide ((57344 : Int) ≤ r) = false := by exact decide_eq_false (by omega)
    have g65536 : decide ((65536 : Int) ≤ r) = false := by exact decide_eq_false (by omega)
    have l55295 : decide ((r : Int) ≤ 55295) = true := by exact decide_eq_true (by omega)
    have l65533 : decide ((r : Int) ≤ 65533) = true := by exact decide_eq_true (by omega)
    have l1114111 : decide ((r : Int) ≤ 1114111) = true := by exact decide_eq_true (by omega)
    clear hs h hr hi
    go_enter Tryd.func50, Tryd.ntmps50
    go_wp2
    go_ret
    exact ⟨by (rw [L.out]) <;> rfl, rfl⟩
  · have L := Lib.hid (show sgn r = false from by rw [Bool.eq_false_iff]; exact fun h' => by have := hs.1 h'; omega)
    have e9 : ((r : Int) == 9) = false := by rw [beq_eq_false_iff_ne]; omega
    have e10 : ((r : Int) == 10) = false := by rw [beq_eq_false_iff_ne]; omega
    have e13 : ((r : Int) == 13) = false := by rw [beq_eq_false_iff_ne]; omega
    have g32 : decide ((32 : Int) ≤ r) = true := by exact decide_eq_true (by omega)
    have g57344 : decide ((57344 : Int) ≤ r) = false := by exact decide_eq_false (by omega)
    have g65536 : decide ((65536 : Int) ≤ r) = false := by exact decide_eq_false (by omega)
    have l55295 : decide ((r : Int) ≤ 55295) = false := by exact decide_eq_false (by omega)
    have l65533 : decide ((r : Int) ≤ 65533) = true := by exact decide_eq_true (by omega)
    have l1114111 : decide ((r : Int) ≤ 1114111) = true := by exact decide_eq_true (by omega)
    clear hs h hr hi
    go_enter Tryd.func50, Tryd.ntmps50
    go_wp2
    go_ret
    exact ⟨by (rw [L.out]) <;> rfl, rfl⟩
  · have L := Lib.hid (show sgn r = true from hs.2 (by omega))
    have e9 : ((r : Int) == 9) = false := by rw [beq_eq_false_iff_ne]; omega
    have e10 : ((r : Int) == 10) = false := by rw [beq_eq_false_iff_ne]; omega
    have e13 : ((r : Int) == 13) = false := by rw [beq_eq_false_iff_ne]; omega
    have g32 : decide ((32 : Int) ≤ r) = true := by exact decide_eq_true (by omega)
    have g57344 : decide ((57344 : Int) ≤ r) = true := by exact decide_eq_true (by omega)
    have g65536 : decide ((65536 : Int) ≤ r) = false := by exact decide_eq_false (by omega)
    have l55295 : decide ((r : Int) ≤ 55295) = false := by exact decide_eq_false (by omega)
    have l65533 : decide ((r : Int) ≤ 65533) = true := by exact decide_eq_true (by omega)
    have l1114111 : decide ((r : Int) ≤ 1114111) = true := by exact decide_eq_true (by omega)
    clear hs h hr hi
    go_enter Tryd.func50, Tryd.ntmps50
    go_wp2
    go_ret
    exact ⟨by (rw [L.out]) <;> rfl, rfl⟩
  · have L := Lib.hid (show sgn r = false from by rw [Bool.eq_false_iff]; exact fun h' => by have := hs.1 h'; omega)
    have e9 : ((r : Int) == 9) = false := by rw [beq_eq_false_iff_ne]; omega
    have e10 : ((r : Int) == 10) = false := by rw [beq_eq_false_iff_ne]; omega
    have e13 : ((r : Int) == 13) = false := by rw [beq_eq_false_iff_ne]; omega
    have g32 : decide ((32 : Int) ≤ r) = true := by exact decide_eq_true (by omega)
    have g57344 : decide ((57344 : Int) ≤ r) = true := by exact decide_eq_true (by omega)
    have g65536 : decide ((65536 : Int) ≤ r) = false := by exact decide_eq_false (by omega)
    have l55295 : decide ((r : Int) ≤ 55295) = false := by exact decide_eq_false (by omega)
    have l65533 : decide ((r : Int) ≤ 65533) = false := by exact decide_eq_false (by omega)
    have l1114111 : decide ((r : Int) ≤ 1114111) = true := by exact decide_eq_true (by omega)
    clear hs h hr hi
    go_enter Tryd.func50, Tryd.ntmps50
    go_wp2
    go_ret
    exact ⟨by (rw [L.out]) <;> rfl, rfl⟩
  · have L := Lib.hid (show sgn r = true from hs.2 (by omega))
    have e9 : ((r : Int) == 9) = false := by rw [beq_eq_false_iff_ne]; omega
    have e10 : ((r : Int) == 10) = false := by rw [beq_eq_false_iff_ne]; omega
    have e13 : ((r : Int) == 13) = false := by rw [beq_eq_false_iff_ne]; omega
    have g32 : decide ((32 : Int) ≤ r) = true := by exact decide_eq_true (by omega)
    have g57344 : decide ((57344 : Int) ≤ r) = true := by exact decide_eq_true (by omega)
    have g65536 : decide ((65536 : Int) ≤ r) = true := by exact decide_eq_true (by omega)
    have l55295 : decide ((r : Int) ≤ 55295) = false := by exact decide_eq_false (by omega)
    have l65533 : decide ((r : Int) ≤ 65533) = false := by exact decide_eq_false (by omega)
    have l1114111 : decide ((r : Int) ≤ 1114111) = true := by exact decide_eq_true (by omega)
    clear hs h hr hi
    go_enter Tryd.func50, Tryd.ntmps50
    go_wp2
    go_ret
    exact ⟨by (rw [L.out]) <;> rfl, rfl⟩
  · have L := Lib.hid (show sgn r = false from by rw [Bool.eq_false_iff]; exact fun h' => by have := hs.1 h'; omega)
    have e9 : ((r : Int) == 9) = false := by rw [beq_eq_false_iff_ne]; omega
    have e10 : ((r : Int) == 10) = false := by rw [beq_eq_false_iff_ne]; omega
    have e13 : ((r : Int) == 13) = false := by rw [beq_eq_false_iff_ne]; omega
    have g32 : decide ((32 : Int) ≤ r) = true := by exact decide_eq_true (by omega)
    have g57344 : decide ((57344 : Int) ≤ r) = true := by exact decide_eq_true (by omega)
    have g65536 : decide ((65536 : Int) ≤ r) = true := by exact decide_eq_true (by omega)
    have l55295 : decide ((r : Int) ≤ 55295) = false := by exact decide_eq_false (by omega)
    have l65533 : decide ((r : Int) ≤ 65533) = false := by exact decide_eq_false (by omega)
    have l1114111 : decide ((r : Int) ≤ 1114111) = false := by exact decide_eq_false (by omega)
    clear hs h hr hi
    go_enter Tryd.func50, Tryd.ntmps50
    go_wp2
    go_ret
    exact ⟨by (rw [L.out]) <;> rfl, rfl⟩
/-- Whether a text begins with the three bytes of U+FFFD. -/
def ownB (s : ByteArray) : Bool := Lib.hasPrefix s.data.toList [239, 191, 189]
theorem hasPrefix_any (s : ByteArray) (w : World) : Calls Tryd.prog 40 #[.string s, .string ⟨#[239, 191, 189]⟩] w fun e w' => e = .returned (.bool (ownB s)) ∧ w' = w :=
  Tryd.strings_HasPrefix s ⟨#[239, 191, 189]⟩ w
def brokenB (s : ByteArray) (r : Nat) : Bool := decide (r = 65533) && !ownB s
set_option maxRecDepth 100000 in
theorem broken_any (s : ByteArray) (r : Nat) (hr : r ≤ 2147483647) (w : World) : Calls Tryd.prog 51 #[.string s, .int .i32 r] w fun e w' => e = .returned (.bool (brokenB s r)) ∧ w' = w := by
  by_cases h : r = 65533
  · have L := Lib.hid (show brokenB s r = !ownB s by rw [brokenB, h]; simp)
    subst h
    clear hr
    go_enter Tryd.func51, Tryd.ntmps51
    go_wp2_with (go_at_call 40; refine (hasPrefix_any _ _).mono ?_; rintro e W1 ⟨rfl, rfl⟩)
    go_ret
    exact ⟨by (rw [L.out]) <;> rfl, rfl⟩
  · have L := Lib.hid (show brokenB s r = false by rw [brokenB, decide_eq_false h]; rfl)
    have e1 : ((r : Int) == 65533) = false := by rw [beq_eq_false_iff_ne]; omega
    clear h hr
    go_enter Tryd.func51, Tryd.ntmps51
    go_wp2_with fail
    go_ret
    exact ⟨by (rw [L.out]) <;> rfl, rfl⟩
theorem get_list (s : ByteArray) (k : Nat) : s.get! k = s.data.toList.getD k 0 := by
  obtain ⟨⟨l⟩⟩ := s
  show (Array.mk l)[k]! = _
  rw [List.getD_eq_getElem?_getD]
  by_cases h : k < l.length
  · simp [h]
  · simp [h]; rfl
theorem gOf_list (s : ByteArray) (pos i : Nat) : gOf s pos i = ((s.data.toList.drop pos).getD i 0).toNat := by
  rw [gOf, get_list, List.getD_eq_getElem?_getD, List.getD_eq_getElem?_getD, List.getElem?_drop]
theorem ext_end (s : ByteArray) (a : Nat) : (s.extract a s.size).data.toList = s.data.toList.drop a := by
  rw [Lib.extract_data, List.take_of_length_le]
  rw [List.length_drop, Array.length_toList]
  exact Nat.le_refl _
theorem size_list (s : ByteArray) : s.data.toList.length = s.size := by rw [Array.length_toList]; rfl
theorem u8_nat (a : UInt8) (n : Nat) (hn : n < 256) : (a.toNat = n) ↔ a = UInt8.ofNat n := by
  constructor
  · intro h; exact UInt8.toNat_inj.mp (by rw [UInt8.toNat_ofNat']; omega)
  · rintro rfl; rw [UInt8.toNat_ofNat']; omega
theorem own_ext (s : ByteArray) (pos : Nat) : ownB (s.extract pos s.size) = own (gOf s pos) (s.size - pos) := by
  have hl : (s.data.toList.drop pos).length = s.size - pos := by rw [List.length_drop, size_list]
  rw [Bool.eq_iff_iff, own_iff, ownB, ext_end, gOf_list, gOf_list, gOf_list, ← hl]
  generalize s.data.toList.drop pos = l
  unfold Lib.hasPrefix
  match l with
  | [] => simp [List.isPrefixOf]
  | [a] => simp [List.isPrefixOf]
  | [a, b] => simp [List.isPrefixOf]
  | a :: b :: c :: r =>
    simp only [List.isPrefixOf, Bool.and_true, Bool.and_eq_true, beq_iff_eq, List.getD_cons_zero, List.getD_cons_succ, List.length_cons]
    rw [u8_nat a 0xEF (by omega), u8_nat b 0xBF (by omega), u8_nat c 0xBD (by omega)]
    constructor
    · rintro ⟨h1, h2, h3⟩; exact ⟨by omega, h1.symm, h2.symm, h3.symm⟩
    · rintro ⟨-, h1, h2, h3⟩; exact ⟨h1.symm, h2.symm, h3.symm⟩
theorem okAt_is (s : ByteArray) (pos : Nat) : okAt s pos = (sgn (dec (gOf s pos) (s.size - pos)).1 && !brokenB (s.extract pos s.size) (dec (gOf s pos) (s.size - pos)).1) := by
  unfold okAt may brokenB
  rw [own_ext]
theorem wd_pos (s : ByteArray) (pos : Nat) : 1 ≤ wdAt s pos := by
  unfold wdAt dec
  repeat' split
  all_goals simp
set_option maxRecDepth 100000 in
set_option maxHeartbeats 4000000 in
theorem bad_any (s : ByteArray) (hs : s.size ≤ 9223372036854775807) (w : World) : Calls Tryd.prog 34 #[.string s] w fun e w' => e = .returned (.int .i64 (badV s)) ∧ Bel w w' := by
  go_enter Tryd.func34, Tryd.ntmps34
  go_wp2
  have hit0 : (w.iter s 0).heap[w.heap.size]? = some (.stringIter s 0) := World.iter_heap w s 0
  have hb0 : Bel w (w.iter s 0) := (Bel.refl w).alloc _
  have HB := Lib.hid (And.intro hit0 hb0)
  clear hit0 hb0
  go_loopg [] s.size (fun g wr => ∃ pos fuel : Nat, Hid (wr.heap[w.heap.size]? = some (.stringIter s pos)) ∧ Bel w wr ∧ Hid (badV s = badFrom s fuel pos ∧ s.size ≤ fuel + pos ∧ g = s.size - pos))
  case atStart => exact ⟨0, s.size, HB.out.1, HB.out.2, ⟨rfl, by omega, rfl⟩⟩
  case round =>
    obtain ⟨pos, fuel, hit, hb, hh⟩ := hrel
    by_cases hp : pos < s.size
    · have hd := decode_is s pos hp
      have hr := decode_le s pos
      have hok := okAt_is s pos
      obtain ⟨r, hr0⟩ : ∃ r, r = (dec (gOf s pos) (s.size - pos)).1 := ⟨_, rfl⟩
      rw [hd, ← hr0] at hr
      rw [← hr0] at hok
      have hr' := hr
      have hnx0 : ∀ ty, (Instr.next (.pointer (some ⟨w.heap.size, 0, none⟩)) true ty).run Tryd.prog wr = .ok (.tuple #[.bool true, .int .i64 pos, .int .i32 (r : Nat)]) (wr.iterAt w.heap.size s (pos + wdAt s pos)) := fun ty => by
        have h := Lib.run_next_any_at (P := Tryd.prog) wr w.heap.size s pos ty hit.out hp
        rw [hd, ← hr0] at h
        exact h
      have hit2 := Lib.hid (Lib.iterAt_heap wr w.heap.size s pos (pos + wdAt s pos) hit.out)
      have hb2 : Bel w (wr.iterAt w.heap.size s (pos + wdAt s pos)) := Lib.below_iterAt hb (k := w.heap.size) (Nat.le_refl _) s _
      obtain ⟨W2, hW2⟩ : ∃ W2, W2 = wr.iterAt w.heap.size s (pos + wdAt s pos) := ⟨_, rfl⟩
      rw [← hW2] at hit2 hb2
      have hnx : ∀ ty, (Instr.next (.pointer (some ⟨w.heap.size, 0, none⟩)) true ty).run Tryd.prog wr = .ok (.tuple #[.bool true, .int .i64 pos, .int .i32 (r : Nat)]) W2 := fun ty => by rw [hW2]; exact hnx0 ty
      obtain ⟨f, rfl⟩ : ∃ f, fuel = f + 1 := ⟨fuel - 1, by have := hh.out.2.1; omega⟩
      have hstep := hh.out.1
      rw [badFrom, if_pos hp] at hstep
      have hwd := wd_pos s pos
      have HOK := Lib.hid hok
      have HST := Lib.hid hstep
      have HWD := Lib.hid hwd
      have i1 : (pos : Int) < s.size := by omega
      have i2 : (s.size : Int) ≤ 9223372036854775807 := by omega
      clear hd hr hok hr0 hnx0 hW2 hstep hwd hb
      cases hv : sgn r with
      | false =>
        have HV := Lib.hid hv
        have L := Lib.hid (show badV s = pos by rw [HST.out, HOK.out, hv]; rfl)
        have HK := HV
        clear hv
        go_wp2_with (first
          | (go_at_call 50; refine (valid_any r hr' _).mono ?_; rintro e V1 ⟨rfl, rfl⟩; rw [HV.out])
          | (go_at_call 51; refine (broken_any _ r hr' _).mono ?_; rintro e V2 ⟨rfl, rfl⟩; rw [HK.out]))
        go_ret
        exact ⟨by (rw [L.out]) <;> rfl, hb2⟩
      | true =>
        have HV := Lib.hid hv
        cases hk : brokenB (s.extract pos s.size) r with
        | true =>
          have HK := Lib.hid hk
          have L := Lib.hid (show badV s = pos by rw [HST.out, HOK.out, hv, hk]; rfl)
          clear hv hk
          go_wp2_with (first
            | (go_at_call 50; refine (valid_any r hr' _).mono ?_; rintro e V1 ⟨rfl, rfl⟩; rw [HV.out])
            | (go_at_call 51; refine (broken_any _ r hr' _).mono ?_; rintro e V2 ⟨rfl, rfl⟩; rw [HK.out]))
          go_ret
          exact ⟨by (rw [L.out]) <;> rfl, hb2⟩
        | false =>
          have HK := Lib.hid hk
          have L := Lib.hid (show badV s = badFrom s f (pos + wdAt s pos) by rw [HST.out, HOK.out, hv, hk]; rfl)
          clear hv hk
          go_wp2_with (first
            | (go_at_call 50; refine (valid_any r hr' _).mono ?_; rintro e V1 ⟨rfl, rfl⟩; rw [HV.out])
            | (go_at_call 51; refine (broken_any _ r hr' _).mono ?_; rintro e V2 ⟨rfl, rfl⟩; rw [HK.out]))
          go_roundg (s.size - (pos + wdAt s pos))
          case measure => have := hh.out.2.2; have := HWD.out; omega
          case rel => exact ⟨pos + wdAt s pos, f, hit2, hb2, ⟨L.out, by have := hh.out.2.1; have := HWD.out; omega, rfl⟩⟩
    · have hnx : ∀ ty, (Instr.next (.pointer (some ⟨w.heap.size, 0, none⟩)) true ty).run Tryd.prog wr = .ok (.tuple #[.bool false]) wr := fun ty => Lib.run_next_end_at wr w.heap.size s pos ty hit.out hp
      have L := Lib.hid (show badV s = -1 by
        rw [hh.out.1]
        cases fuel with
        | zero => rfl
        | succ f => rw [badFrom, if_neg hp])
      go_wp2
      go_ret
      exact ⟨by (rw [L.out]) <;> rfl, hb⟩
def accF (r0 : Nat) (g : Nat → Nat) : Nat → Nat
  | 0 => r0
  | k + 1 => accF r0 g k * 64 + (g (k + 1) - 0x80)
def conts (g : Nat → Nat) (k : Nat) : Prop := ∀ i, 1 ≤ i → i ≤ k → 0x80 ≤ g i ∧ g i < 0xC0
instance (g : Nat → Nat) (k : Nat) : Decidable (conts g k) := by
  have : conts g k ↔ ∀ i, i < k → 0x80 ≤ g (i + 1) ∧ g (i + 1) < 0xC0 := by
    constructor
    · intro h i hi; exact h (i + 1) (by omega) (by omega)
    · intro h i h1 h2
      have := h (i - 1) (by omega)
      rwa [show i - 1 + 1 = i by omega] at this
  exact decidable_of_iff _ this.symm
/-- What comes out of so many bytes. -/
def firstT (r0 n least : Nat) (g : Nat → Nat) (m : Nat) : Nat × Nat :=
  if n ≤ m ∧ conts g (n - 1) ∧ least ≤ accF r0 g (n - 1) ∧ sgn (accF r0 g (n - 1)) = true then (accF r0 g (n - 1), n) else (0, 0)
theorem conts1 (g : Nat → Nat) : conts g 0 := fun i h1 h2 => by omega
theorem conts_s (g : Nat → Nat) (k : Nat) : conts g (k + 1) ↔ conts g k ∧ 0x80 ≤ g (k + 1) ∧ g (k + 1) < 0xC0 := by
  constructor
  · intro h; exact ⟨fun i h1 h2 => h i h1 (by omega), h (k + 1) (by omega) (by omega)⟩
  · rintro ⟨h, h'⟩ i h1 h2
    by_cases hi : i = k + 1
    · subst hi; exact h'
    · exact h i h1 (by omega)
theorem first_T (g : Nat → Nat) (m : Nat) (hm : 0 < m) : first g m = if g 0 < 0x80 then firstT (g 0) 1 0 g m else if 0xC0 ≤ g 0 ∧ g 0 < 0xE0 then firstT (g 0 - 0xC0) 2 0x80 g m
    else if 0xE0 ≤ g 0 ∧ g 0 < 0xF0 then firstT (g 0 - 0xE0) 3 0x800 g m else if 0xF0 ≤ g 0 ∧ g 0 < 0xF8 then firstT (g 0 - 0xF0) 4 0x10000 g m else (0, 0) := by
  unfold first firstT
  refine ite_ext Iff.rfl (fun _ => ite_ext ?_ (fun _ => rfl) fun _ => rfl) fun _ => ite_ext Iff.rfl (fun _ => ite_ext ?_ (fun _ => rfl) fun _ => rfl) fun _ => ite_ext Iff.rfl (fun _ => ite_ext ?_ (fun _ => rfl) fun _ => rfl) fun _ => ite_ext Iff.rfl (fun _ => ite_ext ?_ (fun _ => rfl) fun _ => rfl) fun _ => rfl
  · exact ⟨fun h => ⟨hm, conts1 g, Nat.zero_le _, h⟩, fun h => h.2.2.2⟩
  · rw [show (2 : Nat) - 1 = 0 + 1 from rfl, conts_s]
    exact ⟨fun ⟨a, b, c, d, e⟩ => ⟨a, ⟨conts1 g, b, c⟩, d, e⟩, fun ⟨a, ⟨_, b, c⟩, d, e⟩ => ⟨a, b, c, d, e⟩⟩
  · rw [show (3 : Nat) - 1 = 0 + 1 + 1 from rfl, conts_s, conts_s]
    exact ⟨fun ⟨a, b, c, b', c', d, e⟩ => ⟨a, ⟨⟨conts1 g, b, c⟩, b', c'⟩, d, e⟩, fun ⟨a, ⟨⟨_, b, c⟩, b', c'⟩, d, e⟩ => ⟨a, b, c, b', c', d, e⟩⟩
  · rw [show (4 : Nat) - 1 = 0 + 1 + 1 + 1 from rfl, conts_s, conts_s, conts_s]
    exact ⟨fun ⟨a, b, c, b', c', b'', c'', d, e⟩ => ⟨a, ⟨⟨⟨conts1 g, b, c⟩, b', c'⟩, b'', c''⟩, d, e⟩, fun ⟨a, ⟨⟨⟨_, b, c⟩, b', c'⟩, b'', c''⟩, d, e⟩ => ⟨a, b, c, b', c', b'', c'', d, e⟩⟩
theorem gOf_at (s : ByteArray) (i : Nat) (h : i < s.size) : (s[i]'h).toNat = gOf s 0 i := by
  rw [gOf, Nat.zero_add, get_list, List.getD_eq_getElem?_getD, List.getElem?_eq_getElem (by rw [size_list]; exact h)]; rfl
theorem acc_bd (r0 : Nat) (g : Nat → Nat) (h : r0 ≤ 127) (hg : ∀ i, g i < 256) (k : Nat) (hk : k ≤ 3) : accF r0 g k ≤ 40000000 := by
  have st : ∀ j, accF r0 g (j + 1) ≤ accF r0 g j * 64 + 127 := fun j => by
    have := hg (j + 1)
    show accF r0 g j * 64 + (g (j + 1) - 0x80) ≤ _
    omega
  have s0 : accF r0 g 0 ≤ 127 := h
  have s1 : accF r0 g 1 ≤ accF r0 g 0 * 64 + 127 := st 0
  have s2 : accF r0 g 2 ≤ accF r0 g 1 * 64 + 127 := st 1
  have s3 : accF r0 g 3 ≤ accF r0 g 2 * 64 + 127 := st 2
  have hc : k = 0 ∨ k = 1 ∨ k = 2 ∨ k = 3 := by omega
  rcases hc with rfl | rfl | rfl | rfl <;> omega
set_option maxRecDepth 100000 in
set_option maxHeartbeats 8000000 in
theorem rfirst_any (s : ByteArray) (h0 : 0 < s.size) (hs : s.size ≤ 9223372036854775807) (w : World) : Calls Tryd.prog 55 #[.string s] w fun e w' => e = .returned (.tuple #[.int .i64 ((first (gOf s 0) s.size).1 : Nat), .int .i64 ((first (gOf s 0) s.size).2 : Nat)]) ∧ w' = w := by
  have hF := first_T (gOf s 0) s.size h0
  have hg := gOf_lt s 0
  have e0 := gOf_at s 0 h0
  have i0 : (0 : Int) < s.size := by omega
  have i1 : (s.size : Int) ≤ 9223372036854775807 := by omega
  have b0 := hg 0
  have HG := Lib.hid hg
  have HA := Lib.hid (gOf_at s)
  by_cases c5 : gOf s 0 0 < 0x80 ∨ (0xC0 ≤ gOf s 0 0 ∧ gOf s 0 0 < 0xF8)
  · have hc4 : (gOf s 0 0 < 0x80) ∨ (0xC0 ≤ gOf s 0 0 ∧ gOf s 0 0 < 0xE0) ∨ (0xE0 ≤ gOf s 0 0 ∧ gOf s 0 0 < 0xF0) ∨ (0xF0 ≤ gOf s 0 0 ∧ gOf s 0 0 < 0xF8) := by omega
    clear c5
    rcases hc4 with cc | cc | cc | cc
    · have hT : first (gOf s 0) s.size = firstT (gOf s 0 0) 1 0 (gOf s 0) s.size := by rw [hF, if_pos cc]
      obtain ⟨R, hR⟩ : ∃ R, R = gOf s 0 0 := ⟨_, rfl⟩
      rw [← hR] at hT
      have hRi : (s[0].toNat : Int) = (R : Int) := by omega
      have hR127 : R ≤ 127 := by omega
      have b1 : (0 : Int) ≤ s[0].toNat := by omega
      have b2 : (s[0].toNat : Int) < 128 := by omega
      have BD := Lib.hid (fun k hk => acc_bd R (gOf s 0) hR127 HG.out k hk)
      have HT := Lib.hid hT
      have HRI := Lib.hid hRi
      have RB := Lib.hid hR127
      clear hF hT hRi hR127 hR cc hg b0 e0
      by_cases hm : (s.size : Int) < 1
      · have L := Lib.hid (show first (gOf s 0) s.size = (0, 0) by rw [HT.out, firstT, if_neg (fun h => by have := h.1; omega)])
        go_enter Tryd.func55, Tryd.ntmps55
        go_wp2
        go_ret2
        exact ⟨by (rw [L.out]) <;> rfl, rfl⟩
      · go_enter Tryd.func55, Tryd.ntmps55
        go_wp2_with fail
        go_loopg [6, 8] 1 (fun g v6 v8 wr => ∃ k : Nat, v6 = .int .i64 ((accF R (gOf s 0) k : Nat) : Int) ∧ v8 = .int .i64 ((k : Int) + 1) ∧ Hid (k ≤ 1 - 1 ∧ conts (gOf s 0) k ∧ g = 1 - k) ∧ wr = w)
        case atStart => exact ⟨0, by first | rw [HRI.out]; rfl | (rw [← HRI.out]; rfl), rfl, ⟨by omega, conts1 _, rfl⟩, rfl⟩
        case round =>
          obtain ⟨k, rfl, rfl, hh, rfl⟩ := hrel
          obtain ⟨hk, hct, -⟩ := hh.out
          have hbd := BD.out k (by omega)
          have hbi : ((accF R (gOf s 0) k : Nat) : Int) ≤ 40000000 := by omega
          by_cases hlt : k + 1 < 1
          · have hks : k + 1 < s.size := by omega
            have hga := HA.out (k + 1) hks
            have hg1 := HG.out (k + 1)
            have CS := Lib.hid (conts_s (gOf s 0) k)
            have HAC := Lib.hid (show accF R (gOf s 0) (k + 1) = accF R (gOf s 0) k * 64 + (gOf s 0 (k + 1) - 0x80) from rfl)
            have k1 : (k : Int) + 1 < 1 := by omega
            have k2 : (k : Int) + 1 < s.size := by omega
            rw [← hga] at CS HAC hg1
            obtain ⟨a, ha⟩ : ∃ a, a = accF R (gOf s 0) k := ⟨_, rfl⟩
            rw [← ha] at hbi HAC ⊢
            have k3 : (s[k + 1].toNat : Int) ≤ 255 := by omega
            by_cases hc : 0x80 ≤ s[k + 1].toNat ∧ s[k + 1].toNat < 0xC0
            · obtain ⟨hc1, hc2⟩ := hc
              have k4 : (128 : Int) ≤ s[k + 1].toNat := by omega
              have k5 : (s[k + 1].toNat : Int) < 192 := by omega
              have NC := Lib.hid (CS.out.2 ⟨hct, hc1, hc2⟩)
              have E := Lib.hid (show (a : Int) * 64 + (s[k + 1].toNat : Int) - 128 = ((accF R (gOf s 0) (k + 1) : Nat) : Int) by rw [HAC.out]; omega)
              clear hbd ha hga hg1 hc1 hc2 hk hct
              exfalso; omega
            · have L := Lib.hid (show first (gOf s 0) s.size = (0, 0) by
                rw [HT.out, firstT, if_neg (fun h => hc (by rw [hga]; exact h.2.1 (k + 1) (by omega) (by omega)))])
              have k4 : (s[k + 1].toNat : Int) < 128 ∨ (192 : Int) ≤ s[k + 1].toNat := by omega
              clear hbd ha hga hg1 hc hk hct
              rcases k4 with k4 | k4
              all_goals
                exfalso; omega
          · obtain rfl : k = 1 - 1 := by omega
            have hsg := fun w => rsign_any (accF R (gOf s 0) (1 - 1)) (by omega) w
            have HF2 := Lib.hid (show firstT R 1 0 (gOf s 0) s.size = if 1 ≤ s.size ∧ conts (gOf s 0) (1 - 1) ∧ 0 ≤ accF R (gOf s 0) (1 - 1) ∧ sgn (accF R (gOf s 0) (1 - 1)) = true then (accF R (gOf s 0) (1 - 1), 1) else (0, 0) from rfl)
            obtain ⟨a, ha⟩ : ∃ a, a = accF R (gOf s 0) (1 - 1) := ⟨_, rfl⟩
            rw [← ha] at hbi hsg HF2 ⊢
            have HSG := Lib.hid hsg
            have HCT := Lib.hid hct
            clear hbd ha hsg hk hct
            have hns : 1 ≤ s.size := by omega
            cases hsv : sgn a with
            | false =>
              have HSV := Lib.hid hsv
              have L := Lib.hid (show first (gOf s 0) s.size = (0, 0) by rw [HT.out, HF2.out, if_neg (fun h => by have := h.2.2.2; rw [hsv] at this; cases this)])
              clear hsv hns
              by_cases hl : (a : Int) < 0
              · exfalso; omega
              · go_wp2_with (go_at_call 64; refine (HSG.out _).mono ?_; rintro e W1 ⟨rfl, rfl⟩; rw [HSV.out])
                go_ret2
                exact ⟨by (rw [L.out]) <;> rfl, rfl⟩
            | true =>
              have HSV := Lib.hid hsv
              by_cases hl : (a : Int) < 0
              · exfalso; omega
              · have L := Lib.hid (show first (gOf s 0) s.size = (a, 1) by rw [HT.out, HF2.out, if_pos ⟨hns, HCT.out, by omega, hsv⟩])
                clear hsv hns
                go_wp2_with (go_at_call 64; refine (HSG.out _).mono ?_; rintro e W1 ⟨rfl, rfl⟩; rw [HSV.out])
                go_ret2
                exact ⟨by (rw [L.out]) <;> rfl, rfl⟩
    · have hT : first (gOf s 0) s.size = firstT (gOf s 0 0 - 0xC0) 2 128 (gOf s 0) s.size := by rw [hF, if_neg (by omega), if_pos cc]
      obtain ⟨R, hR⟩ : ∃ R, R = gOf s 0 0 - 0xC0 := ⟨_, rfl⟩
      rw [← hR] at hT
      have hRi : (s[0].toNat : Int) - 192 = (R : Int) := by omega
      have hR127 : R ≤ 127 := by omega
      have b1 : (192 : Int) ≤ s[0].toNat := by omega
      have b2 : (s[0].toNat : Int) < 224 := by omega
      have BD := Lib.hid (fun k hk => acc_bd R (gOf s 0) hR127 HG.out k hk)
      have HT := Lib.hid hT
      have HRI := Lib.hid hRi
      have RB := Lib.hid hR127
      clear hF hT hRi hR127 hR cc hg b0 e0
      by_cases hm : (s.size : Int) < 2
      · have L := Lib.hid (show first (gOf s 0) s.size = (0, 0) by rw [HT.out, firstT, if_neg (fun h => by have := h.1; omega)])
        go_enter Tryd.func55, Tryd.ntmps55
        go_wp2
        go_ret2
        exact ⟨by (rw [L.out]) <;> rfl, rfl⟩
      · go_enter Tryd.func55, Tryd.ntmps55
        go_wp2_with fail
        go_loopg [6, 8] 2 (fun g v6 v8 wr => ∃ k : Nat, v6 = .int .i64 ((accF R (gOf s 0) k : Nat) : Int) ∧ v8 = .int .i64 ((k : Int) + 1) ∧ Hid (k ≤ 2 - 1 ∧ conts (gOf s 0) k ∧ g = 2 - k) ∧ wr = w)
        case atStart => exact ⟨0, by first | rw [HRI.out]; rfl | (rw [← HRI.out]; rfl), rfl, ⟨by omega, conts1 _, rfl⟩, rfl⟩
        case round =>
          obtain ⟨k, rfl, rfl, hh, rfl⟩ := hrel
          obtain ⟨hk, hct, -⟩ := hh.out
          have hbd := BD.out k (by omega)
          have hbi : ((accF R (gOf s 0) k : Nat) : Int) ≤ 40000000 := by omega
          by_cases hlt : k + 1 < 2
          · have hks : k + 1 < s.size := by omega
            have hga := HA.out (k + 1) hks
            have hg1 := HG.out (k + 1)
            have CS := Lib.hid (conts_s (gOf s 0) k)
            have HAC := Lib.hid (show accF R (gOf s 0) (k + 1) = accF R (gOf s 0) k * 64 + (gOf s 0 (k + 1) - 0x80) from rfl)
            have k1 : (k : Int) + 1 < 2 := by omega
            have k2 : (k : Int) + 1 < s.size := by omega
            rw [← hga] at CS HAC hg1
            obtain ⟨a, ha⟩ : ∃ a, a = accF R (gOf s 0) k := ⟨_, rfl⟩
            rw [← ha] at hbi HAC ⊢
            have k3 : (s[k + 1].toNat : Int) ≤ 255 := by omega
            by_cases hc : 0x80 ≤ s[k + 1].toNat ∧ s[k + 1].toNat < 0xC0
            · obtain ⟨hc1, hc2⟩ := hc
              have k4 : (128 : Int) ≤ s[k + 1].toNat := by omega
              have k5 : (s[k + 1].toNat : Int) < 192 := by omega
              have NC := Lib.hid (CS.out.2 ⟨hct, hc1, hc2⟩)
              have E := Lib.hid (show (a : Int) * 64 + (s[k + 1].toNat : Int) - 128 = ((accF R (gOf s 0) (k + 1) : Nat) : Int) by rw [HAC.out]; omega)
              clear hbd ha hga hg1 hc1 hc2 hk hct
              · go_wp2
                go_roundg (gk - 1)
                case measure => have := hh.out.2.2; omega
                case rel => exact ⟨k + 1, by rw [E.out], by go_num, ⟨by omega, NC.out, by have := hh.out.2.2; omega⟩, rfl⟩
            · have L := Lib.hid (show first (gOf s 0) s.size = (0, 0) by
                rw [HT.out, firstT, if_neg (fun h => hc (by rw [hga]; exact h.2.1 (k + 1) (by omega) (by omega)))])
              have k4 : (s[k + 1].toNat : Int) < 128 ∨ (192 : Int) ≤ s[k + 1].toNat := by omega
              clear hbd ha hga hg1 hc hk hct
              rcases k4 with k4 | k4
              all_goals
                · go_wp2
                  go_ret2
                  exact ⟨by (rw [L.out]) <;> rfl, rfl⟩
          · obtain rfl : k = 2 - 1 := by omega
            have hsg := fun w => rsign_any (accF R (gOf s 0) (2 - 1)) (by omega) w
            have HF2 := Lib.hid (show firstT R 2 128 (gOf s 0) s.size = if 2 ≤ s.size ∧ conts (gOf s 0) (2 - 1) ∧ 128 ≤ accF R (gOf s 0) (2 - 1) ∧ sgn (accF R (gOf s 0) (2 - 1)) = true then (accF R (gOf s 0) (2 - 1), 2) else (0, 0) from rfl)
            obtain ⟨a, ha⟩ : ∃ a, a = accF R (gOf s 0) (2 - 1) := ⟨_, rfl⟩
            rw [← ha] at hbi hsg HF2 ⊢
            have HSG := Lib.hid hsg
            have HCT := Lib.hid hct
            clear hbd ha hsg hk hct
            have hns : 2 ≤ s.size := by omega
            cases hsv : sgn a with
            | false =>
              have HSV := Lib.hid hsv
              have L := Lib.hid (show first (gOf s 0) s.size = (0, 0) by rw [HT.out, HF2.out, if_neg (fun h => by have := h.2.2.2; rw [hsv] at this; cases this)])
              clear hsv hns
              by_cases hl : (a : Int) < 128
              · · go_wp2_with fail
                  go_ret2
                  exact ⟨by (rw [L.out]) <;> rfl, rfl⟩
              · go_wp2_with (go_at_call 64; refine (HSG.out _).mono ?_; rintro e W1 ⟨rfl, rfl⟩; rw [HSV.out])
                go_ret2
                exact ⟨by (rw [L.out]) <;> rfl, rfl⟩
            | true =>
              have HSV := Lib.hid hsv
              by_cases hl : (a : Int) < 128
              · · have L := Lib.hid (show first (gOf s 0) s.size = (0, 0) by rw [HT.out, HF2.out, if_neg (fun h => by have := h.2.2.1; omega)])
                  clear hsv hns
                  go_wp2_with fail
                  go_ret2
                  exact ⟨by (rw [L.out]) <;> rfl, rfl⟩
              · have L := Lib.hid (show first (gOf s 0) s.size = (a, 2) by rw [HT.out, HF2.out, if_pos ⟨hns, HCT.out, by omega, hsv⟩])
                clear hsv hns
                go_wp2_with (go_at_call 64; refine (HSG.out _).mono ?_; rintro e W1 ⟨rfl, rfl⟩; rw [HSV.out])
                go_ret2
                exact ⟨by (rw [L.out]) <;> rfl, rfl⟩
    · have hT : first (gOf s 0) s.size = firstT (gOf s 0 0 - 0xE0) 3 2048 (gOf s 0) s.size := by rw [hF, if_neg (by omega), if_neg (by omega), if_pos cc]
      obtain ⟨R, hR⟩ : ∃ R, R = gOf s 0 0 - 0xE0 := ⟨_, rfl⟩
      rw [← hR] at hT
      have hRi : (s[0].toNat : Int) - 224 = (R : Int) := by omega
      have hR127 : R ≤ 127 := by omega
      have b1 : (224 : Int) ≤ s[0].toNat := by omega
      have b2 : (s[0].toNat : Int) < 240 := by omega
      have BD := Lib.hid (fun k hk => acc_bd R (gOf s 0) hR127 HG.out k hk)
      have HT := Lib.hid hT
      have HRI := Lib.hid hRi
      have RB := Lib.hid hR127
      clear hF hT hRi hR127 hR cc hg b0 e0
      by_cases hm : (s.size : Int) < 3
      · have L := Lib.hid (show first (gOf s 0) s.size = (0, 0) by rw [HT.out, firstT, if_neg (fun h => by have := h.1; omega)])
        go_enter Tryd.func55, Tryd.ntmps55
        go_wp2
        go_ret2
        exact ⟨by (rw [L.out]) <;> rfl, rfl⟩
      · go_enter Tryd.func55, Tryd.ntmps55
        go_wp2_with fail
        go_loopg [6, 8] 3 (fun g v6 v8 wr => ∃ k : Nat, v6 = .int .i64 ((accF R (gOf s 0) k : Nat) : Int) ∧ v8 = .int .i64 ((k : Int) + 1) ∧ Hid (k ≤ 3 - 1 ∧ conts (gOf s 0) k ∧ g = 3 - k) ∧ wr = w)
        case atStart => exact ⟨0, by first | rw [HRI.out]; rfl | (rw [← HRI.out]; rfl), rfl, ⟨by omega, conts1 _, rfl⟩, rfl⟩
        case round =>
          obtain ⟨k, rfl, rfl, hh, rfl⟩ := hrel
          obtain ⟨hk, hct, -⟩ := hh.out
          have hbd := BD.out k (by omega)
          have hbi : ((accF R (gOf s 0) k : Nat) : Int) ≤ 40000000 := by omega
          by_cases hlt : k + 1 < 3
          · have hks : k + 1 < s.size := by omega
            have hga := HA.out (k + 1) hks
            have hg1 := HG.out (k + 1)
            have CS := Lib.hid (conts_s (gOf s 0) k)
            have HAC := Lib.hid (show accF R (gOf s 0) (k + 1) = accF R (gOf s 0) k * 64 + (gOf s 0 (k + 1) - 0x80) from rfl)
            have k1 : (k : Int) + 1 < 3 := by omega
            have k2 : (k : Int) + 1 < s.size := by omega
            rw [← hga] at CS HAC hg1
            obtain ⟨a, ha⟩ : ∃ a, a = accF R (gOf s 0) k := ⟨_, rfl⟩
            rw [← ha] at hbi HAC ⊢
            have k3 : (s[k + 1].toNat : Int) ≤ 255 := by omega
            by_cases hc : 0x80 ≤ s[k + 1].toNat ∧ s[k + 1].toNat < 0xC0
            · obtain ⟨hc1, hc2⟩ := hc
              have k4 : (128 : Int) ≤ s[k + 1].toNat := by omega
              have k5 : (s[k + 1].toNat : Int) < 192 := by omega
              have NC := Lib.hid (CS.out.2 ⟨hct, hc1, hc2⟩)
              have E := Lib.hid (show (a : Int) * 64 + (s[k + 1].toNat : Int) - 128 = ((accF R (gOf s 0) (k + 1) : Nat) : Int) by rw [HAC.out]; omega)
              clear hbd ha hga hg1 hc1 hc2 hk hct
              · go_wp2
                go_roundg (gk - 1)
                case measure => have := hh.out.2.2; omega
                case rel => exact ⟨k + 1, by rw [E.out], by go_num, ⟨by omega, NC.out, by have := hh.out.2.2; omega⟩, rfl⟩
            · have L := Lib.hid (show first (gOf s 0) s.size = (0, 0) by
                rw [HT.out, firstT, if_neg (fun h => hc (by rw [hga]; exact h.2.1 (k + 1) (by omega) (by omega)))])
              have k4 : (s[k + 1].toNat : Int) < 128 ∨ (192 : Int) ≤ s[k + 1].toNat := by omega
              clear hbd ha hga hg1 hc hk hct
              rcases k4 with k4 | k4
              all_goals
                · go_wp2
                  go_ret2
                  exact ⟨by (rw [L.out]) <;> rfl, rfl⟩
          · obtain rfl : k = 3 - 1 := by omega
            have hsg := fun w => rsign_any (accF R (gOf s 0) (3 - 1)) (by omega) w
            have HF2 := Lib.hid (show firstT R 3 2048 (gOf s 0) s.size = if 3 ≤ s.size ∧ conts (gOf s 0) (3 - 1) ∧ 2048 ≤ accF R (gOf s 0) (3 - 1) ∧ sgn (accF R (gOf s 0) (3 - 1)) = true then (accF R (gOf s 0) (3 - 1), 3) else (0, 0) from rfl)
            obtain ⟨a, ha⟩ : ∃ a, a = accF R (gOf s 0) (3 - 1) := ⟨_, rfl⟩
            rw [← ha] at hbi hsg HF2 ⊢
            have HSG := Lib.hid hsg
            have HCT := Lib.hid hct
            clear hbd ha hsg hk hct
            have hns : 3 ≤ s.size := by omega
            cases hsv : sgn a with
            | false =>
              have HSV := Lib.hid hsv
              have L := Lib.hid (show first (gOf s 0) s.size = (0, 0) by rw [HT.out, HF2.out, if_neg (fun h => by have := h.2.2.2; rw [hsv] at this; cases this)])
              clear hsv hns
              by_cases hl : (a : Int) < 2048
              · · go_wp2_with fail
                  go_ret2
                  exact ⟨by (rw [L.out]) <;> rfl, rfl⟩
              · go_wp2_with (go_at_call 64; refine (HSG.out _).mono ?_; rintro e W1 ⟨rfl, rfl⟩; rw [HSV.out])
                go_ret2
                exact ⟨by (rw [L.out]) <;> rfl, rfl⟩
            | true =>
              have HSV := Lib.hid hsv
              by_cases hl : (a : Int) < 2048
              · · have L := Lib.hid (show first (gOf s 0) s.size = (0, 0) by rw [HT.out, HF2.out, if_neg (fun h => by have := h.2.2.1; omega)])
                  clear hsv hns
                  go_wp2_with fail
                  go_ret2
                  exact ⟨by (rw [L.out]) <;> rfl, rfl⟩
              · have L := Lib.hid (show first (gOf s 0) s.size = (a, 3) by rw [HT.out, HF2.out, if_pos ⟨hns, HCT.out, by omega, hsv⟩])
                clear hsv hns
                go_wp2_with (go_at_call 64; refine (HSG.out _).mono ?_; rintro e W1 ⟨rfl, rfl⟩; rw [HSV.out])
                go_ret2
                exact ⟨by (rw [L.out]) <;> rfl, rfl⟩
    · have hT : first (gOf s 0) s.size = firstT (gOf s 0 0 - 0xF0) 4 65536 (gOf s 0) s.size := by rw [hF, if_neg (by omega), if_neg (by omega), if_neg (by omega), if_pos cc]
      obtain ⟨R, hR⟩ : ∃ R, R = gOf s 0 0 - 0xF0 := ⟨_, rfl⟩
      rw [← hR] at hT
      have hRi : (s[0].toNat : Int) - 240 = (R : Int) := by omega
      have hR127 : R ≤ 127 := by omega
      have b1 : (240 : Int) ≤ s[0].toNat := by omega
      have b2 : (s[0].toNat : Int) < 248 := by omega
      have BD := Lib.hid (fun k hk => acc_bd R (gOf s 0) hR127 HG.out k hk)
      have HT := Lib.hid hT
      have HRI := Lib.hid hRi
      have RB := Lib.hid hR127
      clear hF hT hRi hR127 hR cc hg b0 e0
      by_cases hm : (s.size : Int) < 4
      · have L := Lib.hid (show first (gOf s 0) s.size = (0, 0) by rw [HT.out, firstT, if_neg (fun h => by have := h.1; omega)])
        go_enter Tryd.func55, Tryd.ntmps55
        go_wp2
        go_ret2
        exact ⟨by (rw [L.out]) <;> rfl, rfl⟩
      · go_enter Tryd.func55, Tryd.ntmps55
        go_wp2_with fail
        go_loopg [6, 8] 4 (fun g v6 v8 wr => ∃ k : Nat, v6 = .int .i64 ((accF R (gOf s 0) k : Nat) : Int) ∧ v8 = .int .i64 ((k : Int) + 1) ∧ Hid (k ≤ 4 - 1 ∧ conts (gOf s 0) k ∧ g = 4 - k) ∧ wr = w)
        case atStart => exact ⟨0, by first | rw [HRI.out]; rfl | (rw [← HRI.out]; rfl), rfl, ⟨by omega, conts1 _, rfl⟩, rfl⟩
        case round =>
          obtain ⟨k, rfl, rfl, hh, rfl⟩ := hrel
          obtain ⟨hk, hct, -⟩ := hh.out
          have hbd := BD.out k (by omega)
          have hbi : ((accF R (gOf s 0) k : Nat) : Int) ≤ 40000000 := by omega
          by_cases hlt : k + 1 < 4
          · have hks : k + 1 < s.size := by omega
            have hga := HA.out (k + 1) hks
            have hg1 := HG.out (k + 1)
            have CS := Lib.hid (conts_s (gOf s 0) k)
            have HAC := Lib.hid (show accF R (gOf s 0) (k + 1) = accF R (gOf s 0) k * 64 + (gOf s 0 (k + 1) - 0x80) from rfl)
            have k1 : (k : Int) + 1 < 4 := by omega
            have k2 : (k : Int) + 1 < s.size := by omega
            rw [← hga] at CS HAC hg1
            obtain ⟨a, ha⟩ : ∃ a, a = accF R (gOf s 0) k := ⟨_, rfl⟩
            rw [← ha] at hbi HAC ⊢
            have k3 : (s[k + 1].toNat : Int) ≤ 255 := by omega
            by_cases hc : 0x80 ≤ s[k + 1].toNat ∧ s[k + 1].toNat < 0xC0
            · obtain ⟨hc1, hc2⟩ := hc
              have k4 : (128 : Int) ≤ s[k + 1].toNat := by omega
              have k5 : (s[k + 1].toNat : Int) < 192 := by omega
              have NC := Lib.hid (CS.out.2 ⟨hct, hc1, hc2⟩)
              have E := Lib.hid (show (a : Int) * 64 + (s[k + 1].toNat : Int) - 128 = ((accF R (gOf s 0) (k + 1) : Nat) : Int) by rw [HAC.out]; omega)
              clear hbd ha hga hg1 hc1 hc2 hk hct
              · go_wp2
                go_roundg (gk - 1)
                case measure => have := hh.out.2.2; omega
                case rel => exact ⟨k + 1, by rw [E.out], by go_num, ⟨by omega, NC.out, by have := hh.out.2.2; omega⟩, rfl⟩
            · have L := Lib.hid (show first (gOf s 0) s.size = (0, 0) by
                rw [HT.out, firstT, if_neg (fun h => hc (by rw [hga]; exact h.2.1 (k + 1) (by omega) (by omega)))])
              have k4 : (s[k + 1].toNat : Int) < 128 ∨ (192 : Int) ≤ s[k + 1].toNat := by omega
              clear hbd ha hga hg1 hc hk hct
              rcases k4 with k4 | k4
              all_goals
                · go_wp2
                  go_ret2
                  exact ⟨by (rw [L.out]) <;> rfl, rfl⟩
          · obtain rfl : k = 4 - 1 := by omega
            have hsg := fun w => rsign_any (accF R (gOf s 0) (4 - 1)) (by omega) w
            have HF2 := Lib.hid (show firstT R 4 65536 (gOf s 0) s.size = if 4 ≤ s.size ∧ conts (gOf s 0) (4 - 1) ∧ 65536 ≤ accF R (gOf s 0) (4 - 1) ∧ sgn (accF R (gOf s 0) (4 - 1)) = true then (accF R (gOf s 0) (4 - 1), 4) else (0, 0) from rfl)
            obtain ⟨a, ha⟩ : ∃ a, a = accF R (gOf s 0) (4 - 1) := ⟨_, rfl⟩
            rw [← ha] at hbi hsg HF2 ⊢
            have HSG := Lib.hid hsg
            have HCT := Lib.hid hct
            clear hbd ha hsg hk hct
            have hns : 4 ≤ s.size := by omega
            cases hsv : sgn a with
            | false =>
              have HSV := Lib.hid hsv
              have L := Lib.hid (show first (gOf s 0) s.size = (0, 0) by rw [HT.out, HF2.out, if_neg (fun h => by have := h.2.2.2; rw [hsv] at this; cases this)])
              clear hsv hns
              by_cases hl : (a : Int) < 65536
              · · go_wp2_with fail
                  go_ret2
                  exact ⟨by (rw [L.out]) <;> rfl, rfl⟩
              · go_wp2_with (go_at_call 64; refine (HSG.out _).mono ?_; rintro e W1 ⟨rfl, rfl⟩; rw [HSV.out])
                go_ret2
                exact ⟨by (rw [L.out]) <;> rfl, rfl⟩
            | true =>
              have HSV := Lib.hid hsv
              by_cases hl : (a : Int) < 65536
              · · have L := Lib.hid (show first (gOf s 0) s.size = (0, 0) by rw [HT.out, HF2.out, if_neg (fun h => by have := h.2.2.1; omega)])
                  clear hsv hns
                  go_wp2_with fail
                  go_ret2
                  exact ⟨by (rw [L.out]) <;> rfl, rfl⟩
              · have L := Lib.hid (show first (gOf s 0) s.size = (a, 4) by rw [HT.out, HF2.out, if_pos ⟨hns, HCT.out, by omega, hsv⟩])
                clear hsv hns
                go_wp2_with (go_at_call 64; refine (HSG.out _).mono ?_; rintro e W1 ⟨rfl, rfl⟩; rw [HSV.out])
                go_ret2
                exact ⟨by (rw [L.out]) <;> rfl, rfl⟩
  · have L := Lib.hid (show first (gOf s 0) s.size = (0, 0) by
      rw [hF, if_neg (fun h => c5 (.inl h)), if_neg (fun h => c5 (.inr (by omega))), if_neg (fun h => c5 (.inr (by omega))), if_neg (fun h => c5 (.inr (by omega)))])
    have b1 : (128 : Int) ≤ s[0].toNat := by omega
    have b2 : (s[0].toNat : Int) < 192 ∨ (248 : Int) ≤ s[0].toNat := by omega
    have b3 : (s[0].toNat : Int) ≤ 255 := by omega
    clear hF c5 hg e0 b0
    rcases b2 with b2 | b2
    all_goals
      go_enter Tryd.func55, Tryd.ntmps55
      go_wp2
      go_ret2
      exact ⟨by (rw [L.out]) <;> rfl, rfl⟩
theorem firstT_le (r0 n least : Nat) (g : Nat → Nat) (m : Nat) : (firstT r0 n least g m).2 ≤ m := by
  unfold firstT
  split
  · rename_i h; exact h.1
  · exact Nat.zero_le _
theorem first_le (g : Nat → Nat) (m : Nat) (hm : 0 < m) : (first g m).2 ≤ m := by
  rw [first_T g m hm]
  split
  · exact firstT_le ..
  · split
    · exact firstT_le ..
    · split
      · exact firstT_le ..
      · split
        · exact firstT_le ..
        · exact Nat.zero_le _
theorem gOf_ext (s : ByteArray) (pos : Nat) : gOf (s.extract pos s.size) 0 = gOf s pos := by
  funext i
  rw [gOf_list, gOf_list, List.drop_zero, ext_end]
theorem first_ok (s : ByteArray) (pos : Nat) (h : pos < s.size) : (first (gOf s pos) (s.size - pos)).2 = if okAt s pos = true then wdAt s pos else 0 := by
  rw [← first_is (gOf s pos) (s.size - pos) (gOf_lt s pos) (by omega)]
  unfold okAt wdAt
  split <;> rfl
theorem ext_size (s : ByteArray) (pos : Nat) : (s.extract pos s.size).size = s.size - pos := by simp [ByteArray.size_extract]
set_option maxRecDepth 100000 in
set_option maxHeartbeats 4000000 in
theorem rbad_any (s : ByteArray) (hs : s.size ≤ 9223372036854775807) (w : World) : Calls Tryd.prog 39 #[.string s] w fun e w' => e = .returned (.int .i64 (badV s)) ∧ w' = w := by
  have hsi : (s.size : Int) ≤ 9223372036854775807 := by omega
  go_enter Tryd.func39, Tryd.ntmps39
  go_wp2_with fail
  go_loopg [3] s.size (fun g v wr => ∃ pos fuel : Nat, v = .int .i64 pos ∧ pos ≤ s.size ∧ Hid (badV s = badFrom s fuel pos ∧ s.size ≤ fuel + pos ∧ g = s.size - pos) ∧ wr = w)
  case atStart => exact ⟨0, s.size, rfl, Nat.zero_le _, ⟨rfl, by omega, rfl⟩, rfl⟩
  case round =>
    obtain ⟨pos, fuel, rfl, hpl, hh, rfl⟩ := hrel
    by_cases hp : pos < s.size
    · have hz : 0 < (s.extract pos s.size).size := by rw [ext_size]; omega
      have hc := fun w => rfirst_any (s.extract pos s.size) hz (by rw [ext_size]; omega) w
      rw [gOf_ext, ext_size] at hc
      have hle := first_le (gOf s pos) (s.size - pos) (by omega)
      have hok := first_ok s pos hp
      obtain ⟨f, rfl⟩ : ∃ f, fuel = f + 1 := ⟨fuel - 1, by have := hh.out.2.1; omega⟩
      have hstep := hh.out.1
      rw [badFrom, if_pos hp] at hstep
      have hwd := wd_pos s pos
      obtain ⟨a, ha⟩ : ∃ a, a = (first (gOf s pos) (s.size - pos)).1 := ⟨_, rfl⟩
      obtain ⟨n, hn⟩ : ∃ n, n = (first (gOf s pos) (s.size - pos)).2 := ⟨_, rfl⟩
      rw [← ha, ← hn] at hc
      rw [← hn] at hle hok
      have HC := Lib.hid hc
      have i1 : (pos : Int) < s.size := by omega
      have i2 : (n : Int) + pos ≤ s.size := by omega
      cases hv : okAt s pos with
      | false =>
        rw [hv, if_neg (by decide)] at hok
        rw [hv, if_neg (by decide)] at hstep
        have L := Lib.hid hstep
        subst hok
        clear hstep hwd hle hc ha hn hv hz
        go_wp2_with (go_at_call 55; refine (HC.out _).mono ?_; rintro e W1 ⟨rfl, rfl⟩)
        go_ret
        exact ⟨by (rw [L.out]) <;> rfl, rfl⟩
      | true =>
        rw [hv, if_pos rfl] at hok
        rw [hv, if_pos rfl] at hstep
        have L := Lib.hid (show badV s = badFrom s f (pos + n) by rw [hstep, hok])
        have n1 : (1 : Int) ≤ n := by omega
        have e1 : ((n : Int) == 0) = false := by rw [beq_eq_false_iff_ne]; omega
        clear hstep hwd hle hc ha hn hv hok hz
        go_wp2_with (go_at_call 55; refine (HC.out _).mono ?_; rintro e W1 ⟨rfl, rfl⟩)
        go_roundg (s.size - (pos + n))
        case measure => have := hh.out.2.2; omega
        case rel => exact ⟨pos + n, f, by go_num, by omega, ⟨L.out, by have := hh.out.2.1; omega, rfl⟩, rfl⟩
    · have L := Lib.hid (show badV s = -1 by
        rw [hh.out.1]
        cases fuel with
        | zero => rfl
        | succ f => rw [badFrom, if_neg hp])
      go_wp2_with fail
      go_ret
      exact ⟨by (rw [L.out]) <;> rfl, rfl⟩
def goodB (s : ByteArray) : Bool := decide (badV s = -1)
theorem badFrom_sg (s : ByteArray) (f : Nat) : ∀ pos, badFrom s f pos = -1 ∨ 0 ≤ badFrom s f pos := by
  induction f with
  | zero => intro pos; exact .inl rfl
  | succ f ih =>
    intro pos
    unfold badFrom
    split
    · split
      · exact ih _
      · exact .inr (by omega)
    · exact .inl rfl
theorem good_any (s : ByteArray) (hs : s.size ≤ 9223372036854775807) (w : World) : Calls Tryd.prog 22 #[.string s] w fun e w' => e = .returned (.bool (goodB s)) ∧ Bel w w' := by
  have hc := fun w => bad_any s hs w
  have h1 := badFrom_sg s s.size 0
  have L := Lib.hid (show goodB s = (badV s == -1) from rfl)
  obtain ⟨z, hz⟩ : ∃ z, z = badV s := ⟨_, rfl⟩
  rw [← hz] at hc L
  have HC := Lib.hid hc
  clear hc h1 hz
  go_enter Tryd.func22, Tryd.ntmps22
  go_wp2_with (go_at_call 34; refine (HC.out _).mono ?_; rintro e W1 ⟨rfl, hb⟩)
  go_ret
  exact ⟨by (rw [L.out]) <;> rfl, hb⟩
theorem rgood_any (s : ByteArray) (hs : s.size ≤ 9223372036854775807) (w : World) : Calls Tryd.prog 27 #[.string s] w fun e w' => e = .returned (.bool (goodB s)) ∧ w' = w := by
  have hc := fun w => rbad_any s hs w
  have h1 : badV s = -1 ∨ 0 ≤ badV s := badFrom_sg s s.size 0
  obtain ⟨z, hz⟩ : ∃ z, z = badV s := ⟨_, rfl⟩
  have L := Lib.hid (show goodB s = decide (z < 0) by rw [hz, goodB, decide_eq_decide]; omega)
  rw [← hz] at hc
  have HC := Lib.hid hc
  clear hc h1 hz
  go_enter Tryd.func27, Tryd.ntmps27
  go_wp2_with (go_at_call 39; refine (HC.out _).mono ?_; rintro e W1 ⟨rfl, rfl⟩)
  go_ret
  exact ⟨by (rw [L.out]) <;> rfl, rfl⟩
def letB (r : Nat) : Bool := decide (r = 95 ∨ (97 ≤ r ∧ r ≤ 122) ∨ (65 ≤ r ∧ r ≤ 90))
def dgB (r : Nat) : Bool := decide (48 ≤ r ∧ r ≤ 57)
set_option maxRecDepth 100000 in
theorem letter_any (r : Nat) (hr : r ≤ 2147483647) (w : World) : Calls Tryd.prog 35 #[.int .i32 r] w fun e w' => e = .returned (.bool (letB r)) ∧ w' = w := by
  have hi : (r : Int) ≤ 2147483647 := by omega
  have hc : (r < 65) ∨ (65 ≤ r ∧ r ≤ 90) ∨ (90 < r ∧ r < 95) ∨ (r = 95) ∨ (r = 96) ∨ (97 ≤ r ∧ r ≤ 122) ∨ (122 < r) := by omega
  rcases hc with h | h | h | h | h | h | h
  · have L := Lib.hid (show letB r = false from decide_eq_false (by omega))
    have e95 : ((r : Int) == 95) = false := by rw [beq_eq_false_iff_ne]; omega
    have g97 : decide ((97 : Int) ≤ r) = false := by exact decide_eq_false (by omega)
    have l122 : decide ((r : Int) ≤ 122) = true := by exact decide_eq_true (by omega)
    have g65 : decide ((65 : Int) ≤ r) = false := by exact decide_eq_false (by omega)
    have l90 : decide ((r : Int) ≤ 90) = true := by exact decide_eq_true (by omega)
    clear h hr hi
    go_enter Tryd.func35, Tryd.ntmps35
    go_wp2
    go_ret
    exact ⟨by (rw [L.out]) <;> rfl, rfl⟩
  · have L := Lib.hid (show letB r = true from decide_eq_true (by omega))
    have e95 : ((r : Int) == 95) = false := by rw [beq_eq_false_iff_ne]; omega
    have g97 : decide ((97 : Int) ≤ r) = false := by exact decide_eq_false (by omega)
    have l122 : decide ((r : Int) ≤ 122) = true := by exact decide_eq_true (by omega)
    have g65 : decide ((65 : Int) ≤ r) = true := by exact decide_eq_true (by omega)
    have l90 : decide ((r : Int) ≤ 90) = true := by exact decide_eq_true (by omega)
    clear h hr hi
    go_enter Tryd.func35, Tryd.ntmps35
    go_wp2
    go_ret
    exact ⟨by (rw [L.out]) <;> rfl, rfl⟩
  · have L := Lib.hid (show letB r = false from decide_eq_false (by omega))
    have e95 : ((r : Int) == 95) = false := by rw [beq_eq_false_iff_ne]; omega
    have g97 : decide ((97 : Int) ≤ r) = false := by exact decide_eq_false (by omega)
    have l122 : decide ((r : Int) ≤ 122) = true := by exact decide_eq_true (by omega)
    have g65 : decide ((65 : Int) ≤ r) = true := by exact decide_eq_true (by omega)
    have l90 : decide ((r : Int) ≤ 90) = false := by exact decide_eq_false (by omega)
    clear h hr hi
    go_enter Tryd.func35, Tryd.ntmps35
    go_wp2
    go_ret
    exact ⟨by (rw [L.out]) <;> rfl, rfl⟩
  · have L := Lib.hid (show letB r = true from decide_eq_true (by omega))
    have e95 : ((r : Int) == 95) = true := by rw [beq_iff_eq]; omega
    have g97 : decide ((97 : Int) ≤ r) = false := by exact decide_eq_false (by omega)
    have l122 : decide ((r : Int) ≤ 122) = true := by exact decide_eq_true (by omega)
    have g65 : decide ((65 : Int) ≤ r) = true := by exact decide_eq_true (by omega)
    have l90 : decide ((r : Int) ≤ 90) = false := by exact decide_eq_false (by omega)
    clear h hr hi
    go_enter Tryd.func35, Tryd.ntmps35
    go_wp2
    go_ret
    exact ⟨by (rw [L.out]) <;> rfl, rfl⟩
  · have L := Lib.hid (show letB r = false from decide_eq_false (by omega))
    have e95 : ((r : Int) == 95) = false := by rw [beq_eq_false_iff_ne]; omega
    have g97 : decide ((97 : Int) ≤ r) = false := by exact decide_eq_false (by omega)
    have l122 : decide ((r : Int) ≤ 122) = true := by exact decide_eq_true (by omega)
    have g65 : decide ((65 : Int) ≤ r) = true := by exact decide_eq_true (by omega)
    have l90 : decide ((r : Int) ≤ 90) = false := by exact decide_eq_false (by omega)
    clear h hr hi
    go_enter Tryd.func35, Tryd.ntmps35
    go_wp2
    go_ret
    exact ⟨by (rw [L.out]) <;> rfl, rfl⟩
  · have L := Lib.hid (show letB r = true from decide_eq_true (by omega))
    have e95 : ((r : Int) == 95) = false := by rw [beq_eq_false_iff_ne]; omega
    have g97 : decide ((97 : Int) ≤ r) = true := by exact decide_eq_true (by omega)
    have l122 : decide ((r : Int) ≤ 122) = true := by exact decide_eq_true (by omega)
    have g65 : decide ((65 : Int) ≤ r) = true := by exact decide_eq_true (by omega)
    have l90 : decide ((r : Int) ≤ 90) = false := by exact decide_eq_false (by omega)
    clear h hr hi
    go_enter Tryd.func35, Tryd.ntmps35
    go_wp2
    go_ret
    exact ⟨by (rw [L.out]) <;> rfl, rfl⟩
  · have L := Lib.hid (show letB r = false from decide_eq_false (by omega))
    have e95 : ((r : Int) == 95) = false := by rw [beq_eq_false_iff_ne]; omega
    have g97 : decide ((97 : Int) ≤ r) = true := by exact decide_eq_true (by omega)
    have l122 : decide ((r : Int) ≤ 122) = false := by exact decide_eq_false (by omega)
    have g65 : decide ((65 : Int) ≤ r) = true := by exact decide_eq_true (by omega)
    have l90 : decide ((r : Int) ≤ 90) = false := by exact decide_eq_false (by omega)
    clear h hr hi
    go_enter Tryd.func35, Tryd.ntmps35
    go_wp2
    go_ret
    exact ⟨by (rw [L.out]) <;> rfl, rfl⟩
set_option maxRecDepth 100000 in
theorem digit10_any (r : Nat) (hr : r ≤ 2147483647) (w : World) : Calls Tryd.prog 36 #[.int .i32 r, .int .i64 10] w fun e w' => e = .returned (.bool (dgB r)) ∧ w' = w := by
  have hi : (r : Int) ≤ 2147483647 := by omega
  have hc : (r < 48) ∨ (48 ≤ r ∧ r ≤ 57) ∨ (57 < r) := by omega
  rcases hc with h | h | h
  · have L := Lib.hid (show dgB r = false from decide_eq_false (by omega))
    have g48 : decide ((48 : Int) ≤ r) = false := by exact decide_eq_false (by omega)
    have l57 : decide ((r : Int) ≤ 57) = true := by exact decide_eq_true (by omega)
    clear h hr hi
    go_enter Tryd.func36, Tryd.ntmps36
    go_wp2
    go_ret
    exact ⟨by (rw [L.out]) <;> rfl, rfl⟩
  · have L := Lib.hid (show dgB r = true from decide_eq_true (by omega))
    have g48 : decide ((48 : Int) ≤ r) = true := by exact decide_eq_true (by omega)
    have l57 : decide ((r : Int) ≤ 57) = true := by exact decide_eq_true (by omega)
    clear h hr hi
    go_enter Tryd.func36, Tryd.ntmps36
    go_wp2
    go_ret
    exact ⟨by (rw [L.out]) <;> rfl, rfl⟩
  · have L := Lib.hid (show dgB r = false from decide_eq_false (by omega))
    have g48 : decide ((48 : Int) ≤ r) = true := by exact decide_eq_true (by omega)
    have l57 : decide ((r : Int) ≤ 57) = false := by exact decide_eq_false (by omega)
    clear h hr hi
    go_enter Tryd.func36, Tryd.ntmps36
    go_wp2
    go_ret
    exact ⟨by (rw [L.out]) <;> rfl, rfl⟩
/-- Whether a byte may stand at a place of a name. -/
def okN (i b : Nat) : Bool := letB b || (decide (i ≠ 0) && dgB b)
def nameB (s : ByteArray) : Bool := decide (0 < s.size ∧ s.size ≤ 32) && (List.range s.size).all fun i => okN i (gOf s 0 i)
theorem name_no {s : ByteArray} {i : Nat} (h : i < s.size) (hb : okN i (gOf s 0 i) = false) : nameB s = false := by
  unfold nameB
  rw [Bool.and_eq_false_iff]
  right
  rw [Bool.eq_false_iff]
  intro ha
  rw [List.all_eq_true] at ha
  have := ha i (List.mem_range.2 h)
  rw [hb] at this
  cases this
theorem name_yes {s : ByteArray} (h0 : 0 < s.size) (h : s.size ≤ 32) (ha : ∀ i, i < s.size → okN i (gOf s 0 i) = true) : nameB s = true := by
  unfold nameB
  rw [decide_eq_true ⟨h0, h⟩, Bool.true_and, List.all_eq_true]
  intro i hi
  exact ha i (List.mem_range.1 hi)
theorem okN_high (i b : Nat) (h : 128 ≤ b) : okN i b = false := by
  unfold okN letB dgB
  rw [decide_eq_false (by omega), decide_eq_false (p := 48 ≤ b ∧ b ≤ 57) (by omega)]
  simp
theorem dec_low (g : Nat → Nat) (m : Nat) (h : g 0 < 128) : dec g m = (g 0, 1) := if_pos h
theorem dec_hi (g : Nat → Nat) (m : Nat) (h : ¬ g 0 < 128) : 128 ≤ (dec g m).1 := by
  unfold dec
  rw [if_neg h]
  repeat' split
  all_goals simp only
  all_goals omega
theorem gOf_add (s : ByteArray) (pos : Nat) : gOf s pos 0 = gOf s 0 pos := by unfold gOf; rw [Nat.zero_add, Nat.add_zero]
set_option maxRecDepth 100000 in
set_option maxHeartbeats 4000000 in
theorem name_any (s : ByteArray) (hs : s.size ≤ 9223372036854775807) (w : World) : Calls Tryd.prog 23 #[.string s] w fun e w' => e = .returned (.bool (nameB s)) ∧ Bel w w' := by
  have i2 : (s.size : Int) ≤ 9223372036854775807 := by omega
  by_cases h0 : s.size = 0
  · have L := Lib.hid (show nameB s = false by rw [nameB, decide_eq_false (by omega)]; rfl)
    have e0 : s.toList.isEmpty = true := by
      rw [ByteArray.toList_eq, List.isEmpty_iff]
      exact List.eq_nil_of_length_eq_zero (by rw [size_list]; exact h0)
    clear h0
    go_enter Tryd.func23, Tryd.ntmps23
    go_wp2
    go_ret
    exact ⟨by (rw [L.out]) <;> rfl, Bel.refl _⟩
  · have e0 : s.toList.isEmpty = false := by
      rw [ByteArray.toList_eq, Bool.eq_false_iff, ne_eq, List.isEmpty_iff]
      intro h
      have := size_list s
      rw [h] at this
      simp at this; omega
    by_cases h32 : (32 : Int) < s.size
    · have L := Lib.hid (show nameB s = false by rw [nameB, decide_eq_false (by omega)]; rfl)
      clear h0
      go_enter Tryd.func23, Tryd.ntmps23
      go_wp2
      go_ret
      exact ⟨by (rw [L.out]) <;> rfl, Bel.refl _⟩
    · have SZ := Lib.hid (And.intro (show 0 < s.size by omega) (show s.size ≤ 32 by omega))
      clear h0
      go_enter Tryd.func23, Tryd.ntmps23
      go_wp2
      have hit0 : (w.iter s 0).heap[w.heap.size]? = some (.stringIter s 0) := World.iter_heap w s 0
      have hb0 : Bel w (w.iter s 0) := (Bel.refl w).alloc _
      have HB := Lib.hid (And.intro hit0 hb0)
      clear hit0 hb0
      go_loopg [] s.size (fun g wr => ∃ pos : Nat, Hid (wr.heap[w.heap.size]? = some (.stringIter s pos)) ∧ Bel w wr ∧ Hid (pos ≤ s.size ∧ (∀ i, i < pos → okN i (gOf s 0 i) = true) ∧ g = s.size - pos))
      case atStart => exact ⟨0, HB.out.1, HB.out.2, ⟨Nat.zero_le _, fun i h => by omega, rfl⟩⟩
      case round =>
        obtain ⟨pos, hit, hb, hh⟩ := hrel
        by_cases hp : pos < s.size
        · have hd := decode_is s pos hp
          have hr := decode_le s pos
          obtain ⟨r, hr0⟩ : ∃ r, r = (dec (gOf s pos) (s.size - pos)).1 := ⟨_, rfl⟩
          rw [hd, ← hr0] at hr
          have hr' := hr
          have hnx0 : ∀ ty, (Instr.next (.pointer (some ⟨w.heap.size, 0, none⟩)) true ty).run Tryd.prog wr = .ok (.tuple #[.bool true, .int .i64 pos, .int .i32 (r : Nat)]) (wr.iterAt w.heap.size s (pos + wdAt s pos)) := fun ty => by
            have h := Lib.run_next_any_at (P := Tryd.prog) wr w.heap.size s pos ty hit.out hp
            rw [hd, ← hr0] at h
            exact h
          have hit2 := Lib.hid (Lib.iterAt_heap wr w.heap.size s pos (pos + wdAt s pos) hit.out)
          have hb2 : Bel w (wr.iterAt w.heap.size s (pos + wdAt s pos)) := Lib.below_iterAt hb (k := w.heap.size) (Nat.le_refl _) s _
          obtain ⟨W2, hW2⟩ : ∃ W2, W2 = wr.iterAt w.heap.size s (pos + wdAt s pos) := ⟨_, rfl⟩
          rw [← hW2] at hit2 hb2
          have hnx : ∀ ty, (Instr.next (.pointer (some ⟨w.heap.size, 0, none⟩)) true ty).run Tryd.prog wr = .ok (.tuple #[.bool true, .int .i64 pos, .int .i32 (r : Nat)]) W2 := fun ty => by rw [hW2]; exact hnx0 ty
          have hkey : okN pos r = okN pos (gOf s 0 pos) ∧ (okN pos r = true → wdAt s pos = 1) := by
            by_cases hl : gOf s pos 0 < 128
            · have hdl := dec_low (gOf s pos) (s.size - pos) hl
              rw [hdl] at hr0
              refine ⟨by rw [hr0, gOf_add], fun _ => by unfold wdAt; rw [hdl]⟩
            · have hh1 := dec_hi (gOf s pos) (s.size - pos) hl
              rw [← hr0] at hh1
              have f1 := okN_high pos r hh1
              refine ⟨by rw [f1, okN_high pos _ (by rw [← gOf_add]; omega)], fun h => by rw [f1] at h; cases h⟩
          have KEY := Lib.hid hkey
          have i1 : (pos : Int) < s.size := by omega
          have hok : okN pos r = (letB r || (decide (pos ≠ 0) && dgB r)) := rfl
          have HOK := Lib.hid hok
          have p0 : pos = 0 ∨ pos ≠ 0 := by omega
          clear hd hr hr0 hnx0 hW2 hb hkey hok
          cases hv : letB r with
          | true =>
            have HV := Lib.hid hv
            have HK := HV
            have L := Lib.hid (show okN pos r = true by rw [HOK.out, hv]; rfl)
            clear hv p0
            go_wp2_with (first
              | (go_at_call 35; refine (letter_any r hr' _).mono ?_; rintro e V1 ⟨rfl, rfl⟩; rw [HV.out])
              | (go_at_call 36; refine (digit10_any r hr' _).mono ?_; rintro e V2 ⟨rfl, rfl⟩; rw [HK.out]))
            go_roundg (s.size - (pos + 1))
            case measure => have := hh.out.2.2; omega
            case rel =>
              have h1 := KEY.out.2 L.out
              rw [h1] at hit2
              refine ⟨pos + 1, hit2, hb2, ⟨by omega, fun i hi => ?_, rfl⟩⟩
              by_cases he : i = pos
              · subst he; rw [← KEY.out.1]; exact L.out
              · exact hh.out.2.1 i (by omega)
          | false =>
            have HV := Lib.hid hv
            cases hk : dgB r with
            | true =>
              have HK := Lib.hid hk
              by_cases hz : pos = 0
              · have L := Lib.hid (show nameB s = false from name_no hp (by rw [← KEY.out.1, HOK.out, hv, hz]; rfl))
                subst hz
                clear hv hk p0
                go_wp2_with (first
                  | (go_at_call 35; refine (letter_any r hr' _).mono ?_; rintro e V1 ⟨rfl, rfl⟩; rw [HV.out])
                  | (go_at_call 36; refine (digit10_any r hr' _).mono ?_; rintro e V2 ⟨rfl, rfl⟩; rw [HK.out]))
                go_ret
                exact ⟨by (rw [L.out]) <;> rfl, hb2⟩
              · have L := Lib.hid (show okN pos r = true by rw [HOK.out, hv, hk, decide_eq_true hz]; rfl)
                have e1 : ((pos : Int) == 0) = false := by rw [beq_eq_false_iff_ne]; omega
                clear hv hk p0
                go_wp2_with (first
                  | (go_at_call 35; refine (letter_any r hr' _).mono ?_; rintro e V1 ⟨rfl, rfl⟩; rw [HV.out])
                  | (go_at_call 36; refine (digit10_any r hr' _).mono ?_; rintro e V2 ⟨rfl, rfl⟩; rw [HK.out]))
                go_roundg (s.size - (pos + 1))
                case measure => have := hh.out.2.2; omega
                case rel =>
                  have h1 := KEY.out.2 L.out
                  rw [h1] at hit2
                  refine ⟨pos + 1, hit2, hb2, ⟨by omega, fun i hi => ?_, rfl⟩⟩
                  by_cases he : i = pos
                  · subst he; rw [← KEY.out.1]; exact L.out
                  · exact hh.out.2.1 i (by omega)
            | false =>
              have HK := Lib.hid hk
              have L := Lib.hid (show nameB s = false from name_no hp (by rw [← KEY.out.1, HOK.out, hv, hk]; simp))
              clear hv hk
              rcases p0 with hz | hz
              · subst hz
                go_wp2_with (first
                  | (go_at_call 35; refine (letter_any r hr' _).mono ?_; rintro e V1 ⟨rfl, rfl⟩; rw [HV.out])
                  | (go_at_call 36; refine (digit10_any r hr' _).mono ?_; rintro e V2 ⟨rfl, rfl⟩; rw [HK.out]))
                go_ret
                exact ⟨by (rw [L.out]) <;> rfl, hb2⟩
              · have e1 : ((pos : Int) == 0) = false := by rw [beq_eq_false_iff_ne]; omega
                clear hz
                go_wp2_with (first
                  | (go_at_call 35; refine (letter_any r hr' _).mono ?_; rintro e V1 ⟨rfl, rfl⟩; rw [HV.out])
                  | (go_at_call 36; refine (digit10_any r hr' _).mono ?_; rintro e V2 ⟨rfl, rfl⟩; rw [HK.out]))
                go_ret
                exact ⟨by (rw [L.out]) <;> rfl, hb2⟩
        · have hnx : ∀ ty, (Instr.next (.pointer (some ⟨w.heap.size, 0, none⟩)) true ty).run Tryd.prog wr = .ok (.tuple #[.bool false]) wr := fun ty => Lib.run_next_end_at wr w.heap.size s pos ty hit.out hp
          have L := Lib.hid (show nameB s = true from name_yes SZ.out.1 SZ.out.2 fun i hi => hh.out.2.1 i (by omega))
          go_wp2
          go_ret
          exact ⟨by (rw [L.out]) <;> rfl, hb⟩
set_option maxRecDepth 100000 in
set_option maxHeartbeats 8000000 in
theorem rname_any (s : ByteArray) (hs : s.size ≤ 9223372036854775807) (w : World) : Calls Tryd.prog 19 #[.string s] w fun e w' => e = .returned (.bool (nameB s)) ∧ w' = w := by
  have i2 : (s.size : Int) ≤ 9223372036854775807 := by omega
  by_cases h0 : s.size = 0
  · have L := Lib.hid (show nameB s = false by rw [nameB, decide_eq_false (by omega)]; rfl)
    have e0 : s.toList.isEmpty = true := by
      rw [ByteArray.toList_eq, List.isEmpty_iff]
      exact List.eq_nil_of_length_eq_zero (by rw [size_list]; exact h0)
    clear h0
    go_enter Tryd.func19, Tryd.ntmps19
    go_wp2
    go_ret
    exact ⟨by (rw [L.out]) <;> rfl, rfl⟩
  · have e0 : s.toList.isEmpty = false := by
      rw [ByteArray.toList_eq, Bool.eq_false_iff, ne_eq, List.isEmpty_iff]
      intro h
      have := size_list s
      rw [h] at this
      simp at this; omega
    by_cases h32 : (32 : Int) < s.size
    · have L := Lib.hid (show nameB s = false by rw [nameB, decide_eq_false (by omega)]; rfl)
      clear h0
      go_enter Tryd.func19, Tryd.ntmps19
      go_wp2
      go_ret
      exact ⟨by (rw [L.out]) <;> rfl, rfl⟩
    · have SZ := Lib.hid (And.intro (show 0 < s.size by omega) (show s.size ≤ 32 by omega))
      clear h0
      go_enter Tryd.func19, Tryd.ntmps19
      go_wp2_with fail
      go_loopg [3] s.size (fun g v wr => ∃ k : Nat, v = .int .i64 k ∧ k ≤ s.size ∧ Hid ((∀ i, i < k → okN i (gOf s 0 i) = true) ∧ g = s.size - k) ∧ wr = w)
      case atStart => exact ⟨0, rfl, Nat.zero_le _, ⟨fun i h => by omega, rfl⟩, rfl⟩
      case round =>
        obtain ⟨k, rfl, hk, hh, rfl⟩ := hrel
        by_cases hp : k < s.size
        · have hc0 := gOf_at s k hp
          have j1 : (k : Int) < s.size := by omega
          have hcb := gOf_lt s 0 k
          rw [← hc0] at hcb
          have HC := Lib.hid hc0
          have hcc : (0 ≤ s[k].toNat ∧ s[k].toNat ≤ 47) ∨ (48 ≤ s[k].toNat ∧ s[k].toNat ≤ 57) ∨ (58 ≤ s[k].toNat ∧ s[k].toNat ≤ 64) ∨ (65 ≤ s[k].toNat ∧ s[k].toNat ≤ 90) ∨ (91 ≤ s[k].toNat ∧ s[k].toNat ≤ 94) ∨ (95 ≤ s[k].toNat ∧ s[k].toNat ≤ 95) ∨ (96 ≤ s[k].toNat ∧ s[k].toNat ≤ 96) ∨ (97 ≤ s[k].toNat ∧ s[k].toNat ≤ 122) ∨ (123 ≤ s[k].toNat ∧ s[k].toNat ≤ 255) := by omega
          clear hc0
          have kz0 : k = 0 ∨ k ≠ 0 := by omega
          rcases hcc with cc | cc | cc | cc | cc | cc | cc | cc | cc
          · have g97 : decide ((97 : Int) ≤ (s[k].toNat : Int)) = false := by exact decide_eq_false (by omega)
            have g65 : decide ((65 : Int) ≤ (s[k].toNat : Int)) = false := by exact decide_eq_false (by omega)
            have l122 : decide ((s[k].toNat : Int) ≤ 122) = true := by exact decide_eq_true (by omega)
            have l90 : decide ((s[k].toNat : Int) ≤ 90) = true := by exact decide_eq_true (by omega)
            have l48 : decide ((s[k].toNat : Int) < 48) = true := by exact decide_eq_true (by omega)
            have g57 : decide ((57 : Int) < (s[k].toNat : Int)) = false := by exact decide_eq_false (by omega)
            have e95 : ((s[k].toNat : Int) == 95) = false := by rw [beq_eq_false_iff_ne]; omega
            have L := Lib.hid (show nameB s = false from name_no hp (by rw [← HC.out, okN, show letB s[k].toNat = false from decide_eq_false (by omega), show dgB s[k].toNat = false from decide_eq_false (by omega)]; simp))
            rcases kz0 with kz | kz
            · subst kz
              clear cc hcb
              go_wp2
              go_ret
              exact ⟨by (rw [L.out]) <;> rfl, rfl⟩
            · have e1 : ((k : Int) == 0) = false := by rw [beq_eq_false_iff_ne]; omega
              clear cc hcb kz
              go_wp2
              go_ret
              exact ⟨by (rw [L.out]) <;> rfl, rfl⟩
          · have g97 : decide ((97 : Int) ≤ (s[k].toNat : Int)) = false := by exact decide_eq_false (by omega)
            have g65 : decide ((65 : Int) ≤ (s[k].toNat : Int)) = false := by exact decide_eq_false (by omega)
            have l122 : decide ((s[k].toNat : Int) ≤ 122) = true := by exact decide_eq_true (by omega)
            have l90 : decide ((s[k].toNat : Int) ≤ 90) = true := by exact decide_eq_true (by omega)
            have l48 : decide ((s[k].toNat : Int) < 48) = false := by exact decide_eq_false (by omega)
            have g57 : decide ((57 : Int) < (s[k].toNat : Int)) = false := by exact decide_eq_false (by omega)
            have e95 : ((s[k].toNat : Int) == 95) = false := by rw [beq_eq_false_iff_ne]; omega
            rcases kz0 with kz | kz
            · have L := Lib.hid (show nameB s = false from name_no hp (by rw [← HC.out, okN, show letB s[k].toNat = false from decide_eq_false (by omega), decide_eq_false (show ¬ k ≠ 0 by omega)]; rfl))
              subst kz
              clear cc hcb
              go_wp2
              go_ret
              exact ⟨by (rw [L.out]) <;> rfl, rfl⟩
            · have OK := Lib.hid (show okN k (gOf s 0 k) = true by rw [← HC.out, okN, show dgB s[k].toNat = true from decide_eq_true (by omega), decide_eq_true kz]; simp)
              have e1 : ((k : Int) == 0) = false := by rw [beq_eq_false_iff_ne]; omega
              clear cc hcb kz
              go_wp2
              go_roundg (s.size - (k + 1))
              case measure => have := hh.out.2; omega
              case rel => exact ⟨k + 1, by go_num, by omega, ⟨fun i hi => by
                by_cases he : i = k
                · subst he; exact OK.out
                · exact hh.out.1 i (by omega), rfl⟩, rfl⟩
          · have g97 : decide ((97 : Int) ≤ (s[k].toNat : Int)) = false := by exact decide_eq_false (by omega)
            have g65 : decide ((65 : Int) ≤ (s[k].toNat : Int)) = false := by exact decide_eq_false (by omega)
            have l122 : decide ((s[k].toNat : Int) ≤ 122) = true := by exact decide_eq_true (by omega)
            have l90 : decide ((s[k].toNat : Int) ≤ 90) = true := by exact decide_eq_true (by omega)
            have l48 : decide ((s[k].toNat : Int) < 48) = false := by exact decide_eq_false (by omega)
            have g57 : decide ((57 : Int) < (s[k].toNat : Int)) = true := by exact decide_eq_true (by omega)
            have e95 : ((s[k].toNat : Int) == 95) = false := by rw [beq_eq_false_iff_ne]; omega
            have L := Lib.hid (show nameB s = false from name_no hp (by rw [← HC.out, okN, show letB s[k].toNat = false from decide_eq_false (by omega), show dgB s[k].toNat = false from decide_eq_false (by omega)]; simp))
            rcases kz0 with kz | kz
            · subst kz
              clear cc hcb
              go_wp2
              go_ret
              exact ⟨by (rw [L.out]) <;> rfl, rfl⟩
            · have e1 : ((k : Int) == 0) = false := by rw [beq_eq_false_iff_ne]; omega
              clear cc hcb kz
              go_wp2
              go_ret
              exact ⟨by (rw [L.out]) <;> rfl, rfl⟩
          · have g97 : decide ((97 : Int) ≤ (s[k].toNat : Int)) = false := by exact decide_eq_false (by omega)
            have g65 : decide ((65 : Int) ≤ (s[k].toNat : Int)) = true := by exact decide_eq_true (by omega)
            have l122 : decide ((s[k].toNat : Int) ≤ 122) = true := by exact decide_eq_true (by omega)
            have l90 : decide ((s[k].toNat : Int) ≤ 90) = true := by exact decide_eq_true (by omega)
            have l48 : decide ((s[k].toNat : Int) < 48) = false := by exact decide_eq_false (by omega)
            have g57 : decide ((57 : Int) < (s[k].toNat : Int)) = true := by exact decide_eq_true (by omega)
            have e95 : ((s[k].toNat : Int) == 95) = false := by rw [beq_eq_false_iff_ne]; omega
            have OK := Lib.hid (show okN k (gOf s 0 k) = true by rw [← HC.out, okN, show letB s[k].toNat = true from decide_eq_true (by omega)]; rfl)
            clear cc hcb kz0
            go_wp2
            go_roundg (s.size - (k + 1))
            case measure => have := hh.out.2; omega
            case rel => exact ⟨k + 1, by go_num, by omega, ⟨fun i hi => by
              by_cases he : i = k
              · subst he; exact OK.out
              · exact hh.out.1 i (by omega), rfl⟩, rfl⟩
          · have g97 : decide ((97 : Int) ≤ (s[k].toNat : Int)) = false := by exact decide_eq_false (by omega)
            have g65 : decide ((65 : Int) ≤ (s[k].toNat : Int)) = true := by exact decide_eq_true (by omega)
            have l122 : decide ((s[k].toNat : Int) ≤ 122) = true := by exact decide_eq_true (by omega)
            have l90 : decide ((s[k].toNat : Int) ≤ 90) = false := by exact decide_eq_false (by omega)
            have l48 : decide ((s[k].toNat : Int) < 48) = false := by exact decide_eq_false (by omega)
            have g57 : decide ((57 : Int) < (s[k].toNat : Int)) = true := by exact decide_eq_true (by omega)
            have e95 : ((s[k].toNat : Int) == 95) = false := by rw [beq_eq_false_iff_ne]; omega
            have L := Lib.hid (show nameB s = false from name_no hp (by rw [← HC.out, okN, show letB s[k].toNat = false from decide_eq_false (by omega), show dgB s[k].toNat = false from decide_eq_false (by omega)]; simp))
            rcases kz0 with kz | kz
            · subst kz
              clear cc hcb
              go_wp2
              go_ret
              exact ⟨by (rw [L.out]) <;> rfl, rfl⟩
            · have e1 : ((k : Int) == 0) = false := by rw [beq_eq_false_iff_ne]; omega
              clear cc hcb kz
              go_wp2
              go_ret
              exact ⟨by (rw [L.out]) <;> rfl, rfl⟩
          · have g97 : decide ((97 : Int) ≤ (s[k].toNat : Int)) = false := by exact decide_eq_false (by omega)
            have g65 : decide ((65 : Int) ≤ (s[k].toNat : Int)) = true := by exact decide_eq_true (by omega)
            have l122 : decide ((s[k].toNat : Int) ≤ 122) = true := by exact decide_eq_true (by omega)
            have l90 : decide ((s[k].toNat : Int) ≤ 90) = false := by exact decide_eq_false (by omega)
            have l48 : decide ((s[k].toNat : Int) < 48) = false := by exact decide_eq_false (by omega)
            have g57 : decide ((57 : Int) < (s[k].toNat : Int)) = true := by exact decide_eq_true (by omega)
            have e95 : ((s[k].toNat : Int) == 95) = true := by rw [beq_iff_eq]; omega
            have OK := Lib.hid (show okN k (gOf s 0 k) = true by rw [← HC.out, okN, show letB s[k].toNat = true from decide_eq_true (by omega)]; rfl)
            clear cc hcb kz0
            go_wp2
            go_roundg (s.size - (k + 1))
            case measure => have := hh.out.2; omega
            case rel => exact ⟨k + 1, by go_num, by omega, ⟨fun i hi => by
              by_cases he : i = k
              · subst he; exact OK.out
              · exact hh.out.1 i (by omega), rfl⟩, rfl⟩
          · have g97 : decide ((97 : Int) ≤ (s[k].toNat : Int)) = false := by exact decide_eq_false (by omega)
            have g65 : decide ((65 : Int) ≤ (s[k].toNat : Int)) = true := by exact decide_eq_true (by omega)
            have l122 : decide ((s[k].toNat : Int) ≤ 122) = true := by exact decide_eq_true (by omega)
            have l90 : decide ((s[k].toNat : Int) ≤ 90) = false := by exact decide_eq_false (by omega)
            have l48 : decide ((s[k].toNat : Int) < 48) = false := by exact decide_eq_false (by omega)
            have g57 : decide ((57 : Int) < (s[k].toNat : Int)) = true := by exact decide_eq_true (by omega)
            have e95 : ((s[k].toNat : Int) == 95) = false := by rw [beq_eq_false_iff_ne]; omega
            have L := Lib.hid (show nameB s = false from name_no hp (by rw [← HC.out, okN, show letB s[k].toNat = false from decide_eq_false (by omega), show dgB s[k].toNat = false from decide_eq_false (by omega)]; simp))
            rcases kz0 with kz | kz
            · subst kz
              clear cc hcb
              go_wp2
              go_ret
              exact ⟨by (rw [L.out]) <;> rfl, rfl⟩
            · have e1 : ((k : Int) == 0) = false := by rw [beq_eq_false_iff_ne]; omega
              clear cc hcb kz
              go_wp2
              go_ret
              exact ⟨by (rw [L.out]) <;> rfl, rfl⟩
          · have g97 : decide ((97 : Int) ≤ (s[k].toNat : Int)) = true := by exact decide_eq_true (by omega)
            have g65 : decide ((65 : Int) ≤ (s[k].toNat : Int)) = true := by exact decide_eq_true (by omega)
            have l122 : decide ((s[k].toNat : Int) ≤ 122) = true := by exact decide_eq_true (by omega)
            have l90 : decide ((s[k].toNat : Int) ≤ 90) = false := by exact decide_eq_false (by omega)
            have l48 : decide ((s[k].toNat : Int) < 48) = false := by exact decide_eq_false (by omega)
            have g57 : decide ((57 : Int) < (s[k].toNat : Int)) = true := by exact decide_eq_true (by omega)
            have e95 : ((s[k].toNat : Int) == 95) = false := by rw [beq_eq_false_iff_ne]; omega
            have OK := Lib.hid (show okN k (gOf s 0 k) = true by rw [← HC.out, okN, show letB s[k].toNat = true from decide_eq_true (by omega)]; rfl)
            clear cc hcb kz0
            go_wp2
            go_roundg (s.size - (k + 1))
            case measure => have := hh.out.2; omega
            case rel => exact ⟨k + 1, by go_num, by omega, ⟨fun i hi => by
              by_cases he : i = k
              · subst he; exact OK.out
              · exact hh.out.1 i (by omega), rfl⟩, rfl⟩
          · have g97 : decide ((97 : Int) ≤ (s[k].toNat : Int)) = true := by exact decide_eq_true (by omega)
            have g65 : decide ((65 : Int) ≤ (s[k].toNat : Int)) = true := by exact decide_eq_true (by omega)
            have l122 : decide ((s[k].toNat : Int) ≤ 122) = false := by exact decide_eq_false (by omega)
            have l90 : decide ((s[k].toNat : Int) ≤ 90) = false := by exact decide_eq_false (by omega)
            have l48 : decide ((s[k].toNat : Int) < 48) = false := by exact decide_eq_false (by omega)
            have g57 : decide ((57 : Int) < (s[k].toNat : Int)) = true := by exact decide_eq_true (by omega)
            have e95 : ((s[k].toNat : Int) == 95) = false := by rw [beq_eq_false_iff_ne]; omega
            have L := Lib.hid (show nameB s = false from name_no hp (by rw [← HC.out, okN, show letB s[k].toNat = false from decide_eq_false (by omega), show dgB s[k].toNat = false from decide_eq_false (by omega)]; simp))
            rcases kz0 with kz | kz
            · subst kz
              clear cc hcb
              go_wp2
              go_ret
              exact ⟨by (rw [L.out]) <;> rfl, rfl⟩
            · have e1 : ((k : Int) == 0) = false := by rw [beq_eq_false_iff_ne]; omega
              clear cc hcb kz
              go_wp2
              go_ret
              exact ⟨by (rw [L.out]) <;> rfl, rfl⟩
        · have L := Lib.hid (show nameB s = true from name_yes SZ.out.1 SZ.out.2 fun i hi => hh.out.1 i (by omega))
          go_wp2
          go_ret
          exact ⟨by (rw [L.out]) <;> rfl, rfl⟩
end
section
open Go.RowKit Go.Shelf
def ren : Ren := ⟨fun | 242 => 63 | 278 => 73 | n => n, fun | 0 => 0 | 3 => 3 | 4 => 4 | 5 => 5 | 9 => 9 | 21 => 21 | 37 => 40 | 46 => 108 | 51 => 103 | 70 => 39 | 72 => 42 | n => n, fun | n => n⟩
theorem laysAR : Lays.n242 Tryd.prog ren := {
  mixed := by kernel_rfl
  f242 := Tryd.func63.trans (congrArg some (by kernel_rfl))
  f278 := Tryd.func73.trans (congrArg some (by kernel_rfl))
  t4 := Tryd.underlying4
  a4 := Tryd.isAgg4
  z4 := Tryd.sizeOf4
  v4 := Tryd.zeroValue4
  t5 := Tryd.underlying5
  a5 := Tryd.isAgg5
  z5 := Tryd.sizeOf5
  v5 := Tryd.zeroValue5
  t21 := Tryd.underlying21
  a21 := Tryd.isAgg21
  z21 := Tryd.sizeOf21
  v21 := Tryd.zeroValue21
  t37 := Tryd.underlying40
  a37 := Tryd.isAgg40
  z37 := Tryd.sizeOf40
  v37 := Tryd.zeroValue40
  t46 := Tryd.underlying108
  a46 := Tryd.isAgg108
  z46 := Tryd.sizeOf108
  v46 := Tryd.zeroValue108
  t51 := Tryd.underlying103
  a51 := Tryd.isAgg103
  z51 := Tryd.sizeOf103
  v51 := Tryd.zeroValue103 }
theorem extraAR : Builder.Extra Tryd.prog ren := {
  sizeBuilder := by kernel_rfl
  liesBuilder := by kernel_rfl
  t5 := Tryd.underlying5
  a5 := Tryd.isAgg5
  z5 := Tryd.sizeOf5
  v5 := Tryd.zeroValue5
  infoByte := by kernel_rfl
  cellsByte := by kernel_rfl
  sizeByte := by kernel_rfl
  neB5 := by decide }
theorem appendRune_any (B : Nat) (v : Value) (n : Nat) (xs : List Value) (r : Int) (hr0 : -2147483648 ≤ r) (hr1 : r ≤ 2147483647) (w : World) (hown : w.ownsRowF B 5 1 v n xs) (hlen : n + 4 ≤ 140737488355328) (hBw : B ≤ w.heap.size) :
    Calls Tryd.prog 63 #[v, .int .i32 r] w fun e w' => ∃ v', e = .returned v' ∧ w'.ownsRowF B 5 1 v' (n + (Lib.runeCells r).length) (xs ++ Lib.runeCells r) ∧ ∃ o, (w.alloc o).grownBy w' v.ownBlock :=
  Any.utf8_AppendRune_own laysAR extraAR B v n xs r hr0 hr1 w hown hlen hBw
set_option maxRecDepth 100000 in
theorem copyCheck_used (b : Nat) (w : World) (h0 : w.cell? ⟨b, 0, none⟩ = some (.pointer (some ⟨b, 0, none⟩))) :
    Calls Tryd.prog 37 #[.pointer (some ⟨b, 0, none⟩)] w fun e w' => e = .returned (.tuple #[]) ∧ w' = w := by
  obtain ⟨j, hj, _⟩ := Option.map_eq_some_iff.1 extraAR.sizeBuilder
  go_enter Tryd.func37, Tryd.ntmps37
  go_wp2
  rw [Lib.run_neq_ptr_same w _ Tryd.underlying39 hj]
  go_wp2
  go_end0
  exact ⟨rfl, rfl⟩
set_option maxRecDepth 100000 in
theorem copyCheck_fresh (b : Nat) (w : World) (h0 : w.cell? ⟨b, 0, none⟩ = some (.pointer none)) (hsh : w.shape? b = some (42, 2)) (hfz : w.frozen? ⟨b, 0, none⟩ = false) :
    Calls Tryd.prog 37 #[.pointer (some ⟨b, 0, none⟩)] w fun e w' => e = .returned (.tuple #[]) ∧ w' = w.setCell ⟨b, 0, none⟩ (.pointer (some ⟨b, 0, none⟩)) := by
  obtain ⟨j, hj, hjs⟩ := Option.map_eq_some_iff.1 extraAR.sizeBuilder
  go_enter Tryd.func37, Tryd.ntmps37
  go_wp2
  rw [Lib.run_to_unsafe w ⟨b, 0, none⟩ Tryd.underlying39 Tryd.underlying78 hj (by rw [hjs]; decide) hsh (Nat.zero_lt_succ 1)]
  simp only [Result.andThen]
  rw [Oper.upon_value]
  go_wp2
  rw [run_callFunc_extern Tryd.func52 (by kernel_rfl) (by kernel_rfl) (by kernel_rfl) (e := Extern.AbiNoEscape.same) (by kernel_rfl)]
  rw [Lib.run_noEscape]
  simp only [Result.andThen]
  rw [Oper.upon_value]
  go_wp2
  rw [Lib.run_from_unsafe w ⟨b, 0, none⟩ Tryd.underlying78 Tryd.underlying39 hj hsh extraAR.liesBuilder]
  simp only [Result.andThen]
  rw [Oper.upon_value]
  go_wp2
  go_end0
  exact ⟨rfl, rfl⟩
theorem copyCheck_any (B b : Nat) (bs : List Value) (w : World) (h : Lib.IsBuilderF 42 5 B b bs w) :
    Calls Tryd.prog 37 #[.pointer (some ⟨b, 0, none⟩)] w fun e w' => e = .returned (.tuple #[]) ∧ (Lib.BuilderAtF 42 5 B b (.pointer (some ⟨b, 0, none⟩)) bs w' ∧ Below B w w' ∧ Lib.OthersKept 5 (some b) w w') := by
  rcases h with h | h
  · refine (copyCheck_fresh b w h.cell0 h.shape h.frozen0).mono ?_
    rintro e w' ⟨rfl, rfl⟩
    exact ⟨rfl, h.used _, (Below.refl B w).setCell (p := ⟨b, 0, none⟩) h.1 _, (Lib.OthersKept.refl _ _ w).setCell ⟨b, 0, none⟩ rfl _⟩
  · refine (copyCheck_used b w h.cell0).mono ?_
    rintro e w' ⟨rfl, rfl⟩
    exact ⟨rfl, h, Below.refl B _, Lib.OthersKept.refl _ _ _⟩
set_option maxHeartbeats 2000000 in
set_option maxRecDepth 100000 in
theorem writeString_any (B b : Nat) (bs : List Value) (s : ByteArray) (w : World) (h : Lib.IsBuilderF 42 5 B b bs w) (hlen : bs.length + s.size ≤ 140737488355328) (hBw : B ≤ w.heap.size) :
    Calls Tryd.prog 25 #[.pointer (some ⟨b, 0, none⟩), .string s] w fun e w' => e = .returned (.tuple #[.int .i64 s.size, .nilIface]) ∧ (Lib.BuilderAtF 42 5 B b (.pointer (some ⟨b, 0, none⟩)) (bs ++ Lib.strCells s) w' ∧ Below B w w' ∧ Lib.OthersKept 5 (some b) w w') := by
  obtain ⟨i0, hi, hz0, hz1, hz2⟩ := info_parts extraAR.infoByte
  go_enter Tryd.func25, Tryd.ntmps25
  go_wp2_with (go_at_call 37; refine (copyCheck_any B b bs _ h).mono ?_)
  rintro e w1 ⟨rfl, h1, hb1, hk1⟩
  obtain ⟨hB, v, hbk, hown, hne⟩ := h1
  have c0 : w1.cell? ⟨b, 0, none⟩ = some (.pointer (some ⟨b, 0, none⟩)) := by rw [Lib.cell_of_heap hbk]; rfl
  have c1 : w1.cell? ⟨b, 1, none⟩ = some v := by rw [Lib.cell_of_heap hbk]; rfl
  go_wp2_with (at_builtin; refine Lib.wpList_append_own_stringF _ rfl _ _ 40 9 rfl B 5 i0 Tryd.underlying40 Tryd.underlying9 hi hz0 hz1 hz2 _ _ _ rfl hown s rfl ?c3 ?c4 ?c5 ?_)
  case c3 => unfold maxLen; omega
  case c4 => omega
  case c5 => have := hb1.size; omega
  intro v' w2 hown' hgrow _
  have hlt : b < w1.heap.size := by
    rcases Nat.lt_or_ge b w1.heap.size with h' | h'
    · exact h'
    · simp [Array.getElem?_eq_none h'] at hbk
  have hb2 : w2.heap[b]? = some (.cells #[.pointer (some ⟨b, 0, none⟩), v] 42 (0, 0)) := by
    rw [hgrow.block b hlt (fun e => hne e.symm)]
    exact hbk
  have d0 : w2.cell? ⟨b, 0, none⟩ = some (.pointer (some ⟨b, 0, none⟩)) := by rw [Lib.cell_of_heap hb2]; rfl
  have d1 : w2.cell? ⟨b, 1, none⟩ = some v := by rw [Lib.cell_of_heap hb2]; rfl
  have f1 : w2.frozen? ⟨b, 1, none⟩ = false := Lib.frozen_of_heap hb2 1
  obtain ⟨ao, n', cap, rfl⟩ : ∃ ao n' cap, v' = .slice ao n' cap := by
    rcases hown'.2 with ⟨hv, _⟩ | ⟨g, cap, cur, fz, hv, _⟩
    · exact ⟨_, _, _, hv⟩
    · exact ⟨_, _, _, hv⟩
  go_wp2
  go_ret2
  refine ⟨rfl, ?_, ?_, (hk1.grown hgrow (Lib.ownsRowF_kind hown)).setCell ⟨b, 1, none⟩ rfl _⟩
  · exact Lib.BuilderAtF.put (T := 42) (e := 5) hB hb2 (bs' := bs ++ Lib.strCells s) (by simpa [Lib.strCells_length] using hown') extraAR.neB5
  · exact (hb1.grown hgrow (by have := hb1.size; omega) (fun k hk => (hown.lt k hk).1)).setCell (p := ⟨b, 1, none⟩) hB _
set_option maxHeartbeats 2000000 in
set_option maxRecDepth 100000 in
theorem writeRune_any (B b : Nat) (bs : List Value) (r : Int) (hr0 : -2147483648 ≤ r) (hr1 : r ≤ 2147483647) (w : World) (h : Lib.IsBuilderF 42 5 B b bs w) (hlen : bs.length + 4 ≤ 140737488355328) (hBw : B ≤ w.heap.size) :
    Calls Tryd.prog 54 #[.pointer (some ⟨b, 0, none⟩), .int .i32 r] w fun e w' => e = .returned (.tuple #[.int .i64 (Lib.runeCells r).length, .nilIface]) ∧ (Lib.BuilderAtF 42 5 B b (.pointer (some ⟨b, 0, none⟩)) (bs ++ Lib.runeCells r) w' ∧ Below B w w' ∧ Lib.OthersKept 5 (some b) w w') := by
  have hk4 := Lib.runeCells_le r
  go_enter Tryd.func54, Tryd.ntmps54
  go_wp2_with (go_at_call 37; refine (copyCheck_any B b bs _ h).mono ?_)
  rintro e w1 ⟨rfl, h1, hb1, hk1⟩
  obtain ⟨hB, v, hbk, hown, hne⟩ := h1
  obtain ⟨ao, cap, rfl⟩ : ∃ ao cap, v = .slice ao bs.length cap := by
    rcases hown.2 with ⟨hv, h0⟩ | ⟨g, cap, cur, fz, hv, _⟩
    · exact ⟨none, 0, by rw [hv, h0]⟩
    · exact ⟨_, _, hv⟩
  have c0 : w1.cell? ⟨b, 0, none⟩ = some (.pointer (some ⟨b, 0, none⟩)) := by rw [Lib.cell_of_heap hbk]; rfl
  have c1 : w1.cell? ⟨b, 1, none⟩ = some (.slice ao bs.length cap) := by rw [Lib.cell_of_heap hbk]; rfl
  go_wp2_with (go_at_call 63; refine (appendRune_any B _ bs.length bs r hr0 hr1 _ hown hlen (by have := hb1.size; omega)).mono ?_)
  rintro e w2 ⟨v', rfl, hown', o, hgrow⟩
  have hlt : b < w1.heap.size := by
    rcases Nat.lt_or_ge b w1.heap.size with h' | h'
    · exact h'
    · simp [Array.getElem?_eq_none h'] at hbk
  have hb2 : w2.heap[b]? = some (.cells #[.pointer (some ⟨b, 0, none⟩), .slice ao bs.length cap] 42 (0, 0)) := by
    rw [hgrow.block b (by simp; omega) (fun e => hne e.symm), Lib.alloc_old w1 _ b hlt]
    exact hbk
  have d0 : w2.cell? ⟨b, 0, none⟩ = some (.pointer (some ⟨b, 0, none⟩)) := by rw [Lib.cell_of_heap hb2]; rfl
  have d1 : w2.cell? ⟨b, 1, none⟩ = some (.slice ao bs.length cap) := by rw [Lib.cell_of_heap hb2]; rfl
  have f1 : w2.frozen? ⟨b, 1, none⟩ = false := Lib.frozen_of_heap hb2 1
  obtain ⟨g, cap', rfl⟩ : ∃ g cap', v' = .slice (some ⟨g, 0, none⟩) (bs.length + (Lib.runeCells r).length) cap' := by
    rcases hown'.2 with ⟨_, h0⟩ | ⟨g, cap', cur, fz, hv, _⟩
    · omega
    · exact ⟨g, cap', hv⟩
  go_wp2
  go_ret2
  refine ⟨?_, ?_, ?_, ((hk1.alloc _).grown hgrow (Lib.ownsRowF_kind (hown.alloc _))).setCell ⟨b, 1, none⟩ rfl _⟩
  · have e : ((bs.length : Int) + ((Lib.runeCells r).length : Int) - (bs.length : Int)) = ((Lib.runeCells r).length : Int) := by omega
    simp [e]
  · exact Lib.BuilderAtF.put (T := 42) (e := 5) hB hb2 (bs' := bs ++ Lib.runeCells r) (by simpa using hown') extraAR.neB5
  · exact ((hb1.alloc (by have := hb1.size; omega) _).grown hgrow (by have := hb1.size; simp; omega) (fun k hk => (hown.lt k hk).1)).setCell (p := ⟨b, 1, none⟩) hB _
end
section
open Go.RowKit
/-- What stands for a byte. -/
def escB (c : UInt8) : List UInt8 :=
  if c = 38 then [38, 97, 109, 112, 59] else if c = 60 then [38, 108, 116, 59] else if c = 62 then [38, 103, 116, 59] else if c = 34 then [38, 113, 117, 111, 116, 59]
  else if c = 39 then [38, 97, 112, 111, 115, 59] else if c = 9 then [38, 35, 57, 59] else if c = 10 then [38, 35, 49, 48, 59] else if c = 13 then [38, 35, 49, 51, 59] else [c]
def escL (l : List UInt8) : List UInt8 := l.flatMap escB
/-- What stands for a sign, if not itself. -/
def wrtL (r : Nat) : List UInt8 :=
  if r = 38 then [38, 97, 109, 112, 59] else if r = 60 then [38, 108, 116, 59] else if r = 62 then [38, 103, 116, 59] else if r = 34 then [38, 113, 117, 111, 116, 59]
  else if r = 39 then [38, 97, 112, 111, 115, 59] else if r = 9 then [38, 35, 57, 59] else if r = 10 then [38, 35, 49, 48, 59] else if r = 13 then [38, 35, 49, 51, 59] else []
def okL (l : List UInt8) : Bool := may (fun i => (l.getD i 0).toNat) l.length
def decL (l : List UInt8) : Nat × Nat := dec (fun i => (l.getD i 0).toNat) l.length
def wL (l : List UInt8) : Nat := (decL l).2
theorem gOf_fun (s : ByteArray) (pos : Nat) : gOf s pos = fun i => ((s.data.toList.drop pos).getD i 0).toNat := funext fun i => gOf_list s pos i
theorem drop_len (s : ByteArray) (pos : Nat) : (s.data.toList.drop pos).length = s.size - pos := by rw [List.length_drop, size_list]
theorem okAt_L (s : ByteArray) (pos : Nat) : okAt s pos = okL (s.data.toList.drop pos) := by
  unfold okAt okL
  rw [gOf_fun, drop_len]
theorem decAt_L (s : ByteArray) (pos : Nat) : dec (gOf s pos) (s.size - pos) = decL (s.data.toList.drop pos) := by
  unfold decL
  rw [gOf_fun, drop_len]
theorem wdAt_L (s : ByteArray) (pos : Nat) : wdAt s pos = wL (s.data.toList.drop pos) := by
  unfold wdAt wL
  rw [decAt_L]
theorem decL_is (l : List UInt8) (h : l ≠ []) : Lib.decodeL l = decL l := by
  have hl : 0 < l.length := List.length_pos_iff.2 h
  have h1 := decode_is ⟨l.toArray⟩ 0 (by show 0 < l.toArray.size; rw [List.size_toArray]; exact hl)
  show Utf8.decode ⟨l.toArray⟩ 0 = _
  rw [h1, decAt_L]
  rfl
theorem dec_own (g : Nat → Nat) (m : Nat) (h : own g m = true) : dec g m = (65533, 3) := by
  have h4 := (own_iff _ _).1 h
  unfold dec
  rw [if_neg (by omega), if_neg (by omega), if_pos (by omega), if_pos (by omega)]
  rw [h4.2.1, h4.2.2.1, h4.2.2.2]
/-- Of a sign that may stand: its bytes are those that it is written as. -/
theorem enc_ok (l : List UInt8) (h : l ≠ []) (hok : okL l = true) : Lib.encodeRune ((decL l).1 : Int) = l.take (wL l) := by
  have hd := decL_is l h
  have := Lib.encode_decode l h (by
    rw [hd]
    rintro ⟨h1, h2⟩
    have h3 := ((may_iff _ _).1 hok).2 h1
    have h5 : decL l = (65533, 3) := dec_own _ _ h3
    rw [h5] at h2
    cases h2)
  rw [hd] at this
  exact this
theorem wL_pos (l : List UInt8) : 1 ≤ wL l := by
  unfold wL decL dec
  repeat' split
  all_goals simp
theorem wL_le (l : List UInt8) (h : l ≠ []) : wL l ≤ l.length := by
  have := Lib.decodeL_le l h
  rw [decL_is l h] at this
  exact this
theorem dec_shape (g : Nat → Nat) (m : Nat) : (g 0 < 128 ∧ dec g m = (g 0, 1)) ∨
    (128 ≤ g 0 ∧ 128 ≤ (dec g m).1 ∧ ∀ j, j < (dec g m).2 → 128 ≤ g j) := by
  unfold dec
  by_cases c1 : g 0 < 128
  · exact .inl ⟨c1, if_pos c1⟩
  · refine .inr ?_
    rw [if_neg c1]
    refine ⟨by omega, ?_⟩
    have one : ∀ j, j < 1 → 128 ≤ g j := fun j h => by
      have : j = 0 := by omega
      subst this; omega
    split
    · split
      · refine ⟨by omega, fun j h => ?_⟩
        have : j = 0 ∨ j = 1 := by simp at h; omega
        rcases this with rfl | rfl <;> omega
      · exact ⟨by omega, one⟩
    · split
      · split
        · refine ⟨by omega, fun j h => ?_⟩
          have : j = 0 ∨ j = 1 ∨ j = 2 := by simp at h; omega
          rcases this with rfl | rfl | rfl <;> omega
        · exact ⟨by omega, one⟩
      · split
        · split
          · refine ⟨by omega, fun j h => ?_⟩
            have : j = 0 ∨ j = 1 ∨ j = 2 ∨ j = 3 := by simp at h; omega
            rcases this with rfl | rfl | rfl | rfl <;> omega
          · exact ⟨by omega, one⟩
        · exact ⟨by omega, one⟩
theorem escB_hi (c : UInt8) (h : 128 ≤ c.toNat) : escB c = [c] := by
  have k : ∀ n : UInt8, n.toNat < 128 → c ≠ n := fun n hn e => by subst e; omega
  unfold escB
  rw [if_neg (k 38 (by decide)), if_neg (k 60 (by decide)), if_neg (k 62 (by decide)), if_neg (k 34 (by decide)), if_neg (k 39 (by decide)), if_neg (k 9 (by decide)), if_neg (k 10 (by decide)), if_neg (k 13 (by decide))]
theorem escL_hi : ∀ l : List UInt8, (∀ c ∈ l, 128 ≤ c.toNat) → escL l = l
  | [], _ => rfl
  | c :: t, h => by
    show escB c ++ escL t = c :: t
    rw [escB_hi c (h c (by simp)), escL_hi t (fun x hx => h x (by simp [hx]))]
    rfl
theorem escL_append (a b : List UInt8) : escL (a ++ b) = escL a ++ escL b := by simp [escL]
theorem wrtL_byte (c : UInt8) : (if wrtL c.toNat = [] then [c] else wrtL c.toNat) = escB c := by
  have k : ∀ n : UInt8, (c.toNat = n.toNat) = (c = n) := fun n => propext UInt8.toNat_inj
  have k38 := k 38; have k60 := k 60; have k62 := k 62; have k34 := k 34; have k39 := k 39; have k9 := k 9; have k10 := k 10; have k13 := k 13
  unfold wrtL escB
  simp only [show (38 : UInt8).toNat = 38 from rfl, show (60 : UInt8).toNat = 60 from rfl, show (62 : UInt8).toNat = 62 from rfl, show (34 : UInt8).toNat = 34 from rfl, show (39 : UInt8).toNat = 39 from rfl, show (9 : UInt8).toNat = 9 from rfl, show (10 : UInt8).toNat = 10 from rfl, show (13 : UInt8).toNat = 13 from rfl] at k38 k60 k62 k34 k39 k9 k10 k13
  simp only [k38, k60, k62, k34, k39, k9, k10, k13]
  repeat' split
  all_goals first | rfl | (exfalso; simp_all; done)
theorem wrtL_hi (r : Nat) (h : 128 ≤ r) : wrtL r = [] := by
  unfold wrtL
  rw [if_neg (by omega), if_neg (by omega), if_neg (by omega), if_neg (by omega), if_neg (by omega), if_neg (by omega), if_neg (by omega), if_neg (by omega)]
/-- One sign of the text, as it stands in XML. -/
theorem esc_sign (l : List UInt8) (h : l ≠ []) (hok : okL l = true) : escL (l.take (wL l)) = if wrtL (decL l).1 = [] then Lib.encodeRune ((decL l).1 : Int) else wrtL (decL l).1 := by
  rw [enc_ok l h hok]
  rcases dec_shape (fun i => (l.getD i 0).toNat) l.length with ⟨h1, h2⟩ | ⟨h1, h2, h3⟩
  · have hd : decL l = ((l.getD 0 0).toNat, 1) := h2
    have hw : wL l = 1 := by unfold wL; rw [hd]
    rw [hw, hd]
    match l, h with
    | c :: t, _ =>
      show escB c ++ [] = if wrtL c.toNat = [] then [c] else wrtL c.toNat
      rw [wrtL_byte, List.append_nil]
  · rw [if_pos (show wrtL (decL l).1 = [] from wrtL_hi _ h2)]
    apply escL_hi
    intro c hc
    obtain ⟨j, hj, rfl⟩ := List.mem_iff_getElem.1 hc
    rw [List.length_take] at hj
    have := h3 j (by show j < wL l; omega)
    rw [List.getElem_take]
    rw [List.getD_eq_getElem?_getD, List.getElem?_eq_getElem (by omega)] at this
    exact this
theorem take_step (l : List UInt8) (pos n : Nat) : l.take (pos + n) = l.take pos ++ (l.drop pos).take n := by rw [List.take_add]
theorem esc_step (s : ByteArray) (pos : Nat) (hp : pos < s.size) (hok : okAt s pos = true) :
    escL (s.data.toList.take (pos + wdAt s pos)) = escL (s.data.toList.take pos) ++ (if wrtL (dec (gOf s pos) (s.size - pos)).1 = [] then Lib.encodeRune ((dec (gOf s pos) (s.size - pos)).1 : Int) else wrtL (dec (gOf s pos) (s.size - pos)).1) := by
  have hne : s.data.toList.drop pos ≠ [] := by
    intro h
    have := drop_len s pos
    rw [h] at this
    simp at this; omega
  rw [take_step, escL_append, wdAt_L, decAt_L]
  congr 1
  rw [okAt_L] at hok
  exact esc_sign _ hne hok
theorem wdAt_le (s : ByteArray) (pos : Nat) (hp : pos < s.size) : pos + wdAt s pos ≤ s.size := by
  have hne : s.data.toList.drop pos ≠ [] := by
    intro h
    have := drop_len s pos
    rw [h] at this
    simp at this; omega
  have := wL_le _ hne
  rw [wdAt_L]
  rw [drop_len] at this
  omega
theorem escL_len (l : List UInt8) : (escL l).length ≤ 6 * l.length := by
  induction l with
  | nil => exact Nat.le_refl _
  | cons c t ih =>
    show (escB c ++ escL t).length ≤ _
    have : (escB c).length ≤ 6 := by unfold escB; repeat' split
                                     all_goals simp
    rw [List.length_append, List.length_cons]
    omega
def bytesOf (l : List UInt8) : ByteArray := ⟨l.toArray⟩
set_option maxRecDepth 100000 in
theorem written_any (r : Nat) (hr : r ≤ 2147483647) (w : World) : Calls Tryd.prog 53 #[.int .i32 r] w fun e w' => e = .returned (.string (bytesOf (wrtL r))) ∧ w' = w := by
  have hi : (r : Int) ≤ 2147483647 := by omega
  by_cases h38 : r = 38
  · subst h38
    go_enter Tryd.func53, Tryd.ntmps53
    go_wp2
    go_ret
    exact ⟨rfl, rfl⟩
  by_cases h60 : r = 60
  · subst h60
    clear h38
    go_enter Tryd.func53, Tryd.ntmps53
    go_wp2
    go_ret
    exact ⟨rfl, rfl⟩
  by_cases h62 : r = 62
  · subst h62
    clear h38 h60
    go_enter Tryd.func53, Tryd.ntmps53
    go_wp2
    go_ret
    exact ⟨rfl, rfl⟩
  by_cases h34 : r = 34
  · subst h34
    clear h38 h60 h62
    go_enter Tryd.func53, Tryd.ntmps53
    go_wp2
    go_ret
    exact ⟨rfl, rfl⟩
  by_cases h39 : r = 39
  · subst h39
    clear h38 h60 h62 h34
    go_enter Tryd.func53, Tryd.ntmps53
    go_wp2
    go_ret
    exact ⟨rfl, rfl⟩
  by_cases h9 : r = 9
  · subst h9
    clear h38 h60 h62 h34 h39
    go_enter Tryd.func53, Tryd.ntmps53
    go_wp2
    go_ret
    exact ⟨rfl, rfl⟩
  by_cases h10 : r = 10
  · subst h10
    clear h38 h60 h62 h34 h39 h9
    go_enter Tryd.func53, Tryd.ntmps53
    go_wp2
    go_ret
    exact ⟨rfl, rfl⟩
  by_cases h13 : r = 13
  · subst h13
    clear h38 h60 h62 h34 h39 h9 h10
    go_enter Tryd.func53, Tryd.ntmps53
    go_wp2
    go_ret
    exact ⟨rfl, rfl⟩
  · have L := Lib.hid (show wrtL r = [] by unfold wrtL; rw [if_neg h38, if_neg h60, if_neg h62, if_neg h34, if_neg h39, if_neg h9, if_neg h10, if_neg h13])
    have e38 : ((r : Int) == 38) = false := by rw [beq_eq_false_iff_ne]; omega
    have e60 : ((r : Int) == 60) = false := by rw [beq_eq_false_iff_ne]; omega
    have e62 : ((r : Int) == 62) = false := by rw [beq_eq_false_iff_ne]; omega
    have e34 : ((r : Int) == 34) = false := by rw [beq_eq_false_iff_ne]; omega
    have e39 : ((r : Int) == 39) = false := by rw [beq_eq_false_iff_ne]; omega
    have e9 : ((r : Int) == 9) = false := by rw [beq_eq_false_iff_ne]; omega
    have e10 : ((r : Int) == 10) = false := by rw [beq_eq_false_iff_ne]; omega
    have e13 : ((r : Int) == 13) = false := by rw [beq_eq_false_iff_ne]; omega
    clear h38 h60 h62 h34 h39 h9 h10 h13
    go_enter Tryd.func53, Tryd.ntmps53
    go_wp2
    go_ret
    exact ⟨by rw [L.out]; rfl, rfl⟩
/-- What Escape says. -/
def escT (s : ByteArray) : ByteArray := if goodB s = true then bytesOf (escL s.data.toList) else ⟨#[]⟩
def escN (s : ByteArray) : Int := if goodB s = true then 0 else 6
theorem strCells_bytes (l : List UInt8) : Lib.strCells (bytesOf l) = Lib.byteCells l := by
  unfold bytesOf
  simp [Lib.strCells, Lib.byteCells]
set_option maxRecDepth 100000 in
set_option maxHeartbeats 4000000 in
theorem escape_any (s : ByteArray) (hs : s.size ≤ 17592186044416) (w : World) : Calls Tryd.prog 38 #[.string s] w fun e w' => e = .returned (.tuple #[.string (escT s), .int .i64 (escN s)]) ∧ Bel w w' := by
  cases hg : goodB s with
  | false =>
    have L1 := Lib.hid (show escT s = ⟨#[]⟩ by rw [escT, hg]; rfl)
    have L2 := Lib.hid (show escN s = 6 by rw [escN, hg]; rfl)
    have HG := Lib.hid hg
    clear hg
    go_enter Tryd.func38, Tryd.ntmps38
    go_wp2_with (go_at_call 22; refine (good_any _ (by omega) _).mono ?_; rintro e W1 ⟨rfl, hb⟩; rw [HG.out])
    go_ret2
    exact ⟨by (rw [L1.out, L2.out]) <;> rfl, hb⟩
  | true =>
    have L1 := Lib.hid (show escT s = bytesOf (escL s.data.toList) by rw [escT, hg]; rfl)
    have L2 := Lib.hid (show escN s = 0 by rw [escN, hg]; rfl)
    have HBAD := Lib.hid (show badFrom s s.size 0 = -1 from of_decide_eq_true hg)
    have HG := Lib.hid hg
    clear hg
    go_enter Tryd.func38, Tryd.ntmps38
    go_wp2_with (go_at_call 22; refine (good_any _ (by omega) _).mono ?_; rintro e W1 ⟨rfl, hb⟩; rw [HG.out])
    go_loopg [] s.size (fun g wr => ∃ pos fuel : Nat, Hid (Lib.IsBuilderF 42 5 W1.heap.size W1.heap.size (Lib.byteCells (escL (s.data.toList.take pos))) wr) ∧ Hid (wr.heap[W1.heap.size + 1]? = some (.stringIter s pos)) ∧ Bel W1 wr ∧ Hid (pos ≤ s.size ∧ badFrom s fuel pos = -1 ∧ s.size ≤ fuel + pos ∧ g = s.size - pos))
    case atStart =>
      refine ⟨0, s.size, (Lib.IsBuilderF.of (Lib.fresh_isBuilder 42 5 W1)).alloc _, ?_, ((Bel.refl W1).alloc _).alloc _, ⟨Nat.zero_le _, HBAD.out, by omega, rfl⟩⟩
      have := World.iter_heap (W1.alloc (.cells #[.pointer none, .slice none 0 0] 42)) s 0
      simpa [Hid] using this
    case round =>
      obtain ⟨pos, fuel, hI, hit, hbw, hh⟩ := hrel
      by_cases hp : pos < s.size
      · obtain ⟨f, rfl⟩ : ∃ f, fuel = f + 1 := ⟨fuel - 1, by have := hh.out.2.2.1; omega⟩
        have hstep := hh.out.2.1
        rw [badFrom, if_pos hp] at hstep
        have hok : okAt s pos = true := by
          cases hk : okAt s pos with
          | true => rfl
          | false =>
            rw [hk, if_neg (by decide)] at hstep
            exact absurd hstep (by omega)
        rw [hok, if_pos rfl] at hstep
        have hes := esc_step s pos hp hok
        have hwl := wdAt_le s pos hp
        have hwd := wd_pos s pos
        have hd := decode_is s pos hp
        have hr := decode_le s pos
        obtain ⟨r, hr0⟩ : ∃ r, r = (dec (gOf s pos) (s.size - pos)).1 := ⟨_, rfl⟩
        rw [hd, ← hr0] at hr
        rw [← hr0] at hes
        have hr' := hr
        have hnx0 : ∀ ty, (Instr.next (.pointer (some ⟨W1.heap.size + 1, 0, none⟩)) true ty).run Tryd.prog wr = .ok (.tuple #[.bool true, .int .i64 pos, .int .i32 (r : Nat)]) (wr.iterAt (W1.heap.size + 1) s (pos + wdAt s pos)) := fun ty => by
          have h := Lib.run_next_any_at (P := Tryd.prog) wr (W1.heap.size + 1) s pos ty hit.out hp
          rw [hd, ← hr0] at h
          exact h
        have hI2 := Lib.hid (hI.out.iterAt hit.out (pos + wdAt s pos))
        have hit2 := Lib.hid (Lib.iterAt_heap wr (W1.heap.size + 1) s pos (pos + wdAt s pos) hit.out)
        have hb2 : Bel W1 (wr.iterAt (W1.heap.size + 1) s (pos + wdAt s pos)) := Lib.below_iterAt hbw (k := W1.heap.size + 1) (by omega) s _
        obtain ⟨W2, hW2⟩ : ∃ W2, W2 = wr.iterAt (W1.heap.size + 1) s (pos + wdAt s pos) := ⟨_, rfl⟩
        rw [← hW2] at hit2 hb2 hI2
        have hnx : ∀ ty, (Instr.next (.pointer (some ⟨W1.heap.size + 1, 0, none⟩)) true ty).run Tryd.prog wr = .ok (.tuple #[.bool true, .int .i64 pos, .int .i32 (r : Nat)]) W2 := fun ty => by rw [hW2]; exact hnx0 ty
        have hlen := escL_len (s.data.toList.take pos)
        have hlt2 : (s.data.toList.take pos).length ≤ pos := by rw [List.length_take]; omega
        have HL := Lib.hid (show (Lib.byteCells (escL (s.data.toList.take pos))).length ≤ 105553116266496 by rw [Lib.byteCells_length]; omega)
        have HES := Lib.hid hes
        have HST := Lib.hid (And.intro hstep (And.intro hwl hwd))
        have hsz2 : W1.heap.size ≤ W2.heap.size := hb2.size
        clear hd hr hr0 hnx0 hW2 hstep hwl hwd hbw hok hes hlen hlt2
        by_cases hw : wrtL r = []
        · have hcw : ∀ w, Calls Tryd.prog 53 #[.int .i32 r] w fun e w' => e = .returned (.string ⟨#[]⟩) ∧ w' = w := fun w => by
            have h := written_any r (by omega) w
            rw [hw] at h
            exact h
          have HCW := Lib.hid hcw
          have HW := Lib.hid hw
          clear hw hcw
          go_wp2_with (first
            | (go_at_call 53; refine (HCW.out _).mono ?_; rintro e V1 ⟨rfl, rfl⟩)
            | (go_at_call 54; refine (writeRune_any W1.heap.size W1.heap.size _ (r : Int) (by omega) (by omega) _ hI2.out (by have := HL.out; omega) hsz2).mono ?_; rintro e V2 ⟨rfl, h1, b1, k1⟩))
          go_roundg (s.size - (pos + wdAt s pos))
          case measure => have := hh.out.2.2.2; have := HST.out; omega
          case rel =>
            refine ⟨pos + wdAt s pos, f, ?_, k1.iter hit2.out (by omega), Below.trans hb2 b1, ⟨HST.out.2.1, HST.out.1, by have := hh.out.2.2.1; have := HST.out.2.2; omega, rfl⟩⟩
            rw [HES.out, HW.out, if_pos rfl, Lib.byteCells_append, Lib.byteCells_encodeRune]
            exact Or.inr h1
        · have hcw := fun w => written_any r (by omega) w
          obtain ⟨b, hb⟩ : ∃ b, b = bytesOf (wrtL r) := ⟨_, rfl⟩
          have e0 : b.toList.isEmpty = false := by
            rw [hb, ByteArray.toList_eq, Bool.eq_false_iff, ne_eq, List.isEmpty_iff]
            exact hw
          have HBZ := Lib.hid (show b.size ≤ 6 by
            rw [hb]
            show (wrtL r).toArray.size ≤ 6
            rw [List.size_toArray]
            unfold wrtL
            repeat' split
            all_goals simp)
          have HCB := Lib.hid (show Lib.strCells b = Lib.byteCells (wrtL r) by rw [hb, strCells_bytes])
          rw [← hb] at hcw
          have HCW := Lib.hid hcw
          have HW := Lib.hid hw
          clear hw hcw hb
          go_wp2_with (first
            | (go_at_call 53; refine (HCW.out _).mono ?_; rintro e V1 ⟨rfl, rfl⟩)
            | (go_at_call 25; refine (writeString_any W1.heap.size W1.heap.size _ b _ hI2.out (by have := HL.out; have := HBZ.out; omega) hsz2).mono ?_; rintro e V2 ⟨rfl, h1, b1, k1⟩))
          go_roundg (s.size - (pos + wdAt s pos))
          case measure => have := hh.out.2.2.2; have := HST.out; omega
          case rel =>
            refine ⟨pos + wdAt s pos, f, ?_, k1.iter hit2.out (by omega), Below.trans hb2 b1, ⟨HST.out.2.1, HST.out.1, by have := hh.out.2.2.1; have := HST.out.2.2; omega, rfl⟩⟩
            rw [HES.out, if_neg HW.out, Lib.byteCells_append, ← HCB.out]
            exact Or.inr h1
      · have hnx : ∀ ty, (Instr.next (.pointer (some ⟨W1.heap.size + 1, 0, none⟩)) true ty).run Tryd.prog wr = .ok (.tuple #[.bool false]) wr := fun ty => Lib.run_next_end_at wr (W1.heap.size + 1) s pos ty hit.out hp
        have hsz2 : W1.heap.size ≤ wr.heap.size := hbw.size
        have L3 := Lib.hid (show escT s = bytesOf (escL (s.data.toList.take pos)) by rw [List.take_of_length_le (by rw [size_list]; omega)]; exact L1.out)
        go_wp2_with (go_at_call 17; refine (Tryd.Builder_String_any_k W1.heap.size W1.heap.size (escL (s.data.toList.take pos)) _ hI.out hsz2).mono ?_; rintro e V1 ⟨rfl, _, b1, _⟩)
        go_ret2
        exact ⟨by (rw [L3.out, L2.out]) <;> rfl, hb.trans (Below.trans hbw b1)⟩
theorem app_bytesOf (a b : List UInt8) : bytesOf a ++ bytesOf b = bytesOf (a ++ b) := by
  apply ByteArray.ext
  show (bytesOf a ++ bytesOf b).data = _
  rw [ByteArray.data_append]
  show a.toArray ++ b.toArray = (a ++ b).toArray
  simp
theorem bytesOf_data (s : ByteArray) : bytesOf s.data.toList = s := by
  obtain ⟨⟨l⟩⟩ := s
  rfl
theorem take_one (s : ByteArray) (k : Nat) (h : k < s.size) : s.data.toList.take (k + 1) = s.data.toList.take k ++ [s[k]] := by
  rw [List.take_succ_eq_append_getElem (by rw [size_list]; exact h)]
  rfl
theorem ext_one (s : ByteArray) (k : Nat) (h : k < s.size) : s.extract k (k + 1) = bytesOf [s[k]] := by
  have h1 : (s.extract k (k + 1)).data.toList = [s[k]] := by
    rw [Lib.extract_data, show k + 1 - k = 1 from by omega, List.drop_eq_getElem_cons (by rw [size_list]; exact h)]
    rfl
  rw [← h1, bytesOf_data]
theorem esc_one (s : ByteArray) (k : Nat) (h : k < s.size) (l : List UInt8) (hl : escB s[k] = l) : bytesOf (escL (s.data.toList.take (k + 1))) = bytesOf (escL (s.data.toList.take k)) ++ bytesOf l := by
  rw [app_bytesOf, take_one s k h, escL_append, ← hl]
  show _ = bytesOf (_ ++ escB s[k])
  rw [show escL [s[k]] = escB s[k] from by simp [escL]]
theorem byte_eq {c : UInt8} {n : Nat} (hn : n < 256) (h : c.toNat = n) : c = UInt8.ofNat n := by
  apply UInt8.toNat_inj.1
  rw [h]
  show n = n % 256
  omega
theorem escB_same (c : UInt8) (h : c.toNat ≠ 38 ∧ c.toNat ≠ 60 ∧ c.toNat ≠ 62 ∧ c.toNat ≠ 34 ∧ c.toNat ≠ 39 ∧ c.toNat ≠ 9 ∧ c.toNat ≠ 10 ∧ c.toNat ≠ 13) : escB c = [c] := by
  have k : ∀ n : UInt8, c.toNat ≠ n.toNat → c ≠ n := fun n hn e => hn (by rw [e])
  unfold escB
  rw [if_neg (k 38 h.1), if_neg (k 60 h.2.1), if_neg (k 62 h.2.2.1), if_neg (k 34 h.2.2.2.1), if_neg (k 39 h.2.2.2.2.1), if_neg (k 9 h.2.2.2.2.2.1), if_neg (k 10 h.2.2.2.2.2.2.1), if_neg (k 13 h.2.2.2.2.2.2.2)]
set_option maxRecDepth 100000 in
set_option maxHeartbeats 4000000 in
theorem rescape_any (s : ByteArray) (hs : s.size ≤ 17592186044416) (w : World) : Calls Tryd.prog 18 #[.string s] w fun e w' => e = .returned (.tuple #[.string (escT s), .int .i64 (escN s)]) ∧ w' = w := by
  have hsi : (s.size : Int) ≤ 9223372036854775807 := by omega
  cases hg : goodB s with
  | false =>
    have L1 := Lib.hid (show escT s = ⟨#[]⟩ by rw [escT, hg]; rfl)
    have L2 := Lib.hid (show escN s = 6 by rw [escN, hg]; rfl)
    have HG := Lib.hid hg
    clear hg
    go_enter Tryd.func18, Tryd.ntmps18
    go_wp2_with (go_at_call 27; refine (rgood_any _ (by omega) _).mono ?_; rintro e W1 ⟨rfl, rfl⟩; rw [HG.out])
    go_ret2
    exact ⟨by (rw [L1.out, L2.out]) <;> rfl, rfl⟩
  | true =>
    have L1 := Lib.hid (show escT s = bytesOf (escL s.data.toList) by rw [escT, hg]; rfl)
    have L2 := Lib.hid (show escN s = 0 by rw [escN, hg]; rfl)
    have HG := Lib.hid hg
    clear hg
    go_enter Tryd.func18, Tryd.ntmps18
    go_wp2_with (go_at_call 27; refine (rgood_any _ (by omega) _).mono ?_; rintro e W1 ⟨rfl, rfl⟩; rw [HG.out])
    go_loopg [4, 5] s.size (fun g v i wr => ∃ (k : Nat) (o : ByteArray), v = .string o ∧ i = .int .i64 k ∧ k ≤ s.size ∧ Hid (o = bytesOf (escL (s.data.toList.take k)) ∧ g = s.size - k) ∧ wr = W1)
    case atStart => exact ⟨0, ⟨#[]⟩, rfl, rfl, Nat.zero_le _, ⟨rfl, rfl⟩, rfl⟩
    case round =>
      obtain ⟨k, o, rfl, rfl, hk, hh, rfl⟩ := hrel
      by_cases hp : k < s.size
      · have j1 : (k : Int) < s.size := by omega
        have hoz : (o.size : Int) ≤ 105553116266496 := by
          have h1 := escL_len (s.data.toList.take k)
          have h2 : (s.data.toList.take k).length ≤ k := by rw [List.length_take]; omega
          have h3 : o.size = (escL (s.data.toList.take k)).length := by rw [hh.out.1]; exact List.size_toArray
          omega
        have cc : s[k].toNat = 38 ∨ s[k].toNat = 60 ∨ s[k].toNat = 62 ∨ s[k].toNat = 34 ∨ s[k].toNat = 39 ∨ s[k].toNat = 9 ∨ s[k].toNat = 10 ∨ s[k].toNat = 13 ∨ (s[k].toNat ≠ 38 ∧ s[k].toNat ≠ 60 ∧ s[k].toNat ≠ 62 ∧ s[k].toNat ≠ 34 ∧ s[k].toNat ≠ 39 ∧ s[k].toNat ≠ 9 ∧ s[k].toNat ≠ 10 ∧ s[k].toNat ≠ 13) := by omega
        rcases cc with c | c | c | c | c | c | c | c | c
        · have e38 : ((s[k].toNat : Int) == 38) = true := by rw [beq_iff_eq]; omega
          have e60 : ((s[k].toNat : Int) == 60) = false := by rw [beq_eq_false_iff_ne]; omega
          have e62 : ((s[k].toNat : Int) == 62) = false := by rw [beq_eq_false_iff_ne]; omega
          have e34 : ((s[k].toNat : Int) == 34) = false := by rw [beq_eq_false_iff_ne]; omega
          have e39 : ((s[k].toNat : Int) == 39) = false := by rw [beq_eq_false_iff_ne]; omega
          have e9 : ((s[k].toNat : Int) == 9) = false := by rw [beq_eq_false_iff_ne]; omega
          have e10 : ((s[k].toNat : Int) == 10) = false := by rw [beq_eq_false_iff_ne]; omega
          have e13 : ((s[k].toNat : Int) == 13) = false := by rw [beq_eq_false_iff_ne]; omega
          have HC := Lib.hid (esc_one s k hp [38, 97, 109, 112, 59] (by rw [byte_eq (n := 38) (by decide) c]; rfl))
          clear c
          go_wp2_with fail
          go_roundg (s.size - (k + 1))
          case measure => have := hh.out.2; omega
          case rel => exact ⟨k + 1, _, rfl, by go_num, by omega, ⟨by rw [HC.out, hh.out.1]; rfl, rfl⟩, rfl⟩
        · have e38 : ((s[k].toNat : Int) == 38) = false := by rw [beq_eq_false_iff_ne]; omega
          have e60 : ((s[k].toNat : Int) == 60) = true := by rw [beq_iff_eq]; omega
          have e62 : ((s[k].toNat : Int) == 62) = false := by rw [beq_eq_false_iff_ne]; omega
          have e34 : ((s[k].toNat : Int) == 34) = false := by rw [beq_eq_false_iff_ne]; omega
          have e39 : ((s[k].toNat : Int) == 39) = false := by rw [beq_eq_false_iff_ne]; omega
          have e9 : ((s[k].toNat : Int) == 9) = false := by rw [beq_eq_false_iff_ne]; omega
          have e10 : ((s[k].toNat : Int) == 10) = false := by rw [beq_eq_false_iff_ne]; omega
          have e13 : ((s[k].toNat : Int) == 13) = false := by rw [beq_eq_false_iff_ne]; omega
          have HC := Lib.hid (esc_one s k hp [38, 108, 116, 59] (by rw [byte_eq (n := 60) (by decide) c]; rfl))
          clear c
          go_wp2_with fail
          go_roundg (s.size - (k + 1))
          case measure => have := hh.out.2; omega
          case rel => exact ⟨k + 1, _, rfl, by go_num, by omega, ⟨by rw [HC.out, hh.out.1]; rfl, rfl⟩, rfl⟩
        · have e38 : ((s[k].toNat : Int) == 38) = false := by rw [beq_eq_false_iff_ne]; omega
          have e60 : ((s[k].toNat : Int) == 60) = false := by rw [beq_eq_false_iff_ne]; omega
          have e62 : ((s[k].toNat : Int) == 62) = true := by rw [beq_iff_eq]; omega
          have e34 : ((s[k].toNat : Int) == 34) = false := by rw [beq_eq_false_iff_ne]; omega
          have e39 : ((s[k].toNat : Int) == 39) = false := by rw [beq_eq_false_iff_ne]; omega
          have e9 : ((s[k].toNat : Int) == 9) = false := by rw [beq_eq_false_iff_ne]; omega
          have e10 : ((s[k].toNat : Int) == 10) = false := by rw [beq_eq_false_iff_ne]; omega
          have e13 : ((s[k].toNat : Int) == 13) = false := by rw [beq_eq_false_iff_ne]; omega
          have HC := Lib.hid (esc_one s k hp [38, 103, 116, 59] (by rw [byte_eq (n := 62) (by decide) c]; rfl))
          clear c
          go_wp2_with fail
          go_roundg (s.size - (k + 1))
          case measure => have := hh.out.2; omega
          case rel => exact ⟨k + 1, _, rfl, by go_num, by omega, ⟨by rw [HC.out, hh.out.1]; rfl, rfl⟩, rfl⟩
        · have e38 : ((s[k].toNat : Int) == 38) = false := by rw [beq_eq_false_iff_ne]; omega
          have e60 : ((s[k].toNat : Int) == 60) = false := by rw [beq_eq_false_iff_ne]; omega
          have e62 : ((s[k].toNat : Int) == 62) = false := by rw [beq_eq_false_iff_ne]; omega
          have e34 : ((s[k].toNat : Int) == 34) = true := by rw [beq_iff_eq]; omega
          have e39 : ((s[k].toNat : Int) == 39) = false := by rw [beq_eq_false_iff_ne]; omega
          have e9 : ((s[k].toNat : Int) == 9) = false := by rw [beq_eq_false_iff_ne]; omega
          have e10 : ((s[k].toNat : Int) == 10) = false := by rw [beq_eq_false_iff_ne]; omega
          have e13 : ((s[k].toNat : Int) == 13) = false := by rw [beq_eq_false_iff_ne]; omega
          have HC := Lib.hid (esc_one s k hp [38, 113, 117, 111, 116, 59] (by rw [byte_eq (n := 34) (by decide) c]; rfl))
          clear c
          go_wp2_with fail
          go_roundg (s.size - (k + 1))
          case measure => have := hh.out.2; omega
          case rel => exact ⟨k + 1, _, rfl, by go_num, by omega, ⟨by rw [HC.out, hh.out.1]; rfl, rfl⟩, rfl⟩
        · have e38 : ((s[k].toNat : Int) == 38) = false := by rw [beq_eq_false_iff_ne]; omega
          have e60 : ((s[k].toNat : Int) == 60) = false := by rw [beq_eq_false_iff_ne]; omega
          have e62 : ((s[k].toNat : Int) == 62) = false := by rw [beq_eq_false_iff_ne]; omega
          have e34 : ((s[k].toNat : Int) == 34) = false := by rw [beq_eq_false_iff_ne]; omega
          have e39 : ((s[k].toNat : Int) == 39) = true := by rw [beq_iff_eq]; omega
          have e9 : ((s[k].toNat : Int) == 9) = false := by rw [beq_eq_false_iff_ne]; omega
          have e10 : ((s[k].toNat : Int) == 10) = false := by rw [beq_eq_false_iff_ne]; omega
          have e13 : ((s[k].toNat : Int) == 13) = false := by rw [beq_eq_false_iff_ne]; omega
          have HC := Lib.hid (esc_one s k hp [38, 97, 112, 111, 115, 59] (by rw [byte_eq (n := 39) (by decide) c]; rfl))
          clear c
          go_wp2_with fail
          go_roundg (s.size - (k + 1))
          case measure => have := hh.out.2; omega
          case rel => exact ⟨k + 1, _, rfl, by go_num, by omega, ⟨by rw [HC.out, hh.out.1]; rfl, rfl⟩, rfl⟩
        · have e38 : ((s[k].toNat : Int) == 38) = false := by rw [beq_eq_false_iff_ne]; omega
          have e60 : ((s[k].toNat : Int) == 60) = false := by rw [beq_eq_false_iff_ne]; omega
          have e62 : ((s[k].toNat : Int) == 62) = false := by rw [beq_eq_false_iff_ne]; omega
          have e34 : ((s[k].toNat : Int) == 34) = false := by rw [beq_eq_false_iff_ne]; omega
          have e39 : ((s[k].toNat : Int) == 39) = false := by rw [beq_eq_false_iff_ne]; omega
          have e9 : ((s[k].toNat : Int) == 9) = true := by rw [beq_iff_eq]; omega
          have e10 : ((s[k].toNat : Int) == 10) = false := by rw [beq_eq_false_iff_ne]; omega
          have e13 : ((s[k].toNat : Int) == 13) = false := by rw [beq_eq_false_iff_ne]; omega
          have HC := Lib.hid (esc_one s k hp [38, 35, 57, 59] (by rw [byte_eq (n := 9) (by decide) c]; rfl))
          clear c
          go_wp2_with fail
          go_roundg (s.size - (k + 1))
          case measure => have := hh.out.2; omega
          case rel => exact ⟨k + 1, _, rfl, by go_num, by omega, ⟨by rw [HC.out, hh.out.1]; rfl, rfl⟩, rfl⟩
        · have e38 : ((s[k].toNat : Int) == 38) = false := by rw [beq_eq_false_iff_ne]; omega
          have e60 : ((s[k].toNat : Int) == 60) = false := by rw [beq_eq_false_iff_ne]; omega
          have e62 : ((s[k].toNat : Int) == 62) = false := by rw [beq_eq_false_iff_ne]; omega
          have e34 : ((s[k].toNat : Int) == 34) = false := by rw [beq_eq_false_iff_ne]; omega
          have e39 : ((s[k].toNat : Int) == 39) = false := by rw [beq_eq_false_iff_ne]; omega
          have e9 : ((s[k].toNat : Int) == 9) = false := by rw [beq_eq_false_iff_ne]; omega
          have e10 : ((s[k].toNat : Int) == 10) = true := by rw [beq_iff_eq]; omega
          have e13 : ((s[k].toNat : Int) == 13) = false := by rw [beq_eq_false_iff_ne]; omega
          have HC := Lib.hid (esc_one s k hp [38, 35, 49, 48, 59] (by rw [byte_eq (n := 10) (by decide) c]; rfl))
          clear c
          go_wp2_with fail
          go_roundg (s.size - (k + 1))
          case measure => have := hh.out.2; omega
          case rel => exact ⟨k + 1, _, rfl, by go_num, by omega, ⟨by rw [HC.out, hh.out.1]; rfl, rfl⟩, rfl⟩
        · have e38 : ((s[k].toNat : Int) == 38) = false := by rw [beq_eq_false_iff_ne]; omega
          have e60 : ((s[k].toNat : Int) == 60) = false := by rw [beq_eq_false_iff_ne]; omega
          have e62 : ((s[k].toNat : Int) == 62) = false := by rw [beq_eq_false_iff_ne]; omega
          have e34 : ((s[k].toNat : Int) == 34) = false := by rw [beq_eq_false_iff_ne]; omega
          have e39 : ((s[k].toNat : Int) == 39) = false := by rw [beq_eq_false_iff_ne]; omega
          have e9 : ((s[k].toNat : Int) == 9) = false := by rw [beq_eq_false_iff_ne]; omega
          have e10 : ((s[k].toNat : Int) == 10) = false := by rw [beq_eq_false_iff_ne]; omega
          have e13 : ((s[k].toNat : Int) == 13) = true := by rw [beq_iff_eq]; omega
          have HC := Lib.hid (esc_one s k hp [38, 35, 49, 51, 59] (by rw [byte_eq (n := 13) (by decide) c]; rfl))
          clear c
          go_wp2_with fail
          go_roundg (s.size - (k + 1))
          case measure => have := hh.out.2; omega
          case rel => exact ⟨k + 1, _, rfl, by go_num, by omega, ⟨by rw [HC.out, hh.out.1]; rfl, rfl⟩, rfl⟩
        · have e38 : ((s[k].toNat : Int) == 38) = false := by rw [beq_eq_false_iff_ne]; omega
          have e60 : ((s[k].toNat : Int) == 60) = false := by rw [beq_eq_false_iff_ne]; omega
          have e62 : ((s[k].toNat : Int) == 62) = false := by rw [beq_eq_false_iff_ne]; omega
          have e34 : ((s[k].toNat : Int) == 34) = false := by rw [beq_eq_false_iff_ne]; omega
          have e39 : ((s[k].toNat : Int) == 39) = false := by rw [beq_eq_false_iff_ne]; omega
          have e9 : ((s[k].toNat : Int) == 9) = false := by rw [beq_eq_false_iff_ne]; omega
          have e10 : ((s[k].toNat : Int) == 10) = false := by rw [beq_eq_false_iff_ne]; omega
          have e13 : ((s[k].toNat : Int) == 13) = false := by rw [beq_eq_false_iff_ne]; omega
          have HC := Lib.hid (esc_one s k hp _ (escB_same _ c))
          have HE := Lib.hid (ext_one s k hp)
          clear c
          go_wp2_with fail
          go_roundg (s.size - (k + 1))
          case measure => have := hh.out.2; omega
          case rel => exact ⟨k + 1, _, rfl, by go_num, by omega, ⟨by rw [HC.out, hh.out.1, ← HE.out], rfl⟩, rfl⟩
      · have L3 := Lib.hid (show escT s = o by rw [L1.out, hh.out.1, List.take_of_length_le (by rw [size_list]; omega)])
        go_wp2_with fail
        go_ret2
        exact ⟨by (rw [L3.out, L2.out]) <;> rfl, rfl⟩
/-- The worth of a digit; 99: it is none. -/
def dvB (c : Nat) : Nat := if 48 ≤ c ∧ c ≤ 57 then c - 48 else if 97 ≤ c ∧ c ≤ 102 then c - 87 else if 65 ≤ c ∧ c ≤ 70 then c - 55 else 99
/-- A number to a base; none: a byte is no digit. -/
def foldD (b : Nat) : List UInt8 → Nat → Option Nat
  | [], n => some n
  | c :: t, n => if dvB c.toNat < b then foldD b t (n * b + dvB c.toNat) else none
def numL (b : Nat) (l : List UInt8) : Option Nat :=
  if l = [] ∨ 8 < l.length then none else match foldD b l 0 with
    | some n => if sgn n = true then some n else none
    | none => none
/-- What stands between & and ;. -/
def entL (l : List UInt8) : Option Nat :=
  if l = [97, 109, 112] then some 38 else if l = [108, 116] then some 60 else if l = [103, 116] then some 62 else if l = [113, 117, 111, 116] then some 34
  else if l = [97, 112, 111, 115] then some 39 else match l with
    | 35 :: 120 :: t => numL 16 t
    | 35 :: t => numL 10 t
    | _ => none
/-- What stands in a text from a place on: the signs, or the place and what is wrong. -/
def unL : Nat → Nat → List UInt8 → List UInt8 → List UInt8 × Nat × Nat
  | 0, _, _, acc => (acc, 0, 0)
  | _ + 1, _, [], acc => (acc, 0, 0)
  | f + 1, pos, c :: t, acc =>
    if c = 60 then ([], pos, 6)
    else if c = 38 then
      match entL (t.takeWhile (· != 59)) with
      | some r => if (t.takeWhile (· != 59)).length = t.length then ([], pos, 7) else unL f (pos + 2 + (t.takeWhile (· != 59)).length) (t.drop ((t.takeWhile (· != 59)).length + 1)) (acc ++ Lib.encodeRune (r : Int))
      | none => ([], pos, 7)
    else if okL (c :: t) = true then unL f (pos + wL (c :: t)) ((c :: t).drop (wL (c :: t))) (acc ++ (c :: t).take (wL (c :: t)))
    else ([], pos, 6)
def unS (s : ByteArray) : List UInt8 × Nat × Nat := unL s.size 0 s.data.toList []
theorem numL_sgn (b : Nat) (l : List UInt8) (r : Nat) (h : numL b l = some r) : sgn r = true := by
  unfold numL at h
  split at h
  · cases h
  · split at h
    · split at h
      · rename_i hs
        rw [← Option.some.inj h]; exact hs
      · cases h
    · cases h
theorem entL_sgn (l : List UInt8) (r : Nat) (h : entL l = some r) : sgn r = true := by
  unfold entL at h
  split at h
  · rw [← Option.some.inj h]; decide
  split at h
  · rw [← Option.some.inj h]; decide
  split at h
  · rw [← Option.some.inj h]; decide
  split at h
  · rw [← Option.some.inj h]; decide
  split at h
  · rw [← Option.some.inj h]; decide
  split at h
  · exact numL_sgn _ _ _ h
  · exact numL_sgn _ _ _ h
  · cases h
theorem dvB_hi (c : Nat) (h : 128 ≤ c) : dvB c = 99 := by
  unfold dvB
  rw [if_neg (by omega), if_neg (by omega), if_neg (by omega)]
theorem foldD_low (b : Nat) (hb : b ≤ 16) : ∀ (l : List UInt8) (n m : Nat), foldD b l n = some m → ∀ c ∈ l, c.toNat < 128
  | [], _, _, _, c, hc => by simp at hc
  | c :: t, n, m, hm, x, hx => by
    unfold foldD at hm
    split at hm
    · rename_i hd
      rcases List.mem_cons.1 hx with rfl | hx
      · rcases Nat.lt_or_ge x.toNat 128 with h | h
        · exact h
        · rw [dvB_hi _ h] at hd; omega
      · exact foldD_low b hb t _ m hm x hx
    · cases hm
theorem numL_low (b : Nat) (hb : b ≤ 16) (l : List UInt8) (r : Nat) (h : numL b l = some r) : ∀ c ∈ l, c.toNat < 128 := by
  unfold numL at h
  split at h
  · cases h
  · split at h
    · rename_i n hn
      exact foldD_low b hb l 0 n hn
    · cases h
/-- A name that stands for a sign is of signs of one byte. -/
theorem entL_low (l : List UInt8) (r : Nat) (h : entL l = some r) : ∀ c ∈ l, c.toNat < 128 := by
  unfold entL at h
  split at h
  · rename_i e; rw [e]; decide
  split at h
  · rename_i e; rw [e]; decide
  split at h
  · rename_i e; rw [e]; decide
  split at h
  · rename_i e; rw [e]; decide
  split at h
  · rename_i e; rw [e]; decide
  split at h
  · rename_i t _ _ _ _ _
    intro c hc
    rcases List.mem_cons.1 hc with rfl | hc
    · decide
    rcases List.mem_cons.1 hc with rfl | hc
    · decide
    exact numL_low 16 (by omega) _ r h c hc
  · intro c hc
    rcases List.mem_cons.1 hc with rfl | hc
    · decide
    exact numL_low 10 (by omega) _ r h c hc
  · cases h
set_option maxRecDepth 100000 in
theorem digit10_is (r : Nat) (hr : r ≤ 2147483647) (w : World) : Calls Tryd.prog 36 #[.int .i32 r, .int .i64 10] w fun e w' => e = .returned (.bool (decide (dvB r < 10))) ∧ w' = w := by
  have hi : (r : Int) ≤ 2147483647 := by omega
  have hc : (0 ≤ r ∧ r ≤ 47) ∨ (48 ≤ r ∧ r ≤ 57) ∨ (58 ≤ r ∧ r ≤ 64) ∨ (65 ≤ r ∧ r ≤ 70) ∨ (71 ≤ r ∧ r ≤ 96) ∨ (97 ≤ r ∧ r ≤ 102) ∨ (103 ≤ r ∧ r ≤ 2147483647) := by omega
  rcases hc with h | h | h | h | h | h | h
  · have hd : dvB r = 99 := by unfold dvB; rw [if_neg (by omega), if_neg (by omega), if_neg (by omega)]
    have L := Lib.hid (show decide (dvB r < 10) = false by rw [hd]; exact decide_eq_false (by omega))
    clear hd
    have g48 : decide ((48 : Int) ≤ r) = false := by exact decide_eq_false (by omega)
    have gl48 : decide ((r : Int) < 48) = true := by exact decide_eq_true (by omega)
    have g65 : decide ((65 : Int) ≤ r) = false := by exact decide_eq_false (by omega)
    have gl65 : decide ((r : Int) < 65) = true := by exact decide_eq_true (by omega)
    have g97 : decide ((97 : Int) ≤ r) = false := by exact decide_eq_false (by omega)
    have gl97 : decide ((r : Int) < 97) = true := by exact decide_eq_true (by omega)
    have l57 : decide ((r : Int) ≤ 57) = true := by exact decide_eq_true (by omega)
    have l70 : decide ((r : Int) ≤ 70) = true := by exact decide_eq_true (by omega)
    have l102 : decide ((r : Int) ≤ 102) = true := by exact decide_eq_true (by omega)
    clear h hr hi
    go_enter Tryd.func36, Tryd.ntmps36
    go_wp2_with fail
    go_ret
    exact ⟨by (rw [L.out]) <;> rfl, rfl⟩
  · have hd : dvB r = r - 48 := by unfold dvB; rw [if_pos (by omega)]
    have L := Lib.hid (show decide (dvB r < 10) = true by rw [hd]; exact decide_eq_true (by omega))
    clear hd
    have g48 : decide ((48 : Int) ≤ r) = true := by exact decide_eq_true (by omega)
    have gl48 : decide ((r : Int) < 48) = false := by exact decide_eq_false (by omega)
    have g65 : decide ((65 : Int) ≤ r) = false := by exact decide_eq_false (by omega)
    have gl65 : decide ((r : Int) < 65) = true := by exact decide_eq_true (by omega)
    have g97 : decide ((97 : Int) ≤ r) = false := by exact decide_eq_false (by omega)
    have gl97 : decide ((r : Int) < 97) = true := by exact decide_eq_true (by omega)
    have l57 : decide ((r : Int) ≤ 57) = true := by exact decide_eq_true (by omega)
    have l70 : decide ((r : Int) ≤ 70) = true := by exact decide_eq_true (by omega)
    have l102 : decide ((r : Int) ≤ 102) = true := by exact decide_eq_true (by omega)
    clear h hr hi
    go_enter Tryd.func36, Tryd.ntmps36
    go_wp2_with fail
    go_ret
    exact ⟨by (rw [L.out]) <;> rfl, rfl⟩
  · have hd : dvB r = 99 := by unfold dvB; rw [if_neg (by omega), if_neg (by omega), if_neg (by omega)]
    have L := Lib.hid (show decide (dvB r < 10) = false by rw [hd]; exact decide_eq_false (by omega))
    clear hd
    have g48 : decide ((48 : Int) ≤ r) = true := by exact decide_eq_true (by omega)
    have gl48 : decide ((r : Int) < 48) = false := by exact decide_eq_false (by omega)
    have g65 : decide ((65 : Int) ≤ r) = false := by exact decide_eq_false (by omega)
    have gl65 : decide ((r : Int) < 65) = true := by exact decide_eq_true (by omega)
    have g97 : decide ((97 : Int) ≤ r) = false := by exact decide_eq_false (by omega)
    have gl97 : decide ((r : Int) < 97) = true := by exact decide_eq_true (by omega)
    have l57 : decide ((r : Int) ≤ 57) = false := by exact decide_eq_false (by omega)
    have l70 : decide ((r : Int) ≤ 70) = true := by exact decide_eq_true (by omega)
    have l102 : decide ((r : Int) ≤ 102) = true := by exact decide_eq_true (by omega)
    clear h hr hi
    go_enter Tryd.func36, Tryd.ntmps36
    go_wp2_with fail
    go_ret
    exact ⟨by (rw [L.out]) <;> rfl, rfl⟩
  · have hd : dvB r = r - 55 := by unfold dvB; rw [if_neg (by omega), if_neg (by omega), if_pos (by omega)]
    have L := Lib.hid (show decide (dvB r < 10) = false by rw [hd]; exact decide_eq_false (by omega))
    clear hd
    have g48 : decide ((48 : Int) ≤ r) = true := by exact decide_eq_true (by omega)
    have gl48 : decide ((r : Int) < 48) = false := by exact decide_eq_false (by omega)
    have g65 : decide ((65 : Int) ≤ r) = true := by exact decide_eq_true (by omega)
    have gl65 : decide ((r : Int) < 65) = false := by exact decide_eq_false (by omega)
    have g97 : decide ((97 : Int) ≤ r) = false := by exact decide_eq_false (by omega)
    have gl97 : decide ((r : Int) < 97) = true := by exact decide_eq_true (by omega)
    have l57 : decide ((r : Int) ≤ 57) = false := by exact decide_eq_false (by omega)
    have l70 : decide ((r : Int) ≤ 70) = true := by exact decide_eq_true (by omega)
    have l102 : decide ((r : Int) ≤ 102) = true := by exact decide_eq_true (by omega)
    clear h hr hi
    go_enter Tryd.func36, Tryd.ntmps36
    go_wp2_with fail
    go_ret
    exact ⟨by (rw [L.out]) <;> rfl, rfl⟩
  · have hd : dvB r = 99 := by unfold dvB; rw [if_neg (by omega), if_neg (by omega), if_neg (by omega)]
    have L := Lib.hid (show decide (dvB r < 10) = false by rw [hd]; exact decide_eq_false (by omega))
    clear hd
    have g48 : decide ((48 : Int) ≤ r) = true := by exact decide_eq_true (by omega)
    have gl48 : decide ((r : Int) < 48) = false := by exact decide_eq_false (by omega)
    have g65 : decide ((65 : Int) ≤ r) = true := by exact decide_eq_true (by omega)
    have gl65 : decide ((r : Int) < 65) = false := by exact decide_eq_false (by omega)
    have g97 : decide ((97 : Int) ≤ r) = false := by exact decide_eq_false (by omega)
    have gl97 : decide ((r : Int) < 97) = true := by exact decide_eq_true (by omega)
    have l57 : decide ((r : Int) ≤ 57) = false := by exact decide_eq_false (by omega)
    have l70 : decide ((r : Int) ≤ 70) = false := by exact decide_eq_false (by omega)
    have l102 : decide ((r : Int) ≤ 102) = true := by exact decide_eq_true (by omega)
    clear h hr hi
    go_enter Tryd.func36, Tryd.ntmps36
    go_wp2_with fail
    go_ret
    exact ⟨by (rw [L.out]) <;> rfl, rfl⟩
  · have hd : dvB r = r - 87 := by unfold dvB; rw [if_neg (by omega), if_pos (by omega)]
    have L := Lib.hid (show decide (dvB r < 10) = false by rw [hd]; exact decide_eq_false (by omega))
    clear hd
    have g48 : decide ((48 : Int) ≤ r) = true := by exact decide_eq_true (by omega)
    have gl48 : decide ((r : Int) < 48) = false := by exact decide_eq_false (by omega)
    have g65 : decide ((65 : Int) ≤ r) = true := by exact decide_eq_true (by omega)
    have gl65 : decide ((r : Int) < 65) = false := by exact decide_eq_false (by omega)
    have g97 : decide ((97 : Int) ≤ r) = true := by exact decide_eq_true (by omega)
    have gl97 : decide ((r : Int) < 97) = false := by exact decide_eq_false (by omega)
    have l57 : decide ((r : Int) ≤ 57) = false := by exact decide_eq_false (by omega)
    have l70 : decide ((r : Int) ≤ 70) = false := by exact decide_eq_false (by omega)
    have l102 : decide ((r : Int) ≤ 102) = true := by exact decide_eq_true (by omega)
    clear h hr hi
    go_enter Tryd.func36, Tryd.ntmps36
    go_wp2_with fail
    go_ret
    exact ⟨by (rw [L.out]) <;> rfl, rfl⟩
  · have hd : dvB r = 99 := by unfold dvB; rw [if_neg (by omega), if_neg (by omega), if_neg (by omega)]
    have L := Lib.hid (show decide (dvB r < 10) = false by rw [hd]; exact decide_eq_false (by omega))
    clear hd
    have g48 : decide ((48 : Int) ≤ r) = true := by exact decide_eq_true (by omega)
    have gl48 : decide ((r : Int) < 48) = false := by exact decide_eq_false (by omega)
    have g65 : decide ((65 : Int) ≤ r) = true := by exact decide_eq_true (by omega)
    have gl65 : decide ((r : Int) < 65) = false := by exact decide_eq_false (by omega)
    have g97 : decide ((97 : Int) ≤ r) = true := by exact decide_eq_true (by omega)
    have gl97 : decide ((r : Int) < 97) = false := by exact decide_eq_false (by omega)
    have l57 : decide ((r : Int) ≤ 57) = false := by exact decide_eq_false (by omega)
    have l70 : decide ((r : Int) ≤ 70) = false := by exact decide_eq_false (by omega)
    have l102 : decide ((r : Int) ≤ 102) = false := by exact decide_eq_false (by omega)
    clear h hr hi
    go_enter Tryd.func36, Tryd.ntmps36
    go_wp2_with fail
    go_ret
    exact ⟨by (rw [L.out]) <;> rfl, rfl⟩
set_option maxRecDepth 100000 in
theorem digit16_is (r : Nat) (hr : r ≤ 2147483647) (w : World) : Calls Tryd.prog 36 #[.int .i32 r, .int .i64 16] w fun e w' => e = .returned (.bool (decide (dvB r < 16))) ∧ w' = w := by
  have hi : (r : Int) ≤ 2147483647 := by omega
  have hc : (0 ≤ r ∧ r ≤ 47) ∨ (48 ≤ r ∧ r ≤ 57) ∨ (58 ≤ r ∧ r ≤ 64) ∨ (65 ≤ r ∧ r ≤ 70) ∨ (71 ≤ r ∧ r ≤ 96) ∨ (97 ≤ r ∧ r ≤ 102) ∨ (103 ≤ r ∧ r ≤ 2147483647) := by omega
  rcases hc with h | h | h | h | h | h | h
  · have hd : dvB r = 99 := by unfold dvB; rw [if_neg (by omega), if_neg (by omega), if_neg (by omega)]
    have L := Lib.hid (show decide (dvB r < 16) = false by rw [hd]; exact decide_eq_false (by omega))
    clear hd
    have g48 : decide ((48 : Int) ≤ r) = false := by exact decide_eq_false (by omega)
    have gl48 : decide ((r : Int) < 48) = true := by exact decide_eq_true (by omega)
    have g65 : decide ((65 : Int) ≤ r) = false := by exact decide_eq_false (by omega)
    have gl65 : decide ((r : Int) < 65) = true := by exact decide_eq_true (by omega)
    have g97 : decide ((97 : Int) ≤ r) = false := by exact decide_eq_false (by omega)
    have gl97 : decide ((r : Int) < 97) = true := by exact decide_eq_true (by omega)
    have l57 : decide ((r : Int) ≤ 57) = true := by exact decide_eq_true (by omega)
    have l70 : decide ((r : Int) ≤ 70) = true := by exact decide_eq_true (by omega)
    have l102 : decide ((r : Int) ≤ 102) = true := by exact decide_eq_true (by omega)
    clear h hr hi
    go_enter Tryd.func36, Tryd.ntmps36
    go_wp2_with fail
    go_ret
    exact ⟨by (rw [L.out]) <;> rfl, rfl⟩
  · have hd : dvB r = r - 48 := by unfold dvB; rw [if_pos (by omega)]
    have L := Lib.hid (show decide (dvB r < 16) = true by rw [hd]; exact decide_eq_true (by omega))
    clear hd
    have g48 : decide ((48 : Int) ≤ r) = true := by exact decide_eq_true (by omega)
    have gl48 : decide ((r : Int) < 48) = false := by exact decide_eq_false (by omega)
    have g65 : decide ((65 : Int) ≤ r) = false := by exact decide_eq_false (by omega)
    have gl65 : decide ((r : Int) < 65) = true := by exact decide_eq_true (by omega)
    have g97 : decide ((97 : Int) ≤ r) = false := by exact decide_eq_false (by omega)
    have gl97 : decide ((r : Int) < 97) = true := by exact decide_eq_true (by omega)
    have l57 : decide ((r : Int) ≤ 57) = true := by exact decide_eq_true (by omega)
    have l70 : decide ((r : Int) ≤ 70) = true := by exact decide_eq_true (by omega)
    have l102 : decide ((r : Int) ≤ 102) = true := by exact decide_eq_true (by omega)
    clear h hr hi
    go_enter Tryd.func36, Tryd.ntmps36
    go_wp2_with fail
    go_ret
    exact ⟨by (rw [L.out]) <;> rfl, rfl⟩
  · have hd : dvB r = 99 := by unfold dvB; rw [if_neg (by omega), if_neg (by omega), if_neg (by omega)]
    have L := Lib.hid (show decide (dvB r < 16) = false by rw [hd]; exact decide_eq_false (by omega))
    clear hd
    have g48 : decide ((48 : Int) ≤ r) = true := by exact decide_eq_true (by omega)
    have gl48 : decide ((r : Int) < 48) = false := by exact decide_eq_false (by omega)
    have g65 : decide ((65 : Int) ≤ r) = false := by exact decide_eq_false (by omega)
    have gl65 : decide ((r : Int) < 65) = true := by exact decide_eq_true (by omega)
    have g97 : decide ((97 : Int) ≤ r) = false := by exact decide_eq_false (by omega)
    have gl97 : decide ((r : Int) < 97) = true := by exact decide_eq_true (by omega)
    have l57 : decide ((r : Int) ≤ 57) = false := by exact decide_eq_false (by omega)
    have l70 : decide ((r : Int) ≤ 70) = true := by exact decide_eq_true (by omega)
    have l102 : decide ((r : Int) ≤ 102) = true := by exact decide_eq_true (by omega)
    clear h hr hi
    go_enter Tryd.func36, Tryd.ntmps36
    go_wp2_with fail
    go_ret
    exact ⟨by (rw [L.out]) <;> rfl, rfl⟩
  · have hd : dvB r = r - 55 := by unfold dvB; rw [if_neg (by omega), if_neg (by omega), if_pos (by omega)]
    have L := Lib.hid (show decide (dvB r < 16) = true by rw [hd]; exact decide_eq_true (by omega))
    clear hd
    have g48 : decide ((48 : Int) ≤ r) = true := by exact decide_eq_true (by omega)
    have gl48 : decide ((r : Int) < 48) = false := by exact decide_eq_false (by omega)
    have g65 : decide ((65 : Int) ≤ r) = true := by exact decide_eq_true (by omega)
    have gl65 : decide ((r : Int) < 65) = false := by exact decide_eq_false (by omega)
    have g97 : decide ((97 : Int) ≤ r) = false := by exact decide_eq_false (by omega)
    have gl97 : decide ((r : Int) < 97) = true := by exact decide_eq_true (by omega)
    have l57 : decide ((r : Int) ≤ 57) = false := by exact decide_eq_false (by omega)
    have l70 : decide ((r : Int) ≤ 70) = true := by exact decide_eq_true (by omega)
    have l102 : decide ((r : Int) ≤ 102) = true := by exact decide_eq_true (by omega)
    clear h hr hi
    go_enter Tryd.func36, Tryd.ntmps36
    go_wp2_with fail
    go_ret
    exact ⟨by (rw [L.out]) <;> rfl, rfl⟩
  · have hd : dvB r = 99 := by unfold dvB; rw [if_neg (by omega), if_neg (by omega), if_neg (by omega)]
    have L := Lib.hid (show decide (dvB r < 16) = false by rw [hd]; exact decide_eq_false (by omega))
    clear hd
    have g48 : decide ((48 : Int) ≤ r) = true := by exact decide_eq_true (by omega)
    have gl48 : decide ((r : Int) < 48) = false := by exact decide_eq_false (by omega)
    have g65 : decide ((65 : Int) ≤ r) = true := by exact decide_eq_true (by omega)
    have gl65 : decide ((r : Int) < 65) = false := by exact decide_eq_false (by omega)
    have g97 : decide ((97 : Int) ≤ r) = false := by exact decide_eq_false (by omega)
    have gl97 : decide ((r : Int) < 97) = true := by exact decide_eq_true (by omega)
    have l57 : decide ((r : Int) ≤ 57) = false := by exact decide_eq_false (by omega)
    have l70 : decide ((r : Int) ≤ 70) = false := by exact decide_eq_false (by omega)
    have l102 : decide ((r : Int) ≤ 102) = true := by exact decide_eq_true (by omega)
    clear h hr hi
    go_enter Tryd.func36, Tryd.ntmps36
    go_wp2_with fail
    go_ret
    exact ⟨by (rw [L.out]) <;> rfl, rfl⟩
  · have hd : dvB r = r - 87 := by unfold dvB; rw [if_neg (by omega), if_pos (by omega)]
    have L := Lib.hid (show decide (dvB r < 16) = true by rw [hd]; exact decide_eq_true (by omega))
    clear hd
    have g48 : decide ((48 : Int) ≤ r) = true := by exact decide_eq_true (by omega)
    have gl48 : decide ((r : Int) < 48) = false := by exact decide_eq_false (by omega)
    have g65 : decide ((65 : Int) ≤ r) = true := by exact decide_eq_true (by omega)
    have gl65 : decide ((r : Int) < 65) = false := by exact decide_eq_false (by omega)
    have g97 : decide ((97 : Int) ≤ r) = true := by exact decide_eq_true (by omega)
    have gl97 : decide ((r : Int) < 97) = false := by exact decide_eq_false (by omega)
    have l57 : decide ((r : Int) ≤ 57) = false := by exact decide_eq_false (by omega)
    have l70 : decide ((r : Int) ≤ 70) = false := by exact decide_eq_false (by omega)
    have l102 : decide ((r : Int) ≤ 102) = true := by exact decide_eq_true (by omega)
    clear h hr hi
    go_enter Tryd.func36, Tryd.ntmps36
    go_wp2_with fail
    go_ret
    exact ⟨by (rw [L.out]) <;> rfl, rfl⟩
  · have hd : dvB r = 99 := by unfold dvB; rw [if_neg (by omega), if_neg (by omega), if_neg (by omega)]
    have L := Lib.hid (show decide (dvB r < 16) = false by rw [hd]; exact decide_eq_false (by omega))
    clear hd
    have g48 : decide ((48 : Int) ≤ r) = true := by exact decide_eq_true (by omega)
    have gl48 : decide ((r : Int) < 48) = false := by exact decide_eq_false (by omega)
    have g65 : decide ((65 : Int) ≤ r) = true := by exact decide_eq_true (by omega)
    have gl65 : decide ((r : Int) < 65) = false := by exact decide_eq_false (by omega)
    have g97 : decide ((97 : Int) ≤ r) = true := by exact decide_eq_true (by omega)
    have gl97 : decide ((r : Int) < 97) = false := by exact decide_eq_false (by omega)
    have l57 : decide ((r : Int) ≤ 57) = false := by exact decide_eq_false (by omega)
    have l70 : decide ((r : Int) ≤ 70) = false := by exact decide_eq_false (by omega)
    have l102 : decide ((r : Int) ≤ 102) = false := by exact decide_eq_false (by omega)
    clear h hr hi
    go_enter Tryd.func36, Tryd.ntmps36
    go_wp2_with fail
    go_ret
    exact ⟨by (rw [L.out]) <;> rfl, rfl⟩
set_option maxRecDepth 100000 in
theorem worth_is (r : Nat) (hv : dvB r < 16) (w : World) : Calls Tryd.prog 82 #[.int .i32 r] w fun e w' => e = .returned (.int .i64 (dvB r : Nat)) ∧ w' = w := by
  have hc : (48 ≤ r ∧ r ≤ 57) ∨ (65 ≤ r ∧ r ≤ 70) ∨ (97 ≤ r ∧ r ≤ 102) := by
    unfold dvB at hv
    split at hv
    · omega
    split at hv
    · omega
    split at hv
    · omega
    · omega
  rcases hc with h | h | h
  · have L := Lib.hid (show dvB r = r - 48 by unfold dvB; rw [if_pos (by omega)])
    have b1 : (48 : Int) ≤ r := by omega
    have b2 : (r : Int) ≤ 57 := by omega
    have g65 : decide ((65 : Int) ≤ r) = false := by exact decide_eq_false (by omega)
    have gl65 : decide ((r : Int) < 65) = true := by exact decide_eq_true (by omega)
    have g97 : decide ((97 : Int) ≤ r) = false := by exact decide_eq_false (by omega)
    have gl97 : decide ((r : Int) < 97) = true := by exact decide_eq_true (by omega)
    clear hv
    go_enter Tryd.func82, Tryd.ntmps82
    go_wp2_with fail
    go_ret
    exact ⟨by rw [L.out]; exact congrArg (fun z => Ending.returned (.int .i64 z)) (by omega), rfl⟩
  · have L := Lib.hid (show dvB r = r - 55 by unfold dvB; rw [if_neg (by omega), if_neg (by omega), if_pos (by omega)])
    have b1 : (65 : Int) ≤ r := by omega
    have b2 : (r : Int) ≤ 70 := by omega
    have g65 : decide ((65 : Int) ≤ r) = true := by exact decide_eq_true (by omega)
    have gl65 : decide ((r : Int) < 65) = false := by exact decide_eq_false (by omega)
    have g97 : decide ((97 : Int) ≤ r) = false := by exact decide_eq_false (by omega)
    have gl97 : decide ((r : Int) < 97) = true := by exact decide_eq_true (by omega)
    clear hv
    go_enter Tryd.func82, Tryd.ntmps82
    go_wp2_with fail
    go_ret
    exact ⟨by rw [L.out]; exact congrArg (fun z => Ending.returned (.int .i64 z)) (by omega), rfl⟩
  · have L := Lib.hid (show dvB r = r - 87 by unfold dvB; rw [if_neg (by omega), if_pos (by omega)])
    have b1 : (97 : Int) ≤ r := by omega
    have b2 : (r : Int) ≤ 102 := by omega
    have g65 : decide ((65 : Int) ≤ r) = true := by exact decide_eq_true (by omega)
    have gl65 : decide ((r : Int) < 65) = false := by exact decide_eq_false (by omega)
    have g97 : decide ((97 : Int) ≤ r) = true := by exact decide_eq_true (by omega)
    have gl97 : decide ((r : Int) < 97) = false := by exact decide_eq_false (by omega)
    clear hv
    go_enter Tryd.func82, Tryd.ntmps82
    go_wp2_with fail
    go_ret
    exact ⟨by rw [L.out]; exact congrArg (fun z => Ending.returned (.int .i64 z)) (by omega), rfl⟩
def numV (o : Option Nat) : Value := match o with
  | some n => .tuple #[.int .i32 (n : Nat), .bool true]
  | none => .tuple #[.int .i32 0, .bool false]
theorem drop_step (s : ByteArray) (k : Nat) (h : k < s.size) : s.data.toList.drop k = s[k] :: s.data.toList.drop (k + 1) := by
  rw [List.drop_eq_getElem_cons (by rw [size_list]; exact h)]
  rfl
theorem gOf_at0 (s : ByteArray) (k : Nat) (h : k < s.size) : gOf s k 0 = s[k].toNat := by
  rw [gOf_list, drop_step s k h]
  rfl
theorem dv_sign (s : ByteArray) (pos : Nat) (hp : pos < s.size) (b : Nat) (hb : b ≤ 16) : dvB (dec (gOf s pos) (s.size - pos)).1 = dvB s[pos].toNat ∧ (dvB (dec (gOf s pos) (s.size - pos)).1 < b → wdAt s pos = 1) := by
  by_cases hl : gOf s pos 0 < 128
  · have hdl := dec_low (gOf s pos) (s.size - pos) hl
    rw [hdl]
    refine ⟨by rw [gOf_at0 s pos hp], fun _ => by unfold wdAt; rw [hdl]⟩
  · have hh1 := dec_hi (gOf s pos) (s.size - pos) hl
    have e1 := dvB_hi _ hh1
    refine ⟨by rw [e1, dvB_hi s[pos].toNat (by rw [← gOf_at0 s pos hp]; omega)], fun h => by omega⟩
theorem numL_nil (b : Nat) (l : List UInt8) (h : l = [] ∨ 8 < l.length) : numL b l = none := by unfold numL; rw [if_pos h]
theorem numL_of (b : Nat) (l : List UInt8) (h : ¬ (l = [] ∨ 8 < l.length)) : numL b l = match foldD b l 0 with
    | some n => if sgn n = true then some n else none
    | none => none := by unfold numL; rw [if_neg h] <;> (cases foldD b l 0 <;> rfl)
set_option maxRecDepth 100000 in
set_option maxHeartbeats 4000000 in
theorem numbered10_any (s : ByteArray) (hs : s.size ≤ 9223372036854775807) (w : World) : Calls Tryd.prog 72 #[.string s, .int .i64 10] w fun e w' => e = .returned (numV (numL 10 s.data.toList)) ∧ Bel w w' := by
  have i2 : (s.size : Int) ≤ 9223372036854775807 := by omega
  by_cases h0 : s.size = 0
  · have L := Lib.hid (show numL 10 s.data.toList = none from numL_nil _ _ (.inl (List.eq_nil_of_length_eq_zero (by rw [size_list]; exact h0))))
    have e0 : s.toList.isEmpty = true := by
      rw [ByteArray.toList_eq, List.isEmpty_iff]
      exact List.eq_nil_of_length_eq_zero (by rw [size_list]; exact h0)
    clear h0
    go_enter Tryd.func72, Tryd.ntmps72
    go_wp2
    go_ret2
    exact ⟨by (rw [L.out]) <;> rfl, Bel.refl _⟩
  · have e0 : s.toList.isEmpty = false := by
      rw [ByteArray.toList_eq, Bool.eq_false_iff, ne_eq, List.isEmpty_iff]
      intro h
      have := size_list s
      rw [h] at this
      simp at this; omega
    by_cases h8 : (8 : Int) < s.size
    · have L := Lib.hid (show numL 10 s.data.toList = none from numL_nil _ _ (.inr (by rw [size_list]; omega)))
      clear h0
      go_enter Tryd.func72, Tryd.ntmps72
      go_wp2
      go_ret2
      exact ⟨by (rw [L.out]) <;> rfl, Bel.refl _⟩
    · have NL := Lib.hid (numL_of 10 s.data.toList (by
        rintro (h | h)
        · have := size_list s
          rw [h] at this
          simp at this; omega
        · rw [size_list] at h; omega))
      have SZ := Lib.hid (And.intro (show 0 < s.size by omega) (show s.size ≤ 8 by omega))
      clear h0
      go_enter Tryd.func72, Tryd.ntmps72
      go_wp2
      have hit0 : (w.iter s 0).heap[w.heap.size]? = some (.stringIter s 0) := World.iter_heap w s 0
      have hb0 : Bel w (w.iter s 0) := (Bel.refl w).alloc _
      have HB := Lib.hid (And.intro hit0 hb0)
      clear hit0 hb0
      go_loopg [6] s.size (fun g v wr => ∃ pos n : Nat, v = .int .i64 n ∧ Hid (wr.heap[w.heap.size]? = some (.stringIter s pos)) ∧ Bel w wr ∧ Hid (pos ≤ s.size ∧ foldD 10 (s.data.toList.drop pos) n = foldD 10 s.data.toList 0 ∧ n < 16 ^ pos ∧ g = s.size - pos))
      case atStart => exact ⟨0, 0, rfl, HB.out.1, HB.out.2, ⟨Nat.zero_le _, rfl, by decide, rfl⟩⟩
      case round =>
        obtain ⟨pos, n, rfl, hit, hb, hh⟩ := hrel
        by_cases hp : pos < s.size
        · have hd := decode_is s pos hp
          have hr := decode_le s pos
          have hk := dv_sign s pos hp 10 (by omega)
          obtain ⟨r, hr0⟩ : ∃ r, r = (dec (gOf s pos) (s.size - pos)).1 := ⟨_, rfl⟩
          rw [hd, ← hr0] at hr
          rw [← hr0] at hk
          have hr' := hr
          have hnx0 : ∀ ty, (Instr.next (.pointer (some ⟨w.heap.size, 0, none⟩)) true ty).run Tryd.prog wr = .ok (.tuple #[.bool true, .int .i64 pos, .int .i32 (r : Nat)]) (wr.iterAt w.heap.size s (pos + wdAt s pos)) := fun ty => by
            have h := Lib.run_next_any_at (P := Tryd.prog) wr w.heap.size s pos ty hit.out hp
            rw [hd, ← hr0] at h
            exact h
          have hit2 := Lib.hid (Lib.iterAt_heap wr w.heap.size s pos (pos + wdAt s pos) hit.out)
          have hb2 : Bel w (wr.iterAt w.heap.size s (pos + wdAt s pos)) := Lib.below_iterAt hb (k := w.heap.size) (Nat.le_refl _) s _
          obtain ⟨W2, hW2⟩ : ∃ W2, W2 = wr.iterAt w.heap.size s (pos + wdAt s pos) := ⟨_, rfl⟩
          rw [← hW2] at hit2 hb2
          have hnx : ∀ ty, (Instr.next (.pointer (some ⟨w.heap.size, 0, none⟩)) true ty).run Tryd.prog wr = .ok (.tuple #[.bool true, .int .i64 pos, .int .i32 (r : Nat)]) W2 := fun ty => by rw [hW2]; exact hnx0 ty
          have hn : n < 268435456 := by
            have h1 := hh.out.2.2.1
            have h2 : 16 ^ pos ≤ 16 ^ 7 := Nat.pow_le_pow_right (by omega) (by have := SZ.out.2; omega)
            omega
          have hni : (n : Int) < 268435456 := by omega
          have hst := drop_step s pos hp
          have i1 : (pos : Int) < s.size := by omega
          by_cases hv : dvB r < 10
          · have HV := Lib.hid (show decide (dvB r < 10) = true from decide_eq_true hv)
            have hv' : dvB r < 16 := by omega
            have hvi : (dvB r : Int) < 16 := by omega
            have HF := Lib.hid (show foldD 10 (s.data.toList.drop (pos + 1)) (n * 10 + dvB r) = foldD 10 s.data.toList 0 by
              rw [← hh.out.2.1, hst]
              show _ = if dvB s[pos].toNat < 10 then _ else _
              rw [← hk.1, if_pos hv])
            have HP := Lib.hid (show n * 10 + dvB r < 16 ^ (pos + 1) by
              have h1 := hh.out.2.2.1
              rw [Nat.pow_succ]
              have h3 : (n + 1) * 10 ≤ 16 ^ pos * 16 := Nat.mul_le_mul (by omega) (by omega)
              rw [Nat.add_mul] at h3
              omega)
            have HW := Lib.hid (hk.2 hv)
            obtain ⟨d, hdd⟩ : ∃ d, d = dvB r := ⟨_, rfl⟩
            have hwo := fun w => worth_is r hv' w
            rw [← hdd] at hwo hvi HF HP hv'
            have HWO := Lib.hid hwo
            clear hd hr hr0 hnx0 hW2 hb hk hst hv hn hdd hwo
            go_wp2_with (first
              | (go_at_call 36; refine (digit10_is r hr' _).mono ?_; rintro e V1 ⟨rfl, rfl⟩; rw [HV.out])
              | (go_at_call 82; refine (HWO.out _).mono ?_; rintro e V2 ⟨rfl, rfl⟩))
            go_roundg (s.size - (pos + 1))
            case measure => have := hh.out.2.2.2; omega
            case rel =>
              rw [HW.out] at hit2
              exact ⟨pos + 1, n * 10 + d, by go_num, hit2, hb2, ⟨by omega, HF.out, HP.out, rfl⟩⟩
          · have HV := Lib.hid (show decide (dvB r < 10) = false from decide_eq_false hv)
            have L := Lib.hid (show numL 10 s.data.toList = none by
              rw [NL.out, ← hh.out.2.1, hst]
              have : foldD 10 (s[pos] :: s.data.toList.drop (pos + 1)) n = none := by
                show (if dvB s[pos].toNat < 10 then _ else none) = none
                rw [← hk.1, if_neg hv]
              rw [this])
            clear hd hr hr0 hnx0 hW2 hb hk hst hv hn
            go_wp2_with (go_at_call 36; refine (digit10_is r hr' _).mono ?_; rintro e V1 ⟨rfl, rfl⟩; rw [HV.out])
            go_ret2
            exact ⟨by (rw [L.out]) <;> rfl, hb2⟩
        · have hnx : ∀ ty, (Instr.next (.pointer (some ⟨w.heap.size, 0, none⟩)) true ty).run Tryd.prog wr = .ok (.tuple #[.bool false]) wr := fun ty => Lib.run_next_end_at wr w.heap.size s pos ty hit.out hp
          have hf : foldD 10 s.data.toList 0 = some n := by
            rw [← hh.out.2.1, List.drop_of_length_le (by rw [size_list]; omega)]
            rfl
          have hn : n < 4294967296 := by
            have h1 := hh.out.2.2.1
            have h2 : 16 ^ pos ≤ 16 ^ 8 := Nat.pow_le_pow_right (by omega) (by have := SZ.out.2; have := hh.out.1; omega)
            omega
          have hni : (n : Int) < 4294967296 := by omega
          by_cases hm : (1114111 : Int) < n
          · have L := Lib.hid (show numL 10 s.data.toList = none by
              rw [NL.out, hf]
              show (if sgn n = true then some n else none) = none
              rw [if_neg (fun h => by have := (sgn_iff n).1 h; omega)])
            clear hf
            go_wp2_with fail
            go_ret2
            exact ⟨by (rw [L.out]) <;> rfl, hb⟩
          · have hm' : (n : Int) ≤ 1114111 := by omega
            cases hv : sgn n with
            | true =>
              have HV := Lib.hid hv
              have L := Lib.hid (show numL 10 s.data.toList = some n by
                rw [NL.out, hf]
                show (if sgn n = true then some n else none) = some n
                rw [if_pos hv])
              clear hf hv
              go_wp2_with (go_at_call 50; refine (valid_any n (by omega) _).mono ?_; rintro e V1 ⟨rfl, rfl⟩; rw [HV.out])
              go_ret2
              exact ⟨by (rw [L.out]) <;> rfl, hb⟩
            | false =>
              have HV := Lib.hid hv
              have L := Lib.hid (show numL 10 s.data.toList = none by
                rw [NL.out, hf]
                show (if sgn n = true then some n else none) = none
                rw [if_neg (by rw [hv]; decide)])
              clear hf hv
              go_wp2_with (go_at_call 50; refine (valid_any n (by omega) _).mono ?_; rintro e V1 ⟨rfl, rfl⟩; rw [HV.out])
              go_ret2
              exact ⟨by (rw [L.out]) <;> rfl, hb⟩
set_option maxRecDepth 100000 in
set_option maxHeartbeats 4000000 in
theorem numbered16_any (s : ByteArray) (hs : s.size ≤ 9223372036854775807) (w : World) : Calls Tryd.prog 72 #[.string s, .int .i64 16] w fun e w' => e = .returned (numV (numL 16 s.data.toList)) ∧ Bel w w' := by
  have i2 : (s.size : Int) ≤ 9223372036854775807 := by omega
  by_cases h0 : s.size = 0
  · have L := Lib.hid (show numL 16 s.data.toList = none from numL_nil _ _ (.inl (List.eq_nil_of_length_eq_zero (by rw [size_list]; exact h0))))
    have e0 : s.toList.isEmpty = true := by
      rw [ByteArray.toList_eq, List.isEmpty_iff]
      exact List.eq_nil_of_length_eq_zero (by rw [size_list]; exact h0)
    clear h0
    go_enter Tryd.func72, Tryd.ntmps72
    go_wp2
    go_ret2
    exact ⟨by (rw [L.out]) <;> rfl, Bel.refl _⟩
  · have e0 : s.toList.isEmpty = false := by
      rw [ByteArray.toList_eq, Bool.eq_false_iff, ne_eq, List.isEmpty_iff]
      intro h
      have := size_list s
      rw [h] at this
      simp at this; omega
    by_cases h8 : (8 : Int) < s.size
    · have L := Lib.hid (show numL 16 s.data.toList = none from numL_nil _ _ (.inr (by rw [size_list]; omega)))
      clear h0
      go_enter Tryd.func72, Tryd.ntmps72
      go_wp2
      go_ret2
      exact ⟨by (rw [L.out]) <;> rfl, Bel.refl _⟩
    · have NL := Lib.hid (numL_of 16 s.data.toList (by
        rintro (h | h)
        · have := size_list s
          rw [h] at this
          simp at this; omega
        · rw [size_list] at h; omega))
      have SZ := Lib.hid (And.intro (show 0 < s.size by omega) (show s.size ≤ 8 by omega))
      clear h0
      go_enter Tryd.func72, Tryd.ntmps72
      go_wp2
      have hit0 : (w.iter s 0).heap[w.heap.size]? = some (.stringIter s 0) := World.iter_heap w s 0
      have hb0 : Bel w (w.iter s 0) := (Bel.refl w).alloc _
      have HB := Lib.hid (And.intro hit0 hb0)
      clear hit0 hb0
      go_loopg [6] s.size (fun g v wr => ∃ pos n : Nat, v = .int .i64 n ∧ Hid (wr.heap[w.heap.size]? = some (.stringIter s pos)) ∧ Bel w wr ∧ Hid (pos ≤ s.size ∧ foldD 16 (s.data.toList.drop pos) n = foldD 16 s.data.toList 0 ∧ n < 16 ^ pos ∧ g = s.size - pos))
      case atStart => exact ⟨0, 0, rfl, HB.out.1, HB.out.2, ⟨Nat.zero_le _, rfl, by decide, rfl⟩⟩
      case round =>
        obtain ⟨pos, n, rfl, hit, hb, hh⟩ := hrel
        by_cases hp : pos < s.size
        · have hd := decode_is s pos hp
          have hr := decode_le s pos
          have hk := dv_sign s pos hp 16 (by omega)
          obtain ⟨r, hr0⟩ : ∃ r, r = (dec (gOf s pos) (s.size - pos)).1 := ⟨_, rfl⟩
          rw [hd, ← hr0] at hr
          rw [← hr0] at hk
          have hr' := hr
          have hnx0 : ∀ ty, (Instr.next (.pointer (some ⟨w.heap.size, 0, none⟩)) true ty).run Tryd.prog wr = .ok (.tuple #[.bool true, .int .i64 pos, .int .i32 (r : Nat)]) (wr.iterAt w.heap.size s (pos + wdAt s pos)) := fun ty => by
            have h := Lib.run_next_any_at (P := Tryd.prog) wr w.heap.size s pos ty hit.out hp
            rw [hd, ← hr0] at h
            exact h
          have hit2 := Lib.hid (Lib.iterAt_heap wr w.heap.size s pos (pos + wdAt s pos) hit.out)
          have hb2 : Bel w (wr.iterAt w.heap.size s (pos + wdAt s pos)) := Lib.below_iterAt hb (k := w.heap.size) (Nat.le_refl _) s _
          obtain ⟨W2, hW2⟩ : ∃ W2, W2 = wr.iterAt w.heap.size s (pos + wdAt s pos) := ⟨_, rfl⟩
          rw [← hW2] at hit2 hb2
          have hnx : ∀ ty, (Instr.next (.pointer (some ⟨w.heap.size, 0, none⟩)) true ty).run Tryd.prog wr = .ok (.tuple #[.bool true, .int .i64 pos, .int .i32 (r : Nat)]) W2 := fun ty => by rw [hW2]; exact hnx0 ty
          have hn : n < 268435456 := by
            have h1 := hh.out.2.2.1
            have h2 : 16 ^ pos ≤ 16 ^ 7 := Nat.pow_le_pow_right (by omega) (by have := SZ.out.2; omega)
            omega
          have hni : (n : Int) < 268435456 := by omega
          have hst := drop_step s pos hp
          have i1 : (pos : Int) < s.size := by omega
          by_cases hv : dvB r < 16
          · have HV := Lib.hid (show decide (dvB r < 16) = true from decide_eq_true hv)
            have hv' : dvB r < 16 := by omega
            have hvi : (dvB r : Int) < 16 := by omega
            have HF := Lib.hid (show foldD 16 (s.data.toList.drop (pos + 1)) (n * 16 + dvB r) = foldD 16 s.data.toList 0 by
              rw [← hh.out.2.1, hst]
              show _ = if dvB s[pos].toNat < 16 then _ else _
              rw [← hk.1, if_pos hv])
            have HP := Lib.hid (show n * 16 + dvB r < 16 ^ (pos + 1) by
              have h1 := hh.out.2.2.1
              rw [Nat.pow_succ]
              have h3 : (n + 1) * 16 ≤ 16 ^ pos * 16 := Nat.mul_le_mul (by omega) (by omega)
              rw [Nat.add_mul] at h3
              omega)
            have HW := Lib.hid (hk.2 hv)
            obtain ⟨d, hdd⟩ : ∃ d, d = dvB r := ⟨_, rfl⟩
            have hwo := fun w => worth_is r hv' w
            rw [← hdd] at hwo hvi HF HP hv'
            have HWO := Lib.hid hwo
            clear hd hr hr0 hnx0 hW2 hb hk hst hv hn hdd hwo
            go_wp2_with (first
              | (go_at_call 36; refine (digit16_is r hr' _).mono ?_; rintro e V1 ⟨rfl, rfl⟩; rw [HV.out])
              | (go_at_call 82; refine (HWO.out _).mono ?_; rintro e V2 ⟨rfl, rfl⟩))
            go_roundg (s.size - (pos + 1))
            case measure => have := hh.out.2.2.2; omega
            case rel =>
              rw [HW.out] at hit2
              exact ⟨pos + 1, n * 16 + d, by go_num, hit2, hb2, ⟨by omega, HF.out, HP.out, rfl⟩⟩
          · have HV := Lib.hid (show decide (dvB r < 16) = false from decide_eq_false hv)
            have L := Lib.hid (show numL 16 s.data.toList = none by
              rw [NL.out, ← hh.out.2.1, hst]
              have : foldD 16 (s[pos] :: s.data.toList.drop (pos + 1)) n = none := by
                show (if dvB s[pos].toNat < 16 then _ else none) = none
                rw [← hk.1, if_neg hv]
              rw [this])
            clear hd hr hr0 hnx0 hW2 hb hk hst hv hn
            go_wp2_with (go_at_call 36; refine (digit16_is r hr' _).mono ?_; rintro e V1 ⟨rfl, rfl⟩; rw [HV.out])
            go_ret2
            exact ⟨by (rw [L.out]) <;> rfl, hb2⟩
        · have hnx : ∀ ty, (Instr.next (.pointer (some ⟨w.heap.size, 0, none⟩)) true ty).run Tryd.prog wr = .ok (.tuple #[.bool false]) wr := fun ty => Lib.run_next_end_at wr w.heap.size s pos ty hit.out hp
          have hf : foldD 16 s.data.toList 0 = some n := by
            rw [← hh.out.2.1, List.drop_of_length_le (by rw [size_list]; omega)]
            rfl
          have hn : n < 4294967296 := by
            have h1 := hh.out.2.2.1
            have h2 : 16 ^ pos ≤ 16 ^ 8 := Nat.pow_le_pow_right (by omega) (by have := SZ.out.2; have := hh.out.1; omega)
            omega
          have hni : (n : Int) < 4294967296 := by omega
          by_cases hm : (1114111 : Int) < n
          · have L := Lib.hid (show numL 16 s.data.toList = none by
              rw [NL.out, hf]
              show (if sgn n = true then some n else none) = none
              rw [if_neg (fun h => by have := (sgn_iff n).1 h; omega)])
            clear hf
            go_wp2_with fail
            go_ret2
            exact ⟨by (rw [L.out]) <;> rfl, hb⟩
          · have hm' : (n : Int) ≤ 1114111 := by omega
            cases hv : sgn n with
            | true =>
              have HV := Lib.hid hv
              have L := Lib.hid (show numL 16 s.data.toList = some n by
                rw [NL.out, hf]
                show (if sgn n = true then some n else none) = some n
                rw [if_pos hv])
              clear hf hv
              go_wp2_with (go_at_call 50; refine (valid_any n (by omega) _).mono ?_; rintro e V1 ⟨rfl, rfl⟩; rw [HV.out])
              go_ret2
              exact ⟨by (rw [L.out]) <;> rfl, hb⟩
            | false =>
              have HV := Lib.hid hv
              have L := Lib.hid (show numL 16 s.data.toList = none by
                rw [NL.out, hf]
                show (if sgn n = true then some n else none) = none
                rw [if_neg (by rw [hv]; decide)])
              clear hf hv
              go_wp2_with (go_at_call 50; refine (valid_any n (by omega) _).mono ?_; rintro e V1 ⟨rfl, rfl⟩; rw [HV.out])
              go_ret2
              exact ⟨by (rw [L.out]) <;> rfl, hb⟩
def bef59 (l : List UInt8) : List UInt8 := l.takeWhile (· != 59)
def aft59 (l : List UInt8) : List UInt8 := (l.dropWhile (· != 59)).drop 1
def has59 (l : List UInt8) : Bool := !(l.dropWhile (· != 59)).isEmpty
theorem idx59 (l : List UInt8) : Lib.indexByte l 59 = if has59 l = true then ((bef59 l).length : Int) else -1 := by
  induction l with
  | nil => rfl
  | cons c r ih =>
    unfold Lib.indexByte bef59 has59
    by_cases h : c = 59
    · subst h; simp
    · have hc : (c == 59) = false := by simpa using h
      have hc2 : (c != 59) = true := by simpa using h
      simp only [hc, Bool.false_eq_true, if_false, List.takeWhile_cons, hc2, if_true, List.dropWhile_cons]
      rw [ih]
      unfold has59 bef59
      cases hd : (r.dropWhile (· != 59)).isEmpty
      · simp
      · simp
theorem bef_aft (l : List UInt8) (h : has59 l = true) : l = bef59 l ++ 59 :: aft59 l := by
  have h1 := List.takeWhile_append_dropWhile (p := (· != (59 : UInt8))) (l := l)
  unfold has59 at h
  unfold bef59 aft59
  cases hd : l.dropWhile (· != 59) with
  | nil => rw [hd] at h; cases h
  | cons c r =>
    have hc : c = 59 := by
      have := List.head_dropWhile_not (p := (· != (59 : UInt8))) (l := l) (by rw [hd]; simp)
      simp [hd] at this
      exact this
    subst hc
    rw [hd] at h1
    simpa using h1.symm
theorem bef_all (l : List UInt8) (h : has59 l = false) : bef59 l = l := by
  have h1 := List.takeWhile_append_dropWhile (p := (· != (59 : UInt8))) (l := l)
  unfold has59 at h
  have : l.dropWhile (· != 59) = [] := by simpa using h
  rw [this, List.append_nil] at h1
  exact h1
theorem idxByte_any (s : ByteArray) (w : World) : Calls Tryd.prog 77 #[.string s, .int .u8 59] w fun e w' => e = .returned (.int .i64 (if has59 s.data.toList = true then ((bef59 s.data.toList).length : Int) else -1)) ∧ w' = w :=
  (Tryd.stringslite_IndexByte s 59 w).mono fun e w' ⟨he, hw⟩ => ⟨by rw [he, ← idx59]; rfl, hw⟩
theorem index_any (s : ByteArray) (w : World) : Calls Tryd.prog 70 #[.string s, .string ⟨#[59]⟩] w fun e w' => e = .returned (.int .i64 (if has59 s.data.toList = true then ((bef59 s.data.toList).length : Int) else -1)) ∧ Bel w w' := by
  have c1 := Lib.hid fun w => idxByte_any s w
  by_cases h : s = ⟨#[59]⟩
  · subst h
    have k1 : ([59] == (⟨#[59]⟩ : ByteArray).toList) = true := by rw [ByteArray.toList_eq]; decide
    have hv : Hid ((if has59 ((⟨#[59]⟩ : ByteArray).data.toList) = true then ((bef59 ((⟨#[59]⟩ : ByteArray).data.toList)).length : Int) else -1) = 0) := by
      show _ = _
      decide
    rw [hv.out]
    set_option maxRecDepth 100000 in
    go_enter Tryd.func70, Tryd.ntmps70
    set_option maxRecDepth 100000 in
    go_wp2_with (go_at_call 77; refine (c1.out _).mono ?_; rintro e W1 ⟨rfl, rfl⟩)
    go_ret
    exact ⟨rfl, Bel.refl _⟩
  · have k1 : ([59] == s.toList) = false := by
      rw [Bool.eq_false_iff]
      intro h2
      rw [beq_iff_eq] at h2
      exact h ((toList_inj s ⟨#[59]⟩).1 (by rw [← h2, ByteArray.toList_eq]))
    generalize (if has59 s.data.toList = true then ((bef59 s.data.toList).length : Int) else -1) = v at *
    clear h
    set_option maxRecDepth 100000 in
    go_enter Tryd.func70, Tryd.ntmps70
    set_option maxRecDepth 100000 in
    go_wp2_with (go_at_call 77; refine (c1.out _).mono ?_; rintro e W1 ⟨rfl, rfl⟩)
    go_ret
    exact ⟨rfl, Bel.refl _⟩
set_option maxRecDepth 100000 in
set_option maxHeartbeats 2000000 in
theorem cut_any (s : ByteArray) (hsz : s.size ≤ 9223372036854775807) (w : World) : Calls Tryd.prog 48 #[.string s, .string ⟨#[59]⟩] w fun e w' =>
    e = .returned (.tuple #[.string ⟨(bef59 s.data.toList).toArray⟩, .string ⟨(aft59 s.data.toList).toArray⟩, .bool (has59 s.data.toList)]) ∧ Bel w w' := by
  have c1 := index_any s
  have inner : ∀ w, Calls Tryd.prog 61 #[.string s, .string ⟨#[59]⟩] w fun e w' =>
      e = .returned (.tuple #[.string ⟨(bef59 s.data.toList).toArray⟩, .string ⟨(aft59 s.data.toList).toArray⟩, .bool (has59 s.data.toList)]) ∧ Bel w w' := by
    intro w
    cases h : has59 s.data.toList with
    | false =>
      rw [h] at c1
      have C1 := Lib.hid c1
      have hv : Hid ((⟨(bef59 s.data.toList).toArray⟩ : ByteArray) = s ∧ (aft59 s.data.toList) = []) := ⟨by rw [bef_all _ h], by
        unfold has59 at h
        unfold aft59
        have : s.data.toList.dropWhile (· != 59) = [] := by simpa using h
        rw [this]; rfl⟩
      clear c1 h
      rw [hv.out.1, hv.out.2]
      go_enter Tryd.func61, Tryd.ntmps61
      go_wp2_with (go_at_call 70; refine (C1.out _).mono ?_; rintro e W1 ⟨rfl, hb1⟩)
      go_ret3
      exact ⟨rfl, hb1⟩
    | true =>
      rw [h] at c1
      have hba := bef_aft _ h
      obtain ⟨i, hi⟩ : ∃ i, i = (bef59 s.data.toList).length := ⟨_, rfl⟩
      have C1 := Lib.hid (show ∀ w, Calls Tryd.prog 70 #[.string s, .string ⟨#[59]⟩] w fun e w' => e = .returned (.int .i64 (i : Int)) ∧ Bel w w' by rw [hi]; exact c1)
      have hlen : s.size = i + 1 + (aft59 s.data.toList).length := by
        have h2 := congrArg List.length hba
        rw [List.length_append, List.length_cons, Array.length_toList] at h2
        rw [hi]
        show s.data.size = _
        omega
      have hv1 : Hid (s.extract 0 i = ⟨(bef59 s.data.toList).toArray⟩) := by
        refine ByteArray.ext ?_
        rw [ByteArray.data_extract]
        apply Array.toList_inj.1
        rw [Array.toList_extract]
        conv => lhs; rw [hba]
        simp [hi]
      have hv2 : Hid (s.extract (i + 1) s.size = ⟨(aft59 s.data.toList).toArray⟩) := by
        refine ByteArray.ext ?_
        rw [ByteArray.data_extract]
        apply Array.toList_inj.1
        rw [Array.toList_extract]
        conv => lhs; rw [hba]
        rw [hlen, hi]
        simp
      have i1 : i + 1 ≤ s.size := by omega
      have i2 : (i : Int) + 1 ≤ s.size := by omega
      have i3 : (i : Int) ≤ s.size := by omega
      have i4 : (0 : Int) ≤ (i : Int) := by omega
      have w1 : IntKind.i64.wrap ((i : Int) + 1) = (i : Int) + 1 := by rw [IntKind.wrap_i64]; omega
      have i5 : ((i : Int) + 1).toNat = i + 1 := by omega
      clear c1 h hba hi hlen
      go_enter Tryd.func61, Tryd.ntmps61
      go_wp2_with (go_at_call 70; refine (C1.out _).mono ?_; rintro e W1 ⟨rfl, hb1⟩)
      go_region
      all_goals
        go_wp2
        go_ret3
        exact ⟨by rw [hv1.out, hv2.out]; rfl, hb1.drew⟩
  have IN := Lib.hid inner
  clear inner c1
  go_enter Tryd.func48, Tryd.ntmps48
  go_wp2_with (go_at_call 61; refine (IN.out _).mono ?_; rintro e W1 ⟨rfl, hb1⟩)
  go_ret3
  exact ⟨rfl, hb1⟩
theorem cutP_yes (p : UInt8) (s : ByteArray) (t : List UInt8) (h : s.data.toList = p :: t) (w : World) : Calls Tryd.prog 71 #[.string s, .string ⟨#[p]⟩] w fun e w' => e = .returned (.tuple #[.string (bytesOf t), .bool true]) ∧ w' = w := by
  have h1 := Tryd.strings_CutPrefix s ⟨#[p]⟩ w
  have e1 : Lib.hasPrefix s.data.toList [p] = true := by rw [h]; simp [Lib.hasPrefix]
  have e2 : Lib.trimPrefix s.data.toList [p] = t := by
    unfold Lib.trimPrefix
    rw [e1, if_pos rfl, h]
    rfl
  rw [show (⟨#[p]⟩ : ByteArray).data.toList = [p] from rfl, e1, e2] at h1
  exact h1
theorem cutP_no (p : UInt8) (s : ByteArray) (h : ∀ t, s.data.toList ≠ p :: t) (w : World) : Calls Tryd.prog 71 #[.string s, .string ⟨#[p]⟩] w fun e w' => e = .returned (.tuple #[.string s, .bool false]) ∧ w' = w := by
  have h1 := Tryd.strings_CutPrefix s ⟨#[p]⟩ w
  have e1 : Lib.hasPrefix s.data.toList [p] = false := by
    unfold Lib.hasPrefix
    cases hl : s.data.toList with
    | nil => rfl
    | cons c t =>
      have : p ≠ c := fun e => h t (by rw [hl, e])
      simp [List.isPrefixOf, this]
  have e2 : Lib.trimPrefix s.data.toList [p] = s.data.toList := by
    unfold Lib.trimPrefix
    rw [e1]
    rfl
  rw [show (⟨#[p]⟩ : ByteArray).data.toList = [p] from rfl, e1, e2] at h1
  exact h1
theorem toList_ne (s : ByteArray) (l : List UInt8) (h : s.data.toList ≠ l) : (s.toList == l) = false := by
  rw [ByteArray.toList_eq, beq_eq_false_iff_ne]
  exact h
theorem of_list {s : ByteArray} {l : List UInt8} (h : s.data.toList = l) : s = bytesOf l := by rw [← h, bytesOf_data]
set_option maxRecDepth 100000 in
set_option maxHeartbeats 2000000 in
theorem referred_any (s : ByteArray) (hs : s.size ≤ 9223372036854775807) (w : World) : Calls Tryd.prog 62 #[.string s] w fun e w' => e = .returned (numV (entL s.data.toList)) ∧ Bel w w' := by
  by_cases hamp : s.data.toList = [97, 109, 112]
  · rw [of_list hamp]
    clear hamp
    show Calls Tryd.prog 62 #[.string ⟨#[97, 109, 112]⟩] w fun e w' => e = .returned (numV (entL [97, 109, 112])) ∧ Bel w w'
    go_enter Tryd.func62, Tryd.ntmps62
    go_wp2_with fail
    go_ret2
    exact ⟨rfl, Bel.refl _⟩
  by_cases hlt : s.data.toList = [108, 116]
  · rw [of_list hlt]
    clear hamp hlt
    show Calls Tryd.prog 62 #[.string ⟨#[108, 116]⟩] w fun e w' => e = .returned (numV (entL [108, 116])) ∧ Bel w w'
    go_enter Tryd.func62, Tryd.ntmps62
    go_wp2_with fail
    go_ret2
    exact ⟨rfl, Bel.refl _⟩
  by_cases hgt : s.data.toList = [103, 116]
  · rw [of_list hgt]
    clear hamp hlt hgt
    show Calls Tryd.prog 62 #[.string ⟨#[103, 116]⟩] w fun e w' => e = .returned (numV (entL [103, 116])) ∧ Bel w w'
    go_enter Tryd.func62, Tryd.ntmps62
    go_wp2_with fail
    go_ret2
    exact ⟨rfl, Bel.refl _⟩
  by_cases hquot : s.data.toList = [113, 117, 111, 116]
  · rw [of_list hquot]
    clear hamp hlt hgt hquot
    show Calls Tryd.prog 62 #[.string ⟨#[113, 117, 111, 116]⟩] w fun e w' => e = .returned (numV (entL [113, 117, 111, 116])) ∧ Bel w w'
    go_enter Tryd.func62, Tryd.ntmps62
    go_wp2_with fail
    go_ret2
    exact ⟨rfl, Bel.refl _⟩
  by_cases hapos : s.data.toList = [97, 112, 111, 115]
  · rw [of_list hapos]
    clear hamp hlt hgt hquot hapos
    show Calls Tryd.prog 62 #[.string ⟨#[97, 112, 111, 115]⟩] w fun e w' => e = .returned (numV (entL [97, 112, 111, 115])) ∧ Bel w w'
    go_enter Tryd.func62, Tryd.ntmps62
    go_wp2_with fail
    go_ret2
    exact ⟨rfl, Bel.refl _⟩
  have NE := Lib.hid (show entL s.data.toList = match s.data.toList with
    | 35 :: 120 :: t => numL 16 t
    | 35 :: t => numL 10 t
    | _ => none by unfold entL; rw [if_neg hamp, if_neg hlt, if_neg hgt, if_neg hquot, if_neg hapos] <;> rfl)
  have eamp := toList_ne s _ hamp
  have elt := toList_ne s _ hlt
  have egt := toList_ne s _ hgt
  have equot := toList_ne s _ hquot
  have eapos := toList_ne s _ hapos
  clear hamp hlt hgt hquot hapos
  by_cases h35 : ∃ t, s.data.toList = 35 :: t
  · obtain ⟨t, ht⟩ := h35
    have hts : (bytesOf t).size ≤ 9223372036854775807 := by
      have h1 := size_list s
      rw [ht, List.length_cons] at h1
      have : (bytesOf t).size = t.length := List.size_toArray
      omega
    have C1 := Lib.hid fun w => cutP_yes 35 s t ht w
    by_cases h120 : ∃ h, t = 120 :: h
    · obtain ⟨h, hh⟩ := h120
      have C2 := Lib.hid fun w => cutP_yes 120 (bytesOf t) h hh w
      have hhs : (bytesOf h).size ≤ 9223372036854775807 := by
        have h1 : (bytesOf t).size = t.length := List.size_toArray
        have h2 : (bytesOf h).size = h.length := List.size_toArray
        have h3 : t.length = h.length + 1 := by rw [hh]; rfl
        omega
      have C3 := Lib.hid fun w => numbered16_any (bytesOf h) hhs w
      have L := Lib.hid (show entL s.data.toList = numL 16 h by (rw [NE.out, ht, hh]) <;> rfl)
      obtain ⟨o, ho⟩ : ∃ o, o = numL 16 h := ⟨_, rfl⟩
      have C3 := Lib.hid (show ∀ w, Calls Tryd.prog 72 #[.string (bytesOf h), .int .i64 16] w fun e w' => e = .returned (numV o) ∧ Bel w w' by rw [ho]; exact C3.out)
      rw [← ho] at L
      clear ht hh hts hhs ho
      cases o with
      | none =>
        go_enter Tryd.func62, Tryd.ntmps62
        go_wp2_with (first
          | (go_at_call 71; with_reducible refine (C1.out _).mono ?_; rintro e V1 ⟨rfl, rfl⟩)
          | (go_at_call 71; with_reducible refine (C2.out _).mono ?_; rintro e V1 ⟨rfl, rfl⟩)
          | (go_at_call 72; refine (C3.out _).mono ?_; rintro e V1 ⟨rfl, hb⟩; dsimp only [numV]))
        go_ret2
        exact ⟨by (rw [L.out]) <;> rfl, hb⟩
      | some n =>
        go_enter Tryd.func62, Tryd.ntmps62
        go_wp2_with (first
          | (go_at_call 71; with_reducible refine (C1.out _).mono ?_; rintro e V1 ⟨rfl, rfl⟩)
          | (go_at_call 71; with_reducible refine (C2.out _).mono ?_; rintro e V1 ⟨rfl, rfl⟩)
          | (go_at_call 72; refine (C3.out _).mono ?_; rintro e V1 ⟨rfl, hb⟩; dsimp only [numV]))
        go_ret2
        exact ⟨by (rw [L.out]) <;> rfl, hb⟩
    · have C2 := Lib.hid fun w => cutP_no 120 (bytesOf t) (fun h e => h120 ⟨h, e⟩) w
      have C3 := Lib.hid fun w => numbered10_any (bytesOf t) hts w
      have L := Lib.hid (show entL s.data.toList = numL 10 t by
        rw [NE.out, ht]
        match t with
        | [] => rfl
        | c :: r =>
          by_cases hc : c = 120
          · exact absurd ⟨r, by rw [hc]⟩ h120
          · split
            · rename_i heq
              simp at heq
              exact absurd heq.1 hc
            · rename_i heq
              simp at heq
              rw [heq]
            · rename_i heq1 heq2
              exact absurd rfl (heq2 _))
      obtain ⟨o, ho⟩ : ∃ o, o = numL 10 t := ⟨_, rfl⟩
      have C3 := Lib.hid (show ∀ w, Calls Tryd.prog 72 #[.string (bytesOf t), .int .i64 10] w fun e w' => e = .returned (numV o) ∧ Bel w w' by rw [ho]; exact C3.out)
      rw [← ho] at L
      clear ht h120 hts ho
      cases o with
      | none =>
        go_enter Tryd.func62, Tryd.ntmps62
        go_wp2_with (first
          | (go_at_call 71; with_reducible refine (C1.out _).mono ?_; rintro e V1 ⟨rfl, rfl⟩)
          | (go_at_call 71; with_reducible refine (C2.out _).mono ?_; rintro e V1 ⟨rfl, rfl⟩)
          | (go_at_call 72; refine (C3.out _).mono ?_; rintro e V1 ⟨rfl, hb⟩; dsimp only [numV]))
        go_ret2
        exact ⟨by (rw [L.out]) <;> rfl, hb⟩
      | some n =>
        go_enter Tryd.func62, Tryd.ntmps62
        go_wp2_with (first
          | (go_at_call 71; with_reducible refine (C1.out _).mono ?_; rintro e V1 ⟨rfl, rfl⟩)
          | (go_at_call 71; with_reducible refine (C2.out _).mono ?_; rintro e V1 ⟨rfl, rfl⟩)
          | (go_at_call 72; refine (C3.out _).mono ?_; rintro e V1 ⟨rfl, hb⟩; dsimp only [numV]))
        go_ret2
        exact ⟨by (rw [L.out]) <;> rfl, hb⟩
  · have C1 := Lib.hid fun w => cutP_no 35 s (fun t e => h35 ⟨t, e⟩) w
    have L := Lib.hid (show entL s.data.toList = none by
      rw [NE.out]
      split
      · rename_i heq
        exact absurd ⟨_, heq⟩ h35
      · rename_i heq
        exact absurd ⟨_, heq⟩ h35
      · rfl)
    clear h35
    go_enter Tryd.func62, Tryd.ntmps62
    go_wp2_with (go_at_call 71; with_reducible refine (C1.out _).mono ?_; rintro e V1 ⟨rfl, rfl⟩)
    go_ret2
    exact ⟨by (rw [L.out]) <;> rfl, Bel.refl _⟩
def entR : List UInt8 → Option Nat
  | 35 :: 120 :: t => numL 16 t
  | 35 :: t => numL 10 t
  | _ => none
theorem entL_rest (l : List UInt8) (h1 : l ≠ [97, 109, 112]) (h2 : l ≠ [108, 116]) (h3 : l ≠ [103, 116]) (h4 : l ≠ [113, 117, 111, 116]) (h5 : l ≠ [97, 112, 111, 115]) : entL l = entR l := by
  unfold entL
  rw [if_neg h1, if_neg h2, if_neg h3, if_neg h4, if_neg h5]
  rfl
theorem ent_no (c : UInt8) (t : List UInt8) (h : c ≠ 35) (h1 : c :: t ≠ [97, 109, 112]) (h2 : c :: t ≠ [108, 116]) (h3 : c :: t ≠ [103, 116]) (h4 : c :: t ≠ [113, 117, 111, 116]) (h5 : c :: t ≠ [97, 112, 111, 115]) : entL (c :: t) = none := by
  rw [entL_rest _ h1 h2 h3 h4 h5]
  unfold entR
  split
  · rename_i heq
    simp only [List.cons.injEq] at heq
    exact absurd heq.1 h
  · rename_i heq
    simp only [List.cons.injEq] at heq
    exact absurd heq.1 h
  · rfl
def nmL (t : List UInt8) : List UInt8 := t.takeWhile (· != 59)
theorem nm_spec : ∀ t : List UInt8, (nmL t).length ≤ t.length ∧ nmL t = t.take (nmL t).length ∧ (∀ j, j < (nmL t).length → t.getD j 0 ≠ 59) ∧ ((nmL t).length < t.length → t.getD (nmL t).length 0 = 59)
  | [] => ⟨Nat.le_refl _, rfl, fun j h => by simp [nmL] at h, fun h => by simp [nmL] at h⟩
  | c :: t => by
    obtain ⟨h1, h2, h3, h4⟩ := nm_spec t
    by_cases hc : c = 59
    · have e : nmL (c :: t) = [] := by unfold nmL; rw [List.takeWhile_cons, hc]; rfl
      rw [e]
      exact ⟨Nat.zero_le _, rfl, fun j h => by simp at h, fun _ => hc⟩
    · have e : nmL (c :: t) = c :: nmL t := by
        unfold nmL
        rw [List.takeWhile_cons, if_pos (by simpa using hc)]
      rw [e, List.length_cons, List.length_cons]
      refine ⟨by omega, ?_, ?_, ?_⟩
      · rw [List.take_succ_cons, ← h2]
      · intro j hj
        match j with
        | 0 => exact hc
        | j + 1 => exact h3 j (by omega)
      · intro h
        exact h4 (by omega)
theorem un_end (f pos : Nat) (acc : List UInt8) : unL f pos [] acc = (acc, 0, 0) := by cases f <;> rfl
theorem un_lt (f pos : Nat) (t acc : List UInt8) : unL (f + 1) pos (60 :: t) acc = ([], pos, 6) := by
  rw [unL]
  exact if_pos rfl
theorem un_amp (f pos : Nat) (t acc : List UInt8) : unL (f + 1) pos (38 :: t) acc = match entL (nmL t) with
    | some r => if (nmL t).length = t.length then ([], pos, 7) else unL f (pos + 2 + (nmL t).length) (t.drop ((nmL t).length + 1)) (acc ++ Lib.encodeRune (r : Int))
    | none => ([], pos, 7) := by
  rw [unL, if_neg (by decide), if_pos rfl]
  rfl
theorem un_ok (f pos : Nat) (c : UInt8) (t acc : List UInt8) (h1 : c ≠ 60) (h2 : c ≠ 38) : unL (f + 1) pos (c :: t) acc = if okL (c :: t) = true then unL f (pos + wL (c :: t)) ((c :: t).drop (wL (c :: t))) (acc ++ (c :: t).take (wL (c :: t))) else ([], pos, 6) := by
  rw [unL, if_neg h1, if_neg h2]
theorem ent_two (l : List UInt8) (r : Nat) (h : entL l = some r) : 2 ≤ l.length := by
  match l with
  | [] =>
    rw [show entL [] = none from rfl] at h
    cases h
  | [c] =>
    exfalso
    by_cases hc : c = 35
    · subst hc
      rw [show entL [35] = none from rfl] at h
      cases h
    · rw [ent_no c [] hc (by simp) (by simp) (by simp) (by simp) (by simp)] at h
      cases h
  | _ :: _ :: _ => simp
def unV (x : List UInt8 × Nat × Nat) : Value := .tuple #[.string (bytesOf x.1), .int .i64 (x.2.1 : Nat), .int .i64 (x.2.2 : Nat)]
theorem bytesOf_size (l : List UInt8) : (bytesOf l).size = l.length := List.size_toArray
theorem heap_keep {W W' : World} (hb : Bel W W') {k : Nat} {o : Obj} (h : W.heap[k]? = some o) : W'.heap[k]? = some o := by
  rw [hb.block k (Array.getElem?_eq_some_iff.1 h).1]
  exact h
theorem bldAt_keep {T e : TypeId} {B b : Nat} {p : Value} {bs : List Value} {W W' : World} (h : Lib.BuilderAtF T e B b p bs W) (hb : Bel W W') : Lib.BuilderAtF T e B b p bs W' := by
  obtain ⟨hB, v, hbk, hown, hne⟩ := h
  refine ⟨hB, v, heap_keep hb hbk, ⟨hown.1, ?_⟩, hne⟩
  rcases hown.2 with hn | ⟨g, cap, cur, fz, hv, hbg, hg, rest⟩
  · exact .inl hn
  · exact .inr ⟨g, cap, cur, fz, hv, hbg, heap_keep hb hg, rest⟩
theorem bld_keep {T e : TypeId} {B b : Nat} {bs : List Value} {W W' : World} (h : Lib.IsBuilderF T e B b bs W) (hb : Bel W W') : Lib.IsBuilderF T e B b bs W' :=
  h.elim (fun x => .inl (bldAt_keep x hb)) (fun x => .inr (bldAt_keep x hb))
theorem r_byte (s : ByteArray) (pos : Nat) (hp : pos < s.size) (n : Nat) (hn : n < 128) : (dec (gOf s pos) (s.size - pos)).1 = n ↔ s[pos].toNat = n := by
  have h0 := gOf_at0 s pos hp
  rcases dec_shape (gOf s pos) (s.size - pos) with ⟨h1, h2⟩ | ⟨h1, h2, h3⟩
  · rw [h2, ← h0]
  · constructor
    · intro h; omega
    · intro h; omega
theorem wd_one (s : ByteArray) (pos : Nat) (hp : pos < s.size) (h : s[pos].toNat < 128) : wdAt s pos = 1 := by
  have h0 := gOf_at0 s pos hp
  unfold wdAt
  rw [dec_low _ _ (by omega)]
theorem has_len (t : List UInt8) : has59 t = decide ((nmL t).length ≠ t.length) := by
  cases h : has59 t with
  | false =>
    have := bef_all t h
    symm
    rw [decide_eq_false_iff_not]
    intro hn
    apply hn
    show (bef59 t).length = _
    rw [this]
  | true =>
    have := congrArg List.length (bef_aft t h)
    rw [List.length_append, List.length_cons] at this
    symm
    rw [decide_eq_true_eq]
    show (bef59 t).length ≠ _
    omega
theorem low_between (s : ByteArray) (pos m : Nat) (t : List UInt8) (ht : t = s.data.toList.drop (pos + 1)) (hm : m = (nmL t).length) (hl : m < t.length) (r : Nat) (hr : entL (nmL t) = some r) : ∀ j, pos + 1 ≤ j → j < pos + 1 + m + 1 → gOf s 0 j < 128 := by
  intro j h1 h2
  have hn := nm_spec t
  rw [← hm] at hn
  have hlt : t.length = s.size - (pos + 1) := by rw [ht, drop_len]
  have hg : gOf s 0 j = (t.getD (j - (pos + 1)) 0).toNat := by
    rw [gOf_list, List.drop_zero, ht, List.getD_eq_getElem?_getD, List.getD_eq_getElem?_getD, List.getElem?_drop, show pos + 1 + (j - (pos + 1)) = j from by omega]
  rw [hg]
  by_cases hj : j = pos + 1 + m
  · rw [show j - (pos + 1) = m from by omega, hn.2.2.2 hl]
    decide
  · apply entL_low _ r hr
    rw [hn.2.1, List.getD_eq_getElem?_getD, List.getElem?_eq_getElem (by omega)]
    rw [List.mem_iff_getElem]
    exact ⟨j - (pos + 1), by rw [List.length_take]; omega, by simp⟩
set_option maxRecDepth 100000 in
set_option maxHeartbeats 8000000 in
theorem unescape_any (s : ByteArray) (hs : s.size ≤ 140737488351232) (w : World) : Calls Tryd.prog 49 #[.string s] w fun e w' => e = .returned (unV (unS s)) ∧ Bel w w' := by
  have hsi : (s.size : Int) ≤ 140737488351232 := by omega
  go_enter Tryd.func49, Tryd.ntmps49
  go_wp2_with fail
  go_loopg [6] s.size (fun g v wr => ∃ (pos nxt fuel : Nat) (acc : List UInt8), v = .int .i64 nxt ∧ nxt ≤ s.size ∧ Hid (Lib.IsBuilderF 42 5 w.heap.size w.heap.size (Lib.byteCells acc) wr) ∧ Hid (wr.heap[w.heap.size + 1]? = some (.stringIter s pos)) ∧ Bel w wr ∧ Hid (pos ≤ s.size ∧ unS s = unL fuel (max pos nxt) (s.data.toList.drop (max pos nxt)) acc ∧ s.size ≤ fuel + max pos nxt ∧ (∀ j, pos ≤ j → j < nxt → gOf s 0 j < 128) ∧ acc.length ≤ max pos nxt ∧ g = s.size - pos))
  case atStart =>
    refine ⟨0, 0, s.size, [], rfl, Nat.zero_le _, (Lib.IsBuilderF.of (Lib.fresh_isBuilder 42 5 w)).alloc _, ?_, ((Bel.refl w).alloc _).alloc _, ⟨Nat.zero_le _, by rw [Nat.max_self, List.drop_zero]; rfl, by omega, fun j _ h => by omega, by simp, rfl⟩⟩
    have := World.iter_heap (w.alloc (.cells #[.pointer none, .slice none 0 0] 42)) s 0
    simpa [Hid] using this
  case round =>
    obtain ⟨pos, nxt, fuel, acc, rfl, hnl, hI, hit, hbw, hh⟩ := hrel
    by_cases hp : pos < s.size
    · have hwl := wdAt_le s pos hp
      have hwd := wd_pos s pos
      have hd := decode_is s pos hp
      have hr := decode_le s pos
      obtain ⟨r, hr0⟩ : ∃ r, r = (dec (gOf s pos) (s.size - pos)).1 := ⟨_, rfl⟩
      rw [hd, ← hr0] at hr
      have hr' := hr
      have hnx0 : ∀ ty, (Instr.next (.pointer (some ⟨w.heap.size + 1, 0, none⟩)) true ty).run Tryd.prog wr = .ok (.tuple #[.bool true, .int .i64 pos, .int .i32 (r : Nat)]) (wr.iterAt (w.heap.size + 1) s (pos + wdAt s pos)) := fun ty => by
        have h := Lib.run_next_any_at (P := Tryd.prog) wr (w.heap.size + 1) s pos ty hit.out hp
        rw [hd, ← hr0] at h
        exact h
      have hI2 := Lib.hid (hI.out.iterAt hit.out (pos + wdAt s pos))
      have hit2 := Lib.hid (Lib.iterAt_heap wr (w.heap.size + 1) s pos (pos + wdAt s pos) hit.out)
      have hb2 : Bel w (wr.iterAt (w.heap.size + 1) s (pos + wdAt s pos)) := Lib.below_iterAt hbw (k := w.heap.size + 1) (by omega) s _
      obtain ⟨W2, hW2⟩ : ∃ W2, W2 = wr.iterAt (w.heap.size + 1) s (pos + wdAt s pos) := ⟨_, rfl⟩
      rw [← hW2] at hit2 hb2 hI2
      have hnx : ∀ ty, (Instr.next (.pointer (some ⟨w.heap.size + 1, 0, none⟩)) true ty).run Tryd.prog wr = .ok (.tuple #[.bool true, .int .i64 pos, .int .i32 (r : Nat)]) W2 := fun ty => by rw [hW2]; exact hnx0 ty
      have hsz2 : w.heap.size ≤ W2.heap.size := hb2.size
      have HWL := Lib.hid (And.intro hwl hwd)
      have HR0 := Lib.hid hr0
      have i1 : (pos : Int) < s.size := by omega
      clear hd hr hr0 hnx0 hW2 hwl hwd hbw
      by_cases hsk : pos < nxt
      · have g1 : decide ((pos : Int) < nxt) = true := by exact decide_eq_true (by omega)
        have HW := Lib.hid (show wdAt s pos = 1 from wd_one s pos hp (by
          have h1 := hh.out.2.2.2.1 pos (Nat.le_refl _) hsk
          rw [← gOf_add, gOf_at0 s pos hp] at h1
          exact h1))
        have HK := Lib.hid hsk
        clear hsk
        go_wp2_with fail
        go_roundg (s.size - (pos + 1))
        case measure => have := hh.out.2.2.2.2.2; omega
        case rel =>
          rw [HW.out] at hit2
          have hx : max (pos + 1) nxt = max pos nxt := by have := HK.out; omega
          exact ⟨pos + 1, nxt, fuel, acc, rfl, hnl, hI2, hit2, hb2, ⟨by omega, by rw [hx]; exact hh.out.2.1, by rw [hx]; exact hh.out.2.2.1, fun j h1 h2 => hh.out.2.2.2.1 j (by omega) h2, by rw [hx]; exact hh.out.2.2.2.2.1, rfl⟩⟩
      · have g1 : decide ((pos : Int) < nxt) = false := by exact decide_eq_false (by omega)
        have hmx : max pos nxt = pos := by omega
        have hu := hh.out.2.1
        have hfu := hh.out.2.2.1
        have hal := hh.out.2.2.2.2.1
        rw [hmx] at hu hfu hal
        obtain ⟨f, rfl⟩ : ∃ f, fuel = f + 1 := ⟨fuel - 1, by omega⟩
        have HL := Lib.hid (show (Lib.byteCells acc).length + 4 ≤ 140737488355328 by rw [Lib.byteCells_length]; omega)
        have HAL := Lib.hid hal
        have HFU := Lib.hid hfu
        have HNX := Lib.hid hsk
        have hst := drop_step s pos hp
        rw [hst] at hu
        have hokis := okAt_is s pos
        rw [← HR0.out] at hokis
        clear hsk hmx hfu hal
        by_cases hr60 : r = 60
        · have hc : s[pos] = 60 := byte_eq (n := 60) (by decide) ((r_byte s pos hp 60 (by decide)).1 (by rw [← HR0.out]; exact hr60))
          rw [hc, un_lt] at hu
          have L := Lib.hid hu
          clear hu hc hst hokis
          subst hr60
          go_wp2_with fail
          go_ret3
          exact ⟨by (rw [L.out]) <;> rfl, hb2⟩
        · have e60 : ((r : Int) == 60) = false := by rw [beq_eq_false_iff_ne]; omega
          have hc60 : s[pos] ≠ 60 := fun h => hr60 (by rw [HR0.out]; exact (r_byte s pos hp 60 (by decide)).2 (by rw [h]; rfl))
          by_cases hr38 : r = 38
          · have hc : s[pos] = 38 := byte_eq (n := 38) (by decide) ((r_byte s pos hp 38 (by decide)).1 (by rw [← HR0.out]; exact hr38))
            have HW := Lib.hid (show wdAt s pos = 1 from wd_one s pos hp (by rw [hc]; decide))
            rw [hc, un_amp] at hu
            obtain ⟨t, ht⟩ : ∃ t, t = s.data.toList.drop (pos + 1) := ⟨_, rfl⟩
            have hlt : t.length = s.size - (pos + 1) := by rw [ht, drop_len]
            have hte : (s.extract (pos + 1) s.size).data.toList = t := by rw [ext_end, ht]
            have hn := nm_spec t
            obtain ⟨m, hm⟩ : ∃ m, m = (nmL t).length := ⟨_, rfl⟩
            obtain ⟨nb, hnb⟩ : ∃ nb, nb = bytesOf (nmL t) := ⟨_, rfl⟩
            have hnbz : nb.size = m := by rw [hnb, bytesOf_size, hm]
            obtain ⟨af, haf⟩ : ∃ af, af = bytesOf (aft59 t) := ⟨_, rfl⟩
            have hcut := fun w => cut_any (s.extract (pos + 1) s.size) (by rw [ext_size]; omega) w
            rw [hte, has_len] at hcut
            have HCUT := Lib.hid (show ∀ w, Calls Tryd.prog 48 #[.string (s.extract (pos + 1) s.size), .string ⟨#[59]⟩] w fun e w' => e = .returned (.tuple #[.string nb, .string af, .bool (decide (m ≠ t.length))]) ∧ Bel w w' by rw [hnb, haf, hm]; exact hcut)
            obtain ⟨x, hx⟩ : ∃ x, x = entL (nmL t) := ⟨_, rfl⟩
            have HRF := Lib.hid (show ∀ w, Calls Tryd.prog 62 #[.string nb] w fun e w' => e = .returned (numV x) ∧ Bel w w' by
              intro w
              rw [hnb, hx]
              exact referred_any (bytesOf (nmL t)) (by rw [bytesOf_size]; omega) w)
            rw [← ht, ← hx, ← hm] at hu
            have hnbi : (nb.size : Int) + 1 + pos ≤ s.size := by omega
            have HM := Lib.hid (And.intro hm (And.intro ht (And.intro hlt (And.intro hn hnbz))))
            subst hr38
            by_cases hhas : m = t.length
            · have HCUT := Lib.hid (show ∀ w, Calls Tryd.prog 48 #[.string (s.extract (pos + 1) s.size), .string ⟨#[59]⟩] w fun e w' => e = .returned (.tuple #[.string nb, .string af, .bool false]) ∧ Bel w w' by
                have h := HCUT.out
                rw [decide_eq_false (by simpa using hhas)] at h
                exact h)
              cases x with
              | none =>
                have L := Lib.hid (show unS s = ([], pos, 7) from hu)
                clear hu hc hst hokis e60 hc60 hr60 hlt hte hn hm hnb hnbz haf hcut hx ht hhas
                go_wp2_with (first
                  | (go_at_call 50; refine (valid_any 38 (by decide) _).mono ?_; rintro e V1 ⟨rfl, rfl⟩)
                  | (go_at_call 51; refine (broken_any _ 38 (by decide) _).mono ?_; rintro e V1 ⟨rfl, rfl⟩)
                  | (go_at_call 48; refine (HCUT.out _).mono ?_; rintro e V2 ⟨rfl, bv2⟩)
                  | (go_at_call 62; refine (HRF.out _).mono ?_; rintro e V3 ⟨rfl, bv3⟩; dsimp only [numV]))
                go_ret3
                exact ⟨by (rw [L.out]) <;> rfl, (hb2.trans bv2).trans bv3⟩
              | some r' =>
                have L := Lib.hid (show unS s = ([], pos, 7) by
                  have h1 : unS s = if m = t.length then ([], pos, 7) else unL f (pos + 2 + m) (t.drop (m + 1)) (acc ++ Lib.encodeRune (r' : Int)) := hu
                  rw [h1, if_pos hhas])
                clear hu hc hst hokis e60 hc60 hr60 hlt hte hn hm hnb hnbz haf hcut hx ht hhas
                go_wp2_with (first
                  | (go_at_call 50; refine (valid_any 38 (by decide) _).mono ?_; rintro e V1 ⟨rfl, rfl⟩)
                  | (go_at_call 51; refine (broken_any _ 38 (by decide) _).mono ?_; rintro e V1 ⟨rfl, rfl⟩)
                  | (go_at_call 48; refine (HCUT.out _).mono ?_; rintro e V2 ⟨rfl, bv2⟩)
                  | (go_at_call 62; refine (HRF.out _).mono ?_; rintro e V3 ⟨rfl, bv3⟩; dsimp only [numV]))
                go_ret3
                exact ⟨by (rw [L.out]) <;> rfl, (hb2.trans bv2).trans bv3⟩
            · have HCUT := Lib.hid (show ∀ w, Calls Tryd.prog 48 #[.string (s.extract (pos + 1) s.size), .string ⟨#[59]⟩] w fun e w' => e = .returned (.tuple #[.string nb, .string af, .bool true]) ∧ Bel w w' by
                have h := HCUT.out
                rw [decide_eq_true hhas] at h
                exact h)
              cases x with
              | none =>
                have L := Lib.hid (show unS s = ([], pos, 7) from hu)
                clear hu hc hst hokis e60 hc60 hr60 hlt hte hn hm hnb hnbz haf hcut hx ht hhas
                go_wp2_with (first
                  | (go_at_call 50; refine (valid_any 38 (by decide) _).mono ?_; rintro e V1 ⟨rfl, rfl⟩)
                  | (go_at_call 51; refine (broken_any _ 38 (by decide) _).mono ?_; rintro e V1 ⟨rfl, rfl⟩)
                  | (go_at_call 48; refine (HCUT.out _).mono ?_; rintro e V2 ⟨rfl, bv2⟩)
                  | (go_at_call 62; refine (HRF.out _).mono ?_; rintro e V3 ⟨rfl, bv3⟩; dsimp only [numV]))
                go_ret3
                exact ⟨by (rw [L.out]) <;> rfl, (hb2.trans bv2).trans bv3⟩
              | some r' =>
                have hsg := (sgn_iff r').1 (entL_sgn _ _ hx.symm)
                have hr1 : r' ≤ 2147483647 := by omega
                have L := Lib.hid (show unS s = unL f (pos + 1 + m + 1) (s.data.toList.drop (pos + 1 + m + 1)) (acc ++ Lib.encodeRune (r' : Int)) by
                  have h1 : unS s = if m = t.length then ([], pos, 7) else unL f (pos + 2 + m) (t.drop (m + 1)) (acc ++ Lib.encodeRune (r' : Int)) := hu
                  rw [if_neg hhas, ht, List.drop_drop] at h1
                  rw [h1, show pos + 2 + m = pos + 1 + m + 1 from by omega, show pos + 1 + (m + 1) = pos + 1 + m + 1 from by omega])
                have M2 := Lib.hid (show 2 ≤ m by rw [hm]; exact ent_two _ r' hx.symm)
                have LOW := Lib.hid (low_between s pos m t ht hm (by omega) r' hx.symm)
                have hml : m + 1 + pos < s.size := by omega
                clear hu hc hst hokis e60 hc60 hr60 hlt hte hn hm hnb hnbz haf hcut hx ht hhas hsg
                go_wp2_with (first
                  | (go_at_call 50; refine (valid_any 38 (by decide) _).mono ?_; rintro e V1 ⟨rfl, rfl⟩)
                  | (go_at_call 51; refine (broken_any _ 38 (by decide) _).mono ?_; rintro e V1 ⟨rfl, rfl⟩)
                  | (go_at_call 48; refine (HCUT.out _).mono ?_; rintro e V2 ⟨rfl, bv2⟩)
                  | (go_at_call 62; refine (HRF.out _).mono ?_; rintro e V3 ⟨rfl, bv3⟩; dsimp only [numV]))
                have hI3 := Lib.hid (bld_keep hI2.out (bv2.trans bv3))
                have hit3 := Lib.hid (heap_keep (bv2.trans bv3) hit2.out)
                have hb3 := (hb2.trans bv2).trans bv3
                have hsz3 : w.heap.size ≤ V3.heap.size := hb3.size
                go_wp2_with (go_at_call 54; refine (writeRune_any w.heap.size w.heap.size _ (r' : Int) (by omega) (by omega) _ hI3.out HL.out hsz3).mono ?_; rintro e V4 ⟨rfl, h1, b1, k1⟩)
                go_roundg (s.size - (pos + 1))
                case measure => have := hh.out.2.2.2.2.2; omega
                case rel =>
                  rw [HW.out] at hit3
                  refine ⟨pos + 1, pos + 1 + m + 1, f, acc ++ Lib.encodeRune (r' : Int), ?_, by omega, ?_, k1.iter hit3.out (by omega), Below.trans hb3 b1, ⟨by omega, ?_, ?_, LOW.out, ?_, rfl⟩⟩
                  · have h2 := HM.out.2.2.2.2
                    exact congrArg (fun z => Value.int .i64 z) (by omega)
                  · show Lib.IsBuilderF _ _ _ _ _ _
                    rw [Lib.byteCells_append, Lib.byteCells_encodeRune]
                    exact Or.inr h1
                  · rw [show max (pos + 1) (pos + 1 + m + 1) = pos + 1 + m + 1 from by omega]
                    exact L.out
                  · have := HFU.out; omega
                  · rw [List.length_append, ← Lib.runeCells_length, show max (pos + 1) (pos + 1 + m + 1) = pos + 1 + m + 1 from by omega]
                    have h2 := HAL.out
                    have h3 := (Lib.runeCells_le (r' : Int)).2
                    have h4 := M2.out
                    omega
          · have e38 : ((r : Int) == 38) = false := by rw [beq_eq_false_iff_ne]; omega
            have hc38 : s[pos] ≠ 38 := fun h => hr38 (by rw [HR0.out]; exact (r_byte s pos hp 38 (by decide)).2 (by rw [h]; rfl))
            rw [un_ok _ _ _ _ _ hc60 hc38, ← hst, ← okAt_L, ← wdAt_L] at hu
            cases hv : sgn r with
            | false =>
              have HV := Lib.hid hv
              have HK := HV
              have L := Lib.hid (show unS s = ([], pos, 6) by rw [hu, hokis, hv]; rfl)
              clear hu hv hst hokis hc60 hr60 hr38 hc38
              go_wp2_with (first
                  | (go_at_call 50; refine (valid_any r hr' _).mono ?_; rintro e V1 ⟨rfl, rfl⟩; rw [HV.out])
                  | (go_at_call 51; refine (broken_any _ r hr' _).mono ?_; rintro e V2 ⟨rfl, rfl⟩; rw [HK.out]))
              go_ret3
              exact ⟨by (rw [L.out]) <;> rfl, hb2⟩
            | true =>
              cases hk : brokenB (s.extract pos s.size) r with
              | true =>
                have HV := Lib.hid hv
                have HK := Lib.hid hk
                have L := Lib.hid (show unS s = ([], pos, 6) by rw [hu, hokis, hv, hk]; rfl)
                clear hu hv hk hst hokis hc60 hr60 hr38 hc38
                go_wp2_with (first
                  | (go_at_call 50; refine (valid_any r hr' _).mono ?_; rintro e V1 ⟨rfl, rfl⟩; rw [HV.out])
                  | (go_at_call 51; refine (broken_any _ r hr' _).mono ?_; rintro e V2 ⟨rfl, rfl⟩; rw [HK.out]))
                go_ret3
                exact ⟨by (rw [L.out]) <;> rfl, hb2⟩
              | false =>
                have HV := Lib.hid hv
                have HK := Lib.hid hk
                have hok : okAt s pos = true := by rw [hokis, hv, hk]; rfl
                have hne : s.data.toList.drop pos ≠ [] := by rw [hst]; simp
                have HEN := Lib.hid (show Lib.encodeRune (r : Int) = (s.data.toList.drop pos).take (wdAt s pos) by
                  have h1 := enc_ok (s.data.toList.drop pos) hne (by rw [← okAt_L]; exact hok)
                  rw [← decAt_L, ← HR0.out, ← wdAt_L] at h1
                  exact h1)
                have L := Lib.hid (show unS s = unL f (pos + wdAt s pos) (s.data.toList.drop (pos + wdAt s pos)) (acc ++ Lib.encodeRune (r : Int)) by rw [hu, hok, if_pos rfl, List.drop_drop, HEN.out])
                have HW4 := Lib.hid (show (Lib.encodeRune (r : Int)).length ≤ wdAt s pos by
                  rw [HEN.out, List.length_take]
                  omega)
                clear hu hv hk hst hokis hc60 hr60 hr38 hc38 hok hne
                go_wp2_with (first
                  | (go_at_call 50; refine (valid_any r hr' _).mono ?_; rintro e V1 ⟨rfl, rfl⟩; rw [HV.out])
                  | (go_at_call 51; refine (broken_any _ r hr' _).mono ?_; rintro e V2 ⟨rfl, rfl⟩; rw [HK.out])
                  | (go_at_call 54; refine (writeRune_any w.heap.size w.heap.size _ (r : Int) (by omega) (by omega) _ hI2.out HL.out hsz2).mono ?_; rintro e V4 ⟨rfl, h1, b1, k1⟩))
                go_roundg (s.size - (pos + wdAt s pos))
                case measure => have := hh.out.2.2.2.2.2; have := HWL.out; omega
                case rel =>
                  have hx : max (pos + wdAt s pos) nxt = pos + wdAt s pos := by have := HNX.out; omega
                  refine ⟨pos + wdAt s pos, nxt, f, acc ++ Lib.encodeRune (r : Int), rfl, hnl, ?_, k1.iter hit2.out (by omega), Below.trans hb2 b1, ⟨HWL.out.1, by rw [hx]; exact L.out, by rw [hx]; have := HFU.out; have := HWL.out.2; omega, fun j h2 h3 => by have := HNX.out; omega, ?_, rfl⟩⟩
                  · show Lib.IsBuilderF _ _ _ _ _ _
                    rw [Lib.byteCells_append, Lib.byteCells_encodeRune]
                    exact Or.inr h1
                  · rw [hx, List.length_append]
                    have h2 := HAL.out
                    have h3 := HW4.out
                    omega
    · have hnx : ∀ ty, (Instr.next (.pointer (some ⟨w.heap.size + 1, 0, none⟩)) true ty).run Tryd.prog wr = .ok (.tuple #[.bool false]) wr := fun ty => Lib.run_next_end_at wr (w.heap.size + 1) s pos ty hit.out hp
      have hsz2 : w.heap.size ≤ wr.heap.size := hbw.size
      have L := Lib.hid (show unS s = (acc, 0, 0) by rw [hh.out.2.1, List.drop_of_length_le (by rw [size_list]; omega), un_end])
      go_wp2_with (go_at_call 17; refine (Tryd.Builder_String_any_k w.heap.size w.heap.size acc _ hI.out hsz2).mono ?_; rintro e V1 ⟨rfl, _, b1, _⟩)
      go_ret3
      exact ⟨by (rw [L.out]) <;> rfl, Below.trans hbw b1⟩
theorem first_ext (g g' : Nat → Nat) (m m' r w : Nat) (h : first g m = (r, w)) (hw : 1 ≤ w) (he : ∀ i, i < w → g' i = g i) (hm : w ≤ m') : first g' m' = (r, w) := by
  have e0 := he 0 (by omega)
  unfold first at h ⊢
  rw [e0]
  by_cases c1 : g 0 < 0x80
  · rw [if_pos c1] at h ⊢
    exact h
  · rw [if_neg c1] at h ⊢
    by_cases c2 : 0xC0 ≤ g 0 ∧ g 0 < 0xE0
    · rw [if_pos c2] at h ⊢
      split at h
      · rename_i hc
        obtain ⟨rfl, rfl⟩ := Prod.mk.inj h
        rw [he 1 (by omega)]
        rw [if_pos ⟨by omega, hc.2⟩]
      · obtain ⟨_, rfl⟩ := Prod.mk.inj h
        omega
    · rw [if_neg c2] at h ⊢
      by_cases c3 : 0xE0 ≤ g 0 ∧ g 0 < 0xF0
      · rw [if_pos c3] at h ⊢
        split at h
        · rename_i hc
          obtain ⟨rfl, rfl⟩ := Prod.mk.inj h
          rw [he 1 (by omega), he 2 (by omega)]
          rw [if_pos ⟨by omega, hc.2⟩]
        · obtain ⟨_, rfl⟩ := Prod.mk.inj h
          omega
      · rw [if_neg c3] at h ⊢
        by_cases c4 : 0xF0 ≤ g 0 ∧ g 0 < 0xF8
        · rw [if_pos c4] at h ⊢
          split at h
          · rename_i hc
            obtain ⟨rfl, rfl⟩ := Prod.mk.inj h
            rw [he 1 (by omega), he 2 (by omega), he 3 (by omega)]
            rw [if_pos ⟨by omega, hc.2⟩]
          · obtain ⟨_, rfl⟩ := Prod.mk.inj h
            omega
        · rw [if_neg c4] at h
          obtain ⟨_, rfl⟩ := Prod.mk.inj h
          omega
/-- A sign stands whatever comes behind it. -/
theorem ok_ext (l l' : List UInt8) (hne : l ≠ []) (hok : okL l = true) (he : ∀ i, i < wL l → l'.getD i 0 = l.getD i 0) (hm : wL l ≤ l'.length) : okL l' = true ∧ decL l' = decL l := by
  have hl : 0 < l.length := List.length_pos_iff.2 hne
  have hw := wL_pos l
  have h1 := first_is (fun i => (l.getD i 0).toNat) l.length (fun i => (l.getD i 0).toNat_lt) hl
  have hok' : may (fun i => (l.getD i 0).toNat) l.length = true := hok
  rw [if_pos hok'] at h1
  have h2 := first_ext (fun i => (l.getD i 0).toNat) (fun i => (l'.getD i 0).toNat) l.length l'.length (decL l).1 (decL l).2 h1.symm hw (fun i hi => by show (l'.getD i 0).toNat = (l.getD i 0).toNat; rw [he i hi]) hm
  have h3 := first_is (fun i => (l'.getD i 0).toNat) l'.length (fun i => (l'.getD i 0).toNat_lt) (by omega)
  rw [h2] at h3
  by_cases hk : may (fun i => (l'.getD i 0).toNat) l'.length = true
  · rw [if_pos hk] at h3
    exact ⟨hk, h3⟩
  · rw [if_neg hk] at h3
    have h4 : (decL l).2 = 0 := (Prod.mk.inj h3).2.symm
    have h5 : 1 ≤ (decL l).2 := hw
    omega
/-- Signs one by one. -/
theorem good_rec (P : List UInt8 → Prop) (h0 : P []) (hs : ∀ l, l ≠ [] → okL l = true → P (l.drop (wL l)) → P l) (s : ByteArray) (hg : goodB s = true) : P s.data.toList := by
  have key : ∀ f pos, badFrom s f pos = -1 → s.size ≤ f + pos → P (s.data.toList.drop pos) := by
    intro f
    induction f with
    | zero => intro pos _ h; rw [List.drop_of_length_le (by rw [size_list]; omega)]; exact h0
    | succ f ih =>
      intro pos hb h
      by_cases hp : pos < s.size
      · rw [badFrom, if_pos hp] at hb
        have hwd := wd_pos s pos
        by_cases hok : okAt s pos = true
        · rw [if_pos hok] at hb
          refine hs _ ?_ (by rw [← okAt_L]; exact hok) ?_
          · intro e
            have := drop_len s pos
            rw [e] at this
            simp at this; omega
          · rw [List.drop_drop, ← wdAt_L]
            exact ih _ hb (by omega)
        · rw [if_neg hok] at hb
          exact absurd hb (by omega)
      · rw [List.drop_of_length_le (by rw [size_list]; omega)]
        exact h0
  have := key s.size 0 (of_decide_eq_true hg) (by omega)
  rwa [List.drop_zero] at this
/-- The first byte of a sign that may stand. -/
theorem ok_head (l : List UInt8) (hne : l ≠ []) (hok : okL l = true) : (∃ c t, l = c :: t ∧ c.toNat < 128 ∧ wL l = 1 ∧ (c.toNat = 9 ∨ c.toNat = 10 ∨ c.toNat = 13 ∨ 32 ≤ c.toNat)) ∨ (∀ c ∈ l.take (wL l), 128 ≤ c.toNat) := by
  rcases dec_shape (fun i => (l.getD i 0).toNat) l.length with ⟨h1, h2⟩ | ⟨h1, h2, h3⟩
  · left
    match l, hne with
    | c :: t, _ =>
      have hd : decL (c :: t) = (c.toNat, 1) := h2
      refine ⟨c, t, rfl, h1, by unfold wL; rw [hd], ?_⟩
      have hs := ((may_iff _ _).1 hok).1
      have hs' : sgn (decL (c :: t)).1 = true := hs
      rw [hd] at hs'
      have := (sgn_iff _).1 hs'
      simp only at this
      omega
  · right
    intro c hc
    obtain ⟨j, hj, rfl⟩ := List.mem_iff_getElem.1 hc
    rw [List.length_take] at hj
    have := h3 j (by show j < wL l; omega)
    rw [List.getElem_take]
    rw [List.getD_eq_getElem?_getD, List.getElem?_eq_getElem (by omega)] at this
    exact this
def clean (c : UInt8) : Prop := c.toNat ≠ 60 ∧ c.toNat ≠ 62 ∧ c.toNat ≠ 34 ∧ c.toNat ≠ 39 ∧ 32 ≤ c.toNat
theorem esc_clean (s : ByteArray) (hg : goodB s = true) : ∀ c ∈ escL s.data.toList, clean c := by
  refine good_rec (fun l => ∀ c ∈ escL l, clean c) (fun c hc => by simp [escL] at hc) ?_ s hg
  intro l hne hok ih c hc
  rw [← List.take_append_drop (wL l) l, escL_append] at hc
  rcases List.mem_append.1 hc with hc | hc
  · rcases ok_head l hne hok with ⟨x, t, rfl, h1, h2, h3⟩ | h
    · rw [h2] at hc
      have hc' : c ∈ escB x := by simpa [escL] using hc
      by_cases hx : x.toNat ≠ 38 ∧ x.toNat ≠ 60 ∧ x.toNat ≠ 62 ∧ x.toNat ≠ 34 ∧ x.toNat ≠ 39 ∧ x.toNat ≠ 9 ∧ x.toNat ≠ 10 ∧ x.toNat ≠ 13
      · rw [escB_same x hx] at hc'
        have : c = x := by simpa using hc'
        subst this
        exact ⟨by omega, by omega, by omega, by omega, by omega⟩
      · have hx' : x.toNat = 38 ∨ x.toNat = 60 ∨ x.toNat = 62 ∨ x.toNat = 34 ∨ x.toNat = 39 ∨ x.toNat = 9 ∨ x.toNat = 10 ∨ x.toNat = 13 := by omega
        have all : ∀ y : List UInt8, (∀ c ∈ y, c.toNat ≠ 60 ∧ c.toNat ≠ 62 ∧ c.toNat ≠ 34 ∧ c.toNat ≠ 39 ∧ 32 ≤ c.toNat) → escB x = y → clean c := fun y hy e => hy c (by rw [← e]; exact hc')
        rcases hx' with e | e | e | e | e | e | e | e
        · exact all [38, 97, 109, 112, 59] (by decide) (by rw [byte_eq (n := 38) (by decide) e]; rfl)
        · exact all [38, 108, 116, 59] (by decide) (by rw [byte_eq (n := 60) (by decide) e]; rfl)
        · exact all [38, 103, 116, 59] (by decide) (by rw [byte_eq (n := 62) (by decide) e]; rfl)
        · exact all [38, 113, 117, 111, 116, 59] (by decide) (by rw [byte_eq (n := 34) (by decide) e]; rfl)
        · exact all [38, 97, 112, 111, 115, 59] (by decide) (by rw [byte_eq (n := 39) (by decide) e]; rfl)
        · exact all [38, 35, 57, 59] (by decide) (by rw [byte_eq (n := 9) (by decide) e]; rfl)
        · exact all [38, 35, 49, 48, 59] (by decide) (by rw [byte_eq (n := 10) (by decide) e]; rfl)
        · exact all [38, 35, 49, 51, 59] (by decide) (by rw [byte_eq (n := 13) (by decide) e]; rfl)
    · rw [escL_hi _ h] at hc
      have := h c hc
      exact ⟨by omega, by omega, by omega, by omega, by omega⟩
  · exact ih c hc
theorem un_ref (f pos r : Nat) (nm t acc : List UInt8) (hn : nmL (nm ++ 59 :: t) = nm) (he : entL nm = some r) : unL (f + 1) pos (38 :: (nm ++ 59 :: t)) acc = unL f (pos + 2 + nm.length) t (acc ++ Lib.encodeRune (r : Int)) := by
  rw [un_amp, hn, he]
  have h1 : ¬ nm.length = (nm ++ 59 :: t).length := by rw [List.length_append, List.length_cons]; omega
  simp only
  rw [if_neg h1]
  congr 1
  rw [List.drop_append]
  simp
theorem un_esc (s : ByteArray) (hg : goodB s = true) : ∀ f pos acc, (escL s.data.toList).length ≤ f → unL f pos (escL s.data.toList) acc = (acc ++ s.data.toList, 0, 0) := by
  refine good_rec (fun l => ∀ f pos acc, (escL l).length ≤ f → unL f pos (escL l) acc = (acc ++ l, 0, 0)) ?_ ?_ s hg
  · intro f pos acc _
    rw [show escL [] = [] from rfl, un_end, List.append_nil]
  · intro l hne hok ih f pos acc hf
    have hw := wL_pos l
    have hwl := wL_le l hne
    have hsp : escL l = escL (l.take (wL l)) ++ escL (l.drop (wL l)) := by rw [← escL_append, List.take_append_drop]
    have hls : acc ++ l = (acc ++ l.take (wL l)) ++ l.drop (wL l) := by rw [List.append_assoc, List.take_append_drop]
    rw [hsp] at hf ⊢
    rw [hls]
    rw [List.length_append] at hf
    have plain : ∀ y : List UInt8, escL (l.take (wL l)) = y → y = l.take (wL l) → (∀ c t, l = c :: t → c ≠ 60 ∧ c ≠ 38) → unL f pos (escL (l.take (wL l)) ++ escL (l.drop (wL l))) acc = ((acc ++ l.take (wL l)) ++ l.drop (wL l), 0, 0) := by
      intro y hy hyl hc
      rw [hy, hyl] at hf ⊢
      rw [List.length_take] at hf
      obtain ⟨f', rfl⟩ : ∃ f', f = f' + 1 := ⟨f - 1, by omega⟩
      match l, hne with
      | c :: t, _ =>
        obtain ⟨k, hk⟩ : ∃ k, wL (c :: t) = k + 1 := ⟨wL (c :: t) - 1, by omega⟩
        have hx := ok_ext (c :: t) ((c :: t).take (wL (c :: t)) ++ escL ((c :: t).drop (wL (c :: t)))) (by simp) hok (fun i hi => by
          rw [List.getD_eq_getElem?_getD, List.getD_eq_getElem?_getD, List.getElem?_append_left (by rw [List.length_take]; omega), List.getElem?_take, if_pos hi]) (by rw [List.length_append, List.length_take]; omega)
        have hw2 : wL ((c :: t).take (wL (c :: t)) ++ escL ((c :: t).drop (wL (c :: t)))) = wL (c :: t) := congrArg Prod.snd hx.2
        obtain ⟨x, hxe⟩ : ∃ x, x = escL ((c :: t).drop (wL (c :: t))) := ⟨_, rfl⟩
        rw [← hxe] at hx hw2 ⊢
        have htk : (c :: t).take (wL (c :: t)) = c :: t.take k := by rw [hk, List.take_succ_cons]
        have hlen : ((c :: t).take (wL (c :: t))).length = wL (c :: t) := by rw [List.length_take]; omega
        have hcc := hc c t rfl
        rw [htk] at hx hw2 hlen ⊢
        rw [List.cons_append] at hx hw2 ⊢
        rw [un_ok _ _ _ _ _ hcc.1 hcc.2, if_pos hx.1, hw2]
        have e1 : (c :: (t.take k ++ x)).drop (wL (c :: t)) = x := by
          rw [← List.cons_append, List.drop_append, List.drop_of_length_le (by omega), hlen, Nat.sub_self, List.drop_zero, List.nil_append]
        have e2 : (c :: (t.take k ++ x)).take (wL (c :: t)) = c :: t.take k := by
          rw [← List.cons_append, List.take_append, List.take_of_length_le (by omega), hlen, Nat.sub_self, List.take_zero, List.append_nil]
        rw [e1, e2, hxe]
        exact ih _ _ _ (by rw [← hxe] at hf ⊢; omega)
    rcases ok_head l hne hok with ⟨x, t, rfl, h1, h2, h3⟩ | h
    · have h4 : escL ((x :: t).take (wL (x :: t))) = escB x := by rw [h2]; simp [escL]
      have h5 : (x :: t).take (wL (x :: t)) = [x] := by rw [h2]; rfl
      by_cases hx : x.toNat ≠ 38 ∧ x.toNat ≠ 60 ∧ x.toNat ≠ 62 ∧ x.toNat ≠ 34 ∧ x.toNat ≠ 39 ∧ x.toNat ≠ 9 ∧ x.toNat ≠ 10 ∧ x.toNat ≠ 13
      · refine plain (escB x) h4 (by rw [escB_same x hx, h5]) fun c t' e => ?_
        have : x = c := (List.cons.inj e).1
        subst this
        exact ⟨fun e => hx.2.1 (by rw [e]; rfl), fun e => hx.1 (by rw [e]; rfl)⟩
      · have hx' : x.toNat = 38 ∨ x.toNat = 60 ∨ x.toNat = 62 ∨ x.toNat = 34 ∨ x.toNat = 39 ∨ x.toNat = 9 ∨ x.toNat = 10 ∨ x.toNat = 13 := by omega
        have ref : ∀ (nm : List UInt8) (r : Nat), escB x = 38 :: (nm ++ [59]) → (∀ t, nmL (nm ++ 59 :: t) = nm) → entL nm = some r → Lib.encodeRune (r : Int) = [x] → unL f pos (escL ((x :: t).take (wL (x :: t))) ++ escL ((x :: t).drop (wL (x :: t)))) acc = ((acc ++ (x :: t).take (wL (x :: t))) ++ (x :: t).drop (wL (x :: t)), 0, 0) := by
          intro nm r he hn hr henc
          have hlen : (escL ((x :: t).take (wL (x :: t)))).length = nm.length + 2 := by rw [h4, he]; simp
          obtain ⟨f', rfl⟩ : ∃ f', f = f' + 1 := ⟨f - 1, by omega⟩
          rw [h4, he, List.cons_append, List.append_assoc, List.singleton_append, un_ref _ _ r _ _ _ (hn _) hr, henc, h5]
          exact ih _ _ _ (by omega)
        rcases hx' with e | e | e | e | e | e | e | e
        · exact ref [97, 109, 112] 38 (by rw [byte_eq (n := 38) (by decide) e]; rfl) (fun t => rfl) rfl (by rw [byte_eq (n := 38) (by decide) e]; decide)
        · exact ref [108, 116] 60 (by rw [byte_eq (n := 60) (by decide) e]; rfl) (fun t => rfl) rfl (by rw [byte_eq (n := 60) (by decide) e]; decide)
        · exact ref [103, 116] 62 (by rw [byte_eq (n := 62) (by decide) e]; rfl) (fun t => rfl) rfl (by rw [byte_eq (n := 62) (by decide) e]; decide)
        · exact ref [113, 117, 111, 116] 34 (by rw [byte_eq (n := 34) (by decide) e]; rfl) (fun t => rfl) rfl (by rw [byte_eq (n := 34) (by decide) e]; decide)
        · exact ref [97, 112, 111, 115] 39 (by rw [byte_eq (n := 39) (by decide) e]; rfl) (fun t => rfl) rfl (by rw [byte_eq (n := 39) (by decide) e]; decide)
        · exact ref [35, 57] 9 (by rw [byte_eq (n := 9) (by decide) e]; rfl) (fun t => rfl) (by decide) (by rw [byte_eq (n := 9) (by decide) e]; decide)
        · exact ref [35, 49, 48] 10 (by rw [byte_eq (n := 10) (by decide) e]; rfl) (fun t => rfl) (by decide) (by rw [byte_eq (n := 10) (by decide) e]; decide)
        · exact ref [35, 49, 51] 13 (by rw [byte_eq (n := 13) (by decide) e]; rfl) (fun t => rfl) (by decide) (by rw [byte_eq (n := 13) (by decide) e]; decide)
    · refine plain (l.take (wL l)) (escL_hi _ h) rfl fun c t e => ?_
      have hm : c ∈ l.take (wL l) := by
        obtain ⟨k, hk⟩ : ∃ k, wL l = k + 1 := ⟨wL l - 1, by omega⟩
        rw [hk, e, List.take_succ_cons]
        simp
      have := h c hm
      exact ⟨fun e => by rw [e] at this; exact absurd this (by decide), fun e => by rw [e] at this; exact absurd this (by decide)⟩
theorem back_is (s : ByteArray) (hg : goodB s = true) : unS (escT s) = (s.data.toList, 0, 0) := by
  have h1 : escT s = bytesOf (escL s.data.toList) := by rw [escT, if_pos hg]
  unfold unS
  rw [h1]
  have h2 := un_esc s hg (bytesOf (escL s.data.toList)).size 0 [] (by rw [bytesOf_size]; exact Nat.le_refl _)
  rw [List.nil_append] at h2
  exact h2
theorem escT_size (s : ByteArray) : (escT s).size ≤ 6 * s.size := by
  unfold escT
  split
  · rw [bytesOf_size]
    have := escL_len s.data.toList
    rw [size_list] at this
    exact this
  · exact Nat.zero_le _
end
end Go.Proofs.YtobdokeklcdpoaaDoor
