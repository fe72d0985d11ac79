import Derived.Test.YthcpgbbmgabpnaaCkb
namespace Go.Proofs.Ythcpgbbmgabpnaa
set_option linter.unusedSimpArgs false
set_option linter.unusedVariables false
open Go.RowKit

/-! Chars: what stands in XML, read: the plain words. -/
/-- The worth of a digit; 99: it is none. -/
def dvB (c : Nat) : Nat := if 48 ≤ c ∧ c ≤ 57 then c - 48 else if 97 ≤ c ∧ c ≤ 102 then c - 87 else if 65 ≤ c ∧ c ≤ 70 then c - 55 else 99
/-- A number to a base; none: a byte is no digit. -/
def foldD (b : Nat) : List UInt8 → Nat → Option Nat
  | [], n => some n
  | c :: t, n => if dvB c.toNat < b then foldD b t (n * b + dvB c.toNat) else none
def numL (b : Nat) (l : List UInt8) : Option Nat :=
  if l = [] ∨ 8 < l.length then none else match foldD b l 0 with
    | some n => if sgn n = true then some n else none
    | none => none
/-- What stands between & and ;. -/
def entL (l : List UInt8) : Option Nat :=
  if l = [97, 109, 112] then some 38 else if l = [108, 116] then some 60 else if l = [103, 116] then some 62 else if l = [113, 117, 111, 116] then some 34
  else if l = [97, 112, 111, 115] then some 39 else match l with
    | 35 :: 120 :: t => numL 16 t
    | 35 :: t => numL 10 t
    | _ => none
/-- What stands in a text from a place on: the signs, or the place and what is wrong. -/
def unL : Nat → Nat → List UInt8 → List UInt8 → List UInt8 × Nat × Nat
  | 0, _, _, acc => (acc, 0, 0)
  | _ + 1, _, [], acc => (acc, 0, 0)
  | f + 1, pos, c :: t, acc =>
    if c = 60 then ([], pos, 6)
    else if c = 38 then
      match entL (t.takeWhile (· != 59)) with
      | some r => if (t.takeWhile (· != 59)).length = t.length then ([], pos, 7) else unL f (pos + 2 + (t.takeWhile (· != 59)).length) (t.drop ((t.takeWhile (· != 59)).length + 1)) (acc ++ Lib.encodeRune (r : Int))
      | none => ([], pos, 7)
    else if okL (c :: t) = true then unL f (pos + wL (c :: t)) ((c :: t).drop (wL (c :: t))) (acc ++ (c :: t).take (wL (c :: t)))
    else ([], pos, 6)
def unS (s : ByteArray) : List UInt8 × Nat × Nat := unL s.size 0 s.data.toList []
theorem foldD_le (b : Nat) (hb : b ≤ 16) : ∀ (l : List UInt8) (n k : Nat), n < 16 ^ k → ∀ m, foldD b l n = some m → m < 16 ^ (k + l.length)
  | [], n, k, h, m, hm => by
    have : n = m := Option.some.inj hm
    subst this
    simpa using h
  | c :: t, n, k, h, m, hm => by
    unfold foldD at hm
    split at hm
    · rename_i hd
      have h2 : n * b + dvB c.toNat < 16 ^ (k + 1) := by
        have h3 : (n + 1) * b ≤ 16 ^ k * 16 := Nat.mul_le_mul (by omega) hb
        rw [Nat.pow_succ]
        rw [Nat.add_mul] at h3
        omega
      have := foldD_le b hb t _ (k + 1) h2 m hm
      rw [List.length_cons]
      rwa [show k + 1 + t.length = k + (t.length + 1) from by omega] at this
    · cases hm
theorem numL_sgn (b : Nat) (l : List UInt8) (r : Nat) (h : numL b l = some r) : sgn r = true := by
  unfold numL at h
  split at h
  · cases h
  · split at h
    · split at h
      · rename_i hs
        rw [← Option.some.inj h]; exact hs
      · cases h
    · cases h
theorem entL_sgn (l : List UInt8) (r : Nat) (h : entL l = some r) : sgn r = true := by
  unfold entL at h
  split at h
  · rw [← Option.some.inj h]; decide
  split at h
  · rw [← Option.some.inj h]; decide
  split at h
  · rw [← Option.some.inj h]; decide
  split at h
  · rw [← Option.some.inj h]; decide
  split at h
  · rw [← Option.some.inj h]; decide
  split at h
  · exact numL_sgn _ _ _ h
  · exact numL_sgn _ _ _ h
  · cases h
theorem dvB_hi (c : Nat) (h : 128 ≤ c) : dvB c = 99 := by
  unfold dvB
  rw [if_neg (by omega), if_neg (by omega), if_neg (by omega)]
theorem foldD_low (b : Nat) (hb : b ≤ 16) : ∀ (l : List UInt8) (n m : Nat), foldD b l n = some m → ∀ c ∈ l, c.toNat < 128
  | [], _, _, _, c, hc => by simp at hc
  | c :: t, n, m, hm, x, hx => by
    unfold foldD at hm
    split at hm
    · rename_i hd
      rcases List.mem_cons.1 hx with rfl | hx
      · rcases Nat.lt_or_ge x.toNat 128 with h | h
        · exact h
        · rw [dvB_hi _ h] at hd; omega
      · exact foldD_low b hb t _ m hm x hx
    · cases hm
theorem numL_low (b : Nat) (hb : b ≤ 16) (l : List UInt8) (r : Nat) (h : numL b l = some r) : ∀ c ∈ l, c.toNat < 128 := by
  unfold numL at h
  split at h
  · cases h
  · split at h
    · rename_i n hn
      exact foldD_low b hb l 0 n hn
    · cases h
/-- A name that stands for a sign is of signs of one byte. -/
theorem entL_low (l : List UInt8) (r : Nat) (h : entL l = some r) : ∀ c ∈ l, c.toNat < 128 := by
  unfold entL at h
  split at h
  · rename_i e; rw [e]; decide
  split at h
  · rename_i e; rw [e]; decide
  split at h
  · rename_i e; rw [e]; decide
  split at h
  · rename_i e; rw [e]; decide
  split at h
  · rename_i e; rw [e]; decide
  split at h
  · rename_i t _ _ _ _ _
    intro c hc
    rcases List.mem_cons.1 hc with rfl | hc
    · decide
    rcases List.mem_cons.1 hc with rfl | hc
    · decide
    exact numL_low 16 (by omega) _ r h c hc
  · intro c hc
    rcases List.mem_cons.1 hc with rfl | hc
    · decide
    exact numL_low 10 (by omega) _ r h c hc
  · cases h
end Go.Proofs.Ythcpgbbmgabpnaa
