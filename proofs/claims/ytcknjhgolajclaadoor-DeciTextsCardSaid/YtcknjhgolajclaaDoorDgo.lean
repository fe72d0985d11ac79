import Derived.Test.YtcknjhgolajclaaDoorDga
namespace Go.Proofs.YtcknjhgolajclaaDoor
set_option linter.unusedSimpArgs false
set_option linter.unusedVariables false
open Go.RowKit

/-! Deci: a number's text, sign by sign. -/
def lowL (x : Nat) : Nat → List UInt8
  | 0 => []
  | k + 1 => dgt (x / 10 ^ k) 1 :: lowL x k
theorem lowL_snoc (k : Nat) : ∀ x, lowL x (k + 1) = lowL (x / 10) k ++ [dgt x 1] := by
  induction k with
  | zero => intro x; simp [lowL]
  | succ k ih =>
    intro x
    rw [lowL, ih x, lowL, List.cons_append, Nat.div_div_eq_div_mul, ← Nat.pow_succ']
theorem dgt_mod (x k : Nat) : dgt (x % 10 ^ (k + 1)) 1 = dgt x 1 := by
  unfold dgt
  rw [Nat.div_one, Nat.div_one, Nat.mod_mod_of_dvd _ ⟨10 ^ k, Nat.pow_succ'⟩]
theorem mod_div10 (x k : Nat) : x % 10 ^ (k + 1) / 10 = x / 10 % 10 ^ k := by
  rw [Nat.pow_succ']; exact Nat.mod_mul_right_div_self x 10 (10 ^ k)
theorem rep_snoc (k : Nat) : Lib.repeatL [48] (k + 1) = Lib.repeatL [48] k ++ [48] := by
  rw [Lib.repeatL_add, Lib.repeatL_one]
theorem pad_snoc (k n : Nat) (hk : 0 < k) (h : n < 10 ^ (k + 1)) : padL (k + 1) n = padL k (n / 10) ++ [dgt n 1] := by
  by_cases h1 : n < 10
  · have e : n / 10 = 0 := Nat.div_eq_of_lt h1
    obtain ⟨j, rfl⟩ : ∃ j, k = j + 1 := ⟨k - 1, by omega⟩
    unfold padL
    rw [e, dec1 n h1, dec1 0 (by omega)]
    have : dgt 0 1 = 48 := rfl
    rw [this]
    simp only [List.length_singleton, Nat.add_sub_cancel]
    rw [rep_snoc]
  · unfold padL
    rw [decS n (by omega), List.length_append, List.length_singleton, ← List.append_assoc, show k + 1 - ((Lib.decDigits (n / 10)).length + 1) = k - (Lib.decDigits (n / 10)).length by omega]
theorem pad_low (k : Nat) : ∀ x, padL (k + 1) (x % 10 ^ (k + 1)) = lowL x (k + 1) := by
  induction k with
  | zero =>
    intro x
    have h : x % 10 < 10 := Nat.mod_lt _ (by omega)
    unfold padL
    rw [Nat.zero_add, Nat.pow_one, dec1 _ h]
    simp [Lib.repeatL, lowL, dgt]
  | succ k ih =>
    intro x
    rw [pad_snoc _ _ (by omega) (Nat.mod_lt _ (p10 _)), mod_div10, ih, dgt_mod, lowL_snoc (k + 1) x]
theorem lowL_len (x : Nat) : ∀ k, (lowL x k).length = k
  | 0 => rfl
  | k + 1 => by rw [lowL, List.length_cons, lowL_len x k]
def decI (m : Nat) : List UInt8 := if m < 10 then [] else Lib.decDigits (m / 10)
theorem decI_eq (m : Nat) : Lib.decDigits m = decI m ++ [dgt m 1] := by
  unfold decI
  by_cases h : m < 10
  · rw [if_pos h, dec1 m h]; rfl
  · rw [if_neg h, decS m (by omega)]
theorem decI_next (m : Nat) (h : ¬ m < 10) : decI m = decI (m / 10) ++ [dgt (m / 10) 1] := by rw [← decI_eq]; unfold decI; rw [if_neg h]
/-- What stands behind the whole part. -/
def tailL (x s : Nat) : List UInt8 := if s = 0 then [] else 46 :: lowL x s
theorem txt_low (neg : Bool) (x s : Nat) : txtL neg x s = (if neg = true then [45] else []) ++ (Lib.decDigits (x / 10 ^ s) ++ tailL x s) := by
  unfold txtL tailL P10
  by_cases h : s = 0
  · rw [if_pos h, if_pos h]
  · obtain ⟨k, rfl⟩ : ∃ k, s = k + 1 := ⟨s - 1, by omega⟩
    rw [if_neg h, if_neg h, pad_low]
end Go.Proofs.YtcknjhgolajclaaDoor
