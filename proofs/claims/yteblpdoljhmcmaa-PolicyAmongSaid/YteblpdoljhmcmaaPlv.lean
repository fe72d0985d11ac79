import Derived.Test.YteblpdoljhmcmaaKit
import Derived.Test.YteblpdoljhmcmaaRow
import Derived.Test.YteblpdoljhmcmaaOpn
import Derived.Test.YteblpdoljhmcmaaOwn
import Derived.Test.YteblpdoljhmcmaaUni
import Derived.Test.YteblpdoljhmcmaaShelf
import Derived.Test.YteblpdoljhmcmaaVal
import Derived.Test.YteblpdoljhmcmaaPla
import Derived.Test.YteblpdoljhmcmaaPlb
namespace Go.Proofs.Yteblpdoljhmcmaa
set_option linter.unusedSimpArgs false
set_option linter.unusedVariables false
/-! Merged out of the texts of the layers below: only what is used. -/
section
open Go.RowKit
theorem ci_le (x y : Int) : Lib.compareInt x y ≤ 0 ↔ x ≤ y := by
  unfold Lib.compareInt
  repeat' split
  all_goals omega
theorem cb_trans : ∀ a b c : List UInt8, Lib.compareBytes a b ≤ 0 → Lib.compareBytes b c ≤ 0 → Lib.compareBytes a c ≤ 0
  | [], _, [], _, _ => by show (0 : Int) ≤ 0; omega
  | [], _, _ :: _, _, _ => by show (-1 : Int) ≤ 0; omega
  | _ :: _, [], _, h, _ => by have : (1 : Int) ≤ 0 := h; omega
  | _ :: _, _ :: _, [], _, h => by have : (1 : Int) ≤ 0 := h; omega
  | x :: a, y :: b, z :: c, h1, h2 => by
    unfold Lib.compareBytes at h1 h2 ⊢
    have k := @UInt8.lt_iff_toNat_lt
    by_cases hxy : x < y
    · by_cases hyz : y < z
      · rw [if_pos (k.2 (Nat.lt_trans (k.1 hxy) (k.1 hyz)))]; omega
      · rw [if_neg hyz] at h2
        by_cases hzy : z < y
        · rw [if_pos hzy] at h2; omega
        · have e : y.toNat = z.toNat := by
            have g1 : ¬ y.toNat < z.toNat := fun h => hyz (k.2 h)
            have g2 : ¬ z.toNat < y.toNat := fun h => hzy (k.2 h)
            omega
          rw [if_pos (k.2 (by have := k.1 hxy; omega))]; omega
    · rw [if_neg hxy] at h1
      by_cases hyx : y < x
      · rw [if_pos hyx] at h1; omega
      · rw [if_neg hyx] at h1
        have e : x.toNat = y.toNat := by
          have g1 : ¬ x.toNat < y.toNat := fun h => hxy (k.2 h)
          have g2 : ¬ y.toNat < x.toNat := fun h => hyx (k.2 h)
          omega
        obtain rfl : x = y := UInt8.toNat_inj.1 e
        by_cases hyz : x < z
        · rw [if_pos hyz]; omega
        · rw [if_neg hyz] at h2 ⊢
          by_cases hzy : z < x
          · rw [if_pos hzy] at h2; omega
          · rw [if_neg hzy] at h2 ⊢
            exact cb_trans a b c h1 h2
theorem vcmp_trans {a b c : Val} (h1 : vcmp a b ≤ 0) (h2 : vcmp b c ≤ 0) : vcmp a c ≤ 0 := by
  unfold vcmp at h1 h2 ⊢
  by_cases hab : a.kind = b.kind
  · rw [if_neg (fun h => h hab)] at h1
    by_cases hbc : b.kind = c.kind
    · rw [if_neg (fun h => h hbc)] at h2
      rw [if_neg (fun h => h (hab.trans hbc))]
      rw [← hab] at h2
      by_cases k1 : a.kind = 1
      · rw [if_pos k1, sg_ci, ci_le] at h1 h2 ⊢
        omega
      · rw [if_neg k1] at h1 h2 ⊢
        by_cases k2 : a.kind = 2
        · rw [if_pos k2] at h1 h2 ⊢
          exact cb_trans _ _ _ h1 h2
        · rw [if_neg k2, ci_le] at h1 h2 ⊢
          omega
    · rw [if_pos hbc, ci_le] at h2
      rw [if_pos (fun h => hbc (hab.symm.trans h)), ci_le]
      omega
  · rw [if_pos hab, ci_le] at h1
    by_cases hbc : b.kind = c.kind
    · rw [if_pos (fun h => hab (h.trans hbc.symm)), ci_le]
      omega
    · rw [if_pos hbc, ci_le] at h2
      rw [if_pos (by omega), ci_le]
      omega
end
end Go.Proofs.Yteblpdoljhmcmaa
