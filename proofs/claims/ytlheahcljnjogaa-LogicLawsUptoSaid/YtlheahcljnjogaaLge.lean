import Derived.Test.YtlheahcljnjogaaLgd
namespace Go.Proofs.Ytlheahcljnjogaa
set_option linter.unusedSimpArgs false
set_option linter.unusedVariables false
open Go.RowKit
attribute [local go_sem ↓] eql_val neq_val

/-! The plain laws of 'and', 'or' and 'not'. -/
theorem noneIs_append (d : Bool) (a b : List Val) : noneIs d (a ++ b) = (noneIs d a && noneIs d b) := by simp [noneIs]
theorem allAre_append (d : Bool) (a b : List Val) : allAre d (a ++ b) = (allAre d a && allAre d b) := by simp [allAre]
theorem noneIs_reverse (d : Bool) (a : List Val) : noneIs d a.reverse = noneIs d a := by simp [noneIs]
theorem allAre_reverse (d : Bool) (a : List Val) : allAre d a.reverse = allAre d a := by simp [allAre]
theorem jn_reverse (d : Bool) (a : List Val) : jn d a.reverse = jn d a := by simp [jn, jr, noneIs_reverse, allAre_reverse]
theorem nt_eq (v : Val) (d : Bool) : veq (nt v) (tv d) = veq v (tv !d) := by
  rcases three v with ⟨a, b⟩ | ⟨a, b⟩ | ⟨a, b⟩
  · obtain rfl := (veq_iff _ _).1 a
    cases d <;> decide
  · obtain rfl := (veq_iff _ _).1 b
    cases d <;> decide
  · have h : nt v = zero := by simp [nt, a, b]
    have h0 : ∀ d, veq zero (tv d) = false := by decide
    rw [h, h0]
    cases d
    · simp [a]
    · simp [b]
theorem noneIs_map (d : Bool) (a : List Val) : noneIs d (a.map nt) = noneIs (!d) a := by
  simp [noneIs, Function.comp_def, nt_eq]
theorem allAre_map (d : Bool) (a : List Val) : allAre d (a.map nt) = allAre (!d) a := by
  simp [allAre, Function.comp_def, nt_eq]
theorem jn_not (a : List Val) : nt (jn false a) = jn true (a.map nt) := by
  unfold jn jr
  rw [noneIs_map, allAre_map]
  by_cases h : noneIs false a = true <;> by_cases h' : allAre true a = true <;> simp [h, h'] <;> decide
theorem jn_append (d : Bool) (a b : List Val) : jn d (a ++ b) = jn d [jn d a, jn d b] := by
  unfold jn jr
  rw [noneIs_append, allAre_append]
  by_cases h1 : noneIs d a = true <;> by_cases h2 : allAre (!d) a = true <;> by_cases h3 : noneIs d b = true <;> by_cases h4 : allAre (!d) b = true <;> cases d <;> simp at h1 h2 h3 h4 <;> simp [h1, h2, h3, h4] <;> decide
end Go.Proofs.Ytlheahcljnjogaa
