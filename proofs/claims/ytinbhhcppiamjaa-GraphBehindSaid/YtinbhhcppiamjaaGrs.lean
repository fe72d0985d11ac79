import Derived.Test.YtinbhhcppiamjaaGrf
import Derived.Test.YtinbhhcppiamjaaLay
import Derived.Shelf.Sort.Plain
import Derived.Shelf.Slices.In.SortNone
namespace Go.Proofs.Ytinbhhcppiamjaa
set_option linter.unusedSimpArgs false
set_option linter.unusedVariables false
open Go.RowKit Go.Lib Go.Maps Go.Sort

/-! Rows of numbers: put in order, added to. -/
theorem sort_own {w : World} {B : Nat} {v : Value} {zs : List Int} (h : w.ownsRow B 3 1 v zs.length (nums zs)) (hsz : zs.length < 4611686018427387904) :
    Calls Try.prog 20 #[v] w fun e w' => e = .returned (.tuple #[]) ∧ w'.ownsRow B 3 1 v (zs.mergeSort fun x y => decide (x ≤ y)).length (nums (zs.mergeSort fun x y => decide (x ≤ y))) ∧ w.grownBy w' v.ownBlock := by
  have hl : (zs.mergeSort fun x y => decide (x ≤ y)).length = zs.length := List.length_mergeSort _
  have none : ∀ (p : Option Addr) (cap : Nat), v = .slice p 0 cap → zs = [] → Calls Try.prog 20 #[v] w fun e w' => e = .returned (.tuple #[]) ∧ w'.ownsRow B 3 1 v (zs.mergeSort fun x y => decide (x ≤ y)).length (nums (zs.mergeSort fun x y => decide (x ≤ y))) ∧ w.grownBy w' v.ownBlock := by
    rintro p cap rfl rfl
    have k := Any.slices_Sort_int_none Try.sortI p cap w
    change Calls Try.prog 20 _ _ _ at k
    refine k.mono fun e w' ⟨he, hw⟩ => ⟨he, ?_, ?_⟩
    · rw [hw]; simpa using h
    · rw [hw]; exact World.grownBy.refl _ _
  have h0 := h
  rcases h.2 with ⟨rfl, e⟩ | ⟨g, cap, cur, rfl, hB, hh, hn, hm, hs, ht⟩
  · exact none _ _ rfl (List.eq_nil_of_length_eq_zero e)
  · by_cases hz : zs = []
    · exact none _ _ (by rw [hz]; rfl) hz
    · have hg : g < w.heap.size := (Array.getElem?_eq_some_iff.1 hh).1
      have k := Any.slices_Sort_int Try.sortI g 0 cap zs w (holds_of_blockI hh (by simpa [nums] using ht)) hg hsz
      change Calls Try.prog 20 _ _ _ at k
      refine k.mono fun e w' ⟨he, n, os, hw⟩ => ⟨he, ?_, ?_⟩
      · rw [hw, hl]
        exact ownsRow_sortedI hl hB hh hn hm hs
      · rw [hw]
        exact grownBy_sortedI _
end Go.Proofs.Ytinbhhcppiamjaa
