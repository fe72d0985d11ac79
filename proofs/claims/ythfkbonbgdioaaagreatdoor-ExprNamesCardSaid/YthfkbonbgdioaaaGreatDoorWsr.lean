import Derived.Test.YthfkbonbgdioaaaGreatDoorWst
import Derived.Test.YthfkbonbgdioaaaGreatDoorLayb
import Derived.Shelf.Sort.Plain
import Derived.Shelf.Slices.In.SortNone
import Derived.Shelf.SlicesG.Cells
import Derived.Lib.OwnBridge
namespace Go.Proofs.YthfkbonbgdioaaaGreatDoor
set_option linter.unusedSimpArgs false
set_option linter.unusedVariables false
open Go.RowKit Go.Lib Go.Sort Go.Shelf

/-! The library's calls on rows of strings. -/
theorem holds_own {w : World} {g : Nat} {l : List ByteArray} (h : ∀ i x, l[i]? = some x → w.cell? ⟨g, 0 + i, none⟩ = some (.string x) ∧ w.frozen? ⟨g, 0 + i, none⟩ = false) : Holds encStr w g 0 (bys l).toArray := by
  intro j hj
  have hj' : j < l.length := by simpa [bys] using hj
  obtain ⟨h1, h2⟩ := h j l[j] (List.getElem?_eq_getElem hj')
  refine ⟨?_, h2⟩
  rw [h1, getElem!_pos _ j hj]
  simp [encStr, bys, mk_toList]
theorem strs_holds {w : World} {g : Nat} {z : List (List UInt8)} {d : Array (List UInt8)} (hg : g < w.heap.size) (h : Holds encStr w g 0 d) (hz : ∀ i x, z[i]? = some x → i < d.size ∧ d[i]! = x) : Strs w (some ⟨g, 0, none⟩) (unb z) := fun _ => by
  refine ⟨g, 0, rfl, hg, fun j u hu => ?_⟩
  simp only [strs, unb, List.getElem?_map, Option.map_map] at hu
  cases hx : z[j]? with
  | none => rw [hx] at hu; cases hu
  | some x =>
    rw [hx] at hu
    obtain ⟨h1, h2⟩ := hz j x hx
    have h3 := (h j h1).1
    rw [h2] at h3
    simp only [Option.map_some, Option.some.injEq, Function.comp] at hu
    rw [h3, ← hu]
theorem bel_grow {w0 w : World} (os : Array Obj) (h : Bel w0 w) : Bel w0 (grow w os) := ⟨h.os, h.tape, h.output, Nat.le_trans h.size (by simp [grow]), fun k hk => by
    rw [← Below.block h k hk]
    have hk2 : k < w.heap.size := Nat.lt_of_lt_of_le hk h.size
    simp [grow, Array.getElem?_append, hk2]⟩
theorem holds_grow {w : World} {g : Nat} {d : Array (List UInt8)} (os : Array Obj) (hg : g < w.heap.size) (h : Holds encStr w g 0 d) : Holds encStr (grow w os) g 0 d := by
  have hb : Bel w (grow w os) := bel_grow os (Bel.refl _)
  intro j hj
  obtain ⟨h1, h2⟩ := h j hj
  exact ⟨(hb.cells _ _ hg).trans h1, (hb.frozens _ _ hg).trans h2⟩
/-- slices.Sort, then slices.Compact, of a row of the call's own that is not empty. -/
theorem sort_own {l : List ByteArray} {w0 w : World} {g cap : Nat} (h0 : Bel w0 w) (hg0 : w0.heap.size ≤ g) (hg : g < w.heap.size) (hH : Holds encStr w g 0 (bys l).toArray) (hsz : l.length < 4611686018427387904) :
    Calls Tryz.prog 31 #[.slice (some ⟨g, 0, none⟩) l.length cap] w fun e w' =>
      e = .returned (.tuple #[]) ∧ Holds encStr w' g 0 ((bys l).mergeSort fun x y => decide (x ≤ y)).toArray ∧ g < w'.heap.size ∧ Bel w0 w' := by
  have h := Any.slices_Sort_string Tryz.sortT g 0 cap (bys l) w hH hg (by simpa [bys] using hsz)
  change Calls Tryz.prog 31 _ _ _ at h
  rw [show (bys l).length = l.length by simp [bys]] at h
  refine h.mono fun e w' ⟨he, n, os, hw⟩ => ?_
  subst hw
  have hg' : g < (putRow encStr (Sort.ahead w n) g 0 ((bys l).mergeSort fun x y => decide (x ≤ y)).toArray).heap.size := by simpa using hg
  refine ⟨he, holds_grow os hg' (holds_putRow encStr (Sort.ahead w n) g 0 (bys l).toArray _ (holds_ahead _ _ n _ _ _ hH) (by simp)), Nat.lt_of_lt_of_le hg' (by simp [grow]), bel_grow os (Lib.below_putRow h0 hg0)⟩
theorem comp_own {z : List (List UInt8)} {w0 w : World} {g cap : Nat} (h0 : Bel w0 w) (hg0 : w0.heap.size ≤ g) (hg : g < w.heap.size) (hH : Holds encStr w g 0 z.toArray) (hsz : z.length < 4611686018427387904) (hcap : z.length ≤ cap) :
    Calls Tryz.prog 32 #[.slice (some ⟨g, 0, none⟩) z.length cap] w fun e w' =>
      e = .returned (.slice (some ⟨g, 0, none⟩) (unb (compact z)).length cap) ∧ Strs w' (some ⟨g, 0, none⟩) (unb (compact z)) ∧ Bel w0 w' := by
  have h := AnyG.slices_Compact_string Tryz.compT g 0 cap z w hH (by omega) hcap
  change Calls Tryz.prog 32 _ _ _ at h
  refine h.mono fun e w' ⟨he, q, hw⟩ => ?_
  subst hw
  have hl := compact_le z
  refine ⟨by rw [he]; simp [unb], strs_holds (by simpa using hg) (holds_putRow encStr (Sort.ahead w q) g 0 z.toArray _ (holds_ahead _ _ q _ _ _ hH) (by simp; omega)) (fun i x hx => ?_), Lib.below_putRow h0 hg0⟩
  have hi := (List.getElem?_eq_some_iff.1 hx).1
  have hd : i < (compact z ++ List.replicate (z.length - (compact z).length) []).toArray.size := by simp; omega
  refine ⟨hd, ?_⟩
  rw [getElem!_pos _ i hd]
  simp only [List.getElem_toArray]
  rw [List.getElem_append_left hi]
  exact (List.getElem?_eq_some_iff.1 hx).2
end Go.Proofs.YthfkbonbgdioaaaGreatDoor
