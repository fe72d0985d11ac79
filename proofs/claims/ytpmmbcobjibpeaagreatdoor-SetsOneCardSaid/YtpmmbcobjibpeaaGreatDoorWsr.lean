
import Derived.Test.YtpmmbcobjibpeaaGreatDoorWde
import Derived.Test.YtpmmbcobjibpeaaGreatDoorLay
import Derived.Shelf.Sort.Plain
import Derived.Shelf.Slices.In.SortNone
import Derived.Shelf.Slices.Turned
import Derived.Shelf.SlicesG.Cells
import Derived.Shelf.Spec.SearchS
import Derived.Shelf.Spec.SlicesGrow
import Derived.Lib.OwnBridge
namespace Go.Proofs.YtpmmbcobjibpeaaGreatDoor
set_option linter.unusedSimpArgs false
set_option linter.unusedVariables false
open Go.RowKit Go.Lib Go.Sort Go.Shelf

/-! The library's calls on rows of strings. -/
theorem wcont_any (l : List ByteArray) (A : Option Addr) (c : Nat) (s : ByteArray) (w : World) (hl : Strs w A l) (hn : l.length ≤ 9223372036854775807) :
    Calls Tryz.prog 86 #[.slice A l.length c, .string s] w fun e w' => e = .returned (.bool (inl l s)) ∧ Bel w w' := by
  rcases Nat.eq_zero_or_pos l.length with h0 | h0
  · have : l = [] := List.eq_nil_of_length_eq_zero h0
    subst this
    have h := Any.slices_Contains_string_empty Tryz.contW A c s w
    change Calls Tryz.prog 86 _ _ _ at h
    exact h.mono fun e w' ⟨he, hw⟩ => ⟨he, by rw [hw]; exact Bel.refl _⟩
  · obtain ⟨b, off, rfl, hlt, hat⟩ := hl.blk h0
    have h := Any.slices_Contains_string Tryz.contW b off l.length c l s w (Nat.le_refl _) hn (fun j hj => by
      rw [hat j l[j] (List.getElem?_eq_getElem hj)]; simp [List.getD_eq_getElem?_getD, List.getElem?_eq_getElem hj])
    change Calls Tryz.prog 86 _ _ _ at h
    refine h.mono fun e w' ⟨he, hw⟩ => ⟨?_, by rw [hw]; exact Bel.refl _⟩
    rw [he]
    congr 2
    rw [List.take_length, Bool.eq_iff_iff, Lib.containsS_iff, inl_iff]
theorem below_k (l : List ByteArray) (x : ByteArray) (h : Srt l) : ∃ k, k ≤ l.length ∧ (∀ t, t < k → sless ((l[t]?).getD x) x = true) ∧ (∀ t, k ≤ t → sless ((l[t]?).getD x) x = false) := by
  induction l with
  | nil => exact ⟨0, Nat.le_refl _, fun t ht => absurd ht (Nat.not_lt_zero _), fun t _ => by simp [sless_irr]⟩
  | cons a m ih =>
    have hp := List.pairwise_cons.1 h
    by_cases ha : sless a x = true
    · obtain ⟨k, h1, h2, h3⟩ := ih hp.2
      refine ⟨k + 1, by simpa using h1, fun t ht => ?_, fun t ht => ?_⟩
      · cases t with
        | zero => simpa using ha
        | succ t => simpa using h2 t (by omega)
      · cases t with
        | zero => omega
        | succ t => simpa using h3 t (by omega)
    · have ha' : sless a x = false := by simpa using ha
      refine ⟨0, Nat.zero_le _, fun t ht => absurd ht (Nat.not_lt_zero _), fun t _ => ?_⟩
      cases t with
      | zero => simpa using ha'
      | succ t =>
        simp only [List.getElem?_cons_succ]
        cases ht : m[t]? with
        | none => simp [sless_irr]
        | some y =>
          have hy := hp.1 y (List.mem_of_getElem? ht)
          simp only [Option.getD_some]
          cases hq : sless y x with
          | false => rfl
          | true => rw [sless_trans hy hq] at ha'; cases ha'
theorem bs_any (l : List ByteArray) (A : Option Addr) (c : Nat) (x : ByteArray) (w : World) (hg : Srt l) (hl : Strs w A l) (hn : l.length < 4611686018427387904) :
    Calls Tryz.prog 96 #[.slice A l.length c, .string x] w fun e w' => (∃ I : Int, e = .returned (.tuple #[.int .i64 I, .bool (inl l x)])) ∧ Bel w w' := by
  rcases Nat.eq_zero_or_pos l.length with h0 | h0
  · have : l = [] := List.eq_nil_of_length_eq_zero h0
    subst this
    have h := Any2.slices_BinarySearch_string_empty Tryz.srchT A c x w
    change Calls Tryz.prog 96 _ _ _ at h
    exact h.mono fun e w' ⟨he, hw⟩ => ⟨⟨0, he⟩, by rw [hw]; exact Bel.refl _⟩
  · obtain ⟨b, off, rfl, hlt, hat⟩ := hl.blk h0
    obtain ⟨k, h1, h2, h3⟩ := below_k l x hg
    have h := Any2.slices_BinarySearch_string Tryz.srchT b off l.length c (fun j => (l[j]?).getD x) x w hn (fun j hj => by
      simp only [List.getElem?_eq_getElem hj, Option.getD_some]
      exact hat j l[j] (List.getElem?_eq_getElem hj))
    change Calls Tryz.prog 96 _ _ _ at h
    have hb : bsGo (fun t => Op.bytesLess ((l[t]?).getD x).toList x.toList) l.length 0 l.length = k := bsGo_spec _ k h2 h3 _ _ _ (by omega) (Nat.zero_le _) h1
    rw [hb] at h
    have hm := bs_mem l (fun j => (l[j]?).getD x) x hg (fun j hj => by simp [List.getElem?_eq_getElem hj]) k h2 (fun t ht _ => h3 t ht)
    refine h.mono fun e w' ⟨he, q, hw⟩ => ⟨⟨k, ?_⟩, by rw [hw]; exact Bel.trans (Bel.refl w) ⟨rfl, rfl, rfl, Nat.le_refl _, fun _ _ => rfl⟩⟩
    rw [he, ← hm]
theorem holds_own {w : World} {g : Nat} {l : List ByteArray} (h : ∀ i x, l[i]? = some x → w.cell? ⟨g, 0 + i, none⟩ = some (.string x) ∧ w.frozen? ⟨g, 0 + i, none⟩ = false) : Holds encStr w g 0 (bys l).toArray := by
  intro j hj
  have hj' : j < l.length := by simpa [bys] using hj
  obtain ⟨h1, h2⟩ := h j l[j] (List.getElem?_eq_getElem hj')
  refine ⟨?_, h2⟩
  rw [h1, getElem!_pos _ j hj]
  simp [encStr, bys, mk_toList]
theorem strs_holds {w : World} {g : Nat} {z : List (List UInt8)} {d : Array (List UInt8)} (hg : g < w.heap.size) (h : Holds encStr w g 0 d) (hz : ∀ i x, z[i]? = some x → i < d.size ∧ d[i]! = x) : Strs w (some ⟨g, 0, none⟩) (unb z) := fun _ => by
  refine ⟨g, 0, rfl, hg, fun j u hu => ?_⟩
  simp only [strs, unb, List.getElem?_map, Option.map_map] at hu
  cases hx : z[j]? with
  | none => rw [hx] at hu; cases hu
  | some x =>
    rw [hx] at hu
    obtain ⟨h1, h2⟩ := hz j x hx
    have h3 := (h j h1).1
    rw [h2] at h3
    simp only [Option.map_some, Option.some.injEq, Function.comp] at hu
    rw [h3, ← hu]
theorem bel_grow {w0 w : World} (os : Array Obj) (h : Bel w0 w) : Bel w0 (grow w os) := ⟨h.os, h.tape, h.output, Nat.le_trans h.size (by simp [grow]), fun k hk => by
    rw [← Below.block h k hk]
    have hk2 : k < w.heap.size := Nat.lt_of_lt_of_le hk h.size
    simp [grow, Array.getElem?_append, hk2]⟩
theorem holds_grow {w : World} {g : Nat} {d : Array (List UInt8)} (os : Array Obj) (hg : g < w.heap.size) (h : Holds encStr w g 0 d) : Holds encStr (grow w os) g 0 d := by
  have hb : Bel w (grow w os) := bel_grow os (Bel.refl _)
  intro j hj
  obtain ⟨h1, h2⟩ := h j hj
  exact ⟨(hb.cells _ _ hg).trans h1, (hb.frozens _ _ hg).trans h2⟩
/-- slices.Sort, then slices.Compact, of a row of the call's own that is not empty. -/
theorem sort_own {l : List ByteArray} {w0 w : World} {g cap : Nat} (h0 : Bel w0 w) (hg0 : w0.heap.size ≤ g) (hg : g < w.heap.size) (hH : Holds encStr w g 0 (bys l).toArray) (hsz : l.length < 4611686018427387904) :
    Calls Tryz.prog 125 #[.slice (some ⟨g, 0, none⟩) l.length cap] w fun e w' =>
      e = .returned (.tuple #[]) ∧ Holds encStr w' g 0 ((bys l).mergeSort fun x y => decide (x ≤ y)).toArray ∧ g < w'.heap.size ∧ Bel w0 w' := by
  have h := Any.slices_Sort_string Tryz.sortT g 0 cap (bys l) w hH hg (by simpa [bys] using hsz)
  change Calls Tryz.prog 125 _ _ _ at h
  rw [show (bys l).length = l.length by simp [bys]] at h
  refine h.mono fun e w' ⟨he, n, os, hw⟩ => ?_
  subst hw
  have hg' : g < (putRow encStr (Sort.ahead w n) g 0 ((bys l).mergeSort fun x y => decide (x ≤ y)).toArray).heap.size := by simpa using hg
  refine ⟨he, holds_grow os hg' (holds_putRow encStr (Sort.ahead w n) g 0 (bys l).toArray _ (holds_ahead _ _ n _ _ _ hH) (by simp)), Nat.lt_of_lt_of_le hg' (by simp [grow]), bel_grow os (Lib.below_putRow h0 hg0)⟩
theorem comp_own {z : List (List UInt8)} {w0 w : World} {g cap : Nat} (h0 : Bel w0 w) (hg0 : w0.heap.size ≤ g) (hg : g < w.heap.size) (hH : Holds encStr w g 0 z.toArray) (hsz : z.length < 4611686018427387904) (hcap : z.length ≤ cap) :
    Calls Tryz.prog 126 #[.slice (some ⟨g, 0, none⟩) z.length cap] w fun e w' =>
      e = .returned (.slice (some ⟨g, 0, none⟩) (unb (compact z)).length cap) ∧ Strs w' (some ⟨g, 0, none⟩) (unb (compact z)) ∧ Bel w0 w' := by
  have h := AnyG.slices_Compact_string Tryz.compT g 0 cap z w hH (by omega) hcap
  change Calls Tryz.prog 126 _ _ _ at h
  refine h.mono fun e w' ⟨he, q, hw⟩ => ?_
  subst hw
  have hl := compact_le z
  refine ⟨by rw [he]; simp [unb], strs_holds (by simpa using hg) (holds_putRow encStr (Sort.ahead w q) g 0 z.toArray _ (holds_ahead _ _ q _ _ _ hH) (by simp; omega)) (fun i x hx => ?_), Lib.below_putRow h0 hg0⟩
  have hi := (List.getElem?_eq_some_iff.1 hx).1
  have hd : i < (compact z ++ List.replicate (z.length - (compact z).length) []).toArray.size := by simp; omega
  refine ⟨hd, ?_⟩
  rw [getElem!_pos _ i hd]
  simp only [List.getElem_toArray]
  rw [List.getElem_append_left hi]
  exact (List.getElem?_eq_some_iff.1 hx).2
end Go.Proofs.YtpmmbcobjibpeaaGreatDoor
