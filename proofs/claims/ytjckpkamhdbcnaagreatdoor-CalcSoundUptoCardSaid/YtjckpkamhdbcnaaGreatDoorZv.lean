import Derived.Test.YtjckpkamhdbcnaaGreatDoorZa
import Derived.Lib.SlicesCompact
import Derived.Sort.Walk0
import Derived.Sort.EncStr
import Derived.Test.YtjckpkamhdbcnaaGreatDoorLayb
import Derived.Shelf.Sort.Plain
import Derived.Shelf.Slices.In.SortNone
import Derived.Shelf.SlicesG.Cells
import Derived.Lib.OwnBridge
namespace Go.Proofs.YtjckpkamhdbcnaaGreatDoor
set_option linter.unusedSimpArgs false
set_option linter.unusedVariables false
section
open Go.RowKit Go.Lib
def strs (xs : List ByteArray) : List Value := xs.map .string
theorem Qq8 (xs : List ByteArray) : ∀ u ∈ strs xs, u.oneCell' = true := by
 intro u hu
 simp only [strs, List.mem_map] at hu
 obtain ⟨_, _, rfl⟩ := hu
 rfl
theorem infoT : (Tryz.prog.info? 9).map (fun i => (i.zero, i.size, i.bytes)) = some (some (.string ⟨#[]⟩), 1, 16) := by kernel_rfl
theorem infoT' : ∃ i0, Tryz.prog.info? 9 = some i0 /\ i0.zero = some (.string ⟨#[]⟩) /\ i0.size = 1 /\ i0.bytes = 16 := by
 have h := infoT
 cases hi : Tryz.prog.info? 9 with
 | none => rw [hi] at h; cases h
 | some i =>
  rw [hi] at h
  simp only [Option.map_some, Option.some.injEq, Prod.mk.injEq] at h
  exact ⟨i, rfl, h.1, h.2.1, h.2.2⟩
def OwnT (w : World) (B : Nat) (v : Value) (xs : List ByteArray) : Prop := w.ownsRow B 9 1 v xs.length (strs xs)
theorem OwnT.keep {w w' : World} {B : Nat} {v : Value} {xs : List ByteArray} (h : OwnT w B v xs) (hb : Bel w w') : OwnT w' B v xs := Qe0 h hb
theorem OwnT.lt {w : World} {B : Nat} {v : Value} {xs : List ByteArray} (h : OwnT w B v xs) : ∀ k, v.ownBlock = some k -> B <= k /\ k < w.heap.size := World.ownsRow.lt h
theorem OwnT.nil (w : World) (B : Nat) : OwnT w B (.slice none 0 0) [] := ⟨rfl, .inl ⟨rfl, rfl⟩⟩
def Strs (w : World) (A : Option Addr) (xs : List ByteArray) : Prop := Row w A (strs xs)
theorem Strs.keep {w w' : World} {A : Option Addr} {xs : List ByteArray} (h : Strs w A xs) (hb : Bel w w') : Strs w' A xs := Row.keep h hb
theorem Strs.nil {w : World} {A : Option Addr} : Strs w A [] := fun h => absurd h (by simp [strs])
theorem Strs.blk {w : World} {A : Option Addr} {xs : List ByteArray} (h : Strs w A xs) (h0 : 0 < xs.length) : ∃ b off, A = some ⟨b, off, none⟩ /\ b < w.heap.size /\ ∀ i x, xs[i]? = some x -> w.cell? ⟨b, off + i, none⟩ = some (.string x) := by
 obtain ⟨b, off, e, hl, hc⟩ := h (by simpa [strs] using h0)
 exact ⟨b, off, e, hl, fun i x hx => hc i _ (by simp [strs, hx])⟩
theorem OwnT.strs {w : World} {B : Nat} {v : Value} {xs : List ByteArray} (h : OwnT w B v xs) : ∃ A c, v = .slice A xs.length c /\ Strs w A xs /\ (A = none -> c = 0) := by
 obtain ⟨A, c, e, hr, h1, _⟩ := Qef h
 exact ⟨A, c, e, hr, h1⟩
theorem Qq9 {w : World} {n : Nat} (xs : List ByteArray) (hn : n = w.heap.size) : Strs (w.alloc (.cells (Go.Proofs.YtjckpkamhdbcnaaGreatDoor.strs xs).toArray 9)) (some ⟨n, 0, none⟩) xs := fun _ => by
 subst hn
 refine ⟨_, 0, rfl, by simp, fun j u hu => ?_⟩
 have hadd : (0 + j) = j := by omega
 rw [hadd, cell_of_row _ w.heap.size j _ _ _ (heap_alloc_new w _)]
 simpa using hu
theorem OwnT.holds {w : World} {B : Nat} {v : Value} {xs : List ByteArray} (h : OwnT w B v xs) (hv : xs ≠ []) :
  ∃ g cap, v = .slice (some ⟨g, 0, none⟩) xs.length cap /\ B <= g /\ g < w.heap.size /\ xs.length <= cap /\ cap <= maxLen /\ ∀ i x, xs[i]? = some x -> w.cell? ⟨g, 0 + i, none⟩ = some (.string x) /\ w.frozen? ⟨g, 0 + i, none⟩ = false := by
 have h' : w.ownsRow B 9 1 v xs.length (Go.Proofs.YtjckpkamhdbcnaaGreatDoor.strs xs) := h
 rcases h.2 with ⟨e0, e1⟩ | ⟨g, cap, cur, rfl, hb, hg, hn, hm, hs, ht⟩
 ·exact absurd (List.eq_nil_of_length_eq_zero e1) hv
 have hlt : g < w.heap.size := by
  rcases Nat.lt_or_ge g w.heap.size with h' | h'
  ·exact h'
  rw [Array.getElem?_eq_none h'] at hg; cases hg
 refine ⟨g, cap, rfl, hb, hlt, hn, hm, fun i x hx => ?_⟩
 have hc := h'.cells (g := g) rfl i (.string x) (by simp [Go.Proofs.YtjckpkamhdbcnaaGreatDoor.strs, hx])
 rw [Go.WideShapes.add_plain] at hc
 exact ⟨hc, by simp [World.frozen?, hg]⟩
theorem Qog {l : List ByteArray} (h : ∀ s, s ∉ l) : l = [] := List.eq_nil_iff_forall_not_mem.2 h
theorem Qra {d : Array (List UInt8)} (y : List UInt8) : ∀ m, m <= d.size -> (y ∈ compactUpTo d m ↔ ∃ j, j < m /\ d[j]! = y) := by
 intro m
 induction m with
 | zero => intro _; simp [compactUpTo]
 | succ m ih =>
  intro hm
  rw [compactUpTo_succ, List.mem_append, ih (by omega)]
  constructor
  ·rintro (⟨j, hj, e⟩ | h)
   ·exact ⟨j, by omega, e⟩
   by_cases k : keeps d m = true
   ·rw [iP k, List.mem_singleton] at h
    exact ⟨m, by omega, h.symm⟩
   rw [iN k] at h; cases h
  rintro ⟨j, hj, e⟩
  by_cases hj' : j < m
  ·exact .inl ⟨j, hj', e⟩
  obtain rfl : j = m := by omega
  by_cases k : keeps d j = true
  ·exact .inr (by rw [iP k, e]; simp)
  left
  simp [keeps] at k
  exact ⟨j - 1, by omega, by rw [← k.2, e]⟩
def bys (l : List ByteArray) : List (List UInt8) := l.map (·.toList)
def unb (l : List (List UInt8)) : List ByteArray := l.map fun x => ⟨x.toArray⟩
theorem Qhz (x : List UInt8) : (⟨x.toArray⟩ : ByteArray).toList = x := by rw [ByteArray.toList_eq]
theorem Qh0 (s : ByteArray) : (⟨s.toList.toArray⟩ : ByteArray) = s := (Qba _ _).1 (Qhz _)
theorem Qui (s : ByteArray) (l : List (List UInt8)) : s ∈ unb l ↔ s.toList ∈ l := by
 unfold unb
 rw [List.mem_map]
 constructor
 ·rintro ⟨x, hx, rfl⟩; rwa [Qhz]
 exact fun h => ⟨_, h, Qh0 s⟩
theorem Quj (s : ByteArray) (l : List ByteArray) : s.toList ∈ bys l ↔ s ∈ l := by
 unfold bys
 rw [List.mem_map]
 constructor
 ·rintro ⟨x, hx, e⟩; rw [(Qba _ _).1 e] at hx; exact hx
 exact fun h => ⟨s, h, rfl⟩
def sortc (l : List ByteArray) : List ByteArray := unb (compact ((bys l).mergeSort fun x y => decide (x <= y)))
theorem Qft (l : List ByteArray) (s : ByteArray) : s ∈ sortc l ↔ s ∈ l := by
 unfold sortc
 rw [Qui]
 unfold compact
 rw [Qra _ _ (by simp)]
 rw [← Quj, ← List.mem_mergeSort (le := fun x y => decide (x <= y))]
 generalize (bys l).mergeSort _ = k
 constructor
 ·rintro ⟨j, hj, e⟩
  rw [← e, getElem!_pos k.toArray j (by simpa using hj)]
  simp
 intro h
 obtain ⟨j, hj, e⟩ := List.getElem_of_mem h
 exact ⟨j, hj, by rw [getElem!_pos k.toArray j (by simpa using hj)]; simpa using e⟩
theorem Qgc (k : List (List UInt8)) : (compact k).length <= k.length := by
 unfold compact compactUpTo
 rw [List.length_map]
 exact Nat.le_trans (List.length_filter_le _ _) (by simp)
theorem Qh1 (l : List ByteArray) : (sortc l).length <= l.length := by
 unfold sortc unb
 rw [List.length_map]
 exact Nat.le_trans (Qgc _) (by simp [bys])
end
section
open Go.RowKit Go.Lib Go.Sort Go.Shelf
theorem Qoh {w : World} {g : Nat} {l : List ByteArray} (h : ∀ i x, l[i]? = some x -> w.cell? ⟨g, 0 + i, none⟩ = some (.string x) /\ w.frozen? ⟨g, 0 + i, none⟩ = false) : Holds encStr w g 0 (bys l).toArray := by
 intro j hj
 have hj' : j < l.length := by simpa [bys] using hj
 obtain ⟨h1, h2⟩ := h j l[j] (gE hj')
 refine ⟨?_, h2⟩
 rw [h1, getElem!_pos _ j hj]
 simp [encStr, bys, Qh0]
theorem Qlt {w : World} {g : Nat} {z : List (List UInt8)} {d : Array (List UInt8)} (hg : g < w.heap.size) (h : Holds encStr w g 0 d) (hz : ∀ i x, z[i]? = some x -> i < d.size /\ d[i]! = x) : Strs w (some ⟨g, 0, none⟩) (unb z) := fun _ => by
 refine ⟨g, 0, rfl, hg, fun j u hu => ?_⟩
 simp only [strs, unb, List.getElem?_map, Option.map_map] at hu
 cases hx : z[j]? with
 | none => rw [hx] at hu; cases hu
 | some x =>
  rw [hx] at hu
  obtain ⟨h1, h2⟩ := hz j x hx
  have h3 := (h j h1).1
  rw [h2] at h3
  simp only [Option.map_some, Option.some.injEq, Function.comp] at hu
  rw [h3, ← hu]
theorem Qkn {w0 w : World} (os : Array Obj) (h : Bel w0 w) : Bel w0 (grow w os) := ⟨h.os, h.tape, h.output, Nat.le_trans h.size (by simp [grow]), fun k hk => by
  rw [← Below.block h k hk]
  have hk2 : k < w.heap.size := lL hk h.size
  simp [grow, Array.getElem?_append, hk2]⟩
theorem Qlu {w : World} {g : Nat} {d : Array (List UInt8)} (os : Array Obj) (hg : g < w.heap.size) (h : Holds encStr w g 0 d) : Holds encStr (grow w os) g 0 d := by
 have hb : Bel w (grow w os) := Qkn os (Bel.refl _)
 intro j hj
 obtain ⟨h1, h2⟩ := h j hj
 exact ⟨(hb.cells _ _ hg).trans h1, (hb.frozens _ _ hg).trans h2⟩
theorem Qrb {l : List ByteArray} {w0 w : World} {g cap : Nat} (h0 : Bel w0 w) (hg0 : w0.heap.size <= g) (hg : g < w.heap.size) (hH : Holds encStr w g 0 (bys l).toArray) (hsz : l.length < 4611686018427387904) :
  Calls Tryz.prog 48 #[.slice (some ⟨g, 0, none⟩) l.length cap] w fun e w' =>
   e = .returned (.tuple #[]) /\ Holds encStr w' g 0 ((bys l).mergeSort fun x y => decide (x <= y)).toArray /\ g < w'.heap.size /\ Bel w0 w' := by
 have h := Any.slices_Sort_string Tryz.sortT g 0 cap (bys l) w hH hg (by simpa [bys] using hsz)
 change Calls Tryz.prog 48 _ _ _ at h
 rw [show (bys l).length = l.length by simp [bys]] at h
 refine h.mono fun e w' ⟨he, n, os, hw⟩ => ?_
 subst hw
 have hg' : g < (putRow encStr (Sort.ahead w n) g 0 ((bys l).mergeSort fun x y => decide (x <= y)).toArray).heap.size := by simpa using hg
 refine ⟨he, Qlu os hg' (holds_putRow encStr (Sort.ahead w n) g 0 (bys l).toArray _ (holds_ahead _ _ n _ _ _ hH) (by simp)), lL hg' (by simp [grow]), Qkn os (Lib.below_putRow h0 hg0)⟩
theorem Qrc {z : List (List UInt8)} {w0 w : World} {g cap : Nat} (h0 : Bel w0 w) (hg0 : w0.heap.size <= g) (hg : g < w.heap.size) (hH : Holds encStr w g 0 z.toArray) (hsz : z.length < 4611686018427387904) (hcap : z.length <= cap) :
  Calls Tryz.prog 49 #[.slice (some ⟨g, 0, none⟩) z.length cap] w fun e w' =>
   e = .returned (.slice (some ⟨g, 0, none⟩) (unb (compact z)).length cap) /\ Strs w' (some ⟨g, 0, none⟩) (unb (compact z)) /\ Bel w0 w' := by
 have h := AnyG.slices_Compact_string Tryz.compT g 0 cap z w hH (by omega) hcap
 change Calls Tryz.prog 49 _ _ _ at h
 refine h.mono fun e w' ⟨he, q, hw⟩ => ?_
 subst hw
 have hl := Qgc z
 refine ⟨by rw [he]; simp [unb], Qlt (by simpa using hg) (holds_putRow encStr (Sort.ahead w q) g 0 z.toArray _ (holds_ahead _ _ q _ _ _ hH) (by simp; omega)) (fun i x hx => ?_), Lib.below_putRow h0 hg0⟩
 have hi := (List.getElem?_eq_some_iff.1 hx).1
 have hd : i < (compact z ++ List.replicate (z.length - (compact z).length) []).toArray.size := by simp; omega
 refine ⟨hd, ?_⟩
 rw [getElem!_pos _ i hd]
 simp only [List.getElem_toArray]
 rw [List.getElem_append_left hi]
 exact (List.getElem?_eq_some_iff.1 hx).2
end
end Go.Proofs.YtjckpkamhdbcnaaGreatDoor
