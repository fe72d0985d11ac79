import Derived.Test.YtemciabindjkeaaDoorWst
import Derived.Test.YtemciabindjkeaaDoorWdd
import Derived.Test.YtemciabindjkeaaDoorBulk
import Derived.Test.YtemciabindjkeaaDoorRow
import Derived.Deep.Strs
import Derived.Lib.SmallJoins
import Derived.SizedLaws
namespace Go.Proofs.YtemciabindjkeaaDoor
set_option linter.unusedSimpArgs false
set_option linter.unusedVariables false
open Go.ChangeShapes Go.WideShapes Go.ChangeAt Go.RowKit Go.Deep

/-! Lists of strings, sets of strings: handed in. -/
theorem cellsStr : Tryd.prog.cellsOf 9 = 1 := by kernel_rfl
theorem bytesStr : Tryd.prog.bytesOf 9 = 16 := by kernel_rfl
theorem cellsWords : Tryd.prog.cellsOf 24 = 2 := by kernel_rfl
def IsList {H : Type} (d : DataW H) (n : Nat) : Prop := n = 0 ∨ ∃ es sp : List (DataW H), d = .slice es sp ∧ es.length = n
section
variable {H : Type} {enc : TypeId × Value → H} {w : World} {base : Nat} {spare : Nat → Bool} {held : Bool}
set_option maxRecDepth 100000 in
theorem open_tx {fuel : Nat} {cs : List Value} {x : DataW H × List MemPlace} (h : DataW.trod enc Tryd.prog w base spare held fuel 22 cs = some x) :
    ∃ (A : Option Addr) (c : Nat) (l : List ByteArray), cs = [.slice A l.length c] ∧ Strs w A l ∧ (∀ s ∈ l, Fits s) ∧ (A = none → c = 0) ∧ IsList x.1 l.length := by
  rcases open_strs Tryd.underlying22 Tryd.underlying9 cellsStr h with ⟨rfl, rfl⟩ | ⟨a, len, cap, m, Sx, rfl, _, hl, _, hmm, rfl, hi⟩
  · exact ⟨none, 0, [], rfl, Strs.nil, by simp, fun _ => rfl, .inl rfl⟩
  · have hlm : len ≤ m := by rw [hmm]; split <;> omega
    refine ⟨some a, cap, (List.range len).map Sx, by simp, ?_, fun s hs => ?_, fun h => by (cases h), .inr ⟨_, _, rfl, by simp⟩⟩
    · intro h0
      obtain ⟨b, off, spot⟩ := a
      have h0' : 0 < len := by simpa [Go.Proofs.YtemciabindjkeaaDoor.strs] using h0
      have c0 := (hi 0 (by omega)).1
      have hspot : spot = none := by simpa [Addr.add] using World.cell?_spot c0
      subst hspot
      have hblk := World.block_lt_of_cell? _ _ c0
      refine ⟨b, off, rfl, by simpa [Addr.add] using hblk, fun j u hu => ?_⟩
      simp only [Go.Proofs.YtemciabindjkeaaDoor.strs, List.getElem?_map] at hu
      by_cases hlt : j < len
      · rw [List.getElem?_range hlt] at hu
        simp only [Option.map_some, Option.some.injEq] at hu
        subst hu
        have := (hi j (by omega)).1
        rwa [Go.WideShapes.add_plain] at this
      · rw [List.getElem?_eq_none (by simpa using hlt)] at hu
        cases hu
    · rw [List.mem_map] at hs
      obtain ⟨i, hi', rfl⟩ := hs
      have := (hi i (by have := List.mem_range.1 hi'; omega)).2
      unfold Fits
      unfold maxLen at this
      omega
set_option maxRecDepth 100000 in
theorem open_txs {r : Reach} {v : Value} {d : DataW H} {p : List MemPlace} (hv : Value.okWide Tryd.prog w r base 22 v) (h : DataW.Trod enc Tryd.prog w 0 spare held 22 v d p) :
    ∃ (A : Option Addr) (c : Nat) (l : List ByteArray), v = .slice A l.length c ∧ Strs w A l ∧ (∀ s ∈ l, Fits s) ∧ (A = none → c = 0) ∧ IsList d l.length := by
  obtain ⟨a, len, cap, rfl⟩ := okWide_slice Tryd.underlying22 hv
  obtain ⟨n, hn⟩ := h
  obtain ⟨A, c, l, hcs, h1, h2, h3, h4⟩ := open_tx hn
  simp only [Value.cells, List.cons.injEq, and_true] at hcs
  exact ⟨A, c, l, hcs, h1, h2, h3, h4⟩
set_option maxRecDepth 100000 in
theorem open_words {r : Reach} {v : Value} {d : DataW H} {p : List MemPlace} (hv : Value.okWide Tryd.prog w r base 24 v) (h : DataW.Trod enc Tryd.prog w 0 spare held 24 v d p) :
    ∃ (all : Bool) (A : Option Addr) (c : Nat) (l : List ByteArray) (d0 d1 : DataW H), v = .agg #[.bool all, .slice A l.length c] ∧ d = .agg [d0, d1] ∧ Strs w A l ∧ (∀ s ∈ l, Fits s) ∧ (A = none → c = 0) ∧ IsList d1 l.length := by
  obtain ⟨v0, v1, y0, y1, n, rfl, rfl, rfl, h0, h1⟩ := Joins.open_agg2 Tryd.underlying24 (by kernel_rfl) cellsWords hv h
  obtain ⟨A, c, l, hcs, g1, g2, g3, g4⟩ := open_tx h1
  obtain ⟨b, e0, _⟩ := DataW.trod_bool Tryd.underlying4 h0
  simp only [List.cons.injEq, and_true] at hcs e0
  subst hcs e0
  exact ⟨b, A, c, l, _, _, rfl, rfl, g1, g2, g3, g4⟩
end
section
variable {H : Type} {P : Program} {ts : List TypeId} {ds : List (DataW H)}
theorem sized_list (h : (DataW.weightsEach Tryd.prog ts ds).all (· ≤ reachBytes) = true) {j n : Nat} {d : DataW H} (ht : ts[j]? = some 22) (hd : ds[j]? = some d) (hl : IsList d n) : n * 16 ≤ 140737488351232 := by
  rcases hl with rfl | ⟨es, sp, rfl, rfl⟩
  · omega
  · have := sized_slice h ht hd Tryd.underlying22
    rw [bytesStr] at this
    unfold reachBytes at this
    omega
theorem sized_words (h : (DataW.weightsEach Tryd.prog ts ds).all (· ≤ reachBytes) = true) {j n : Nat} {d0 d1 : DataW H} (ht : ts[j]? = some 24) (hd : ds[j]? = some (.agg [d0, d1])) (hl : IsList d1 n) : n * 16 ≤ 140737488351232 := by
  refine sized_list (ts := [4, 22]) (ds := [d0, d1]) (j := 1) (List.all_eq_true.2 fun k hk => List.all_eq_true.1 h k (DataW.weights_mem_each ht hd k ?_)) rfl rfl hl
  rw [DataW.weights]
  rw [Tryd.underlying24]
  exact hk
theorem bulk_words {l : List (DataW H)} (hk : Rows.uptoSmall H l = true) {n : Nat} {d0 d1 : DataW H} (hd : DataW.agg [d0, d1] ∈ l) (hl : IsList d1 n) : n ≤ 1048575 := by
  rcases hl with rfl | ⟨es, sp, rfl, rfl⟩
  · omega
  · have h1 := bulk_mem hd
    have h2 := bulk_of hk
    have h3 := bulk_len es
    simp only [Rows.uptoBulk, Rows.uptoBulkAll] at h1
    omega
end
end Go.Proofs.YtemciabindjkeaaDoor
