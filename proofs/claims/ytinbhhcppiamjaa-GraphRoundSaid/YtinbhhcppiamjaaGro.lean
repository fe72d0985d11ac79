import Derived.Test.YtinbhhcppiamjaaGrr
import Derived.Test.YtinbhhcppiamjaaRow
import Derived.Deep.Strs
namespace Go.Proofs.Ytinbhhcppiamjaa
set_option linter.unusedSimpArgs false
set_option linter.unusedVariables false
open Go.ChangeShapes Go.WideShapes Go.ChangeAt Go.RowKit Go.Deep

/-! Lists of strings, and lists of those: handed in. -/
/-- A list of strings as it lies in a cell. -/
structure Sl where
  A : Option Addr
  c : Nat
  l : List ByteArray
instance : Inhabited Sl := ⟨⟨none, 0, []⟩⟩
def encSl (d : Sl) : List Value := [.slice d.A d.l.length d.c]
structure SlOk (w : World) (d : Sl) : Prop where
  strs : Strs w d.A d.l
  fits : ∀ s ∈ d.l, Fits s
  len : d.l.length ≤ 9223372036854775807
theorem SlOk.keep {w w' : World} {d : Sl} (h : SlOk w d) (hb : Bel w w') : SlOk w' d := ⟨h.strs.keep hb, h.fits, h.len⟩
/-- A list of lists of strings, at an address. -/
structure Nds (w : World) (A : Option Addr) (ls : List Sl) : Prop where
  row : Row w A (ls.map fun d => .slice d.A d.l.length d.c)
  ok : ∀ d ∈ ls, SlOk w d
theorem Nds.keep {w w' : World} {A : Option Addr} {ls : List Sl} (h : Nds w A ls) (hb : Bel w w') : Nds w' A ls := ⟨h.row.keep hb, fun d hd => (h.ok d hd).keep hb⟩
theorem Nds.blk {w : World} {A : Option Addr} {ls : List Sl} (h : Nds w A ls) (h0 : 0 < ls.length) : ∃ b off, A = some ⟨b, off, none⟩ ∧ b < w.heap.size ∧ ∀ i d, ls[i]? = some d → w.cell? ⟨b, off + i, none⟩ = some (.slice d.A d.l.length d.c) := by
  obtain ⟨b, off, e, hl, hc⟩ := h.row (by simpa using h0)
  exact ⟨b, off, e, hl, fun i d hd => hc i _ (by simp [hd])⟩
theorem cellsStr : Try.prog.cellsOf 9 = 1 := by kernel_rfl
theorem cellsSs : Try.prog.cellsOf 22 = 1 := by kernel_rfl
section
variable {H : Type} {enc : TypeId × Value → H} {w : World} {base : Nat} {spare : Nat → Bool} {held : Bool}
set_option maxRecDepth 100000 in
theorem open_tx {fuel : Nat} {cs : List Value} {x : DataW H × List MemPlace} (h : DataW.trod enc Try.prog w base spare held fuel 22 cs = some x) :
    ∃ d : Sl, cs = [.slice d.A d.l.length d.c] ∧ SlOk w d := by
  rcases open_strs Try.underlying22 Try.underlying9 cellsStr h with ⟨rfl, rfl⟩ | ⟨a, len, cap, m, Sx, rfl, _, hl, hcm, hmm, rfl, hi⟩
  · exact ⟨⟨none, 0, []⟩, rfl, Strs.nil, by simp, by simp⟩
  · have hlm : len ≤ m := by rw [hmm]; split <;> omega
    refine ⟨⟨some a, cap, (List.range len).map Sx⟩, by simp, ?_, fun s hs => ?_, by unfold maxLen at hcm; simp; omega⟩
    · intro h0
      obtain ⟨b, off, spot⟩ := a
      have h0' : 0 < len := by simpa [Go.Proofs.Ytinbhhcppiamjaa.strs] using h0
      have c0 := (hi 0 (by omega)).1
      have hspot : spot = none := by simpa [Addr.add] using World.cell?_spot c0
      subst hspot
      have hblk := World.block_lt_of_cell? _ _ c0
      refine ⟨b, off, rfl, by simpa [Addr.add] using hblk, fun j u hu => ?_⟩
      simp only [Go.Proofs.Ytinbhhcppiamjaa.strs, List.getElem?_map] at hu
      by_cases hlt : j < len
      · rw [List.getElem?_range hlt] at hu
        simp only [Option.map_some, Option.some.injEq] at hu
        subst hu
        have := (hi j (by omega)).1
        rwa [Go.WideShapes.add_plain] at this
      · rw [List.getElem?_eq_none (by simpa using hlt)] at hu
        cases hu
    · rw [List.mem_map] at hs
      obtain ⟨i, hi', rfl⟩ := hs
      have := (hi i (by have := List.mem_range.1 hi'; omega)).2
      unfold Fits
      unfold maxLen at this
      omega
set_option maxRecDepth 100000 in
theorem open_names {r : Reach} {v : Value} {d : DataW H} {p : List MemPlace} (hv : Value.okWide Try.prog w r base 22 v) (h : DataW.Trod enc Try.prog w 0 spare held 22 v d p) :
    ∃ d : Sl, v = .slice d.A d.l.length d.c ∧ SlOk w d := by
  obtain ⟨a, len, cap, rfl⟩ := okWide_slice Try.underlying22 hv
  obtain ⟨n, hn⟩ := h
  obtain ⟨x, hcs, hok⟩ := open_tx hn
  simp only [Value.cells, List.cons.injEq, and_true] at hcs
  exact ⟨x, hcs, hok⟩
set_option maxRecDepth 100000 in
theorem open_needs {r : Reach} {v : Value} {d : DataW H} {p : List MemPlace} (hv : Value.okWide Try.prog w r base 23 v) (h : DataW.Trod enc Try.prog w 0 spare held 23 v d p) :
    ∃ (A : Option Addr) (c : Nat) (ls : List Sl), v = .slice A ls.length c ∧ Nds w A ls ∧ ls.length ≤ 9223372036854775807 := by
  obtain ⟨a, len0, cap0, rfl⟩ := okWide_slice Try.underlying23 hv
  obtain ⟨n, hn⟩ := h
  rcases open_slice Try.underlying23 hn with ⟨hcs, _⟩ | ⟨ad, len, cap, m, n', E, Pl, hcs, _, hl, hm, hmm, hx, hi⟩
  · simp only [Value.cells, List.cons.injEq, and_true] at hcs
    exact ⟨none, 0, [], hcs, ⟨Row.nil, by simp⟩, by simp⟩
  · simp only [Value.cells, List.cons.injEq, and_true] at hcs
    have hlm : len ≤ m := by rw [hmm]; split <;> omega
    obtain ⟨b, off, spot⟩ := ad
    have key : ∀ i : Nat, ∃ d : Sl, i < len → spot = none ∧ b < w.heap.size ∧ w.cell? ⟨b, off + i, none⟩ = some (.slice d.A d.l.length d.c) ∧ SlOk w d := by
      intro i
      by_cases hlt : i < len
      · obtain ⟨cs', hc, hd⟩ := hi i (by omega)
        rw [cellsSs] at hc
        obtain ⟨d, rfl, hok⟩ := open_tx hd
        obtain ⟨_, _, hat⟩ := World.cells?_some hc
        have a0 := hat 0 (by omega)
        simp only [List.getElem?_cons_zero] at a0
        obtain ⟨cs1, hc1, hd1⟩ := hi 0 (by omega)
        rw [cellsSs] at hc1
        obtain ⟨d1, rfl, _⟩ := open_tx hd1
        have b0 := (World.cells?_some hc1).2.2 0 (by omega)
        simp only [Nat.zero_mul, Addr.add, if_true, List.getElem?_cons_zero] at b0
        have hspot : spot = none := by simpa using World.cell?_spot b0
        subst hspot
        have hblk := World.block_lt_of_cell? _ _ b0
        simp only [Go.WideShapes.add_plain, Nat.mul_one, Nat.add_zero] at a0
        exact ⟨d, fun _ => ⟨rfl, by simpa using hblk, a0, hok⟩⟩
      · exact ⟨default, fun h => absurd h hlt⟩
    let V : Nat → Sl := fun i => Classical.choose (key i)
    have hV : ∀ i, i < len → spot = none ∧ b < w.heap.size ∧ w.cell? ⟨b, off + i, none⟩ = some (.slice (V i).A (V i).l.length (V i).c) ∧ SlOk w (V i) := fun i => Classical.choose_spec (key i)
    have hlen : ((List.range len).map V).length = len := by simp
    refine ⟨some ⟨b, off, spot⟩, cap, (List.range len).map V, by rw [hlen]; exact hcs, ⟨fun h0 => ?_, fun x hx => ?_⟩, by rw [hlen]; unfold maxLen at hm; omega⟩
    · have h0' : 0 < len := by simpa using h0
      obtain ⟨rfl, hb0, _⟩ := hV 0 h0'
      refine ⟨b, off, rfl, hb0, fun i u hu => ?_⟩
      rw [List.getElem?_map, List.getElem?_map] at hu
      by_cases hlt : i < len
      · rw [List.getElem?_range hlt] at hu
        simp only [Option.map_some, Option.some.injEq] at hu
        subst hu
        exact (hV i hlt).2.2.1
      · rw [List.getElem?_eq_none (by simpa using hlt)] at hu
        cases hu
    · rw [List.mem_map] at hx
      obtain ⟨i, hi', rfl⟩ := hx
      exact (hV i (List.mem_range.1 hi')).2.2.2
end
end Go.Proofs.Ytinbhhcppiamjaa
