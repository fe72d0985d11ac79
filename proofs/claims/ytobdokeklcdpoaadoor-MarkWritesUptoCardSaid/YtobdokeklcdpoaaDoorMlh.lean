import Derived.Test.YtobdokeklcdpoaaDoorMle
import Derived.Test.YtobdokeklcdpoaaDoorOpn
import Derived.Test.YtobdokeklcdpoaaDoorBulk
namespace Go.Proofs.YtobdokeklcdpoaaDoor
set_option linter.unusedSimpArgs false
set_option linter.unusedVariables false
open Go.ChangeShapes Go.WideShapes Go.ChangeAt Go.RowKit Go.Deep

/-! Lists handed in, of bounded bulk. -/
def Lists {D : Type} (enc : D → List Value) (k : Nat) (w : World) (A : Option Addr) (l : List D) : Prop :=
  0 < l.length → ∃ b off, A = some ⟨b, off, none⟩ ∧ b < w.heap.size ∧ ∀ i d, l[i]? = some d → ∀ j v, (enc d)[j]? = some v → w.cell? ⟨b, off + i * k + j, none⟩ = some v
set_option maxRecDepth 100000
section
variable {H : Type} {enc : TypeId × Value → H} {w : World} {base : Nat} {spare : Nat → Bool} {held : Bool} {fuel : Nat}
theorem open_list {D : Type} (dflt : D) (en : D → List Value) (k : Nat) (good : D → Prop) (N : Nat) {t e : TypeId} (ht : Tryd.prog.underlying t = some (.slice e)) (hk : Tryd.prog.cellsOf e = k) (hk0 : 0 < k) (hen : ∀ d, (en d).length = k)
    (op : ∀ {cs : List Value} {x : DataW H × List MemPlace} {fuel : Nat}, DataW.trod enc Tryd.prog w base spare held fuel e cs = some x → Rows.uptoBulk x.1 ≤ N → ∃ d, cs = en d ∧ good d)
    {cs : List Value} {x : DataW H × List MemPlace} (h : DataW.trod enc Tryd.prog w base spare held fuel t cs = some x) (hN : Rows.uptoBulk x.1 ≤ N) :
    ∃ (A : Option Addr) (c : Nat) (l : List D), cs = [.slice A l.length c] ∧ Lists en k w A l ∧ l.length ≤ N ∧ l.length ≤ c ∧ c ≤ maxLen ∧ ∀ d ∈ l, good d := by
  rcases open_slice ht h with ⟨hcs, _⟩ | ⟨ad, len, cap, m, n', E, Pl, hcs, _, hl, hm, hmm, hx, hi⟩
  · exact ⟨none, 0, [], hcs, fun h => absurd h (by simp), by simp, by simp, by simp, by simp⟩
  · have hlm : len ≤ m := by rw [hmm]; split <;> omega
    subst hx
    simp only at hN
    have hlen0 : ((List.range len).map E).length = len := by simp
    have hbl := bulk_slice ((List.range len).map E) ((List.range (m - len)).map fun j => E (len + j))
    rw [hlen0] at hbl
    have hEN : ∀ i, i < len → Rows.uptoBulk (E i) ≤ N := fun i hi' => by
      have h1 := bulk_mem (d := E i) (l := (List.range len).map E) (List.mem_map.2 ⟨i, List.mem_range.2 hi', rfl⟩)
      simp only [Rows.uptoBulk] at hN
      omega
    obtain ⟨b, off, spot⟩ := ad
    have key : ∀ i : Nat, ∃ d : D, i < len → spot = none ∧ b < w.heap.size ∧ (∀ j v, (en d)[j]? = some v → w.cell? ⟨b, off + i * k + j, none⟩ = some v) ∧ good d := by
      intro i
      by_cases hlt : i < len
      · obtain ⟨cs', hc, hd⟩ := hi i (by omega)
        rw [hk] at hc
        obtain ⟨d, rfl, hok⟩ := op hd (hEN i hlt)
        obtain ⟨_, _, hat⟩ := World.cells?_some hc
        obtain ⟨cs0, hc0, hd0⟩ := hi 0 (by omega)
        rw [hk] at hc0
        obtain ⟨d0, rfl, _⟩ := op hd0 (hEN 0 (by omega))
        have h00 := (World.cells?_some hc0).2.2 0 hk0
        simp only [Nat.zero_mul, Addr.add, if_true] at h00
        rw [List.getElem?_eq_getElem (by rw [hen]; exact hk0)] at h00
        have hspot : spot = none := by simpa using World.cell?_spot h00
        subst hspot
        have hblk := World.block_lt_of_cell? _ _ h00
        refine ⟨d, fun _ => ⟨rfl, hblk, fun j v hv => ?_, hok⟩⟩
        have hj : j < k := by
          have := (List.getElem?_eq_some_iff.1 hv).1
          rwa [hen] at this
        have a := hat j hj
        rw [hv] at a
        simp only [Go.WideShapes.add_plain] at a
        exact a
      · exact ⟨dflt, fun h => absurd h hlt⟩
    let V : Nat → D := fun i => Classical.choose (key i)
    have hV : ∀ i, i < len → spot = none ∧ b < w.heap.size ∧ (∀ j v, (en (V i))[j]? = some v → w.cell? ⟨b, off + i * k + j, none⟩ = some v) ∧ good (V i) := fun i => Classical.choose_spec (key i)
    have hlen : ((List.range len).map V).length = len := by simp
    refine ⟨some ⟨b, off, spot⟩, cap, (List.range len).map V, by rw [hlen]; exact hcs, fun h0 => ?_, by rw [hlen]; omega, by rw [hlen]; omega, hm, fun x hx => ?_⟩
    · rw [hlen] at h0
      obtain ⟨rfl, hb0, _⟩ := hV 0 h0
      refine ⟨b, off, rfl, hb0, fun i d hd => ?_⟩
      rw [List.getElem?_map] at hd
      by_cases hlt : i < len
      · rw [List.getElem?_range hlt] at hd
        simp only [Option.map_some, Option.some.injEq] at hd
        subst hd
        exact (hV i hlt).2.2.1
      · rw [List.getElem?_eq_none (by simpa using hlt)] at hd
        cases hd
    · rw [List.mem_map] at hx
      obtain ⟨i, hi', rfl⟩ := hx
      exact (hV i (List.mem_range.1 hi')).2.2.2
theorem Lists.ats {A : Option Addr} {l : List (List UInt8 × List UInt8)} (h : Lists attCells 2 w A l) : Row w A (atsCells l) := fun h0 => by
  rw [atsCells_len] at h0
  obtain ⟨b, off, hA, hlt, hc⟩ := h (by omega)
  refine ⟨b, off, hA, hlt, fun j u hu => ?_⟩
  have hj : j < 2 * l.length := by rw [← atsCells_len]; exact (List.getElem?_eq_some_iff.1 hu).1
  have hi : j / 2 < l.length := by omega
  have hr : j % 2 < (attCells l[j / 2]).length := Nat.mod_lt _ (by decide)
  have h1 := flat_at attCells 2 (fun _ => rfl) l (j / 2) (j % 2) l[j / 2] ((attCells l[j / 2])[j % 2]) (List.getElem?_eq_getElem hi) (List.getElem?_eq_getElem hr)
  rw [show j / 2 * 2 + j % 2 = j by omega] at h1
  have e : some u = some ((attCells l[j / 2])[j % 2]) := by rw [← hu, ← h1]; rfl
  have h2 := hc (j / 2) l[j / 2] (List.getElem?_eq_getElem hi) (j % 2) _ (List.getElem?_eq_getElem hr)
  rw [show off + j / 2 * 2 + j % 2 = off + j by omega] at h2
  rw [h2]
  exact e.symm
def encK (x : Mk × Option Addr × Nat) : List Value := mkHead x.1 x.2.1 x.2.2
theorem Lists.mks {A : Option Addr} {l : List (Mk × Option Addr × Nat)} (h : Lists encK 5 w A l) (hg : ∀ x ∈ l, Row w x.2.1 (atsCells x.1.attrs)) : Mks w A (l.map (·.1)) := fun h0 => by
  rw [List.length_map] at h0
  obtain ⟨b, off, hA, hlt, hc⟩ := h h0
  refine ⟨b, off, hA, hlt, fun j m hm => ?_⟩
  rw [List.getElem?_map] at hm
  cases hx : l[j]? with
  | none => rw [hx] at hm; cases hm
  | some x =>
    rw [hx] at hm
    simp only [Option.map_some, Option.some.injEq] at hm
    subst hm
    have g := hc j x hx
    exact ⟨x.2.1, x.2.2, g 0 _ rfl, g 1 _ rfl, g 2 _ rfl, g 3 _ rfl, g 4 _ rfl, hg x (List.mem_of_getElem? hx)⟩
theorem cellsA : Tryd.prog.cellsOf 48 = 2 := by kernel_rfl
theorem cellsM : Tryd.prog.cellsOf 31 = 5 := by kernel_rfl
theorem cellsI : Tryd.prog.cellsOf 3 = 1 := by kernel_rfl
theorem cellsS : Tryd.prog.cellsOf 9 = 1 := by kernel_rfl
theorem cellsLA : Tryd.prog.cellsOf 29 = 1 := by kernel_rfl
theorem trod_attr {cs : List Value} {x : DataW H × List MemPlace} (h : DataW.trod enc Tryd.prog w base spare held fuel 48 cs = some x) (hN : Rows.uptoBulk x.1 ≤ 1048576) :
    ∃ a : List UInt8 × List UInt8, cs = attCells a ∧ AtSml a := by
  obtain ⟨xs, m, _, hx, hl, hxs, hf⟩ := DataW.trod_struct (fs := Tryd.prog.fieldsOf 48) (by kernel_rfl) h
  have hz : (Tryd.prog.fieldsOf 48).size = 2 := by kernel_rfl
  rw [cellsA] at hl
  rw [hz] at hxs
  match cs, hl, xs, hxs with
  | [c0, c1], _, [x0, x1], _ =>
    obtain ⟨f0, g0, t0, o0⟩ := field_at (fs := Tryd.prog.fieldsOf 48) (i := 0) (t := 9) (o := 0) (by kernel_rfl)
    obtain ⟨f1, g1, t1, o1⟩ := field_at (fs := Tryd.prog.fieldsOf 48) (i := 1) (t := 9) (o := 1) (by kernel_rfl)
    have e0 := hf 0 f0 g0
    have e1 := hf 1 f1 g1
    rw [t0, o0, cellsS] at e0
    rw [t1, o1, cellsS] at e1
    obtain ⟨s0, k0, r0, _⟩ := DataW.trod_string (x := x0) Tryd.underlying9 e0
    obtain ⟨s1, k1, r1, _⟩ := DataW.trod_string (x := x1) Tryd.underlying9 e1
    simp at k0 k1
    subst k0 k1 r0 r1 hx
    simp only [List.map_cons, List.map_nil, Rows.uptoBulk, Rows.uptoBulkAll] at hN
    refine ⟨(s0.data.toList, s1.data.toList), ?_, ?_⟩
    · simp only [attCells, bytesOf_data]
    · unfold AtSml
      exact ⟨by simp only; omega, by simp only; omega⟩
theorem trod_mark {cs : List Value} {x : DataW H × List MemPlace} (h : DataW.trod enc Tryd.prog w base spare held fuel 31 cs = some x) (hN : Rows.uptoBulk x.1 ≤ 1048576) :
    ∃ y : Mk × Option Addr × Nat, cs = encK y ∧ Row w y.2.1 (atsCells y.1.attrs) ∧ Sml y.1 := by
  obtain ⟨xs, m, _, hx, hl, hxs, hf⟩ := DataW.trod_struct (fs := Tryd.prog.fieldsOf 31) (by kernel_rfl) h
  have hz : (Tryd.prog.fieldsOf 31).size = 5 := by kernel_rfl
  rw [cellsM] at hl
  rw [hz] at hxs
  match cs, hl, xs, hxs with
  | [c0, c1, c2, c3, c4], _, [x0, x1, x2, x3, x4], _ =>
    obtain ⟨f0, g0, t0, o0⟩ := field_at (fs := Tryd.prog.fieldsOf 31) (i := 0) (t := 3) (o := 0) (by kernel_rfl)
    obtain ⟨f1, g1, t1, o1⟩ := field_at (fs := Tryd.prog.fieldsOf 31) (i := 1) (t := 3) (o := 1) (by kernel_rfl)
    obtain ⟨f2, g2, t2, o2⟩ := field_at (fs := Tryd.prog.fieldsOf 31) (i := 2) (t := 9) (o := 2) (by kernel_rfl)
    obtain ⟨f3, g3, t3, o3⟩ := field_at (fs := Tryd.prog.fieldsOf 31) (i := 3) (t := 29) (o := 3) (by kernel_rfl)
    obtain ⟨f4, g4, t4, o4⟩ := field_at (fs := Tryd.prog.fieldsOf 31) (i := 4) (t := 9) (o := 4) (by kernel_rfl)
    have e0 := hf 0 f0 g0
    have e1 := hf 1 f1 g1
    have e2 := hf 2 f2 g2
    have e3 := hf 3 f3 g3
    have e4 := hf 4 f4 g4
    rw [t0, o0, cellsI] at e0
    rw [t1, o1, cellsI] at e1
    rw [t2, o2, cellsS] at e2
    rw [t3, o3, cellsLA] at e3
    rw [t4, o4, cellsS] at e4
    subst hx
    have hN3 : Rows.uptoBulk x3.1 ≤ 1048576 := by
      simp only [List.map_cons, List.map_nil, Rows.uptoBulk, Rows.uptoBulkAll] at hN
      omega
    obtain ⟨n0, k0, _, _⟩ := DataW.trod_int (x := x0) Tryd.underlying3 e0
    obtain ⟨n1, k1, _, _⟩ := DataW.trod_int (x := x1) Tryd.underlying3 e1
    obtain ⟨s2, k2, r2, _⟩ := DataW.trod_string (x := x2) Tryd.underlying9 e2
    obtain ⟨s4, k4, r4, _⟩ := DataW.trod_string (x := x4) Tryd.underlying9 e4
    obtain ⟨A, c, l, k3, p1, p2, p3, p4, p5⟩ := open_list (dflt := (([], []) : List UInt8 × List UInt8)) attCells 2 AtSml 1048576 Tryd.underlying29 cellsA (by omega) (fun _ => rfl) (fun h hN => trod_attr h hN) (x := x3) e3 hN3
    simp at k0 k1 k2 k3 k4
    subst k0 k1 k2 k3 k4 r2 r4
    simp only [List.map_cons, List.map_nil, Rows.uptoBulk, Rows.uptoBulkAll] at hN
    refine ⟨(⟨n0, n1, s2.data.toList, l, s4.data.toList⟩, A, c), ?_, p1.ats, ?_⟩
    · simp only [encK, mkHead, bytesOf_data]
    · exact ⟨by simp only; omega, by simp only; omega, p2, p5⟩
theorem open_marks {r : Reach} {v : Value} {d : DataW H} {p : List MemPlace} (hv : Value.okWide Tryd.prog w r base 22 v) (h : DataW.Trod enc Tryd.prog w 0 spare held 22 v d p) (hN : Rows.uptoBulk d ≤ 1048576) :
    ∃ (A : Option Addr) (c : Nat) (ms : List Mk), v = .slice A ms.length c ∧ Mks w A ms ∧ ms.length ≤ 1048576 ∧ ms.length ≤ c ∧ c ≤ maxLen ∧ ∀ m ∈ ms, Sml m := by
  obtain ⟨a, len, cap, rfl⟩ := okWide_slice Tryd.underlying22 hv
  obtain ⟨n, hn⟩ := h
  obtain ⟨A, c, l, h1, h2, h3, h4, h5, h6⟩ := open_list (dflt := ((⟨0, 0, [], [], []⟩, none, 0) : Mk × Option Addr × Nat)) encK 5 (fun y => Row w y.2.1 (atsCells y.1.attrs) ∧ Sml y.1) 1048576 Tryd.underlying22 cellsM (by omega) (fun _ => rfl) (fun h hN => by
    obtain ⟨y, q1, q2⟩ := trod_mark h hN
    exact ⟨y, q1, q2⟩) hn hN
  refine ⟨A, c, l.map (·.1), ?_, h2.mks fun x hx => (h6 x hx).1, by rw [List.length_map]; exact h3, by rw [List.length_map]; exact h4, h5, fun m hm => ?_⟩
  · rw [List.length_map]
    simpa [Value.cells] using h1
  · obtain ⟨x, hx, rfl⟩ := List.mem_map.1 hm
    exact (h6 x hx).2
end
end Go.Proofs.YtobdokeklcdpoaaDoor
