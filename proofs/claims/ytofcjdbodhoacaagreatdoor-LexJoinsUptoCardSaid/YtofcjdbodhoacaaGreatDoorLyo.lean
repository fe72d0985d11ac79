import Derived.Test.YtofcjdbodhoacaaGreatDoorLxr
import Derived.Test.YtofcjdbodhoacaaGreatDoorOpn
import Derived.Test.YtofcjdbodhoacaaGreatDoorBulk
namespace Go.Proofs.YtofcjdbodhoacaaGreatDoor
set_option linter.unusedSimpArgs false
set_option linter.unusedVariables false
open Go.ChangeShapes Go.WideShapes Go.ChangeAt Go.RowKit Go.Deep

/-! Lists of tokens handed in. -/
def Lists {D : Type} (enc : D → List Value) (k : Nat) (w : World) (A : Option Addr) (l : List D) : Prop :=
  0 < l.length → ∃ b off, A = some ⟨b, off, none⟩ ∧ b < w.heap.size ∧ ∀ i d, l[i]? = some d → ∀ j v, (enc d)[j]? = some v → w.cell? ⟨b, off + i * k + j, none⟩ = some v
set_option maxRecDepth 100000
section
variable {H : Type} {enc : TypeId × Value → H} {w : World} {base : Nat} {spare : Nat → Bool} {held : Bool} {fuel : Nat}
theorem open_list {D : Type} (dflt : D) (en : D → List Value) (k : Nat) (good : D → Prop) (N : Nat) {t e : TypeId} (ht : Tryz.prog.underlying t = some (.slice e)) (hk : Tryz.prog.cellsOf e = k) (hk0 : 0 < k) (hen : ∀ d, (en d).length = k)
    (op : ∀ {cs : List Value} {x : DataW H × List MemPlace} {fuel : Nat}, DataW.trod enc Tryz.prog w base spare held fuel e cs = some x → Rows.uptoBulk x.1 ≤ N → ∃ d, cs = en d ∧ good d)
    {cs : List Value} {x : DataW H × List MemPlace} (h : DataW.trod enc Tryz.prog w base spare held fuel t cs = some x) (hN : Rows.uptoBulk x.1 ≤ N) :
    ∃ (A : Option Addr) (c : Nat) (l : List D), cs = [.slice A l.length c] ∧ Lists en k w A l ∧ l.length ≤ N ∧ l.length ≤ c ∧ c ≤ maxLen ∧ ∀ d ∈ l, good d := by
  rcases open_slice ht h with ⟨hcs, _⟩ | ⟨ad, len, cap, m, n', E, Pl, hcs, _, hl, hm, hmm, hx, hi⟩
  · exact ⟨none, 0, [], hcs, fun h => absurd h (by simp), by simp, by simp, by simp, by simp⟩
  · have hlm : len ≤ m := by rw [hmm]; split <;> omega
    subst hx
    simp only at hN
    have hlen0 : ((List.range len).map E).length = len := by simp
    have hbl := bulk_slice ((List.range len).map E) ((List.range (m - len)).map fun j => E (len + j))
    rw [hlen0] at hbl
    have hEN : ∀ i, i < len → Rows.uptoBulk (E i) ≤ N := fun i hi' => by
      have h1 := bulk_mem (d := E i) (l := (List.range len).map E) (List.mem_map.2 ⟨i, List.mem_range.2 hi', rfl⟩)
      simp only [Rows.uptoBulk] at hN
      omega
    obtain ⟨b, off, spot⟩ := ad
    have key : ∀ i : Nat, ∃ d : D, i < len → spot = none ∧ b < w.heap.size ∧ (∀ j v, (en d)[j]? = some v → w.cell? ⟨b, off + i * k + j, none⟩ = some v) ∧ good d := by
      intro i
      by_cases hlt : i < len
      · obtain ⟨cs', hc, hd⟩ := hi i (by omega)
        rw [hk] at hc
        obtain ⟨d, rfl, hok⟩ := op hd (hEN i hlt)
        obtain ⟨_, _, hat⟩ := World.cells?_some hc
        obtain ⟨cs0, hc0, hd0⟩ := hi 0 (by omega)
        rw [hk] at hc0
        obtain ⟨d0, rfl, _⟩ := op hd0 (hEN 0 (by omega))
        have h00 := (World.cells?_some hc0).2.2 0 hk0
        simp only [Nat.zero_mul, Addr.add, if_true] at h00
        rw [List.getElem?_eq_getElem (by rw [hen]; exact hk0)] at h00
        have hspot : spot = none := by simpa using World.cell?_spot h00
        subst hspot
        have hblk := World.block_lt_of_cell? _ _ h00
        refine ⟨d, fun _ => ⟨rfl, hblk, fun j v hv => ?_, hok⟩⟩
        have hj : j < k := by
          have := (List.getElem?_eq_some_iff.1 hv).1
          rwa [hen] at this
        have a := hat j hj
        rw [hv] at a
        simp only [Go.WideShapes.add_plain] at a
        exact a
      · exact ⟨dflt, fun h => absurd h hlt⟩
    let V : Nat → D := fun i => Classical.choose (key i)
    have hV : ∀ i, i < len → spot = none ∧ b < w.heap.size ∧ (∀ j v, (en (V i))[j]? = some v → w.cell? ⟨b, off + i * k + j, none⟩ = some v) ∧ good (V i) := fun i => Classical.choose_spec (key i)
    have hlen : ((List.range len).map V).length = len := by simp
    refine ⟨some ⟨b, off, spot⟩, cap, (List.range len).map V, by rw [hlen]; exact hcs, fun h0 => ?_, by rw [hlen]; omega, by rw [hlen]; omega, hm, fun x hx => ?_⟩
    · rw [hlen] at h0
      obtain ⟨rfl, hb0, _⟩ := hV 0 h0
      refine ⟨b, off, rfl, hb0, fun i d hd => ?_⟩
      rw [List.getElem?_map] at hd
      by_cases hlt : i < len
      · rw [List.getElem?_range hlt] at hd
        simp only [Option.map_some, Option.some.injEq] at hd
        subst hd
        exact (hV i hlt).2.2.1
      · rw [List.getElem?_eq_none (by simpa using hlt)] at hd
        cases hd
    · rw [List.mem_map] at hx
      obtain ⟨i, hi', rfl⟩ := hx
      exact (hV i (List.mem_range.1 hi')).2.2.2
theorem open_listP {D : Type} (dflt : D) (en : D → List Value) (k : Nat) (good : D → Prop) {t e : TypeId} (ht : Tryz.prog.underlying t = some (.slice e)) (hk : Tryz.prog.cellsOf e = k) (hk0 : 0 < k) (hen : ∀ d, (en d).length = k)
    (op : ∀ {cs : List Value} {x : DataW H × List MemPlace} {fuel : Nat}, DataW.trod enc Tryz.prog w base spare held fuel e cs = some x → ∃ d, cs = en d ∧ good d)
    {cs : List Value} {x : DataW H × List MemPlace} (h : DataW.trod enc Tryz.prog w base spare held fuel t cs = some x) :
    ∃ (A : Option Addr) (c : Nat) (l : List D), cs = [.slice A l.length c] ∧ Lists en k w A l ∧ l.length ≤ maxLen ∧ l.length ≤ c ∧ c ≤ maxLen ∧ ∀ d ∈ l, good d := by
  rcases open_slice ht h with ⟨hcs, _⟩ | ⟨ad, len, cap, m, n', E, Pl, hcs, _, hl, hm, hmm, hx, hi⟩
  · exact ⟨none, 0, [], hcs, fun h => absurd h (by simp), by simp, by simp, by simp, by simp⟩
  · have hlm : len ≤ m := by rw [hmm]; split <;> omega
    subst hx
    have hlen0 : ((List.range len).map E).length = len := by simp
    obtain ⟨b, off, spot⟩ := ad
    have key : ∀ i : Nat, ∃ d : D, i < len → spot = none ∧ b < w.heap.size ∧ (∀ j v, (en d)[j]? = some v → w.cell? ⟨b, off + i * k + j, none⟩ = some v) ∧ good d := by
      intro i
      by_cases hlt : i < len
      · obtain ⟨cs', hc, hd⟩ := hi i (by omega)
        rw [hk] at hc
        obtain ⟨d, rfl, hok⟩ := op hd
        obtain ⟨_, _, hat⟩ := World.cells?_some hc
        obtain ⟨cs0, hc0, hd0⟩ := hi 0 (by omega)
        rw [hk] at hc0
        obtain ⟨d0, rfl, _⟩ := op hd0
        have h00 := (World.cells?_some hc0).2.2 0 hk0
        simp only [Nat.zero_mul, Addr.add, if_true] at h00
        rw [List.getElem?_eq_getElem (by rw [hen]; exact hk0)] at h00
        have hspot : spot = none := by simpa using World.cell?_spot h00
        subst hspot
        have hblk := World.block_lt_of_cell? _ _ h00
        refine ⟨d, fun _ => ⟨rfl, hblk, fun j v hv => ?_, hok⟩⟩
        have hj : j < k := by
          have := (List.getElem?_eq_some_iff.1 hv).1
          rwa [hen] at this
        have a := hat j hj
        rw [hv] at a
        simp only [Go.WideShapes.add_plain] at a
        exact a
      · exact ⟨dflt, fun h => absurd h hlt⟩
    let V : Nat → D := fun i => Classical.choose (key i)
    have hV : ∀ i, i < len → spot = none ∧ b < w.heap.size ∧ (∀ j v, (en (V i))[j]? = some v → w.cell? ⟨b, off + i * k + j, none⟩ = some v) ∧ good (V i) := fun i => Classical.choose_spec (key i)
    have hlen : ((List.range len).map V).length = len := by simp
    refine ⟨some ⟨b, off, spot⟩, cap, (List.range len).map V, by rw [hlen]; exact hcs, fun h0 => ?_, by rw [hlen]; omega, by rw [hlen]; omega, hm, fun x hx => ?_⟩
    · rw [hlen] at h0
      obtain ⟨rfl, hb0, _⟩ := hV 0 h0
      refine ⟨b, off, rfl, hb0, fun i d hd => ?_⟩
      rw [List.getElem?_map] at hd
      by_cases hlt : i < len
      · rw [List.getElem?_range hlt] at hd
        simp only [Option.map_some, Option.some.injEq] at hd
        subst hd
        exact (hV i hlt).2.2.1
      · rw [List.getElem?_eq_none (by simpa using hlt)] at hd
        cases hd
    · rw [List.mem_map] at hx
      obtain ⟨i, hi', rfl⟩ := hx
      exact (hV i (List.mem_range.1 hi')).2.2.2

theorem cellsTk : Tryz.prog.cellsOf 38 = 6 := by kernel_rfl
theorem cellsDe : Tryz.prog.cellsOf 36 = 2 := by kernel_rfl
theorem cellsI : Tryz.prog.cellsOf 3 = 1 := by kernel_rfl
theorem cellsS : Tryz.prog.cellsOf 9 = 1 := by kernel_rfl
theorem trod_dec {cs : List Value} {x : DataW H × List MemPlace} (h : DataW.trod enc Tryz.prog w base spare held fuel 36 cs = some x) :
    ∃ n s : Int, cs = [.int .i64 n, .int .i64 s] := by
  obtain ⟨xs, m, _, _, hl, hxs, hf⟩ := DataW.trod_struct (fs := Tryz.prog.fieldsOf 36) (by kernel_rfl) h
  have hz : (Tryz.prog.fieldsOf 36).size = 2 := by kernel_rfl
  rw [cellsDe] at hl
  rw [hz] at hxs
  match cs, hl, xs, hxs with
  | [c0, c1], _, [x0, x1], _ =>
    obtain ⟨f0, g0, t0, o0⟩ := field_at (fs := Tryz.prog.fieldsOf 36) (i := 0) (t := 3) (o := 0) (by kernel_rfl)
    obtain ⟨f1, g1, t1, o1⟩ := field_at (fs := Tryz.prog.fieldsOf 36) (i := 1) (t := 3) (o := 1) (by kernel_rfl)
    have e0 := hf 0 f0 g0
    have e1 := hf 1 f1 g1
    rw [t0, o0, cellsI] at e0
    rw [t1, o1, cellsI] at e1
    obtain ⟨n0, k0, _, w0⟩ := DataW.trod_int Tryz.underlying3 e0
    obtain ⟨n1, k1, _, w1⟩ := DataW.trod_int Tryz.underlying3 e1
    simp at k0 k1
    subst k0 k1
    exact ⟨n0, n1, rfl⟩
theorem trod_tok {cs : List Value} {x : DataW H × List MemPlace} (h : DataW.trod enc Tryz.prog w base spare held fuel 38 cs = some x) :
    ∃ t : Tok, cs = tkCells t ∧ t.text.length ≤ 9223372036854775807 ∧ t.text.length ≤ Rows.uptoBulk x.1 := by
  obtain ⟨xs, m, _, hx, hl, hxs, hf⟩ := DataW.trod_struct (fs := Tryz.prog.fieldsOf 38) (by kernel_rfl) h
  have hz : (Tryz.prog.fieldsOf 38).size = 5 := by kernel_rfl
  rw [cellsTk] at hl
  rw [hz] at hxs
  match cs, hl, xs, hxs with
  | [c0, c1, c2, c3, c4, c5], _, [x0, x1, x2, x3, x4], _ =>
    obtain ⟨f0, g0, t0, o0⟩ := field_at (fs := Tryz.prog.fieldsOf 38) (i := 0) (t := 3) (o := 0) (by kernel_rfl)
    obtain ⟨f1, g1, t1, o1⟩ := field_at (fs := Tryz.prog.fieldsOf 38) (i := 1) (t := 3) (o := 1) (by kernel_rfl)
    obtain ⟨f2, g2, t2, o2⟩ := field_at (fs := Tryz.prog.fieldsOf 38) (i := 2) (t := 9) (o := 2) (by kernel_rfl)
    obtain ⟨f3, g3, t3, o3⟩ := field_at (fs := Tryz.prog.fieldsOf 38) (i := 3) (t := 36) (o := 3) (by kernel_rfl)
    obtain ⟨f4, g4, t4, o4⟩ := field_at (fs := Tryz.prog.fieldsOf 38) (i := 4) (t := 3) (o := 5) (by kernel_rfl)
    have e0 := hf 0 f0 g0
    have e1 := hf 1 f1 g1
    have e2 := hf 2 f2 g2
    have e3 := hf 3 f3 g3
    have e4 := hf 4 f4 g4
    rw [t0, o0, cellsI] at e0
    rw [t1, o1, cellsI] at e1
    rw [t2, o2, cellsS] at e2
    rw [t3, o3, cellsDe] at e3
    rw [t4, o4, cellsI] at e4
    obtain ⟨n0, k0, _, _⟩ := DataW.trod_int (x := x0) Tryz.underlying3 e0
    obtain ⟨n1, k1, _, _⟩ := DataW.trod_int (x := x1) Tryz.underlying3 e1
    obtain ⟨s2, k2, r2, z2⟩ := DataW.trod_string (x := x2) Tryz.underlying9 e2
    obtain ⟨d3, d3', k3⟩ := trod_dec e3
    obtain ⟨n4, k4, _, _⟩ := DataW.trod_int (x := x4) Tryz.underlying3 e4
    simp at k0 k1 k2 k3 k4
    obtain ⟨rfl, rfl⟩ := k3
    subst k0 k1 k2 k4 r2 hx
    refine ⟨⟨n0, n1, s2.data.toList, d3, d3', n4⟩, ?_, ?_, ?_⟩
    · simp only [tkCells, bytesOf_data]
    · simp only [maxLen] at z2
      rw [size_list]
      exact z2
    · simp only [List.map_cons, List.map_nil, Rows.uptoBulk, Rows.uptoBulkAll]
      omega
theorem Lists.toks {A : Option Addr} {l : List Tok} (h : Lists tkCells 6 w A l) : Toks w A l := fun h0 => by
  rw [tsCells_len] at h0
  obtain ⟨b, off, hA, hlt, hc⟩ := h (by omega)
  refine ⟨b, off, hA, hlt, fun j u hu => ?_⟩
  have hj : j < 6 * l.length := by rw [← tsCells_len]; exact (List.getElem?_eq_some_iff.1 hu).1
  have hi : j / 6 < l.length := by omega
  have hr : j % 6 < (tkCells l[j / 6]).length := Nat.mod_lt _ (by decide)
  have h1 := tks_at l (j / 6) (j % 6) l[j / 6] ((tkCells l[j / 6])[j % 6]) (List.getElem?_eq_getElem hi) (List.getElem?_eq_getElem hr)
  rw [show j / 6 * 6 + j % 6 = j by omega] at h1
  have e : some u = some ((tkCells l[j / 6])[j % 6]) := by rw [← hu, ← h1]
  have h2 := hc (j / 6) l[j / 6] (List.getElem?_eq_getElem hi) (j % 6) _ (List.getElem?_eq_getElem hr)
  rw [show off + j / 6 * 6 + j % 6 = off + j by omega] at h2
  rw [h2]
  exact e.symm
theorem open_toks {r : Reach} {v : Value} {d : DataW H} {p : List MemPlace} (hv : Value.okWide Tryz.prog w r base 22 v) (h : DataW.Trod enc Tryz.prog w 0 spare held 22 v d p) :
    ∃ (A : Option Addr) (c : Nat) (ts : List Tok), v = .slice A ts.length c ∧ Toks w A ts ∧ ts.length ≤ 9223372036854775807 ∧ ts.length ≤ c ∧ c ≤ 9223372036854775807 ∧ ∀ t ∈ ts, t.text.length ≤ 9223372036854775807 := by
  obtain ⟨a, len, cap, rfl⟩ := okWide_slice Tryz.underlying22 hv
  obtain ⟨n, hn⟩ := h
  obtain ⟨A, c, l, h1, h2, h3, h4, h5, h6⟩ := open_listP (dflt := (⟨0, 0, [], 0, 0, 0⟩ : Tok)) tkCells 6 (fun t => t.text.length ≤ 9223372036854775807) Tryz.underlying22 cellsTk (by omega) (fun _ => rfl) (fun h => by
    obtain ⟨t, q1, q2, _⟩ := trod_tok h
    exact ⟨t, q1, q2⟩) hn
  unfold maxLen at h3 h5
  exact ⟨A, c, l, by simpa [Value.cells] using h1, h2.toks, h3, h4, h5, h6⟩
theorem open_toksU {r : Reach} {v : Value} {d : DataW H} {p : List MemPlace} (hv : Value.okWide Tryz.prog w r base 22 v) (h : DataW.Trod enc Tryz.prog w 0 spare held 22 v d p) (hN : Rows.uptoBulk d ≤ 1048576) :
    ∃ (A : Option Addr) (c : Nat) (ts : List Tok), v = .slice A ts.length c ∧ Toks w A ts ∧ ts.length ≤ 1048576 ∧ ts.length ≤ c ∧ c ≤ 9223372036854775807 ∧ ∀ t ∈ ts, t.text.length ≤ 1048576 := by
  obtain ⟨a, len, cap, rfl⟩ := okWide_slice Tryz.underlying22 hv
  obtain ⟨n, hn⟩ := h
  obtain ⟨A, c, l, h1, h2, h3, h4, h5, h6⟩ := open_list (dflt := (⟨0, 0, [], 0, 0, 0⟩ : Tok)) tkCells 6 (fun t => t.text.length ≤ 1048576) 1048576 Tryz.underlying22 cellsTk (by omega) (fun _ => rfl) (fun h hN => by
    obtain ⟨t, q1, _, q2⟩ := trod_tok h
    exact ⟨t, q1, by omega⟩) hn hN
  unfold maxLen at h5
  exact ⟨A, c, l, by simpa [Value.cells] using h1, h2.toks, h3, h4, h5, h6⟩
end
end Go.Proofs.YtofcjdbodhoacaaGreatDoor
