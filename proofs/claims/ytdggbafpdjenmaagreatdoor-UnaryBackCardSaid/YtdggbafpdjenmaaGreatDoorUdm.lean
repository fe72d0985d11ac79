import Derived.Test.YtdggbafpdjenmaaGreatDoorMtd
namespace Go.Proofs.YtdggbafpdjenmaaGreatDoor
set_option linter.unusedSimpArgs false
set_option linter.unusedVariables false
open Go.ChangeShapes Go.WideShapes Go.ChangeAt Go.RowKit Go.Deep
/-! Tests handed in. -/
theorem cells3 : Tryz.prog.cellsOf 3 = 1 := by kernel_rfl
theorem cells9 : Tryz.prog.cellsOf 9 = 1 := by kernel_rfl
theorem cells25 : Tryz.prog.cellsOf 36 = 2 := by kernel_rfl
theorem cells27 : Tryz.prog.cellsOf 38 = 5 := by kernel_rfl
structure Val.Ok (v : Val) : Prop where
  kind : In64 v.kind
  n : In64 v.n
  scale : In64 v.scale
  text : v.text.size ≤ maxLen
  num : In64 v.num
set_option maxRecDepth 100000
section
variable {H : Type} {enc : TypeId × Value → H} {w : World} {base : Nat} {spare : Nat → Bool} {held : Bool} {fuel : Nat}

theorem trod_dec {cs : List Value} {x : DataW H × List MemPlace} (h : DataW.trod enc Tryz.prog w base spare held fuel 36 cs = some x) :
    ∃ n s : Int, cs = [.int .i64 n, .int .i64 s] ∧ In64 n ∧ In64 s := by
  obtain ⟨xs, m, _, _, hl, hxs, hf⟩ := DataW.trod_struct (fs := Tryz.prog.fieldsOf 36) (by kernel_rfl) h
  have hz : (Tryz.prog.fieldsOf 36).size = 2 := by kernel_rfl
  rw [cells25] at hl
  rw [hz] at hxs
  match cs, hl, xs, hxs with
  | [c0, c1], _, [x0, x1], _ =>
    obtain ⟨f0, g0, t0, o0⟩ := field_at (fs := Tryz.prog.fieldsOf 36) (i := 0) (t := 3) (o := 0) (by kernel_rfl)
    obtain ⟨f1, g1, t1, o1⟩ := field_at (fs := Tryz.prog.fieldsOf 36) (i := 1) (t := 3) (o := 1) (by kernel_rfl)
    have e0 := hf 0 f0 g0
    have e1 := hf 1 f1 g1
    rw [t0, o0, cells3] at e0
    rw [t1, o1, cells3] at e1
    obtain ⟨n0, k0, _, w0⟩ := DataW.trod_int Tryz.underlying3 e0
    obtain ⟨n1, k1, _, w1⟩ := DataW.trod_int Tryz.underlying3 e1
    simp at k0 k1
    subst k0 k1
    exact ⟨n0, n1, rfl, in64_of w0, in64_of w1⟩

theorem trod_val {cs : List Value} {x : DataW H × List MemPlace} (h : DataW.trod enc Tryz.prog w base spare held fuel 38 cs = some x) :
    ∃ v : Val, cs = [.int .i64 v.kind, .int .i64 v.n, .int .i64 v.scale, .string v.text, .int .i64 v.num] ∧ v.Ok := by
  obtain ⟨xs, m, _, _, hl, hxs, hf⟩ := DataW.trod_struct (fs := Tryz.prog.fieldsOf 38) (by kernel_rfl) h
  have hz : (Tryz.prog.fieldsOf 38).size = 4 := by kernel_rfl
  rw [cells27] at hl
  rw [hz] at hxs
  match cs, hl, xs, hxs with
  | [c0, c1, c2, c3, c4], _, [x0, x1, x2, x3], _ =>
    obtain ⟨f0, g0, t0, o0⟩ := field_at (fs := Tryz.prog.fieldsOf 38) (i := 0) (t := 3) (o := 0) (by kernel_rfl)
    obtain ⟨f1, g1, t1, o1⟩ := field_at (fs := Tryz.prog.fieldsOf 38) (i := 1) (t := 36) (o := 1) (by kernel_rfl)
    obtain ⟨f2, g2, t2, o2⟩ := field_at (fs := Tryz.prog.fieldsOf 38) (i := 2) (t := 9) (o := 3) (by kernel_rfl)
    obtain ⟨f3, g3, t3, o3⟩ := field_at (fs := Tryz.prog.fieldsOf 38) (i := 3) (t := 3) (o := 4) (by kernel_rfl)
    have e0 := hf 0 f0 g0
    have e1 := hf 1 f1 g1
    have e2 := hf 2 f2 g2
    have e3 := hf 3 f3 g3
    rw [t0, o0, cells3] at e0
    rw [t1, o1, cells25] at e1
    rw [t2, o2, cells9] at e2
    rw [t3, o3, cells3] at e3
    obtain ⟨n0, k0, _, w0⟩ := DataW.trod_int Tryz.underlying3 e0
    obtain ⟨n1, s1, k1, w1, w1'⟩ := trod_dec e1
    obtain ⟨s2, k2, _, w2⟩ := DataW.trod_string Tryz.underlying9 e2
    obtain ⟨n3, k3, _, w3⟩ := DataW.trod_int Tryz.underlying3 e3
    simp at k0 k1 k2 k3
    obtain ⟨rfl, rfl⟩ := k1
    subst k0 k2 k3
    exact ⟨⟨n0, n1, s1, s2, n3⟩, rfl, in64_of w0, w1, w1', w2, in64_of w3⟩
theorem open_val {r : Reach} {v : Value} {d : DataW H} {p : List MemPlace} (hv : Value.okWide Tryz.prog w r base 38 v) (h : DataW.Trod enc Tryz.prog w 0 spare held 38 v d p) : ∃ x : Val, v = x.val ∧ x.Ok := by
  obtain ⟨cs, rfl, hsz⟩ := okWide_struct (fs := Tryz.prog.fieldsOf 38) (by kernel_rfl) hv
  obtain ⟨n, hn⟩ := h
  obtain ⟨x, hx, hok⟩ := trod_val hn
  refine ⟨x, ?_, hok⟩
  simp only [Value.cells] at hx
  obtain ⟨l⟩ := cs
  simp only at hx
  rw [hx]
end
theorem cellsT : Tryz.prog.cellsOf 40 = 13 := by kernel_rfl
theorem cellsB : Tryz.prog.cellsOf 4 = 1 := by kernel_rfl
structure Tst.Ok (t : Tst) : Prop where
  kind : In64 t.kind
  low : t.low.Ok
  high : t.high.Ok
set_option maxRecDepth 100000
section
variable {H : Type} {enc : TypeId × Value → H} {w : World} {base : Nat} {spare : Nat → Bool} {held : Bool} {fuel : Nat}
theorem trod_test {cs : List Value} {x : DataW H × List MemPlace} (h : DataW.trod enc Tryz.prog w base spare held fuel 40 cs = some x) :
    ∃ t : Tst, cs = [.int .i64 t.kind, .int .i64 t.low.kind, .int .i64 t.low.n, .int .i64 t.low.scale, .string t.low.text, .int .i64 t.low.num, .int .i64 t.high.kind, .int .i64 t.high.n, .int .i64 t.high.scale, .string t.high.text, .int .i64 t.high.num, .bool t.ol, .bool t.oh] ∧ t.Ok := by
  obtain ⟨xs, m, _, _, hl, hxs, hf⟩ := DataW.trod_struct (fs := Tryz.prog.fieldsOf 40) (by kernel_rfl) h
  have hz : (Tryz.prog.fieldsOf 40).size = 5 := by kernel_rfl
  rw [cellsT] at hl
  rw [hz] at hxs
  match cs, hl, xs, hxs with
  | [c0, c1, c2, c3, c4, c5, c6, c7, c8, c9, c10, c11, c12], _, [x0, x1, x2, x3, x4], _ =>
    obtain ⟨f0, g0, t0, o0⟩ := field_at (fs := Tryz.prog.fieldsOf 40) (i := 0) (t := 3) (o := 0) (by kernel_rfl)
    obtain ⟨f1, g1, t1, o1⟩ := field_at (fs := Tryz.prog.fieldsOf 40) (i := 1) (t := 38) (o := 1) (by kernel_rfl)
    obtain ⟨f2, g2, t2, o2⟩ := field_at (fs := Tryz.prog.fieldsOf 40) (i := 2) (t := 38) (o := 6) (by kernel_rfl)
    obtain ⟨f3, g3, t3, o3⟩ := field_at (fs := Tryz.prog.fieldsOf 40) (i := 3) (t := 4) (o := 11) (by kernel_rfl)
    obtain ⟨f4, g4, t4, o4⟩ := field_at (fs := Tryz.prog.fieldsOf 40) (i := 4) (t := 4) (o := 12) (by kernel_rfl)
    have e0 := hf 0 f0 g0
    have e1 := hf 1 f1 g1
    have e2 := hf 2 f2 g2
    have e3 := hf 3 f3 g3
    have e4 := hf 4 f4 g4
    rw [t0, o0, cells3] at e0
    rw [t1, o1, cells27] at e1
    rw [t2, o2, cells27] at e2
    rw [t3, o3, cellsB] at e3
    rw [t4, o4, cellsB] at e4
    obtain ⟨n0, k0, _, w0⟩ := DataW.trod_int Tryz.underlying3 e0
    obtain ⟨n1, k1, w1⟩ := trod_val e1
    obtain ⟨n2, k2, w2⟩ := trod_val e2
    obtain ⟨n3, k3, _⟩ := DataW.trod_bool Tryz.underlying4 e3
    obtain ⟨n4, k4, _⟩ := DataW.trod_bool Tryz.underlying4 e4
    simp at k0 k1 k2 k3 k4
    obtain ⟨rfl, rfl, rfl, rfl, rfl⟩ := k1
    obtain ⟨rfl, rfl, rfl, rfl, rfl⟩ := k2
    subst k0 k3 k4
    exact ⟨⟨n0, n1, n2, n3, n4⟩, rfl, in64_of w0, w1, w2⟩
end
/-! Lists handed in: of anything. -/
/-- A slice of cells reads as a list. -/
def Lists {D : Type} (enc : D → List Value) (k : Nat) (w : World) (A : Option Addr) (l : List D) : Prop :=
  0 < l.length → ∃ b off, A = some ⟨b, off, none⟩ ∧ b < w.heap.size ∧ ∀ i d, l[i]? = some d → ∀ j v, (enc d)[j]? = some v → w.cell? ⟨b, off + i * k + j, none⟩ = some v
theorem Lists.keep {D : Type} {enc : D → List Value} {k : Nat} {w w' : World} {A : Option Addr} {l : List D} (h : Lists enc k w A l) (hb : Bel w w') : Lists enc k w' A l := fun h0 => by
  obtain ⟨b, off, hA, hlt, hc⟩ := h h0
  exact ⟨b, off, hA, Nat.lt_of_lt_of_le hlt hb.size, fun i d hd j v hv => by rw [hb.cells _ _ hlt]; exact hc i d hd j v hv⟩
set_option maxRecDepth 100000
section
variable {H : Type} {enc : TypeId × Value → H} {w : World} {base : Nat} {spare : Nat → Bool} {held : Bool} {fuel : Nat}
theorem open_list {D : Type} (dflt : D) (en : D → List Value) (k : Nat) (good : D → Prop) {t e : TypeId} (ht : Tryz.prog.underlying t = some (.slice e)) (hk : Tryz.prog.cellsOf e = k) (hk0 : 0 < k) (hen : ∀ d, (en d).length = k)
    (op : ∀ {cs : List Value} {x : DataW H × List MemPlace} {fuel : Nat}, DataW.trod enc Tryz.prog w base spare held fuel e cs = some x → ∃ d, cs = en d ∧ good d)
    {cs : List Value} {x : DataW H × List MemPlace} (h : DataW.trod enc Tryz.prog w base spare held fuel t cs = some x) :
    ∃ (A : Option Addr) (c : Nat) (l : List D), cs = [.slice A l.length c] ∧ Lists en k w A l ∧ l.length ≤ maxLen ∧ (A = none → c = 0 ∧ l = []) ∧ ∀ d ∈ l, good d := by
  rcases open_slice ht h with ⟨hcs, _⟩ | ⟨ad, len, cap, m, n', E, Pl, hcs, _, hl, hm, hmm, hx, hi⟩
  · exact ⟨none, 0, [], hcs, fun h => absurd h (by simp), by simp, fun _ => ⟨rfl, rfl⟩, by simp⟩
  · have hlm : len ≤ m := by rw [hmm]; split <;> omega
    obtain ⟨b, off, spot⟩ := ad
    have key : ∀ i : Nat, ∃ d : D, i < len → spot = none ∧ b < w.heap.size ∧ (∀ j v, (en d)[j]? = some v → w.cell? ⟨b, off + i * k + j, none⟩ = some v) ∧ good d := by
      intro i
      by_cases hlt : i < len
      · obtain ⟨cs', hc, hd⟩ := hi i (by omega)
        rw [hk] at hc
        obtain ⟨d, rfl, hok⟩ := op hd
        obtain ⟨_, _, hat⟩ := World.cells?_some hc
        obtain ⟨cs0, hc0, hd0⟩ := hi 0 (by omega)
        rw [hk] at hc0
        obtain ⟨d0, rfl, _⟩ := op hd0
        have h00 := (World.cells?_some hc0).2.2 0 hk0
        simp only [Nat.zero_mul, Addr.add, if_true] at h00
        rw [List.getElem?_eq_getElem (by rw [hen]; exact hk0)] at h00
        have hspot : spot = none := by simpa using World.cell?_spot h00
        subst hspot
        have hblk := World.block_lt_of_cell? _ _ h00
        refine ⟨d, fun _ => ⟨rfl, hblk, fun j v hv => ?_, hok⟩⟩
        have hj : j < k := by
          have := (List.getElem?_eq_some_iff.1 hv).1
          rwa [hen] at this
        have a := hat j hj
        rw [hv] at a
        simp only [Go.WideShapes.add_plain] at a
        exact a
      · exact ⟨dflt, fun h => absurd h hlt⟩
    let V : Nat → D := fun i => Classical.choose (key i)
    have hV : ∀ i, i < len → spot = none ∧ b < w.heap.size ∧ (∀ j v, (en (V i))[j]? = some v → w.cell? ⟨b, off + i * k + j, none⟩ = some v) ∧ good (V i) := fun i => Classical.choose_spec (key i)
    have hlen : ((List.range len).map V).length = len := by simp
    refine ⟨some ⟨b, off, spot⟩, cap, (List.range len).map V, by rw [hlen]; exact hcs, fun h0 => ?_, by rw [hlen]; omega, fun h => by (cases h), fun x hx => ?_⟩
    · rw [hlen] at h0
      obtain ⟨rfl, hb0, _⟩ := hV 0 h0
      refine ⟨b, off, rfl, hb0, fun i d hd => ?_⟩
      rw [List.getElem?_map] at hd
      by_cases hlt : i < len
      · rw [List.getElem?_range hlt] at hd
        simp only [Option.map_some, Option.some.injEq] at hd
        subst hd
        exact (hV i hlt).2.2.1
      · rw [List.getElem?_eq_none (by simpa using hlt)] at hd
        cases hd
    · rw [List.mem_map] at hx
      obtain ⟨i, hi', rfl⟩ := hx
      exact (hV i (List.mem_range.1 hi')).2.2.2
end

/-! Cells: tests, and lists of them. -/
theorem Lists.tsts {w : World} {A : Option Addr} {l : List Tst} (h : Lists encT 13 w A l) : Tsts w A l := fun h0 => by
  obtain ⟨b, off, hA, hlt, hc⟩ := h h0
  exact ⟨b, off, hA, hlt, fun i t ht => ⟨hc i t ht 0 _ rfl, hc i t ht 1 _ rfl, hc i t ht 2 _ rfl, hc i t ht 3 _ rfl, hc i t ht 4 _ rfl, hc i t ht 5 _ rfl, hc i t ht 6 _ rfl, hc i t ht 7 _ rfl, hc i t ht 8 _ rfl, hc i t ht 9 _ rfl, hc i t ht 10 _ rfl, hc i t ht 11 _ rfl, hc i t ht 12 _ rfl⟩⟩
/-- A cell. -/
structure Cel where
  any : Bool
  not : Bool
  A : Option Addr
  c : Nat
  l : List Tst
instance : Inhabited Cel := ⟨⟨false, false, none, 0, []⟩⟩
abbrev Cel.val (x : Cel) : Value := .agg #[.bool x.any, .bool x.not, .slice x.A x.l.length x.c]
def encC (x : Cel) : List Value := [.bool x.any, .bool x.not, .slice x.A x.l.length x.c]
structure CelOk (w : World) (x : Cel) : Prop where
  tsts : Tsts w x.A x.l
  len : x.l.length ≤ maxLen
  nil : x.A = none → x.c = 0 ∧ x.l = []
  ok : ∀ t ∈ x.l, t.Ok
theorem CelOk.keep {w w' : World} {x : Cel} (h : CelOk w x) (hb : Bel w w') : CelOk w' x := ⟨h.tsts.keep hb, h.len, h.nil, h.ok⟩
theorem cellsC : Tryz.prog.cellsOf 24 = 3 := by kernel_rfl
theorem cellsL : Tryz.prog.cellsOf 22 = 1 := by kernel_rfl
section
variable {H : Type} {enc : TypeId × Value → H} {w : World} {base : Nat} {spare : Nat → Bool} {held : Bool} {fuel : Nat}
theorem trod_tsts {cs : List Value} {x : DataW H × List MemPlace} (h : DataW.trod enc Tryz.prog w base spare held fuel 22 cs = some x) :
    ∃ (A : Option Addr) (c : Nat) (l : List Tst), cs = [.slice A l.length c] ∧ Tsts w A l ∧ l.length ≤ maxLen ∧ (A = none → c = 0 ∧ l = []) ∧ ∀ t ∈ l, t.Ok := by
  obtain ⟨A, c, l, h1, h2, h3, h4, h5⟩ := open_list default encT 13 Tst.Ok Tryz.underlying22 cellsT (by omega) (fun _ => rfl) (fun h => by
    obtain ⟨t, ht, hok⟩ := trod_test h
    exact ⟨t, ht, hok⟩) h
  exact ⟨A, c, l, h1, h2.tsts, h3, h4, h5⟩
theorem trod_cel {cs : List Value} {x : DataW H × List MemPlace} (h : DataW.trod enc Tryz.prog w base spare held fuel 24 cs = some x) :
    ∃ y : Cel, cs = encC y ∧ CelOk w y := by
  obtain ⟨xs, m, _, _, hl, hxs, hf⟩ := DataW.trod_struct (fs := Tryz.prog.fieldsOf 24) (by kernel_rfl) h
  have hz : (Tryz.prog.fieldsOf 24).size = 3 := by kernel_rfl
  rw [cellsC] at hl
  rw [hz] at hxs
  match cs, hl, xs, hxs with
  | [c0, c1, c2], _, [x0, x1, x2], _ =>
    obtain ⟨f0, g0, t0, o0⟩ := field_at (fs := Tryz.prog.fieldsOf 24) (i := 0) (t := 4) (o := 0) (by kernel_rfl)
    obtain ⟨f1, g1, t1, o1⟩ := field_at (fs := Tryz.prog.fieldsOf 24) (i := 1) (t := 4) (o := 1) (by kernel_rfl)
    obtain ⟨f2, g2, t2, o2⟩ := field_at (fs := Tryz.prog.fieldsOf 24) (i := 2) (t := 22) (o := 2) (by kernel_rfl)
    have e0 := hf 0 f0 g0
    have e1 := hf 1 f1 g1
    have e2 := hf 2 f2 g2
    rw [t0, o0, cellsB] at e0
    rw [t1, o1, cellsB] at e1
    rw [t2, o2, cellsL] at e2
    obtain ⟨n0, k0, _⟩ := DataW.trod_bool Tryz.underlying4 e0
    obtain ⟨n1, k1, _⟩ := DataW.trod_bool Tryz.underlying4 e1
    obtain ⟨A, c, l, k2, p1, p2, p3, p4⟩ := trod_tsts e2
    simp at k0 k1 k2
    subst k0 k1 k2
    exact ⟨⟨n0, n1, A, c, l⟩, rfl, p1, p2, p3, p4⟩
theorem open_test {r : Reach} {v : Value} {d : DataW H} {p : List MemPlace} (hv : Value.okWide Tryz.prog w r base 40 v) (h : DataW.Trod enc Tryz.prog w 0 spare held 40 v d p) : ∃ x : Tst, v = x.val ∧ x.Ok := by
  obtain ⟨cs, rfl, hsz⟩ := okWide_struct (fs := Tryz.prog.fieldsOf 40) (by kernel_rfl) hv
  obtain ⟨n, hn⟩ := h
  obtain ⟨x, hx, hok⟩ := trod_test hn
  refine ⟨x, ?_, hok⟩
  simp only [Value.cells] at hx
  obtain ⟨l⟩ := cs
  simp only at hx
  rw [hx]
theorem open_cel {r : Reach} {v : Value} {d : DataW H} {p : List MemPlace} (hv : Value.okWide Tryz.prog w r base 24 v) (h : DataW.Trod enc Tryz.prog w 0 spare held 24 v d p) : ∃ x : Cel, v = x.val ∧ CelOk w x := by
  obtain ⟨cs, rfl, hsz⟩ := okWide_struct (fs := Tryz.prog.fieldsOf 24) (by kernel_rfl) hv
  obtain ⟨n, hn⟩ := h
  obtain ⟨x, hx, hok⟩ := trod_cel hn
  refine ⟨x, ?_, hok⟩
  simp only [Value.cells] at hx
  obtain ⟨l⟩ := cs
  simp only [encC] at hx
  rw [hx]
theorem tok_of {t : Tst} (h : t.Ok) : TOk t := ⟨h.low.text, h.high.text⟩
end
end Go.Proofs.YtdggbafpdjenmaaGreatDoor
