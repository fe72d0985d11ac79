
import Derived.Test.YtpmmbcobjibpeaaGreatDoorOpn
import Derived.Test.YtpmmbcobjibpeaaGreatDoorOwn
namespace Go.Proofs.YtpmmbcobjibpeaaGreatDoor
set_option linter.unusedSimpArgs false
set_option linter.unusedVariables false
open Go.ChangeShapes Go.WideShapes Go.ChangeAt Go.RowKit Go.Deep

/-- A value of package api, as data. -/
structure Val where
  kind : Int
  n : Int
  scale : Int
  text : ByteArray
  num : Int
deriving DecidableEq

abbrev Val.val (v : Val) : Value := .agg #[.int .i64 v.kind, .int .i64 v.n, .int .i64 v.scale, .string v.text, .int .i64 v.num]
/-- Two values are one. -/
def veq (x y : Val) : Bool := decide (x = y)
theorem veq_iff (x y : Val) : veq x y = true ↔ x = y := by simp [veq]
theorem ite5 {w : World} {p1 p2 p3 p4 p5 : Prop} [Decidable p1] [Decidable p2] [Decidable p3] [Decidable p4] [Decidable p5] {b : Bool} (h : b = true ↔ p1 ∧ p2 ∧ p3 ∧ p4 ∧ p5) :
    (if p1 then if p2 then if p3 then if p4 then if p5 then Result.ok (Value.bool true) w else Result.ok (Value.bool false) w else Result.ok (Value.bool false) w else Result.ok (Value.bool false) w else Result.ok (Value.bool false) w else Result.ok (Value.bool false) w) = Result.ok (Value.bool b) w := by
  cases b
  · simp only [Bool.false_eq_true, false_iff] at h
    repeat' split
    all_goals first | rfl | exact absurd ⟨‹_›, ‹_›, ‹_›, ‹_›, ‹_›⟩ h
  · have := h.1 rfl
    simp [this]

theorem eql_val (a b c e a' b' c' e' : Int) (d d' : ByteArray) (w : World) :
    (binOp .eql 30 (.agg #[.int .i64 a, .int .i64 b, .int .i64 c, .string d, .int .i64 e]) (.agg #[.int .i64 a', .int .i64 b', .int .i64 c', .string d', .int .i64 e'])).run Tryz.prog w = .ok (.bool (veq ⟨a, b, c, d, e⟩ ⟨a', b', c', d', e'⟩)) w := by
  go_simp
  exact ite5 (by rw [veq_iff, toList_inj]; simp)
theorem neq_val (a b c e a' b' c' e' : Int) (d d' : ByteArray) (w : World) :
    (binOp .neq 30 (.agg #[.int .i64 a, .int .i64 b, .int .i64 c, .string d, .int .i64 e]) (.agg #[.int .i64 a', .int .i64 b', .int .i64 c', .string d', .int .i64 e'])).run Tryz.prog w = .ok (.bool (!veq ⟨a, b, c, d, e⟩ ⟨a', b', c', d', e'⟩)) w := by
  have h := eql_val a b c e a' b' c' e' d d' w
  rw [run_eql_struct] at h
  rw [run_neq_struct]
  generalize (Op.equalIn 10000 30 _ _).run Tryz.prog w = r at h ⊢
  cases r with
  | ok x w1 =>
    simp only [Result.andThen_ok, Result.ok.injEq, Value.bool.injEq] at h ⊢
    simp [h]
  | halt x w1 => simp [Result.andThen] at h

/-- A value lies at an address. -/
abbrev ValAt (w : World) (b o : Nat) (v : Val) : Prop :=
  w.cell? ⟨b, o, none⟩ = some (.int .i64 v.kind) ∧ w.cell? ⟨b, o + 1, none⟩ = some (.int .i64 v.n) ∧ w.cell? ⟨b, o + 2, none⟩ = some (.int .i64 v.scale) ∧
    w.cell? ⟨b, o + 3, none⟩ = some (.string v.text) ∧ w.cell? ⟨b, o + 4, none⟩ = some (.int .i64 v.num)
theorem ValAt.keep {w w' : World} {b o : Nat} {v : Val} (h : ValAt w b o v) (hb : Bel w w') (hlt : b < w.heap.size) : ValAt w' b o v := by
  simp only [ValAt, hb.cells _ _ hlt]
  exact h
/-- Free for a store. -/
abbrev FreeAt (w : World) (b : Nat) : Prop :=
  w.frozen? ⟨b, 0, none⟩ = false ∧ w.frozen? ⟨b, 1, none⟩ = false ∧ w.frozen? ⟨b, 2, none⟩ = false ∧ w.frozen? ⟨b, 3, none⟩ = false ∧ w.frozen? ⟨b, 4, none⟩ = false
theorem FreeAt.keep {w w' : World} {b : Nat} (h : FreeAt w b) (hb : Bel w w') (hlt : b < w.heap.size) : FreeAt w' b := by
  simp only [FreeAt, hb.frozens _ _ hlt]
  exact h
/-- A block of the call's own that holds a value. -/
abbrev Slot (w : World) (b : Nat) (v : Val) : Prop := b < w.heap.size ∧ ValAt w b 0 v ∧ FreeAt w b
theorem Slot.keep {w w' : World} {b : Nat} {v : Val} (h : Slot w b v) (hb : Bel w w') : Slot w' b v := ⟨Nat.lt_of_lt_of_le h.1 hb.size, h.2.1.keep hb h.1, h.2.2.keep hb h.1⟩
theorem slot_new (w : World) (v : Val) : Slot (w.alloc (.cells #[.int .i64 v.kind, .int .i64 v.n, .int .i64 v.scale, .string v.text, .int .i64 v.num] 30)) w.heap.size v := by
  simp [Slot, ValAt, FreeAt, go_sem]
theorem slot_new2 (w : World) (o : Obj) (v : Val) : Slot ((w.alloc o).alloc (.cells #[.int .i64 v.kind, .int .i64 v.n, .int .i64 v.scale, .string v.text, .int .i64 v.num] 30)) (w.heap.size + 1) v := by
  simp [Slot, ValAt, FreeAt, go_sem]
theorem slot_old (w : World) (o : Obj) (v : Val) : Slot ((w.alloc (.cells #[.int .i64 v.kind, .int .i64 v.n, .int .i64 v.scale, .string v.text, .int .i64 v.num] 30)).alloc o) w.heap.size v := by
  simp [Slot, ValAt, FreeAt, go_sem]
/-- A slice of values reads as a list. -/
def Vals (w : World) (A : Option Addr) (vs : List Val) : Prop :=
  0 < vs.length → ∃ b off, A = some ⟨b, off, none⟩ ∧ b < w.heap.size ∧ ∀ i v, vs[i]? = some v → ValAt w b (off + i * 5) v
theorem Vals.keep {w w' : World} {A : Option Addr} {vs : List Val} (h : Vals w A vs) (hb : Bel w w') : Vals w' A vs := fun h0 => by
  obtain ⟨b, off, hA, hlt, hc⟩ := h h0
  exact ⟨b, off, hA, Nat.lt_of_lt_of_le hlt hb.size, fun i v hv => (hc i v hv).keep hb hlt⟩

/-- The cells of some values. -/
def flat (vs : List Val) : List Value := vs.flatMap fun v => [.int .i64 v.kind, .int .i64 v.n, .int .i64 v.scale, .string v.text, .int .i64 v.num]
theorem flat_cons (v : Val) (vs : List Val) : flat (v :: vs) = [.int .i64 v.kind, .int .i64 v.n, .int .i64 v.scale, .string v.text, .int .i64 v.num] ++ flat vs := by simp [flat]
theorem flat_append (a b : List Val) : flat (a ++ b) = flat a ++ flat b := by simp [flat]
theorem flat_length (vs : List Val) : (flat vs).length = vs.length * 5 := by
  induction vs with
  | nil => rfl
  | cons v vs ih => rw [flat_cons, List.length_append, ih, List.length_cons]; simp only [List.length_cons, List.length_nil]; omega
theorem flat_at (vs : List Val) : ∀ (i : Nat) (v : Val), vs[i]? = some v → (flat vs)[i * 5]? = some (.int .i64 v.kind) ∧ (flat vs)[i * 5 + 1]? = some (.int .i64 v.n) ∧ (flat vs)[i * 5 + 2]? = some (.int .i64 v.scale) ∧ (flat vs)[i * 5 + 3]? = some (.string v.text) ∧ (flat vs)[i * 5 + 4]? = some (.int .i64 v.num) := by
  induction vs with
  | nil => intro i v h; simp at h
  | cons u vs ih =>
    intro i v h
    cases i with
    | zero =>
      simp only [List.getElem?_cons_zero, Option.some.injEq] at h
      subst h
      simp [flat_cons]
    | succ i =>
      have := ih i v (by simpa using h)
      have e : ∀ j, (flat (u :: vs))[(i + 1) * 5 + j]? = (flat vs)[i * 5 + j]? := fun j => by
        rw [flat_cons, show (i + 1) * 5 + j = 5 + (i * 5 + j) by omega]
        rw [List.getElem?_append_right (by simp)]
        simp [Nat.add_assoc]
      have e0 := e 0
      simp only [Nat.add_zero] at e0
      rw [e0, e 1, e 2, e 3, e 4]
      exact this
theorem flat_one (vs : List Val) : ∀ u ∈ flat vs, u.oneCell' = true := by
  intro u hu
  unfold flat at hu
  rw [List.mem_flatMap] at hu
  obtain ⟨v, _, hv⟩ := hu
  simp at hv
  rcases hv with rfl | rfl | rfl | rfl | rfl <;> rfl
theorem flat_get (vs : List Val) (j : Nat) (u : Value) (h : (flat vs)[j]? = some u) : ∃ v, vs[j / 5]? = some v ∧ [Value.int .i64 v.kind, .int .i64 v.n, .int .i64 v.scale, .string v.text, .int .i64 v.num][j % 5]? = some u := by
  have hj : j < vs.length * 5 := by rw [← flat_length]; exact (List.getElem?_eq_some_iff.1 h).1
  have hi : j / 5 < vs.length := by omega
  obtain ⟨v, hv⟩ : ∃ v, vs[j / 5]? = some v := ⟨_, List.getElem?_eq_getElem hi⟩
  refine ⟨v, hv, ?_⟩
  obtain ⟨a0, a1, a2, a3, a4⟩ := flat_at vs (j / 5) _ hv
  have hm : j % 5 < 5 := Nat.mod_lt _ (by omega)
  rw [← h]
  have hd := Nat.div_add_mod j 5
  match hk : j % 5, hm with
  | 0, _ => have e : j = j / 5 * 5 := (by omega); rw [e, a0]; rfl
  | 1, _ => have e : j = j / 5 * 5 + 1 := (by omega); rw [e, a1]; rfl
  | 2, _ => have e : j = j / 5 * 5 + 2 := (by omega); rw [e, a2]; rfl
  | 3, _ => have e : j = j / 5 * 5 + 3 := (by omega); rw [e, a3]; rfl
  | 4, _ => have e : j = j / 5 * 5 + 4 := (by omega); rw [e, a4]; rfl
theorem Vals.row {w : World} {A : Option Addr} {vs : List Val} (h : Vals w A vs) : Row w A (flat vs) := fun h0 => by
  rw [flat_length] at h0
  obtain ⟨b, off, hA, hlt, hc⟩ := h (by omega)
  refine ⟨b, off, hA, hlt, fun j u hu => ?_⟩
  obtain ⟨v, hv, hx⟩ := flat_get vs j u hu
  obtain ⟨a0, a1, a2, a3, a4⟩ := hc _ v hv
  have hm : j % 5 < 5 := Nat.mod_lt _ (by omega)
  have hd := Nat.div_add_mod j 5
  rw [show off + j = off + j / 5 * 5 + j % 5 by omega]
  match hk : j % 5, hm with
  | 0, _ => rw [hk] at hx; simp at hx; subst hx; exact a0
  | 1, _ => rw [hk] at hx; simp at hx; subst hx; exact a1
  | 2, _ => rw [hk] at hx; simp at hx; subst hx; exact a2
  | 3, _ => rw [hk] at hx; simp at hx; subst hx; exact a3
  | 4, _ => rw [hk] at hx; simp at hx; subst hx; exact a4
theorem Row.vals {w : World} {A : Option Addr} {vs : List Val} (h : Row w A (flat vs)) : Vals w A vs := fun h0 => by
  obtain ⟨b, off, hA, hlt, hc⟩ := h (by rw [flat_length]; omega)
  refine ⟨b, off, hA, hlt, fun i v hv => ?_⟩
  obtain ⟨a0, a1, a2, a3, a4⟩ := flat_at vs i v hv
  exact ⟨hc _ _ a0, by have := hc _ _ a1; rwa [← Nat.add_assoc] at this, by have := hc _ _ a2; rwa [← Nat.add_assoc] at this, by have := hc _ _ a3; rwa [← Nat.add_assoc] at this, by have := hc _ _ a4; rwa [← Nat.add_assoc] at this⟩

theorem cells3 : Tryz.prog.cellsOf 3 = 1 := by kernel_rfl
theorem cells9 : Tryz.prog.cellsOf 9 = 1 := by kernel_rfl
theorem cells25 : Tryz.prog.cellsOf 28 = 2 := by kernel_rfl
theorem cells27 : Tryz.prog.cellsOf 30 = 5 := by kernel_rfl
structure Val.Ok (v : Val) : Prop where
  kind : In64 v.kind
  n : In64 v.n
  scale : In64 v.scale
  text : v.text.size ≤ maxLen
  num : In64 v.num
set_option maxRecDepth 100000
section
variable {H : Type} {enc : TypeId × Value → H} {w : World} {base : Nat} {spare : Nat → Bool} {held : Bool} {fuel : Nat}

theorem trod_dec {cs : List Value} {x : DataW H × List MemPlace} (h : DataW.trod enc Tryz.prog w base spare held fuel 28 cs = some x) :
    ∃ n s : Int, cs = [.int .i64 n, .int .i64 s] ∧ In64 n ∧ In64 s := by
  obtain ⟨xs, m, _, _, hl, hxs, hf⟩ := DataW.trod_struct (fs := Tryz.prog.fieldsOf 28) (by kernel_rfl) h
  have hz : (Tryz.prog.fieldsOf 28).size = 2 := by kernel_rfl
  rw [cells25] at hl
  rw [hz] at hxs
  match cs, hl, xs, hxs with
  | [c0, c1], _, [x0, x1], _ =>
    obtain ⟨f0, g0, t0, o0⟩ := field_at (fs := Tryz.prog.fieldsOf 28) (i := 0) (t := 3) (o := 0) (by kernel_rfl)
    obtain ⟨f1, g1, t1, o1⟩ := field_at (fs := Tryz.prog.fieldsOf 28) (i := 1) (t := 3) (o := 1) (by kernel_rfl)
    have e0 := hf 0 f0 g0
    have e1 := hf 1 f1 g1
    rw [t0, o0, cells3] at e0
    rw [t1, o1, cells3] at e1
    obtain ⟨n0, k0, _, w0⟩ := DataW.trod_int Tryz.underlying3 e0
    obtain ⟨n1, k1, _, w1⟩ := DataW.trod_int Tryz.underlying3 e1
    simp at k0 k1
    subst k0 k1
    exact ⟨n0, n1, rfl, in64_of w0, in64_of w1⟩

theorem trod_val {cs : List Value} {x : DataW H × List MemPlace} (h : DataW.trod enc Tryz.prog w base spare held fuel 30 cs = some x) :
    ∃ v : Val, cs = [.int .i64 v.kind, .int .i64 v.n, .int .i64 v.scale, .string v.text, .int .i64 v.num] ∧ v.Ok := by
  obtain ⟨xs, m, _, _, hl, hxs, hf⟩ := DataW.trod_struct (fs := Tryz.prog.fieldsOf 30) (by kernel_rfl) h
  have hz : (Tryz.prog.fieldsOf 30).size = 4 := by kernel_rfl
  rw [cells27] at hl
  rw [hz] at hxs
  match cs, hl, xs, hxs with
  | [c0, c1, c2, c3, c4], _, [x0, x1, x2, x3], _ =>
    obtain ⟨f0, g0, t0, o0⟩ := field_at (fs := Tryz.prog.fieldsOf 30) (i := 0) (t := 3) (o := 0) (by kernel_rfl)
    obtain ⟨f1, g1, t1, o1⟩ := field_at (fs := Tryz.prog.fieldsOf 30) (i := 1) (t := 28) (o := 1) (by kernel_rfl)
    obtain ⟨f2, g2, t2, o2⟩ := field_at (fs := Tryz.prog.fieldsOf 30) (i := 2) (t := 9) (o := 3) (by kernel_rfl)
    obtain ⟨f3, g3, t3, o3⟩ := field_at (fs := Tryz.prog.fieldsOf 30) (i := 3) (t := 3) (o := 4) (by kernel_rfl)
    have e0 := hf 0 f0 g0
    have e1 := hf 1 f1 g1
    have e2 := hf 2 f2 g2
    have e3 := hf 3 f3 g3
    rw [t0, o0, cells3] at e0
    rw [t1, o1, cells25] at e1
    rw [t2, o2, cells9] at e2
    rw [t3, o3, cells3] at e3
    obtain ⟨n0, k0, _, w0⟩ := DataW.trod_int Tryz.underlying3 e0
    obtain ⟨n1, s1, k1, w1, w1'⟩ := trod_dec e1
    obtain ⟨s2, k2, _, w2⟩ := DataW.trod_string Tryz.underlying9 e2
    obtain ⟨n3, k3, _, w3⟩ := DataW.trod_int Tryz.underlying3 e3
    simp at k0 k1 k2 k3
    obtain ⟨rfl, rfl⟩ := k1
    subst k0 k2 k3
    exact ⟨⟨n0, n1, s1, s2, n3⟩, rfl, in64_of w0, w1, w1', w2, in64_of w3⟩
theorem open_val {r : Reach} {v : Value} {d : DataW H} {p : List MemPlace} (hv : Value.okWide Tryz.prog w r base 30 v) (h : DataW.Trod enc Tryz.prog w 0 spare held 30 v d p) : ∃ x : Val, v = x.val ∧ x.Ok := by
  obtain ⟨cs, rfl, hsz⟩ := okWide_struct (fs := Tryz.prog.fieldsOf 30) (by kernel_rfl) hv
  obtain ⟨n, hn⟩ := h
  obtain ⟨x, hx, hok⟩ := trod_val hn
  refine ⟨x, ?_, hok⟩
  simp only [Value.cells] at hx
  obtain ⟨l⟩ := cs
  simp only at hx
  rw [hx]
theorem open_vals {r : Reach} {v : Value} {d : DataW H} {p : List MemPlace} (hv : Value.okWide Tryz.prog w r base 46 v) (h : DataW.Trod enc Tryz.prog w 0 spare held 46 v d p) :
    ∃ (A : Option Addr) (c : Nat) (vs : List Val), v = .slice A vs.length c ∧ Vals w A vs ∧ vs.length ≤ maxLen ∧ (A = none → c = 0) ∧ (∀ x ∈ vs, x.Ok) ∧ (vs = [] ∨ ∃ es sp : List (DataW H), d = .slice es sp ∧ es.length = vs.length) := by
  obtain ⟨a, len, cap, rfl⟩ := okWide_slice Tryz.underlying46 hv
  obtain ⟨n, hn⟩ := h
  rcases open_slice Tryz.underlying46 hn with ⟨hcs, _⟩ | ⟨ad, len', cap', m, n', D, Pl, hcs, _, hl, hm, hmm, hx, hi⟩
  · simp [Value.cells] at hcs
    obtain ⟨rfl, rfl, rfl⟩ := hcs
    exact ⟨none, 0, [], rfl, fun h => absurd h (by simp), by simp, fun _ => rfl, by simp, .inl rfl⟩
  · simp only [Value.cells, List.cons.injEq, Value.slice.injEq, and_true] at hcs
    obtain ⟨rfl, rfl, rfl⟩ := hcs
    have hlm : len ≤ m := by rw [hmm]; split <;> omega
    obtain ⟨b, off, spot⟩ := ad
    have key : ∀ i : Nat, ∃ v : Val, i < len → spot = none ∧ b < w.heap.size ∧ ValAt w b (off + i * 5) v ∧ v.Ok := by
      intro i
      by_cases hlt : i < len
      · obtain ⟨cs', hc, ht⟩ := hi i (by omega)
        rw [cells27] at hc
        obtain ⟨x, rfl, hok⟩ := trod_val ht
        obtain ⟨_, _, hat⟩ := World.cells?_some hc
        obtain ⟨cs0, hc0, ht0⟩ := hi 0 (by omega)
        rw [cells27] at hc0
        obtain ⟨x0, rfl, _⟩ := trod_val ht0
        have h00 := (World.cells?_some hc0).2.2 0 (by omega)
        simp only [Nat.zero_mul, Addr.add, if_true, List.getElem?_cons_zero] at h00
        have hspot : spot = none := by simpa using World.cell?_spot h00
        subst hspot
        have hblk := World.block_lt_of_cell? _ _ h00
        refine ⟨x, fun _ => ⟨rfl, hblk, ?_, hok⟩⟩
        have a0 := hat 0 (by omega)
        have a1 := hat 1 (by omega)
        have a2 := hat 2 (by omega)
        have a3 := hat 3 (by omega)
        have a4 := hat 4 (by omega)
        simp only [Go.WideShapes.add_plain] at a0 a1 a2 a3 a4
        exact ⟨a0, a1, a2, a3, a4⟩
      · exact ⟨⟨0, 0, 0, ⟨#[]⟩, 0⟩, fun h => absurd h hlt⟩
    let V : Nat → Val := fun i => Classical.choose (key i)
    have hV : ∀ i, i < len → spot = none ∧ b < w.heap.size ∧ ValAt w b (off + i * 5) (V i) ∧ (V i).Ok := fun i => Classical.choose_spec (key i)
    have hlen : ((List.range len).map V).length = len := by simp
    refine ⟨some ⟨b, off, spot⟩, cap, (List.range len).map V, by rw [hlen], fun h0 => ?_, by rw [hlen]; omega, fun h => by (cases h), fun x hx => ?_, .inr ?_⟩
    · rw [hlen] at h0
      obtain ⟨rfl, hb0, _⟩ := hV 0 h0
      refine ⟨b, off, rfl, hb0, fun i v hv => ?_⟩
      rw [List.getElem?_map] at hv
      by_cases hlt : i < len
      · rw [List.getElem?_range hlt] at hv
        simp only [Option.map_some, Option.some.injEq] at hv
        subst hv
        exact (hV i hlt).2.2.1
      · rw [List.getElem?_eq_none (by simpa using hlt)] at hv
        cases hv
    · rw [List.mem_map] at hx
      obtain ⟨i, hi', rfl⟩ := hx
      exact (hV i (List.mem_range.1 hi')).2.2.2
    · simp only [Prod.mk.injEq] at hx
      exact ⟨_, _, hx.1, by simp⟩
end
end Go.Proofs.YtpmmbcobjibpeaaGreatDoor
