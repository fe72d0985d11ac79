
import Derived.Test.YtpmmbcobjibpeaaGreatDoorOpn
import Derived.Test.YtpmmbcobjibpeaaGreatDoorOwn
namespace Go.Proofs.YtpmmbcobjibpeaaGreatDoor
set_option linter.unusedSimpArgs false
set_option linter.unusedVariables false
open Go.ChangeShapes Go.WideShapes Go.ChangeAt Go.RowKit Go.Deep

/-! Spans: two numbers; rows of them. -/
abbrev Sp := Int × Int
abbrev spv (s : Sp) : Value := .agg #[.int .i64 s.1, .int .i64 s.2]
abbrev SpAt (w : World) (b o : Nat) (s : Sp) : Prop := w.cell? ⟨b, o, none⟩ = some (.int .i64 s.1) ∧ w.cell? ⟨b, o + 1, none⟩ = some (.int .i64 s.2)
theorem SpAt.keep {w w' : World} {b o : Nat} {s : Sp} (h : SpAt w b o s) (hb : Bel w w') (hlt : b < w.heap.size) : SpAt w' b o s := by
  simp only [SpAt, hb.cells _ _ hlt]
  exact h
/-- A slice of spans reads as a list. -/
def Sps (w : World) (A : Option Addr) (l : List Sp) : Prop :=
  0 < l.length → ∃ b off, A = some ⟨b, off, none⟩ ∧ b < w.heap.size ∧ ∀ i s, l[i]? = some s → SpAt w b (off + i * 2) s
theorem Sps.keep {w w' : World} {A : Option Addr} {l : List Sp} (h : Sps w A l) (hb : Bel w w') : Sps w' A l := fun h0 => by
  obtain ⟨b, off, hA, hlt, hc⟩ := h h0
  exact ⟨b, off, hA, Nat.lt_of_lt_of_le hlt hb.size, fun i v hv => (hc i v hv).keep hb hlt⟩
theorem Sps.nil {w : World} {A : Option Addr} : Sps w A [] := fun h => absurd h (by simp)
theorem Sps.take {w : World} {A : Option Addr} {l : List Sp} (h : Sps w A l) (n : Nat) : Sps w A (l.take n) := fun h0 => by
  obtain ⟨b, off, e, hlt, hc⟩ := h (by rw [List.length_take] at h0; omega)
  refine ⟨b, off, e, hlt, fun i v hv => hc i v ?_⟩
  rw [List.getElem?_take] at hv
  split at hv
  · exact hv
  · cases hv
def flats (l : List Sp) : List Value := l.flatMap fun s => [.int .i64 s.1, .int .i64 s.2]
theorem flats_cons (s : Sp) (l : List Sp) : flats (s :: l) = [.int .i64 s.1, .int .i64 s.2] ++ flats l := by simp [flats]
theorem flats_append (a b : List Sp) : flats (a ++ b) = flats a ++ flats b := by simp [flats]
theorem flats_length (l : List Sp) : (flats l).length = l.length * 2 := by
  induction l with
  | nil => rfl
  | cons v vs ih => rw [flats_cons, List.length_append, ih, List.length_cons]; simp only [List.length_cons, List.length_nil]; omega
theorem flats_at (l : List Sp) : ∀ (i : Nat) (s : Sp), l[i]? = some s → (flats l)[i * 2]? = some (.int .i64 s.1) ∧ (flats l)[i * 2 + 1]? = some (.int .i64 s.2) := by
  induction l with
  | nil => intro i v h; simp at h
  | cons u vs ih =>
    intro i v h
    cases i with
    | zero =>
      simp only [List.getElem?_cons_zero, Option.some.injEq] at h
      subst h
      simp [flats_cons]
    | succ i =>
      have := ih i v (by simpa using h)
      have e : ∀ j, (flats (u :: vs))[(i + 1) * 2 + j]? = (flats vs)[i * 2 + j]? := fun j => by
        rw [flats_cons, show (i + 1) * 2 + j = 2 + (i * 2 + j) by omega]
        rw [List.getElem?_append_right (by simp)]
        simp [Nat.add_assoc]
      have e0 := e 0
      simp only [Nat.add_zero] at e0
      rw [e0, e 1]
      exact this
theorem flats_one (l : List Sp) : ∀ u ∈ flats l, u.oneCell' = true := by
  intro u hu
  unfold flats at hu
  rw [List.mem_flatMap] at hu
  obtain ⟨v, _, hv⟩ := hu
  simp at hv
  rcases hv with rfl | rfl <;> rfl
theorem flats_get (l : List Sp) (j : Nat) (u : Value) (h : (flats l)[j]? = some u) : ∃ s, l[j / 2]? = some s ∧ [Value.int .i64 s.1, .int .i64 s.2][j % 2]? = some u := by
  have hj : j < l.length * 2 := by rw [← flats_length]; exact (List.getElem?_eq_some_iff.1 h).1
  have hi : j / 2 < l.length := by omega
  obtain ⟨v, hv⟩ : ∃ v, l[j / 2]? = some v := ⟨_, List.getElem?_eq_getElem hi⟩
  refine ⟨v, hv, ?_⟩
  obtain ⟨a0, a1⟩ := flats_at l (j / 2) _ hv
  have hm : j % 2 < 2 := Nat.mod_lt _ (by omega)
  rw [← h]
  have hd := Nat.div_add_mod j 2
  match hk : j % 2, hm with
  | 0, _ => have e : j = j / 2 * 2 := (by omega); rw [e, a0]; rfl
  | 1, _ => have e : j = j / 2 * 2 + 1 := (by omega); rw [e, a1]; rfl
theorem Sps.row {w : World} {A : Option Addr} {l : List Sp} (h : Sps w A l) : Row w A (flats l) := fun h0 => by
  rw [flats_length] at h0
  obtain ⟨b, off, hA, hlt, hc⟩ := h (by omega)
  refine ⟨b, off, hA, hlt, fun j u hu => ?_⟩
  obtain ⟨v, hv, hx⟩ := flats_get l j u hu
  obtain ⟨a0, a1⟩ := hc _ v hv
  have hm : j % 2 < 2 := Nat.mod_lt _ (by omega)
  have hd := Nat.div_add_mod j 2
  rw [show off + j = off + j / 2 * 2 + j % 2 by omega]
  match hk : j % 2, hm with
  | 0, _ => rw [hk] at hx; simp at hx; subst hx; exact a0
  | 1, _ => rw [hk] at hx; simp at hx; subst hx; exact a1
theorem Row.sps {w : World} {A : Option Addr} {l : List Sp} (h : Row w A (flats l)) : Sps w A l := fun h0 => by
  obtain ⟨b, off, hA, hlt, hc⟩ := h (by rw [flats_length]; omega)
  refine ⟨b, off, hA, hlt, fun i v hv => ?_⟩
  obtain ⟨a0, a1⟩ := flats_at l i v hv
  exact ⟨hc _ _ a0, by have := hc _ _ a1; rwa [← Nat.add_assoc] at this⟩

/-! Rows of the call's own. -/
theorem infoS : (Tryz.prog.info? 61).map (fun i => (i.zero, i.size, i.bytes)) = some (some (.agg #[.int .i64 0, .int .i64 0]), 2, 16) := by kernel_rfl
theorem infoS' : ∃ i0, Tryz.prog.info? 61 = some i0 ∧ i0.zero = some (.agg #[.int .i64 0, .int .i64 0]) ∧ i0.size = 2 ∧ i0.bytes = 16 := by
  have h := infoS
  cases hi : Tryz.prog.info? 61 with
  | none => rw [hi] at h; cases h
  | some i =>
    rw [hi] at h
    simp only [Option.map_some, Option.some.injEq, Prod.mk.injEq] at h
    exact ⟨i, rfl, h.1, h.2.1, h.2.2⟩
def OwnS (w : World) (B : Nat) (v : Value) (l : List Sp) : Prop := w.ownsRow B 61 2 v l.length (flats l)
theorem OwnS.sps {w : World} {B : Nat} {v : Value} {l : List Sp} (h : OwnS w B v l) : ∃ A c, v = .slice A l.length c ∧ Sps w A l ∧ (A = none → c = 0) ∧ l.length ≤ c := by
  obtain ⟨A, c, e, hr, hA, _⟩ := own_row h
  refine ⟨A, c, e, hr.sps, hA, ?_⟩
  rcases h.2 with ⟨e1, e2⟩ | ⟨g, cap, cur, e1, _, _, hn, _⟩
  · rw [e2]; exact Nat.zero_le _
  · rw [e] at e1
    cases e1
    exact hn
theorem OwnS.keep {w w' : World} {B : Nat} {v : Value} {l : List Sp} (h : OwnS w B v l) (hb : Bel w w') : OwnS w' B v l := own_keep h hb
theorem OwnS.lt {w : World} {B : Nat} {v : Value} {l : List Sp} (h : OwnS w B v l) : ∀ k, v.ownBlock = some k → B ≤ k ∧ k < w.heap.size := World.ownsRow.lt h
theorem OwnS.nil (w : World) (B : Nat) : OwnS w B (.slice none 0 0) [] := ⟨rfl, .inl ⟨rfl, rfl⟩⟩
theorem OwnS.base {w : World} {B B' : Nat} {v : Value} {l : List Sp} (h : OwnS w B v l) (hB : B' ≤ B) : OwnS w B' v l := by
  obtain ⟨hl, h2⟩ := h
  refine ⟨hl, ?_⟩
  rcases h2 with h2 | ⟨g, cap, cur, e1, e2, h3⟩
  · exact .inl h2
  · exact .inr ⟨g, cap, cur, e1, Nat.le_trans hB e2, h3⟩
theorem app_sps {w : World} {B : Nat} {v : Value} {xs ys : List Sp} {A : Option Addr} {m c : Nat} (h : OwnS w B v xs) (hy : Sps w A ys) (hm : ys.length = m) (hA : A = none → c = 0) (hn : xs.length + ys.length ≤ 2097152) (hB : B ≤ w.heap.size) (ty : TypeId) :
    ∃ v' w', (Builtin.append_ #[34, 34] ty #[v, .slice A m c]).run Tryz.prog w = .ok v' w' ∧ (OwnS w' B v' (xs ++ ys) ∧ BelBut w w' v.ownBlock ∧ (v'.ownBlock = v.ownBlock ∨ v'.ownBlock = some w.heap.size)) := by
  subst hm
  obtain ⟨i0, hi, hz0, hz1, hz2⟩ := infoS'
  obtain ⟨v', w', hr, h1, h2, h3⟩ := run_app (P := Tryz.prog) w B 34 ty 61 i0 _ 2 16 Tryz.underlying34 hi hz0 hz1 hz2 rfl (by omega) h hy.row (flats_length ys) hA (flats_one ys) (by simp only [maxLen]; omega) (by omega) hB
  exact ⟨v', w', hr, by unfold OwnS; rw [List.length_append, flats_append]; exact h1, h2, h3⟩
/-- With the world ahead of all that the call made. -/
theorem app_at {w0 w : World} {v : Value} {xs ys : List Sp} {A : Option Addr} {m c : Nat} (hb : Bel w0 w) (h : OwnS w w0.heap.size v xs) (hy : Sps w A ys) (hm : ys.length = m) (hA : A = none → c = 0) (hn : xs.length + ys.length ≤ 2097152) (ty : TypeId) :
    ∃ v' w', (Builtin.append_ #[34, 34] ty #[v, .slice A m c]).run Tryz.prog w = .ok v' w' ∧ (OwnS w' w0.heap.size v' (xs ++ ys) ∧ Bel w0 w' ∧ BelBut w w' v.ownBlock ∧ (v'.ownBlock = v.ownBlock ∨ v'.ownBlock = some w.heap.size)) := by
  obtain ⟨v', w', hr, h1, h2, h3⟩ := app_sps h hy hm hA hn hb.size ty
  exact ⟨v', w', hr, h1, h2.bel hb fun k hk => (h.lt k hk).1, h2, h3⟩
theorem sps_one (w : World) (s : Sp) {n : Nat} (hn : n = w.heap.size) : Sps (w.alloc (.cells #[.int .i64 s.1, .int .i64 s.2] 61)) (some ⟨n, 0, none⟩) [s] := fun _ => by
  subst hn
  refine ⟨_, 0, rfl, by simp, fun i u hu => ?_⟩
  match i, hu with
  | 0, hu =>
    simp only [List.getElem?_cons_zero, Option.some.injEq] at hu
    subst hu
    simp [SpAt, go_sem]
theorem Sps.but {w w' : World} {row : Option Nat} {A : Option Addr} {l : List Sp} (h : Sps w A l) (hb : BelBut w w' row) (hr : ∀ a, A = some a → row ≠ some a.block) : Sps w' A l := fun h0 => by
  obtain ⟨b', off', e, hlt, hc⟩ := h h0
  have hc' : ∀ o, w'.cell? ⟨b', o, none⟩ = w.cell? ⟨b', o, none⟩ := fun o => World.cell?_of_block (hb.block b' hlt (fun e' => hr _ e e'.symm))
  exact ⟨b', off', e, Nat.lt_of_lt_of_le hlt hb.size, fun i v hv => by
    have := hc i v hv
    simp only [SpAt, hc']
    exact this⟩

theorem cells3s : Tryz.prog.cellsOf 3 = 1 := by kernel_rfl
theorem cellsS : Tryz.prog.cellsOf 61 = 2 := by kernel_rfl
def Rng (s : Sp) : Prop := -9223372036854775808 ≤ s.1 ∧ s.1 ≤ 9223372036854775807 ∧ -9223372036854775808 ≤ s.2 ∧ s.2 ≤ 9223372036854775807
set_option maxRecDepth 100000
section
variable {H : Type} {enc : TypeId × Value → H} {w : World} {base : Nat} {spare : Nat → Bool} {held : Bool} {fuel : Nat}
theorem trod_span {cs : List Value} {x : DataW H × List MemPlace} (h : DataW.trod enc Tryz.prog w base spare held fuel 61 cs = some x) :
    ∃ s : Sp, cs = [.int .i64 s.1, .int .i64 s.2] ∧ Rng s := by
  obtain ⟨xs, m, _, _, hl, hxs, hf⟩ := DataW.trod_struct (fs := Tryz.prog.fieldsOf 61) (by kernel_rfl) h
  have hz : (Tryz.prog.fieldsOf 61).size = 2 := by kernel_rfl
  rw [cellsS] at hl
  rw [hz] at hxs
  match cs, hl, xs, hxs with
  | [c0, c1], _, [x0, x1], _ =>
    obtain ⟨f0, g0, t0, o0⟩ := field_at (fs := Tryz.prog.fieldsOf 61) (i := 0) (t := 3) (o := 0) (by kernel_rfl)
    obtain ⟨f1, g1, t1, o1⟩ := field_at (fs := Tryz.prog.fieldsOf 61) (i := 1) (t := 3) (o := 1) (by kernel_rfl)
    have e0 := hf 0 f0 g0
    have e1 := hf 1 f1 g1
    rw [t0, o0, cells3s] at e0
    rw [t1, o1, cells3s] at e1
    obtain ⟨n0, k0, _, w0⟩ := DataW.trod_int Tryz.underlying3 e0
    obtain ⟨n1, k1, _, w1⟩ := DataW.trod_int Tryz.underlying3 e1
    simp at k0 k1
    subst k0 k1
    obtain ⟨a0, a1⟩ := in64_of w0
    obtain ⟨b0, b1⟩ := in64_of w1
    exact ⟨(n0, n1), rfl, a0, a1, b0, b1⟩
theorem okSlice_addr {r : Reach} {t e : TypeId} {ad : Addr} {len cap : Nat} (ht : Tryz.prog.underlying t = some (.slice e)) (hv : Value.okWide Tryz.prog w r base t (.slice (some ad) len cap)) : ad.spot = none ∧ ad.block < w.heap.size ∧ len ≤ cap ∧ (cap : Int) ≤ 9223372036854775807 := by
  simp only [Value.okWide, ht, Cell.okWide, Cell.ok] at hv
  obtain ⟨h1, h2, _, h3, row, cells, h4, _⟩ := hv
  refine ⟨h3, ?_, h1, by simpa [IntKind.max, IntKind.bits, IntKind.signed] using h2⟩
  rcases Nat.lt_or_ge ad.block w.heap.size with h | h
  · exact h
  · simp [World.shape?, Array.getElem?_eq_none h] at h4
theorem open_sps {r : Reach} {v : Value} {d : DataW H} {p : List MemPlace} (hv : Value.okWide Tryz.prog w r base 34 v) (h : DataW.Trod enc Tryz.prog w 0 spare held 34 v d p) :
    ∃ (A : Option Addr) (c : Nat) (l : List Sp), v = .slice A l.length c ∧ Sps w A l ∧ l.length ≤ maxLen ∧ (A = none → c = 0) ∧ l.length ≤ c ∧ (∀ x ∈ l, Rng x) ∧ (A = none ∨ ∃ b off, A = some ⟨b, off, none⟩ ∧ b < w.heap.size) := by
  obtain ⟨a, len, cap, rfl⟩ := okWide_slice Tryz.underlying34 hv
  obtain ⟨n, hn⟩ := h
  rcases open_slice Tryz.underlying34 hn with ⟨hcs, _⟩ | ⟨ad, len', cap', m, n', D, Pl, hcs, hlc, hl, hm, hmm, hx, hi⟩
  · simp [Value.cells] at hcs
    obtain ⟨rfl, rfl, rfl⟩ := hcs
    exact ⟨none, 0, [], rfl, fun h => absurd h (by simp), by simp, fun _ => rfl, by simp, by simp, .inl rfl⟩
  · simp only [Value.cells, List.cons.injEq, Value.slice.injEq, and_true] at hcs
    obtain ⟨rfl, rfl, rfl⟩ := hcs
    obtain ⟨q1, q2, q3, _⟩ := okSlice_addr Tryz.underlying34 hv
    have hlm : len ≤ m := by rw [hmm]; split <;> omega
    obtain ⟨b, off, spot⟩ := ad
    have key : ∀ i : Nat, ∃ v : Sp, i < len → spot = none ∧ b < w.heap.size ∧ SpAt w b (off + i * 2) v ∧ Rng v := by
      intro i
      by_cases hlt : i < len
      · obtain ⟨cs', hc, ht⟩ := hi i (by omega)
        rw [cellsS] at hc
        obtain ⟨x, rfl, hok⟩ := trod_span ht
        obtain ⟨_, _, hat⟩ := World.cells?_some hc
        obtain ⟨cs0, hc0, ht0⟩ := hi 0 (by omega)
        rw [cellsS] at hc0
        obtain ⟨x0, rfl, _⟩ := trod_span ht0
        have h00 := (World.cells?_some hc0).2.2 0 (by omega)
        simp only [Nat.zero_mul, Addr.add, if_true, List.getElem?_cons_zero] at h00
        have hspot : spot = none := by simpa using World.cell?_spot h00
        subst hspot
        have hblk := World.block_lt_of_cell? _ _ h00
        refine ⟨x, fun _ => ⟨rfl, hblk, ?_, hok⟩⟩
        have a0 := hat 0 (by omega)
        have a1 := hat 1 (by omega)
        simp only [Go.WideShapes.add_plain] at a0 a1
        exact ⟨a0, a1⟩
      · exact ⟨(0, 0), fun h => absurd h hlt⟩
    let V : Nat → Sp := fun i => Classical.choose (key i)
    have hV : ∀ i, i < len → spot = none ∧ b < w.heap.size ∧ SpAt w b (off + i * 2) (V i) ∧ Rng (V i) := fun i => Classical.choose_spec (key i)
    have hlen : ((List.range len).map V).length = len := by simp
    refine ⟨some ⟨b, off, spot⟩, cap, (List.range len).map V, by rw [hlen], fun h0 => ?_, by rw [hlen]; omega, fun h => by (cases h), by rw [hlen]; omega, fun x hx => ?_, .inr ⟨b, off, by dsimp only at q1; rw [q1], q2⟩⟩
    · rw [hlen] at h0
      obtain ⟨rfl, hb0, _⟩ := hV 0 h0
      refine ⟨b, off, rfl, hb0, fun i v hv => ?_⟩
      rw [List.getElem?_map] at hv
      by_cases hlt : i < len
      · rw [List.getElem?_range hlt] at hv
        simp only [Option.map_some, Option.some.injEq] at hv
        subst hv
        exact (hV i hlt).2.2.1
      · rw [List.getElem?_eq_none (by simpa using hlt)] at hv
        cases hv
    · rw [List.mem_map] at hx
      obtain ⟨i, hi', rfl⟩ := hx
      exact (hV i (List.mem_range.1 hi')).2.2.2
end
end Go.Proofs.YtpmmbcobjibpeaaGreatDoor
