import Derived.Test.YtjckpkamhdbcnaaGreatDoorZt
import Derived.Test.YtjckpkamhdbcnaaGreatDoorZa
namespace Go.Proofs.YtjckpkamhdbcnaaGreatDoor
set_option linter.unusedSimpArgs false
set_option linter.unusedVariables false
open Go.ChangeShapes Go.WideShapes Go.ChangeAt Go.RowKit Go.Deep
theorem cells3 : Tryz.prog.cellsOf 3 = 1 := by kernel_rfl
theorem cells9 : Tryz.prog.cellsOf 9 = 1 := by kernel_rfl
theorem cells25 : Tryz.prog.cellsOf 23 = 2 := by kernel_rfl
theorem cells27 : Tryz.prog.cellsOf 25 = 5 := by kernel_rfl
structure Val.Ok (v : Val) : Prop where
 kind : In64 v.kind
 n : In64 v.n
 scale : In64 v.scale
 text : v.text.size <= maxLen
 num : In64 v.num
set_option maxRecDepth 100000
section
variable {H : Type} {enc : TypeId × Value -> H} {w : World} {base : Nat} {spare : Nat -> Bool} {held : Bool} {fuel : Nat}
theorem Qre {cs : List Value} {x : DataW H × List MemPlace} (h : DataW.trod enc Tryz.prog w base spare held fuel 23 cs = some x) :
  ∃ n s : Int, cs = [.int .i64 n, .int .i64 s] /\ In64 n /\ In64 s := by
 obtain ⟨xs, m, _, _, hl, hxs, hf⟩ := DataW.trod_struct (fs := Tryz.prog.fieldsOf 23) (by kernel_rfl) h
 have hz : (Tryz.prog.fieldsOf 23).size = 2 := by kernel_rfl
 rw [cells25] at hl
 rw [hz] at hxs
 match cs, hl, xs, hxs with
 | [c0, c1], _, [x0, x1], _ =>
  obtain ⟨f0, g0, t0, o0⟩ := Qbk (fs := Tryz.prog.fieldsOf 23) (i := 0) (t := 3) (o := 0) (by kernel_rfl)
  obtain ⟨f1, g1, t1, o1⟩ := Qbk (fs := Tryz.prog.fieldsOf 23) (i := 1) (t := 3) (o := 1) (by kernel_rfl)
  have e0 := hf 0 f0 g0
  have e1 := hf 1 f1 g1
  rw [t0, o0, cells3] at e0
  rw [t1, o1, cells3] at e1
  obtain ⟨n0, k0, _, w0⟩ := DataW.trod_int Tryz.underlying3 e0
  obtain ⟨n1, k1, _, w1⟩ := DataW.trod_int Tryz.underlying3 e1
  simp at k0 k1
  subst k0 k1
  exact ⟨n0, n1, rfl, Qgk w0, Qgk w1⟩
theorem Qkp {cs : List Value} {x : DataW H × List MemPlace} (h : DataW.trod enc Tryz.prog w base spare held fuel 25 cs = some x) :
  ∃ v : Val, cs = [.int .i64 v.kind, .int .i64 v.n, .int .i64 v.scale, .string v.text, .int .i64 v.num] /\ v.Ok := by
 obtain ⟨xs, m, _, _, hl, hxs, hf⟩ := DataW.trod_struct (fs := Tryz.prog.fieldsOf 25) (by kernel_rfl) h
 have hz : (Tryz.prog.fieldsOf 25).size = 4 := by kernel_rfl
 rw [cells27] at hl
 rw [hz] at hxs
 match cs, hl, xs, hxs with
 | [c0, c1, c2, c3, c4], _, [x0, x1, x2, x3], _ =>
  obtain ⟨f0, g0, t0, o0⟩ := Qbk (fs := Tryz.prog.fieldsOf 25) (i := 0) (t := 3) (o := 0) (by kernel_rfl)
  obtain ⟨f1, g1, t1, o1⟩ := Qbk (fs := Tryz.prog.fieldsOf 25) (i := 1) (t := 23) (o := 1) (by kernel_rfl)
  obtain ⟨f2, g2, t2, o2⟩ := Qbk (fs := Tryz.prog.fieldsOf 25) (i := 2) (t := 9) (o := 3) (by kernel_rfl)
  obtain ⟨f3, g3, t3, o3⟩ := Qbk (fs := Tryz.prog.fieldsOf 25) (i := 3) (t := 3) (o := 4) (by kernel_rfl)
  have e0 := hf 0 f0 g0
  have e1 := hf 1 f1 g1
  have e2 := hf 2 f2 g2
  have e3 := hf 3 f3 g3
  rw [t0, o0, cells3] at e0
  rw [t1, o1, cells25] at e1
  rw [t2, o2, cells9] at e2
  rw [t3, o3, cells3] at e3
  obtain ⟨n0, k0, _, w0⟩ := DataW.trod_int Tryz.underlying3 e0
  obtain ⟨n1, s1, k1, w1, w1'⟩ := Qre e1
  obtain ⟨s2, k2, _, w2⟩ := DataW.trod_string Tryz.underlying9 e2
  obtain ⟨n3, k3, _, w3⟩ := DataW.trod_int Tryz.underlying3 e3
  simp at k0 k1 k2 k3
  obtain ⟨rfl, rfl⟩ := k1
  subst k0 k2 k3
  exact ⟨⟨n0, n1, s1, s2, n3⟩, rfl, Qgk w0, w1, w1', w2, Qgk w3⟩
end
mutual
def lnX : Ex -> Prop
 | .mk _ v nm ks => ks.length <= 9223372036854775807 /\ lnL ks
def lnL : List Ex -> Prop
 | [] => True
 | x :: t => lnX x /\ lnL t
end
theorem Qjh : ∀ {l : List Ex} {x : Ex}, lnL l -> x ∈ l -> lnX x
 | y :: l, x, h, hx => by
  rcases List.mem_cons.1 hx with rfl | hx
  ·exact h.1
  exact Qjh h.2 hx
theorem Qol : ∀ {l : List Ex}, (∀ x ∈ l, lnX x) -> lnL l
 | [], h => trivial
 | y :: l, h => ⟨h y (by simp), Qol fun x hx => h x (by simp [hx])⟩
theorem Qsu : ∀ {l : List Ex}, (∀ x ∈ l, smX x) -> smL l
 | [], h => trivial
 | y :: l, h => ⟨h y (by simp), Qsu fun x hx => h x (by simp [hx])⟩
theorem cellsX : Tryz.prog.cellsOf 28 = 8 := by kernel_rfl
theorem cellsXs : Tryz.prog.cellsOf 26 = 1 := by kernel_rfl
def exL (x : Ex) (A : Option Addr) (c : Nat) : List Value := [.int .i64 x.op, .int .i64 x.v.kind, .int .i64 x.v.n, .int .i64 x.v.scale, .string x.v.text, .int .i64 x.v.num, .string (Qaa x.nm), .slice A x.ks.length c]
section
variable {H : Type} {enc : TypeId × Value -> H} {w : World} {base : Nat} {spare : Nat -> Bool} {held : Bool}
theorem Qxa {b o : Nat} {x : Ex} {A : Option Addr} {c : Nat} (h : ∀ j v, (exL x A c)[j]? = some v -> w.cell? ⟨b, o + j, none⟩ = some v) : Qap w b o x.op x.v (Qaa x.nm) A x.ks.length c :=
 ⟨h 0 _ rfl, h 1 _ rfl, h 2 _ rfl, h 3 _ rfl, h 4 _ rfl, h 5 _ rfl, h 6 _ rfl, h 7 _ rfl⟩
theorem open_exs (N : Nat) (op : ∀ {cs : List Value} {x : DataW H × List MemPlace} {fuel : Nat}, SizeOf.sizeOf x.1 <= N -> DataW.trod enc Tryz.prog w base spare held fuel 28 cs = some x -> ∃ (y : Ex) (A : Option Addr) (c : Nat), cs = exL y A c /\ LieAt (fun _ => True) N w A y.ks /\ smX y /\ lnX y)
  {cs : List Value} {x : DataW H × List MemPlace} {fuel : Nat} (h : DataW.trod enc Tryz.prog w base spare held fuel 26 cs = some x) (hN : SizeOf.sizeOf x.1 <= N + 1) :
  ∃ (A : Option Addr) (c : Nat) (l : List Ex), cs = [.slice A l.length c] /\ LieAt (fun _ => True) (N + 1) w A l /\ l.length <= 9223372036854775807 /\ smL l /\ lnL l := by
 rcases open_slice Tryz.underlying26 h with ⟨hcs, _⟩ | ⟨ad, len, cap, m, n', E, Pl, hcs, _, hl, hm, hmm, hx, hi⟩
 ·exact ⟨none, 0, [], hcs, fun h => absurd h (by simp), by simp, trivial, trivial⟩
 have hlm : len <= m := by rw [hmm]; split <;> omega
 unfold maxLen at hm
 subst hx
 simp only at hN
 have hEN : ∀ i, i < len -> SizeOf.sizeOf (E i) <= N := fun i hi' => by
  have h1 := List.sizeOf_lt_of_mem (List.mem_map.2 ⟨i, List.mem_range.2 hi', rfl⟩ : E i ∈ (List.range len).map E)
  simp only [DataW.slice.sizeOf_spec] at hN
  omega
 obtain ⟨b, off, spot⟩ := ad
 have key : ∀ i : Nat, ∃ y : Ex, i < len -> spot = none /\ b < w.heap.size /\ (∃ (A : Option Addr) (c : Nat), Qap w b (off + i * 8) y.op y.v (Qaa y.nm) A y.ks.length c /\ LieAt (fun _ => True) N w A y.ks) /\ smX y /\ lnX y := by
  intro i
  by_cases hlt : i < len
  ·obtain ⟨cs', hc, hd⟩ := hi i (by omega)
   rw [cellsX] at hc
   obtain ⟨y, A, c, rfl, h1, h2, h3⟩ := op (hEN i hlt) hd
   obtain ⟨_, _, hat⟩ := World.cells?_some hc
   obtain ⟨cs0, hc0, hd0⟩ := hi 0 (by omega)
   rw [cellsX] at hc0
   obtain ⟨y0, A0, c0, rfl, _⟩ := op (hEN 0 (by omega)) hd0
   have h00 := (World.cells?_some hc0).2.2 0 (by omega)
   simp only [Nat.zero_mul, Addr.add, if_true] at h00
   rw [show (exL y0 A0 c0)[0]? = some (.int .i64 y0.op) from rfl] at h00
   have hspot : spot = none := by simpa using World.cell?_spot h00
   subst hspot
   have hblk2 := World.block_lt_of_cell? _ _ h00
   refine ⟨y, fun _ => ⟨rfl, hblk2, ⟨A, c, Qxa fun j v hv => ?_, h1⟩, h2, h3⟩⟩
   have hj : j < 8 := (List.getElem?_eq_some_iff.1 hv).1
   have a := hat j hj
   rw [hv] at a
   simp only [Go.WideShapes.add_plain] at a
   exact a
  exact ⟨.mk 0 ⟨0, 0, 0, ⟨#[]⟩, 0⟩ [] [], fun h => absurd h hlt⟩
 let V : Nat -> Ex := fun i => Classical.choose (key i)
 have hV : ∀ i, i < len -> spot = none /\ b < w.heap.size /\ (∃ (A : Option Addr) (c : Nat), Qap w b (off + i * 8) (V i).op (V i).v (Qaa (V i).nm) A (V i).ks.length c /\ LieAt (fun _ => True) N w A (V i).ks) /\ smX (V i) /\ lnX (V i) := fun i => Classical.choose_spec (key i)
 have hlen : ((List.range len).map V).length = len := by simp
 refine ⟨some ⟨b, off, spot⟩, cap, (List.range len).map V, by rw [hlen]; exact hcs, fun h0 => ?_, by rw [hlen]; omega, Qsu fun x hx => ?_, Qol fun x hx => ?_⟩
 ·rw [hlen] at h0
  obtain ⟨rfl, hb0, _⟩ := hV 0 h0
  refine ⟨b, off, rfl, trivial, hb0, fun i d hd => ?_⟩
  rw [List.getElem?_map] at hd
  by_cases hlt : i < len
  ·rw [List.getElem?_range hlt] at hd
   simp only [Option.map_some, Option.some.injEq] at hd
   subst hd
   exact (hV i hlt).2.2.1
  rw [List.getElem?_eq_none (by simpa using hlt)] at hd
  cases hd
 ·rw [List.mem_map] at hx
  obtain ⟨i, hi', rfl⟩ := hx
  exact (hV i (List.mem_range.1 hi')).2.2.2.1
 rw [List.mem_map] at hx
 obtain ⟨i, hi', rfl⟩ := hx
 exact (hV i (List.mem_range.1 hi')).2.2.2.2
theorem Qom : ∀ (N : Nat) {cs : List Value} {x : DataW H × List MemPlace} {fuel : Nat}, SizeOf.sizeOf x.1 <= N -> DataW.trod enc Tryz.prog w base spare held fuel 28 cs = some x -> ∃ (y : Ex) (A : Option Addr) (c : Nat), cs = exL y A c /\ LieAt (fun _ => True) N w A y.ks /\ smX y /\ lnX y
 | 0, cs, x, fuel, hN, h => by
  obtain ⟨xs, m, _, hx, _⟩ := DataW.trod_struct (fs := Tryz.prog.fieldsOf 28) (by kernel_rfl) h
  subst hx
  simp only [DataW.agg.sizeOf_spec] at hN
  omega
 | N + 1, cs, x, fuel, hN, h => by
  obtain ⟨xs, m, _, hx, hl, hxs, hf⟩ := DataW.trod_struct (fs := Tryz.prog.fieldsOf 28) (by kernel_rfl) h
  have hz : (Tryz.prog.fieldsOf 28).size = 4 := by kernel_rfl
  rw [cellsX] at hl
  rw [hz] at hxs
  subst hx
  match cs, hl, xs, hxs with
  | [c0, c1, c2, c3, c4, c5, c6, c7], _, [x0, x1, x2, x3], _ =>
   obtain ⟨f0, g0, t0, o0⟩ := Qbk (fs := Tryz.prog.fieldsOf 28) (i := 0) (t := 3) (o := 0) (by kernel_rfl)
   obtain ⟨f1, g1, t1, o1⟩ := Qbk (fs := Tryz.prog.fieldsOf 28) (i := 1) (t := 25) (o := 1) (by kernel_rfl)
   obtain ⟨f2, g2, t2, o2⟩ := Qbk (fs := Tryz.prog.fieldsOf 28) (i := 2) (t := 9) (o := 6) (by kernel_rfl)
   obtain ⟨f3, g3, t3, o3⟩ := Qbk (fs := Tryz.prog.fieldsOf 28) (i := 3) (t := 26) (o := 7) (by kernel_rfl)
   have e0 := hf 0 f0 g0
   have e1 := hf 1 f1 g1
   have e2 := hf 2 f2 g2
   have e3 := hf 3 f3 g3
   rw [t0, o0, cells3] at e0
   rw [t1, o1, cells27] at e1
   rw [t2, o2, cells9] at e2
   rw [t3, o3, cellsXs] at e3
   obtain ⟨n0, k0, _, _⟩ := DataW.trod_int Tryz.underlying3 e0
   obtain ⟨n1, k1, w1⟩ := Qkp e1
   obtain ⟨s2, k2, _, z2⟩ := DataW.trod_string Tryz.underlying9 e2
   have hs3 : SizeOf.sizeOf x3.1 <= N + 1 := by
    have h1 := List.sizeOf_lt_of_mem (show x3.1 ∈ [x0.1, x1.1, x2.1, x3.1] from by simp)
    simp only [DataW.agg.sizeOf_spec, List.map_cons, List.map_nil] at hN
    omega
   obtain ⟨A, c, l, k3, hL, hll, hsm, hln⟩ := open_exs N (fun hN h => Qom N hN h) e3 hs3
   simp at k0 k1 k2 k3
   obtain ⟨rfl, rfl, rfl, rfl, rfl⟩ := k1
   subst k0 k2 k3
   have hw := w1.text
   unfold maxLen at hw z2
   refine ⟨.mk n0 n1 s2.data.toList l, A, c, ?_, hL, ⟨hw, by rw [Array.length_toList]; exact z2, hsm⟩, ⟨hll, hln⟩⟩
   simp only [exL, Ex.op, Ex.v, Ex.nm, Ex.ks, Qew]
theorem open_ex {r : Reach} {v : Value} {d : DataW H} {p : List MemPlace} (hv : Value.okWide Tryz.prog w r base 28 v) (h : DataW.Trod enc Tryz.prog w 0 spare held 28 v d p) :
  ∃ (y : Ex) (A : Option Addr) (c : Nat), v = exV y.op y.v (Qaa y.nm) A y.ks.length c /\ Lie (fun _ => True) w A y.ks /\ smX y /\ lnX y := by
 obtain ⟨cs, rfl, hsz⟩ := okWide_struct (fs := Tryz.prog.fieldsOf 28) (by kernel_rfl) hv
 obtain ⟨n, hn⟩ := h
 obtain ⟨y, A, c, hx, hL, h1, h2⟩ := Qom _ (Nat.le_refl _) hn
 refine ⟨y, A, c, ?_, ⟨_, hL⟩, h1, h2⟩
 simp only [Value.cells] at hx
 obtain ⟨l⟩ := cs
 simp only at hx
 rw [hx]
 rfl
end
end Go.Proofs.YtjckpkamhdbcnaaGreatDoor
