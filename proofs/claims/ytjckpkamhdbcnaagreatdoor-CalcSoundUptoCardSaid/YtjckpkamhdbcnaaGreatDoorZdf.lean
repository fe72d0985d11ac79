import Derived.Test.YtjckpkamhdbcnaaGreatDoorZx
import Derived.Test.YtjckpkamhdbcnaaGreatDoorZbf
import Derived.Test.YtjckpkamhdbcnaaGreatDoorZa
namespace Go.Proofs.YtjckpkamhdbcnaaGreatDoor
set_option linter.unusedSimpArgs false
set_option linter.unusedVariables false
open Go.ChangeShapes Go.WideShapes Go.ChangeAt Go.RowKit Go.Deep
def Lists {D : Type} (enc : D -> List Value) (k : Nat) (w : World) (A : Option Addr) (l : List D) : Prop :=
 0 < l.length -> ∃ b off, A = some ⟨b, off, none⟩ /\ b < w.heap.size /\ ∀ i d, l[i]? = some d -> ∀ j v, (enc d)[j]? = some v -> w.cell? ⟨b, off + i * k + j, none⟩ = some v
set_option maxRecDepth 100000
section
variable {H : Type} {enc : TypeId × Value -> H} {w : World} {base : Nat} {spare : Nat -> Bool} {held : Bool} {fuel : Nat}
theorem open_listP {D : Type} (dflt : D) (en : D -> List Value) (k : Nat) (good : D -> Prop) {t e : TypeId} (ht : Tryz.prog.underlying t = some (.slice e)) (hk : Tryz.prog.cellsOf e = k) (hk0 : 0 < k) (hen : ∀ d, (en d).length = k)
  (op : ∀ {cs : List Value} {x : DataW H × List MemPlace} {fuel : Nat}, DataW.trod enc Tryz.prog w base spare held fuel e cs = some x -> ∃ d, cs = en d /\ good d)
  {cs : List Value} {x : DataW H × List MemPlace} (h : DataW.trod enc Tryz.prog w base spare held fuel t cs = some x) :
  ∃ (A : Option Addr) (c : Nat) (l : List D), cs = [.slice A l.length c] /\ Lists en k w A l /\ l.length <= maxLen /\ l.length <= c /\ c <= maxLen /\ ∀ d ∈ l, good d := by
 rcases open_slice ht h with ⟨hcs, _⟩ | ⟨ad, len, cap, m, n', E, Pl, hcs, _, hl, hm, hmm, hx, hi⟩
 ·exact ⟨none, 0, [], hcs, fun h => absurd h (by simp), by simp, by simp, by simp, by simp⟩
 have hlm : len <= m := by rw [hmm]; split <;> omega
 subst hx
 obtain ⟨b, off, spot⟩ := ad
 have key : ∀ i : Nat, ∃ d : D, i < len -> spot = none /\ b < w.heap.size /\ (∀ j v, (en d)[j]? = some v -> w.cell? ⟨b, off + i * k + j, none⟩ = some v) /\ good d := by
  intro i
  by_cases hlt : i < len
  ·obtain ⟨cs', hc, hd⟩ := hi i (by omega)
   rw [hk] at hc
   obtain ⟨d, rfl, hok⟩ := op hd
   obtain ⟨_, _, hat⟩ := World.cells?_some hc
   obtain ⟨cs0, hc0, hd0⟩ := hi 0 (by omega)
   rw [hk] at hc0
   obtain ⟨d0, rfl, _⟩ := op hd0
   have h00 := (World.cells?_some hc0).2.2 0 hk0
   simp only [Nat.zero_mul, Addr.add, if_true] at h00
   rw [gE (by rw [hen]; exact hk0)] at h00
   have hspot : spot = none := by simpa using World.cell?_spot h00
   subst hspot
   have hblk := World.block_lt_of_cell? _ _ h00
   refine ⟨d, fun _ => ⟨rfl, hblk, fun j v hv => ?_, hok⟩⟩
   have hj : j < k := by
    have := (List.getElem?_eq_some_iff.1 hv).1
    rwa [hen] at this
   have a := hat j hj
   rw [hv] at a
   simp only [Go.WideShapes.add_plain] at a
   exact a
  exact ⟨dflt, fun h => absurd h hlt⟩
 let V : Nat -> D := fun i => Classical.choose (key i)
 have hV : ∀ i, i < len -> spot = none /\ b < w.heap.size /\ (∀ j v, (en (V i))[j]? = some v -> w.cell? ⟨b, off + i * k + j, none⟩ = some v) /\ good (V i) := fun i => Classical.choose_spec (key i)
 have hlen : ((List.range len).map V).length = len := by simp
 refine ⟨some ⟨b, off, spot⟩, cap, (List.range len).map V, by rw [hlen]; exact hcs, fun h0 => ?_, by rw [hlen]; omega, by rw [hlen]; omega, hm, fun x hx => ?_⟩
 ·rw [hlen] at h0
  obtain ⟨rfl, hb0, _⟩ := hV 0 h0
  refine ⟨b, off, rfl, hb0, fun i d hd => ?_⟩
  rw [List.getElem?_map] at hd
  by_cases hlt : i < len
  ·rw [List.getElem?_range hlt] at hd
   simp only [Option.map_some, Option.some.injEq] at hd
   subst hd
   exact (hV i hlt).2.2.1
  rw [List.getElem?_eq_none (by simpa using hlt)] at hd
  cases hd
 rw [List.mem_map] at hx
 obtain ⟨i, hi', rfl⟩ := hx
 exact (hV i (List.mem_range.1 hi')).2.2.2
theorem cellsBd : Tryz.prog.cellsOf 46 = 6 := by kernel_rfl
def bdCells (x : Bnd) : List Value := [.string x.nm, .int .i64 x.v.kind, .int .i64 x.v.n, .int .i64 x.v.scale, .string x.v.text, .int .i64 x.v.num]
theorem Qsd {cs : List Value} {x : DataW H × List MemPlace} (h : DataW.trod enc Tryz.prog w base spare held fuel 46 cs = some x) :
  ∃ y : Bnd, cs = bdCells y /\ y.Fit := by
 obtain ⟨xs, m, _, _, hl, hxs, hf⟩ := DataW.trod_struct (fs := Tryz.prog.fieldsOf 46) (by kernel_rfl) h
 have hz : (Tryz.prog.fieldsOf 46).size = 2 := by kernel_rfl
 rw [cellsBd] at hl
 rw [hz] at hxs
 match cs, hl, xs, hxs with
 | [c0, c1, c2, c3, c4, c5], _, [x0, x1], _ =>
  obtain ⟨f0, g0, t0, o0⟩ := Qbk (fs := Tryz.prog.fieldsOf 46) (i := 0) (t := 9) (o := 0) (by kernel_rfl)
  obtain ⟨f1, g1, t1, o1⟩ := Qbk (fs := Tryz.prog.fieldsOf 46) (i := 1) (t := 25) (o := 1) (by kernel_rfl)
  have e0 := hf 0 f0 g0
  have e1 := hf 1 f1 g1
  rw [t0, o0, cells9] at e0
  rw [t1, o1, cells27] at e1
  obtain ⟨s0, k0, _, w0⟩ := DataW.trod_string Tryz.underlying9 e0
  obtain ⟨v1, k1, w1⟩ := Qkp e1
  simp at k0 k1
  obtain ⟨rfl, rfl, rfl, rfl, rfl⟩ := k1
  subst k0
  have hw := w1.text
  unfold maxLen at hw
  exact ⟨⟨s0, v1⟩, rfl, hw⟩
theorem Lists.bnds {A : Option Addr} {l : List Bnd} (h : Lists bdCells 6 w A l) : Bnds w A l := fun h0 => by
 obtain ⟨b, off, hA, hlt, hc⟩ := h h0
 exact ⟨b, off, hA, hlt, fun i x hx => ⟨hc i x hx 0 _ rfl, hc i x hx 1 _ rfl, hc i x hx 2 _ rfl, hc i x hx 3 _ rfl, hc i x hx 4 _ rfl, hc i x hx 5 _ rfl⟩⟩
theorem open_bnds {r : Reach} {v : Value} {d : DataW H} {p : List MemPlace} (hv : Value.okWide Tryz.prog w r base 29 v) (h : DataW.Trod enc Tryz.prog w 0 spare held 29 v d p) :
  ∃ (A : Option Addr) (c : Nat) (l : List Bnd), v = .slice A l.length c /\ Bnds w A l /\ l.length <= 9223372036854775807 /\ l.length <= c /\ c <= 9223372036854775807 /\ ∀ b ∈ l, b.Fit := by
 obtain ⟨a, len, cap, rfl⟩ := okWide_slice Tryz.underlying29 hv
 obtain ⟨n, hn⟩ := h
 obtain ⟨A, c, l, h1, h2, h3, h4, h5, h6⟩ := open_listP (dflt := (⟨⟨#[]⟩, ⟨0, 0, 0, ⟨#[]⟩, 0⟩⟩ : Bnd)) bdCells 6 (fun b => b.Fit) Tryz.underlying29 cellsBd (by omega) (fun _ => rfl) (fun h => Qsd h) hn
 unfold maxLen at h3 h5
 exact ⟨A, c, l, by simpa [Value.cells] using h1, h2.bnds, h3, h4, h5, h6⟩
end
end Go.Proofs.YtjckpkamhdbcnaaGreatDoor
