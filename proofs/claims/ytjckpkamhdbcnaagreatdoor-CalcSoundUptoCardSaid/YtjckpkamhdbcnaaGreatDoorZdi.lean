import Derived.Test.YtjckpkamhdbcnaaGreatDoorRows
import Derived.Test.YtjckpkamhdbcnaaGreatDoorZdf
namespace Go.Proofs.YtjckpkamhdbcnaaGreatDoor
set_option linter.unusedSimpArgs false
set_option linter.unusedVariables false
theorem bulk_pos {H : Type} (d : DataW H) : 1 <= Rows.uptoBulk d := by
 cases d with
 | lit l => cases l <;> simp [Rows.uptoBulk]
 | _ => simp [Rows.uptoBulk]
theorem bulk_len {H : Type} (l : List (DataW H)) : l.length <= Rows.uptoBulkAll l := by
 induction l with
 | nil => simp
 | cons x r ih => have := bulk_pos x; simp only [Rows.uptoBulkAll, List.length_cons]; omega
theorem bulk_slice {H : Type} (es sp : List (DataW H)) : es.length <= Rows.uptoBulk (.slice es sp) := by
 have := bulk_len es
 simp only [Rows.uptoBulk]
 omega
theorem bulk_mem {H : Type} {d : DataW H} {l : List (DataW H)} (h : d ∈ l) : Rows.uptoBulk d <= Rows.uptoBulkAll l := by
 induction l with
 | nil => cases h
 | cons x r ih =>
  simp only [Rows.uptoBulkAll]
  rcases List.mem_cons.1 h with rfl | h
  ·omega
  have := ih h; omega
theorem bulk_of {H : Type} {l : List (DataW H)} (hk : Rows.uptoSmall H l = true) : Rows.uptoBulkAll l <= 1048576 := of_decide_eq_true hk
theorem bulk_arg {H : Type} {l : List (DataW H)} (hk : Rows.uptoSmall H l = true) {es sp : List (DataW H)} (h : DataW.slice es sp ∈ l) : es.length <= 1048576 :=
 Nat.le_trans (bulk_slice es sp) (Nat.le_trans (bulk_mem h) (bulk_of hk))
section
open Go.ChangeShapes Go.WideShapes Go.ChangeAt Go.RowKit Go.Deep
set_option maxRecDepth 100000
section
variable {H : Type} {enc : TypeId × Value -> H} {w : World} {base : Nat} {spare : Nat -> Bool} {held : Bool} {fuel : Nat}
theorem open_list {D : Type} (dflt : D) (en : D -> List Value) (k : Nat) (good : D -> Prop) (N : Nat) {t e : TypeId} (ht : Tryz.prog.underlying t = some (.slice e)) (hk : Tryz.prog.cellsOf e = k) (hk0 : 0 < k) (hen : ∀ d, (en d).length = k)
  (op : ∀ {cs : List Value} {x : DataW H × List MemPlace} {fuel : Nat}, DataW.trod enc Tryz.prog w base spare held fuel e cs = some x -> Rows.uptoBulk x.1 <= N -> ∃ d, cs = en d /\ good d)
  {cs : List Value} {x : DataW H × List MemPlace} (h : DataW.trod enc Tryz.prog w base spare held fuel t cs = some x) (hN : Rows.uptoBulk x.1 <= N) :
  ∃ (A : Option Addr) (c : Nat) (l : List D), cs = [.slice A l.length c] /\ Lists en k w A l /\ l.length <= N /\ l.length <= c /\ c <= maxLen /\ (A = none -> c = 0) /\ ∀ d ∈ l, good d := by
 rcases open_slice ht h with ⟨hcs, _⟩ | ⟨ad, len, cap, m, n', E, Pl, hcs, _, hl, hm, hmm, hx, hi⟩
 ·exact ⟨none, 0, [], hcs, fun h => absurd h (by simp), by simp, by simp, by simp, fun _ => rfl, by simp⟩
 have hlm : len <= m := by rw [hmm]; split <;> omega
 subst hx
 simp only at hN
 have hlen0 : ((List.range len).map E).length = len := by simp
 have hbl := bulk_slice ((List.range len).map E) ((List.range (m - len)).map fun j => E (len + j))
 rw [hlen0] at hbl
 have hEN : ∀ i, i < len -> Rows.uptoBulk (E i) <= N := fun i hi' => by
  have h1 := bulk_mem (d := E i) (l := (List.range len).map E) (List.mem_map.2 ⟨i, List.mem_range.2 hi', rfl⟩)
  simp only [Rows.uptoBulk] at hN
  omega
 obtain ⟨b, off, spot⟩ := ad
 have key : ∀ i : Nat, ∃ d : D, i < len -> spot = none /\ b < w.heap.size /\ (∀ j v, (en d)[j]? = some v -> w.cell? ⟨b, off + i * k + j, none⟩ = some v) /\ good d := by
  intro i
  by_cases hlt : i < len
  ·obtain ⟨cs', hc, hd⟩ := hi i (by omega)
   rw [hk] at hc
   obtain ⟨d, rfl, hok⟩ := op hd (hEN i hlt)
   obtain ⟨_, _, hat⟩ := World.cells?_some hc
   obtain ⟨cs0, hc0, hd0⟩ := hi 0 (by omega)
   rw [hk] at hc0
   obtain ⟨d0, rfl, _⟩ := op hd0 (hEN 0 (by omega))
   have h00 := (World.cells?_some hc0).2.2 0 hk0
   simp only [Nat.zero_mul, Addr.add, if_true] at h00
   rw [gE (by rw [hen]; exact hk0)] at h00
   have hspot : spot = none := by simpa using World.cell?_spot h00
   subst hspot
   have hblk := World.block_lt_of_cell? _ _ h00
   refine ⟨d, fun _ => ⟨rfl, hblk, fun j v hv => ?_, hok⟩⟩
   have hj : j < k := by
    have := (List.getElem?_eq_some_iff.1 hv).1
    rwa [hen] at this
   have a := hat j hj
   rw [hv] at a
   simp only [Go.WideShapes.add_plain] at a
   exact a
  exact ⟨dflt, fun h => absurd h hlt⟩
 let V : Nat -> D := fun i => Classical.choose (key i)
 have hV : ∀ i, i < len -> spot = none /\ b < w.heap.size /\ (∀ j v, (en (V i))[j]? = some v -> w.cell? ⟨b, off + i * k + j, none⟩ = some v) /\ good (V i) := fun i => Classical.choose_spec (key i)
 have hlen : ((List.range len).map V).length = len := by simp
 refine ⟨some ⟨b, off, spot⟩, cap, (List.range len).map V, by rw [hlen]; exact hcs, fun h0 => ?_, by rw [hlen]; omega, by rw [hlen]; omega, hm, fun h => by (cases h), fun x hx => ?_⟩
 ·rw [hlen] at h0
  obtain ⟨rfl, hb0, _⟩ := hV 0 h0
  refine ⟨b, off, rfl, hb0, fun i d hd => ?_⟩
  rw [List.getElem?_map] at hd
  by_cases hlt : i < len
  ·rw [List.getElem?_range hlt] at hd
   simp only [Option.map_some, Option.some.injEq] at hd
   subst hd
   exact (hV i hlt).2.2.1
  rw [List.getElem?_eq_none (by simpa using hlt)] at hd
  cases hd
 rw [List.mem_map] at hx
 obtain ⟨i, hi', rfl⟩ := hx
 exact (hV i (List.mem_range.1 hi')).2.2.2
theorem open_bndsU {r : Reach} {v : Value} {d : DataW H} {p : List MemPlace} (hv : Value.okWide Tryz.prog w r base 29 v) (h : DataW.Trod enc Tryz.prog w 0 spare held 29 v d p) (hN : Rows.uptoBulk d <= 1048576) :
  ∃ (A : Option Addr) (c : Nat) (l : List Bnd), v = .slice A l.length c /\ Bnds w A l /\ l.length <= 1048576 /\ l.length <= c /\ c <= 9223372036854775807 /\ (A = none -> c = 0) /\ ∀ b ∈ l, b.Fit := by
 obtain ⟨a, len, cap, rfl⟩ := okWide_slice Tryz.underlying29 hv
 obtain ⟨n, hn⟩ := h
 obtain ⟨A, c, l, h1, h2, h3, h4, h5, h6, h7⟩ := open_list (dflt := (⟨⟨#[]⟩, ⟨0, 0, 0, ⟨#[]⟩, 0⟩⟩ : Bnd)) bdCells 6 (fun b => b.Fit) 1048576 Tryz.underlying29 cellsBd (by omega) (fun _ => rfl) (fun h _ => Qsd h) hn hN
 unfold maxLen at h5
 exact ⟨A, c, l, by simpa [Value.cells] using h1, h2.bnds, h3, h4, h5, h6, h7⟩
theorem open_bnd {r : Reach} {v : Value} {d : DataW H} {p : List MemPlace} (hv : Value.okWide Tryz.prog w r base 46 v) (h : DataW.Trod enc Tryz.prog w 0 spare held 46 v d p) : ∃ x : Bnd, v = x.val /\ x.Fit := by
 obtain ⟨cs, rfl, hsz⟩ := okWide_struct (fs := Tryz.prog.fieldsOf 46) (by kernel_rfl) hv
 obtain ⟨n, hn⟩ := h
 obtain ⟨x, hx, hok⟩ := Qsd hn
 refine ⟨x, ?_, hok⟩
 simp only [Value.cells] at hx
 obtain ⟨l⟩ := cs
 simp only at hx
 rw [hx]
 rfl
end
end
end Go.Proofs.YtjckpkamhdbcnaaGreatDoor
