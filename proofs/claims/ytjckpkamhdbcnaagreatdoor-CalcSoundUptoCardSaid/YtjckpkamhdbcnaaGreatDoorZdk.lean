import Derived.Test.YtjckpkamhdbcnaaGreatDoorZdi
namespace Go.Proofs.YtjckpkamhdbcnaaGreatDoor
set_option linter.unusedSimpArgs false
set_option linter.unusedVariables false
open Go.RowKit
def bsCells (l : List Bnd) : List Value := l.flatMap bdCells
theorem bsCells_len (l : List Bnd) : (bsCells l).length = 6 * l.length := by
 induction l with
 | nil => rfl
 | cons a l ih => unfold bsCells at ih ⊢; rw [List.flatMap_cons, lA, ih]; simp [bdCells]; omega
theorem bsCells_app (a b : List Bnd) : bsCells (a ++ b) = bsCells a ++ bsCells b := by simp [bsCells]
theorem bs_at : ∀ (l : List Bnd) (j i : Nat) (x : Bnd) (u : Value), l[j]? = some x -> (bdCells x)[i]? = some u -> (bsCells l)[j * 6 + i]? = some u
 | [], j, i, x, u, h, _ => by simp at h
 | y :: l, 0, i, x, u, h, hu => by
  obtain rfl : y = x := by simpa using h
  unfold bsCells
  rw [List.flatMap_cons, Nat.zero_mul, Nat.zero_add, List.getElem?_append_left (List.getElem?_eq_some_iff.1 hu).1]
  exact hu
 | y :: l, j + 1, i, x, u, h, hu => by
  unfold bsCells
  rw [List.flatMap_cons, List.getElem?_append_right (by simp [bdCells]; omega)]
  rw [show (j + 1) * 6 + i - (bdCells y).length = j * 6 + i by simp [bdCells]; omega]
  exact bs_at l j i x u h hu
theorem Bnds.row {w : World} {A : Option Addr} {l : List Bnd} (h : Bnds w A l) : Row w A (bsCells l) := fun h0 => by
 rw [bsCells_len] at h0
 obtain ⟨b, off, hA, hlt, hc⟩ := h (by omega)
 refine ⟨b, off, hA, hlt, fun j u hu => ?_⟩
 have hj : j < 6 * l.length := by rw [← bsCells_len]; exact (List.getElem?_eq_some_iff.1 hu).1
 have hi : j / 6 < l.length := by omega
 obtain ⟨c0, c1, c2, c3, c4, c5⟩ := hc (j / 6) l[j / 6] (gE hi)
 have hm : j % 6 < 6 := Nat.mod_lt _ (by decide)
 have hd := Nat.div_add_mod j 6
 have key : ∀ k v, (bdCells l[j / 6])[k]? = some v -> j % 6 = k -> some u = some v := fun k v hv hk => by
  have h1 := bs_at l (j / 6) k l[j / 6] v (gE hi) hv
  rw [← hu, ← h1]
  congr 1
  omega
 have e : off + j = off + j / 6 * 6 + j % 6 := by omega
 rw [e]
 match hk : j % 6, hm with
 | 0, _ => rw [key 0 _ rfl hk]; exact c0
 | 1, _ => rw [key 1 _ rfl hk]; exact c1
 | 2, _ => rw [key 2 _ rfl hk]; exact c2
 | 3, _ => rw [key 3 _ rfl hk]; exact c3
 | 4, _ => rw [key 4 _ rfl hk]; exact c4
 | 5, _ => rw [key 5 _ rfl hk]; exact c5
theorem Row.bnds {w : World} {A : Option Addr} {l : List Bnd} (h : Row w A (bsCells l)) : Bnds w A l := fun h0 => by
 obtain ⟨b, off, hA, hlt, hc⟩ := h (by rw [bsCells_len]; omega)
 refine ⟨b, off, hA, hlt, fun i x hx => ?_⟩
 have g := fun k u hu => hc _ u (bs_at l i k x u hx hu)
 exact ⟨g 0 _ rfl, g 1 _ rfl, g 2 _ rfl, g 3 _ rfl, g 4 _ rfl, g 5 _ rfl⟩
theorem bs_one (l : List Bnd) : ∀ u ∈ bsCells l, u.oneCell' = true := by
 intro u hu
 unfold bsCells at hu
 rw [List.mem_flatMap] at hu
 obtain ⟨x, _, hx⟩ := hu
 simp only [bdCells, List.mem_cons, List.not_mem_nil, or_false] at hx
 rcases hx with rfl | rfl | rfl | rfl | rfl | rfl <;> rfl
def OwnB (w : World) (B : Nat) (v : Value) (l : List Bnd) : Prop := w.ownsRow B 46 6 v l.length (bsCells l)
theorem OwnB.keep {w w' : World} {B : Nat} {v : Value} {l : List Bnd} (h : OwnB w B v l) (hb : Bel w w') : OwnB w' B v l := Qe0 h hb
theorem OwnB.made {w0 w : World} (h : Bel w0 w) : OwnB (w.alloc (.cells #[] 46)) w0.heap.size (.slice (some ⟨w.heap.size, 0, none⟩) 0 0) [] :=
 World.ownsRow_made w #[] 0 h.size (by simp [maxLen]) rfl
theorem OwnB.val {w : World} {B : Nat} {v : Value} {l : List Bnd} (h : OwnB w B v l) : ∃ A c, v = .slice A l.length c /\ Bnds w A l := by
 obtain ⟨A, c, e, h2, h3, _⟩ := Qef h
 exact ⟨A, c, e, h2.bnds⟩
theorem infoBd : (Tryz.prog.info? 46).map (fun i => (i.zero, i.size, i.bytes)) = some (some (.agg #[.string ⟨#[]⟩, .int .i64 0, .int .i64 0, .int .i64 0, .string ⟨#[]⟩, .int .i64 0]), 6, 64) := by kernel_rfl
theorem infoBd' : ∃ i0, Tryz.prog.info? 46 = some i0 /\ i0.zero = some (.agg #[.string ⟨#[]⟩, .int .i64 0, .int .i64 0, .int .i64 0, .string ⟨#[]⟩, .int .i64 0]) /\ i0.size = 6 /\ i0.bytes = 64 := by
 obtain ⟨i0, h1, h2⟩ := Option.map_eq_some_iff.1 infoBd
 simp only [Prod.mk.injEq] at h2
 exact ⟨i0, h1, h2.1, h2.2.1, h2.2.2⟩
theorem app_bd {w0 w : World} {v : Value} {l ys : List Bnd} {A : Option Addr} {m c : Nat} (hb : Bel w0 w) (h : OwnB w w0.heap.size v l) (hy : Bnds w A ys) (hm : ys.length = m) (hA : A = none -> c = 0) (hn : l.length + ys.length <= 1048577) (ty : TypeId) :
  ∃ v' w', (Builtin.append_ #[29, 29] ty #[v, .slice A m c]).run Tryz.prog w = .ok v' w' /\ OwnB w' w0.heap.size v' (l ++ ys) /\ Bel w0 w' /\ BelBut w w' v.ownBlock /\ (v'.ownBlock = v.ownBlock \/ v'.ownBlock = some w.heap.size) := by
 subst hm
 obtain ⟨i0, hi, hz0, hz1, hz2⟩ := infoBd'
 obtain ⟨v', w', hr, h1, h2, h3⟩ := Qik (P := Tryz.prog) w w0.heap.size 29 ty 46 i0 _ 6 64 Tryz.underlying29 hi hz0 hz1 hz2 rfl (by omega) h (m := ys.length) (c := c) hy.row (by rw [bsCells_len]; omega) hA (bs_one ys) (by simp only [maxLen]; omega) (by omega) hb.size
 refine ⟨v', w', hr, ?_, h2.bel hb fun k hk => (World.ownsRow.lt h k hk).1, h2, h3⟩
 unfold OwnB
 rw [lA, bsCells_app]
 exact h1
theorem but_cell {w w' : World} {v : Value} {b o : Nat} (h : BelBut w w' v.ownBlock) (hlt : b < w.heap.size) (hne : v.ownBlock ≠ some b) : w'.cell? ⟨b, o, none⟩ = w.cell? ⟨b, o, none⟩ :=
 World.cell?_of_block (h.block b hlt fun e => hne e.symm)
theorem but_froz {w w' : World} {v : Value} {b o : Nat} (h : BelBut w w' v.ownBlock) (hlt : b < w.heap.size) (hne : v.ownBlock ≠ some b) : w'.frozen? ⟨b, o, none⟩ = w.frozen? ⟨b, o, none⟩ :=
 World.frozen?_of_block (h.block b hlt fun e => hne e.symm)
theorem but_slot {w w' : World} {v : Value} {b : Nat} {x : Val} (h : BelBut w w' v.ownBlock) (hne : v.ownBlock ≠ some b) (hs : Slot w b x) : Slot w' b x := by
 obtain ⟨h0, ⟨a0, a1, a2, a3, a4⟩, ⟨f0, f1, f2, f3, f4⟩⟩ := hs
 have hc := fun o => but_cell (o := o) h h0 hne
 have hf := fun o => but_froz (o := o) h h0 hne
 refine ⟨lL h0 h.size, ?_, ?_⟩
 ·simp only [Qal, hc]; exact ⟨a0, a1, a2, a3, a4⟩
 simp only [Qah, hf]; exact ⟨f0, f1, f2, f3, f4⟩
theorem but_bnds {w w' : World} {v : Value} {b : Nat} {l : List Bnd} (h : BelBut w w' v.ownBlock) (hne : v.ownBlock ≠ some b) (hs : Bnds w (some ⟨b, 0, none⟩) l) : Bnds w' (some ⟨b, 0, none⟩) l := fun h0 => by
 obtain ⟨b', off, e, hlt, hc⟩ := hs h0
 cases e
 refine ⟨b, 0, rfl, lL hlt h.size, fun i x hx => ?_⟩
 have := hc i x hx
 simp only [BndAt, fun o => but_cell (o := o) h hlt hne]
 exact this
theorem own_ne {v v' : Value} {w : World} {b : Nat} (h : v'.ownBlock = v.ownBlock \/ v'.ownBlock = some w.heap.size) (hne : v.ownBlock ≠ some b) (hlt : b < w.heap.size) : v'.ownBlock ≠ some b := by
 rcases h with h | h
 ·rw [h]; exact hne
 rw [h]; intro e; cases e; exact absurd hlt (Nat.lt_irrefl _)
theorem own_new {w : World} {B : Nat} {v : Value} {l : List Bnd} (h : OwnB w B v l) : v.ownBlock ≠ some w.heap.size := fun e => by
 have := (World.ownsRow.lt h _ e).2
 omega
end Go.Proofs.YtjckpkamhdbcnaaGreatDoor
