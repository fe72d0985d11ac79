import Derived.Test.YtjckpkamhdbcnaaGreatDoorVal
import Derived.Test.YtjckpkamhdbcnaaGreatDoorOwn
import Derived.Test.YtjckpkamhdbcnaaGreatDoorOpn
namespace Go.Proofs.YtjckpkamhdbcnaaGreatDoor
set_option linter.unusedSimpArgs false
set_option linter.unusedVariables false
open Go.ChangeShapes Go.WideShapes Go.ChangeAt Go.RowKit Go.Deep
/-- A value lies at an address. -/
abbrev ValAt (w : World) (b o : Nat) (v : Val) : Prop :=
 w.cell? ⟨b, o, none⟩ = some (.int .i64 v.kind) ∧ w.cell? ⟨b, o + 1, none⟩ = some (.int .i64 v.n) ∧ w.cell? ⟨b, o + 2, none⟩ = some (.int .i64 v.scale) ∧
  w.cell? ⟨b, o + 3, none⟩ = some (.string v.text) ∧ w.cell? ⟨b, o + 4, none⟩ = some (.int .i64 v.num)
theorem ValAt.keep {w w' : World} {b o : Nat} {v : Val} (h : ValAt w b o v) (hb : Bel w w') (hlt : b < w.heap.size) : ValAt w' b o v := by
 simp only [ValAt, hb.cells _ _ hlt]
 exact h
/-- Free for a store. -/
abbrev FreeAt (w : World) (b : Nat) : Prop :=
 w.frozen? ⟨b, 0, none⟩ = false ∧ w.frozen? ⟨b, 1, none⟩ = false ∧ w.frozen? ⟨b, 2, none⟩ = false ∧ w.frozen? ⟨b, 3, none⟩ = false ∧ w.frozen? ⟨b, 4, none⟩ = false
theorem FreeAt.keep {w w' : World} {b : Nat} (h : FreeAt w b) (hb : Bel w w') (hlt : b < w.heap.size) : FreeAt w' b := by
 simp only [FreeAt, hb.frozens _ _ hlt]
 exact h
/-- A block of the call's own that holds a value. -/
abbrev Slot (w : World) (b : Nat) (v : Val) : Prop := b < w.heap.size ∧ ValAt w b 0 v ∧ FreeAt w b
theorem Slot.keep {w w' : World} {b : Nat} {v : Val} (h : Slot w b v) (hb : Bel w w') : Slot w' b v := ⟨Nat.lt_of_lt_of_le h.1 hb.size, h.2.1.keep hb h.1, h.2.2.keep hb h.1⟩
theorem slot_new (w : World) (v : Val) : Slot (w.alloc (.cells #[.int .i64 v.kind, .int .i64 v.n, .int .i64 v.scale, .string v.text, .int .i64 v.num] 25)) w.heap.size v := by
 simp [Slot, ValAt, FreeAt, go_sem]
theorem slot_new2 (w : World) (o : Obj) (v : Val) : Slot ((w.alloc o).alloc (.cells #[.int .i64 v.kind, .int .i64 v.n, .int .i64 v.scale, .string v.text, .int .i64 v.num] 25)) (w.heap.size + 1) v := by
 simp [Slot, ValAt, FreeAt, go_sem]
theorem slot_old (w : World) (o : Obj) (v : Val) : Slot ((w.alloc (.cells #[.int .i64 v.kind, .int .i64 v.n, .int .i64 v.scale, .string v.text, .int .i64 v.num] 25)).alloc o) w.heap.size v := by
 simp [Slot, ValAt, FreeAt, go_sem]
/-- A slice of values reads as a list. -/
def Vals (w : World) (A : Option Addr) (vs : List Val) : Prop :=
 0 < vs.length → ∃ b off, A = some ⟨b, off, none⟩ ∧ b < w.heap.size ∧ ∀ i v, vs[i]? = some v → ValAt w b (off + i * 5) v
theorem Vals.keep {w w' : World} {A : Option Addr} {vs : List Val} (h : Vals w A vs) (hb : Bel w w') : Vals w' A vs := fun h0 => by
 obtain ⟨b, off, hA, hlt, hc⟩ := h h0
 exact ⟨b, off, hA, Nat.lt_of_lt_of_le hlt hb.size, fun i v hv => (hc i v hv).keep hb hlt⟩
/-- The cells of some values. -/
def flat (vs : List Val) : List Value := vs.flatMap fun v => [.int .i64 v.kind, .int .i64 v.n, .int .i64 v.scale, .string v.text, .int .i64 v.num]
theorem flat_cons (v : Val) (vs : List Val) : flat (v :: vs) = [.int .i64 v.kind, .int .i64 v.n, .int .i64 v.scale, .string v.text, .int .i64 v.num] ++ flat vs := by simp [flat]
theorem flat_append (a b : List Val) : flat (a ++ b) = flat a ++ flat b := by simp [flat]
theorem flat_length (vs : List Val) : (flat vs).length = vs.length * 5 := by
 induction vs with
 | nil => rfl
 | cons v vs ih => rw [flat_cons, List.length_append, ih, List.length_cons]; simp only [List.length_cons, List.length_nil]; omega
theorem flat_at (vs : List Val) : ∀ (i : Nat) (v : Val), vs[i]? = some v → (flat vs)[i * 5]? = some (.int .i64 v.kind) ∧ (flat vs)[i * 5 + 1]? = some (.int .i64 v.n) ∧ (flat vs)[i * 5 + 2]? = some (.int .i64 v.scale) ∧ (flat vs)[i * 5 + 3]? = some (.string v.text) ∧ (flat vs)[i * 5 + 4]? = some (.int .i64 v.num) := by
 induction vs with
 | nil => intro i v h; simp at h
 | cons u vs ih =>
  intro i v h
  cases i with
  | zero =>
   simp only [List.getElem?_cons_zero, Option.some.injEq] at h
   subst h
   simp [flat_cons]
  | succ i =>
   have := ih i v (by simpa using h)
   have e : ∀ j, (flat (u :: vs))[(i + 1) * 5 + j]? = (flat vs)[i * 5 + j]? := fun j => by
    rw [flat_cons, show (i + 1) * 5 + j = 5 + (i * 5 + j) by omega]
    rw [List.getElem?_append_right (by simp)]
    simp [Nat.add_assoc]
   have e0 := e 0
   simp only [Nat.add_zero] at e0
   rw [e0, e 1, e 2, e 3, e 4]
   exact this
theorem flat_one (vs : List Val) : ∀ u ∈ flat vs, u.oneCell' = true := by
 intro u hu
 unfold flat at hu
 rw [List.mem_flatMap] at hu
 obtain ⟨v, _, hv⟩ := hu
 simp at hv
 rcases hv with rfl | rfl | rfl | rfl | rfl <;> rfl
theorem flat_get (vs : List Val) (j : Nat) (u : Value) (h : (flat vs)[j]? = some u) : ∃ v, vs[j / 5]? = some v ∧ [Value.int .i64 v.kind, .int .i64 v.n, .int .i64 v.scale, .string v.text, .int .i64 v.num][j % 5]? = some u := by
 have hj : j < vs.length * 5 := by rw [← flat_length]; exact (List.getElem?_eq_some_iff.1 h).1
 have hi : j / 5 < vs.length := by omega
 obtain ⟨v, hv⟩ : ∃ v, vs[j / 5]? = some v := ⟨_, List.getElem?_eq_getElem hi⟩
 refine ⟨v, hv, ?_⟩
 obtain ⟨a0, a1, a2, a3, a4⟩ := flat_at vs (j / 5) _ hv
 have hm : j % 5 < 5 := Nat.mod_lt _ (by omega)
 rw [← h]
 have hd := Nat.div_add_mod j 5
 match hk : j % 5, hm with
 | 0, _ => have e : j = j / 5 * 5 := (by omega); rw [e, a0]; rfl
 | 1, _ => have e : j = j / 5 * 5 + 1 := (by omega); rw [e, a1]; rfl
 | 2, _ => have e : j = j / 5 * 5 + 2 := (by omega); rw [e, a2]; rfl
 | 3, _ => have e : j = j / 5 * 5 + 3 := (by omega); rw [e, a3]; rfl
 | 4, _ => have e : j = j / 5 * 5 + 4 := (by omega); rw [e, a4]; rfl
theorem Vals.row {w : World} {A : Option Addr} {vs : List Val} (h : Vals w A vs) : Row w A (flat vs) := fun h0 => by
 rw [flat_length] at h0
 obtain ⟨b, off, hA, hlt, hc⟩ := h (by omega)
 refine ⟨b, off, hA, hlt, fun j u hu => ?_⟩
 obtain ⟨v, hv, hx⟩ := flat_get vs j u hu
 obtain ⟨a0, a1, a2, a3, a4⟩ := hc _ v hv
 have hm : j % 5 < 5 := Nat.mod_lt _ (by omega)
 have hd := Nat.div_add_mod j 5
 rw [show off + j = off + j / 5 * 5 + j % 5 by omega]
 match hk : j % 5, hm with
 | 0, _ => rw [hk] at hx; simp at hx; subst hx; exact a0
 | 1, _ => rw [hk] at hx; simp at hx; subst hx; exact a1
 | 2, _ => rw [hk] at hx; simp at hx; subst hx; exact a2
 | 3, _ => rw [hk] at hx; simp at hx; subst hx; exact a3
 | 4, _ => rw [hk] at hx; simp at hx; subst hx; exact a4
theorem Row.vals {w : World} {A : Option Addr} {vs : List Val} (h : Row w A (flat vs)) : Vals w A vs := fun h0 => by
 obtain ⟨b, off, hA, hlt, hc⟩ := h (by rw [flat_length]; omega)
 refine ⟨b, off, hA, hlt, fun i v hv => ?_⟩
 obtain ⟨a0, a1, a2, a3, a4⟩ := flat_at vs i v hv
 exact ⟨hc _ _ a0, by have := hc _ _ a1; rwa [← Nat.add_assoc] at this, by have := hc _ _ a2; rwa [← Nat.add_assoc] at this, by have := hc _ _ a3; rwa [← Nat.add_assoc] at this, by have := hc _ _ a4; rwa [← Nat.add_assoc] at this⟩
end Go.Proofs.YtjckpkamhdbcnaaGreatDoor
