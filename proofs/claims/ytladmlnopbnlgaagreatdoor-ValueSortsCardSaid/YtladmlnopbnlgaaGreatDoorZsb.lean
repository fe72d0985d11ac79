import Derived.Test.YtladmlnopbnlgaaGreatDoorZsa
import Derived.Lib.SlicesCompact
namespace Go.Proofs.YtladmlnopbnlgaaGreatDoor
set_option linter.unusedSimpArgs false
set_option linter.unusedVariables false
open Go.RowKit Go.Lib

/-! Values: a row of them that the call may write. -/
instance : Inhabited Val := ⟨⟨0, 0, 0, ⟨#[]⟩, 0⟩⟩
structure VRow (w : World) (b off : Nat) (d : Array Val) : Prop where
  lt : b < w.heap.size
  vat : ∀ j, j < d.size → ValAt w b (off + j * 5) d[j]!
  free : ∀ o, off ≤ o → o < off + d.size * 5 → w.frozen? ⟨b, o, none⟩ = false
theorem VRow.keep {w w' : World} {b off : Nat} {d : Array Val} (h : VRow w b off d) (hb : Bel w w') : VRow w' b off d :=
  ⟨Nat.lt_of_lt_of_le h.lt hb.size, fun j hj => (h.vat j hj).keep hb h.lt, fun o h1 h2 => (hb.frozens _ _ h.lt).trans (h.free o h1 h2)⟩
theorem Bel.drewNV {a b : World} (h : Bel a b) (n : Nat) : Bel a (b.drewN n) := Bel.trans h ⟨rfl, rfl, rfl, Nat.le_refl _, fun _ _ => rfl⟩
theorem VRow.drewN {w : World} {b off : Nat} {d : Array Val} (h : VRow w b off d) (n : Nat) : VRow (w.drewN n) b off d := h.keep ((Bel.refl w).drewNV n)
def put5 (w : World) (b p : Nat) (v : Val) : World :=
  ((((w.setCell ⟨b, p, none⟩ (.int .i64 v.kind)).setCell ⟨b, p + 1, none⟩ (.int .i64 v.n)).setCell ⟨b, p + 2, none⟩ (.int .i64 v.scale)).setCell ⟨b, p + 3, none⟩ (.string v.text)).setCell ⟨b, p + 4, none⟩ (.int .i64 v.num)
theorem put5_bel {w0 w : World} {b p : Nat} {v : Val} (h : Bel w0 w) (hb : w0.heap.size ≤ b) : Bel w0 (put5 w b p v) := by
  unfold put5
  exact ((((h.setCell hb _).setCell hb _).setCell hb _).setCell hb _).setCell hb _
theorem arr_set {d : Array Val} {i j : Nat} (v : Val) (hi : i < d.size) : (d.setIfInBounds i v)[j]! = if j = i then v else d[j]! := by
  by_cases e : j = i
  · subst e
    rw [if_pos rfl, getElem!_pos (d.setIfInBounds j v) j (by simpa using hi)]
    simp
  · rw [if_neg e]
    by_cases hj : j < d.size
    · rw [getElem!_pos (d.setIfInBounds i v) j (by simpa using hj), getElem!_pos d j hj]
      simp [Array.getElem_setIfInBounds, hj, Ne.symm e]
    · rw [getElem!_neg (d.setIfInBounds i v) j (by simpa using hj), getElem!_neg d j hj]
theorem VRow.put {w : World} {b off : Nat} {d : Array Val} (h : VRow w b off d) {i : Nat} (v : Val) (hi : i < d.size) : VRow (put5 w b (off + i * 5) v) b off (d.setIfInBounds i v) := by
  obtain ⟨c0, c1, c2, c3, c4⟩ := h.vat i hi
  refine ⟨by have := h.lt; simpa [put5] using this, fun j hj => ?_, fun o h1 h2 => ?_⟩
  · have hj' : j < d.size := by simpa using hj
    obtain ⟨e0, e1, e2, e3, e4⟩ := h.vat j hj'
    rw [arr_set v hi]
    by_cases e : j = i
    · subst e
      rw [if_pos rfl]
      refine ⟨?_, ?_, ?_, ?_, ?_⟩ <;> simp [put5, go_sem, c0, c1, c2, c3, c4]
    · rw [if_neg e]
      have n : ∀ p q, p < 5 → q < 5 → ¬ off + i * 5 + p = off + j * 5 + q := fun p q hp hq h => by omega
      refine ⟨?_, ?_, ?_, ?_, ?_⟩
      · rw [← e0]
        apply World.cell?_setCells_out b [_, _, _, _, _] (off + i * 5) w ⟨b, off + j * 5, none⟩
        intro _ _
        show off + j * 5 < off + i * 5 ∨ off + i * 5 + 5 ≤ off + j * 5
        omega
      · rw [← e1]
        apply World.cell?_setCells_out b [_, _, _, _, _] (off + i * 5) w ⟨b, off + j * 5 + 1, none⟩
        intro _ _
        show off + j * 5 + 1 < off + i * 5 ∨ off + i * 5 + 5 ≤ off + j * 5 + 1
        omega
      · rw [← e2]
        apply World.cell?_setCells_out b [_, _, _, _, _] (off + i * 5) w ⟨b, off + j * 5 + 2, none⟩
        intro _ _
        show off + j * 5 + 2 < off + i * 5 ∨ off + i * 5 + 5 ≤ off + j * 5 + 2
        omega
      · rw [← e3]
        apply World.cell?_setCells_out b [_, _, _, _, _] (off + i * 5) w ⟨b, off + j * 5 + 3, none⟩
        intro _ _
        show off + j * 5 + 3 < off + i * 5 ∨ off + i * 5 + 5 ≤ off + j * 5 + 3
        omega
      · rw [← e4]
        apply World.cell?_setCells_out b [_, _, _, _, _] (off + i * 5) w ⟨b, off + j * 5 + 4, none⟩
        intro _ _
        show off + j * 5 + 4 < off + i * 5 ∨ off + i * 5 + 5 ≤ off + j * 5 + 4
        omega
  · rw [← h.free o h1 (by simpa using h2)]
    exact World.frozen?_setCells b [_, _, _, _, _] (off + i * 5) w _
theorem put5_bel' {w0 w : World} {b p : Nat} {v0 v1 v2 v3 v4 : Value} (h : Bel w0 w) (hb : w0.heap.size ≤ b) : Bel w0 (((((w.setCell ⟨b, p, none⟩ v0).setCell ⟨b, p + 1, none⟩ v1).setCell ⟨b, p + 2, none⟩ v2).setCell ⟨b, p + 3, none⟩ v3).setCell ⟨b, p + 4, none⟩ v4) :=
  ((((h.setCell hb _).setCell hb _).setCell hb _).setCell hb _).setCell hb _
theorem VRow.put' {w : World} {b off : Nat} {d : Array Val} (h : VRow w b off d) {i : Nat} {k n s m : Int} {t : ByteArray} (hi : i < d.size) : VRow (((((w.setCell ⟨b, off + i * 5, none⟩ (.int .i64 k)).setCell ⟨b, off + i * 5 + 1, none⟩ (.int .i64 n)).setCell ⟨b, off + i * 5 + 2, none⟩ (.int .i64 s)).setCell ⟨b, off + i * 5 + 3, none⟩ (.string t)).setCell ⟨b, off + i * 5 + 4, none⟩ (.int .i64 m)) b off (d.setIfInBounds i ⟨k, n, s, t, m⟩) := h.put ⟨k, n, s, t, m⟩ hi
def zcells (n : Nat) : List Value := (Builtin.zeroCells #[.int .i64 0, .int .i64 0, .int .i64 0, .string ⟨#[]⟩, .int .i64 0] n).toList
theorem zcells_len (n : Nat) : (zcells n).length = n * 5 := by simp [zcells, Builtin.zeroCells]
theorem zcells_one (n : Nat) : ∀ v ∈ zcells n, v.oneCell' = true := by
  intro v hv
  simp only [zcells, Builtin.zeroCells, Array.toList_map, List.mem_map, Array.mem_toList_iff] at hv
  obtain ⟨i, _, rfl⟩ := hv
  have h5 : i % 5 < 5 := Nat.mod_lt _ (by omega)
  show (#[Value.int .i64 0, .int .i64 0, .int .i64 0, .string ⟨#[]⟩, .int .i64 0][i % 5]!).oneCell' = true
  generalize i % 5 = k at h5
  match k, h5 with
  | 0, _ => rfl
  | 1, _ => rfl
  | 2, _ => rfl
  | 3, _ => rfl
  | 4, _ => rfl
theorem clear_vals (w : World) (ty : TypeId) (b o n c : Nat) (hn : 0 < n) (hc : ∀ j, j < n * 5 → (w.cell? ⟨b, o + j, none⟩).isSome = true) (hf : ∀ j, j < n * 5 → w.frozen? ⟨b, o + j, none⟩ = false) :
    (Builtin.clear_ #[22] ty #[.slice (some ⟨b, o, none⟩) n c]).run Tryz.prog w = .ok (.tuple #[]) (w.setCells b o (zcells n)) := by
  have hst := run_storeCells_cells (P := Tryz.prog) b o (zcells n) 0 w (by simpa [zcells_len] using hc) (by simpa [zcells_len] using hf) (zcells_one n)
  simp only [Nat.add_zero] at hst
  obtain ⟨m, rfl⟩ : ∃ m, n = m + 1 := ⟨n - 1, by omega⟩
  have hst' : (storeCells ⟨b, o, none⟩ (Builtin.zeroCells (Value.agg #[.int .i64 0, .int .i64 0, .int .i64 0, .string ⟨#[]⟩, .int .i64 0]).cells (m + 1)).toList 0).run Tryz.prog w = .ok () (w.setCells b o (zcells (m + 1))) := hst
  simp [Builtin.clear_, run_underlying Tryz.underlying22, Tryz.zeroValue35, hst']
theorem VRow.cleared {w : World} {b off k m : Nat} {d : Array Val} {L : List Value} (h : VRow w b off d) (hk : k ≤ d.size) : VRow (w.setCells b (off + k * 5) L) b off (d.extract 0 k) := by
  have hz : (w.setCells b (off + k * 5) L).heap.size = w.heap.size := by
    generalize off + k * 5 = o
    induction L generalizing w o with
    | nil => rfl
    | cons v r ih =>
      show ((w.setCell _ v).setCells b (o + 1) r).heap.size = _
      have : ∀ (w : World) (o : Nat), (w.setCells b o r).heap.size = w.heap.size := by
        intro w o
        clear ih h
        induction r generalizing w o with
        | nil => rfl
        | cons v r ih => show ((w.setCell _ v).setCells b (o + 1) r).heap.size = _; rw [ih]; simp
      rw [this]; simp
  refine ⟨by rw [hz]; exact h.lt, fun j hj => ?_, fun o h1 h2 => ?_⟩
  · have hj' : j < k := by simp at hj; omega
    have e : (d.extract 0 k)[j]! = d[j]! := by
      rw [getElem!_pos (d.extract 0 k) j hj, getElem!_pos d j (by omega)]
      simp
    rw [e]
    obtain ⟨e0, e1, e2, e3, e4⟩ := h.vat j (by omega)
    refine ⟨?_, ?_, ?_, ?_, ?_⟩
    · rw [← e0]; exact World.cell?_setCells_out b L _ w _ (fun _ _ => .inl (by show off + j * 5 < off + k * 5; omega))
    · rw [← e1]; exact World.cell?_setCells_out b L _ w _ (fun _ _ => .inl (by show off + j * 5 + 1 < off + k * 5; omega))
    · rw [← e2]; exact World.cell?_setCells_out b L _ w _ (fun _ _ => .inl (by show off + j * 5 + 2 < off + k * 5; omega))
    · rw [← e3]; exact World.cell?_setCells_out b L _ w _ (fun _ _ => .inl (by show off + j * 5 + 3 < off + k * 5; omega))
    · rw [← e4]; exact World.cell?_setCells_out b L _ w _ (fun _ _ => .inl (by show off + j * 5 + 4 < off + k * 5; omega))
  · rw [World.frozen?_setCells]
    refine h.free o h1 ?_
    simp at h2
    omega
theorem setCells_bel {w0 w : World} {b : Nat} (L : List Value) (o : Nat) (h : Bel w0 w) (hb : w0.heap.size ≤ b) : Bel w0 (w.setCells b o L) := by
  induction L generalizing w o with
  | nil => exact h
  | cons v r ih => exact ih (o + 1) (h.setCell hb v)
theorem VRow.vals {w : World} {b off : Nat} {d : Array Val} (h : VRow w b off d) {vs : List Val} (hv : ∀ j v, vs[j]? = some v → j < d.size ∧ d[j]! = v) : Vals w (some ⟨b, off, none⟩) vs := fun _ =>
  ⟨b, off, rfl, h.lt, fun i v hi => by
    obtain ⟨h1, h2⟩ := hv i v hi
    have := h.vat i h1
    rwa [h2] at this⟩
end Go.Proofs.YtladmlnopbnlgaaGreatDoor
