import Derived.Test.YtjckpkamhdbcnaaGreatDoorPaa
import Derived.Test.YtjckpkamhdbcnaaGreatDoorPcb
import Derived.Test.YtjckpkamhdbcnaaGreatDoorCae
namespace Go.Proofs.YtjckpkamhdbcnaaGreatDoor
set_option linter.unusedSimpArgs false
set_option linter.unusedVariables false
open Go.RowKit
attribute [local go_sem ↓] eql_val neq_val
/-! Two numbers reckoned. -/
theorem slot_other {w : World} {B T o : Nat} {v : Val} {x : Value} (h : Slot w B v) (hne : ¬ B = T) : Slot (w.setCell ⟨T, o, none⟩ x) B v := by
 obtain ⟨h0, ⟨a0, a1, a2, a3, a4⟩, ⟨f0, f1, f2, f3, f4⟩⟩ := h
 have ne : ¬ T = B := fun e => hne e.symm
 simp only [Nat.zero_add] at a0 a1 a2 a3 a4
 refine ⟨by simpa [World.setCell] using h0, ⟨?_, ?_, ?_, ?_, ?_⟩, ⟨?_, ?_, ?_, ?_, ?_⟩⟩
 all_goals first | (rw [World.cell?_setCell_other w _ _ x (by intro e; cases e; exact hne rfl)]; simp only [Nat.zero_add]; assumption) | (simp [go_sem]; assumption)
theorem slot_dec {w : World} {T : Nat} {k n' s' : Int} {t : ByteArray} {m : Int} (n s : Int) (h : Slot w T ⟨k, n', s', t, m⟩) : Slot ((w.setCell ⟨T, 1, none⟩ (.int .i64 n)).setCell ⟨T, 2, none⟩ (.int .i64 s)) T ⟨k, n, s, t, m⟩ := by
 obtain ⟨h0, ⟨a0, a1, a2, a3, a4⟩, ⟨f0, f1, f2, f3, f4⟩⟩ := h
 simp only [Nat.zero_add] at a0 a1 a2 a3 a4
 refine ⟨by simpa [World.setCell] using h0, ⟨?_, ?_, ?_, ?_, ?_⟩, ⟨?_, ?_, ?_, ?_, ?_⟩⟩
 all_goals simp [go_sem, a0, a1, a2, a3, a4, f0, f1, f2, f3, f4]
abbrev DSlot (w : World) (b : Nat) (x y : Int) : Prop := b < w.heap.size ∧ (w.cell? ⟨b, 0, none⟩ = some (.int .i64 x) ∧ w.cell? ⟨b, 1, none⟩ = some (.int .i64 y)) ∧ w.frozen? ⟨b, 0, none⟩ = false ∧ w.frozen? ⟨b, 1, none⟩ = false
theorem DSlot.keep {w w' : World} {b : Nat} {x y : Int} (h : DSlot w b x y) (hb : Bel w w') : DSlot w' b x y :=
 ⟨Nat.lt_of_lt_of_le h.1 hb.size, ⟨(hb.cells _ _ h.1).trans h.2.1.1, (hb.cells _ _ h.1).trans h.2.1.2⟩, (hb.frozens _ _ h.1).trans h.2.2.1, (hb.frozens _ _ h.1).trans h.2.2.2⟩
theorem dslot_other {w : World} {B T o : Nat} {x y : Int} {v : Value} (h : DSlot w B x y) (hne : ¬ B = T) : DSlot (w.setCell ⟨T, o, none⟩ v) B x y := by
 obtain ⟨h0, ⟨a0, a1⟩, f0, f1⟩ := h
 have ne : ¬ T = B := fun e => hne e.symm
 refine ⟨by simpa [World.setCell] using h0, ⟨?_, ?_⟩, ?_, ?_⟩
 all_goals first | (rw [World.cell?_setCell_other w _ _ v (by intro e; cases e; exact hne rfl)]; assumption) | (simp [go_sem]; assumption)
def opV (op n s m t : Int) : Value := if op = 6 then mulV n s m t else if op = 7 then divV n s m t else if op = 5 then addV n s (-m) t else addV n s m t
def opD (op n s m t : Int) : Int × Int × Nat := decOf (opV op n s m t)
theorem snd_neg {n s : Int} (h : SndD n s) : SndD (-n) s := by
 obtain ⟨h0, h1, ⟨h2, h3⟩, h4⟩ := h
 refine ⟨h0, h1, ⟨by omega, by omega⟩, ?_⟩
 rcases h4 with h4 | h4
 ·exact .inl h4
 ·exact .inr (by omega)
theorem trim_snd (s : Nat) : ∀ m, (trim m s).2 = 0 ∨ (trim m s).1 % 10 ≠ 0 := by
 induction s with
 | zero => intro m; simp [trim]
 | succ k ih =>
  intro m
  unfold trim
  split
  ·exact ih _
  ·right; assumption
theorem decV_snd (x : Bool) (m s : Nat) (hs : s ≤ 6) : (∃ a b : Int, decV x m s = .tuple #[decA a b, .int .i64 0] ∧ SndD a b) ∨ decV x m s = .tuple #[decA 0 0, .int .i64 3] := by
 unfold decV
 by_cases h : 999999999999 < (trim m s).1
 ·rw [if_pos h]; exact .inr rfl
 ·rw [if_neg h]
  have h1 := trim_snd s m
  have h2 := (trim_le s m).2
  refine .inl ⟨_, _, rfl, by omega, by omega, ?_, ?_⟩
  ·unfold small; split <;> omega
  ·rcases h1 with h1 | h1
   ·exact .inl (by omega)
   ·exact .inr (by split <;> omega)
theorem opV_cases (op n s m t : Int) (h1 : SndD n s) (h2 : SndD m t) : (∃ a b : Int, opV op n s m t = .tuple #[decA a b, .int .i64 0] ∧ SndD a b) ∨ ∃ e : Nat, e ≠ 0 ∧ opV op n s m t = .tuple #[decA 0 0, .int .i64 e] := by
 have A : ∀ m', SndD m' t → (∃ a b : Int, addV n s m' t = .tuple #[decA a b, .int .i64 0] ∧ SndD a b) ∨ ∃ e : Nat, e ≠ 0 ∧ addV n s m' t = .tuple #[decA 0 0, .int .i64 e] := fun m' h => by
  unfold addV
  rw [if_pos ⟨h1, h⟩]
  rcases decV_snd _ _ 6 (Nat.le_refl _) with h | h
  ·exact .inl h
  ·exact .inr ⟨3, by decide, h⟩
 unfold opV
 by_cases o6 : op = 6
 ·rw [if_pos o6]
  unfold mulV
  rw [if_pos ⟨h1, h2⟩]
  by_cases hst : s + t ≤ 6
  ·rw [if_pos hst]
   rcases decV_snd _ _ (s + t).toNat (by omega) with h | h
   ·exact .inl h
   ·exact .inr ⟨3, by decide, h⟩
  ·rw [if_neg hst]
   rcases decV_snd _ _ 6 (Nat.le_refl _) with h | h
   ·exact .inl h
   ·exact .inr ⟨3, by decide, h⟩
 rw [if_neg o6]
 by_cases o7 : op = 7
 ·rw [if_pos o7]
  unfold divV
  rw [if_pos ⟨h1, h2⟩]
  by_cases hm : m = 0
  ·rw [if_pos hm]; exact .inr ⟨4, by decide, rfl⟩
  ·rw [if_neg hm]
   rcases decV_snd _ _ 6 (Nat.le_refl _) with h | h
   ·exact .inl h
   ·exact .inr ⟨3, by decide, h⟩
 rw [if_neg o7]
 by_cases o5 : op = 5
 ·rw [if_pos o5]; exact A _ (snd_neg h2)
 ·rw [if_neg o5]; exact A _ h2
/-- What two values reckoned are, op not being minus of one. -/
def rck (op : Int) (a b : Val) : Val := if a.kind = 1 ∧ b.kind = 1 then (if (opD op a.n a.scale b.n b.scale).2.2 = 0 then ⟨1, (opD op a.n a.scale b.n b.scale).1, (opD op a.n a.scale b.n b.scale).2.1, ⟨#[]⟩, 0⟩ else zero) else zero
def num0 : Val := ⟨1, 0, 0, ⟨#[]⟩, 0⟩
theorem rck_no {op : Int} {a b : Val} (h : ¬ (a.kind = 1 ∧ b.kind = 1)) : rck op a b = zero := if_neg h
theorem rck_yes {op x y n s m t a4 b4 : Int} {a3 b3 : ByteArray} (h : opV op n s m t = .tuple #[decA x y, .int .i64 0]) : rck op ⟨1, n, s, a3, a4⟩ ⟨1, m, t, b3, b4⟩ = ⟨1, x, y, ⟨#[]⟩, 0⟩ := by
 have : opD op n s m t = (x, y, 0) := by unfold opD; rw [h]; rfl
 unfold rck
 rw [if_pos ⟨rfl, rfl⟩]
 simp only [this]
 rfl
theorem rck_err {op x y n s m t a4 b4 : Int} {a3 b3 : ByteArray} {e : Nat} (he : e ≠ 0) (h : opV op n s m t = .tuple #[decA x y, .int .i64 e]) : rck op ⟨1, n, s, a3, a4⟩ ⟨1, m, t, b3, b4⟩ = zero := by
 have : opD op n s m t = (x, y, e) := by unfold opD; rw [h]; rfl
 unfold rck
 rw [if_pos ⟨rfl, rfl⟩]
 simp only [this]
 rw [if_neg he]
theorem vs_dec' {a : Val} (h : vsnd a = true) (hk : a.kind = 1) : SndD a.n a.scale := by
 obtain ⟨k, n, s, t, m⟩ := a
 have hk : k = 1 := hk
 subst hk
 exact vs_dec h
theorem vsnd_num {n s : Int} (h : SndD n s) : vsnd ⟨1, n, s, ⟨#[]⟩, 0⟩ = true := by
 rw [vs1, sndB_t h, (empty_iff ⟨#[]⟩).2 rfl]; rfl
theorem vsnd_zero : vsnd zero = true := by rw [show zero = (⟨0, 0, 0, ⟨#[]⟩, 0⟩ : Val) from rfl, vs0, (empty_iff ⟨#[]⟩).2 rfl]; rfl
theorem rck_snd (op : Int) (a b : Val) (ha : vsnd a = true) (hb : vsnd b = true) : vsnd (rck op a b) = true := by
 by_cases h : a.kind = 1 ∧ b.kind = 1
 ·have h1 := vs_dec' ha h.1
  have h2 := vs_dec' hb h.2
  obtain ⟨k, n, s, t, m⟩ := a
  obtain ⟨k', n', s', t', m'⟩ := b
  obtain ⟨e1, e2⟩ : k = 1 ∧ k' = 1 := h
  subst e1 e2
  rcases opV_cases op _ _ _ _ h1 h2 with ⟨x, y, he, hs⟩ | ⟨e, he, h⟩
  ·rw [rck_yes he]; exact vsnd_num hs
  ·rw [rck_err he h]; exact vsnd_zero
 ·rw [rck_no h]; exact vsnd_zero
set_option maxRecDepth 100000 in
set_option maxHeartbeats 4000000 in
theorem reck4_any (a b : Val) (ha : vsnd a = true) (hb : vsnd b = true) (w : World) : Calls Tryz.prog 50 #[.int .i64 4, a.val, b.val] w fun e w' => e = .returned (rck 4 a b).val ∧ Bel w w' := by
 by_cases h1 : ¬ a.kind = 1
 ·have L := Lib.hid (show rck 4 a b = zero from rck_no fun h => h1 h.1)
  obtain ⟨k', n', s', t', m'⟩ := b
  obtain ⟨k, n, s, t, m⟩ := a
  have f1 : (k != 1) = true := by rw [bne_iff_ne]; exact h1
  clear h1 ha hb
  go_enter Tryz.func50, Tryz.ntmps50
  go_wp2_with fail
  refine bodyPost_ret (by simp [results, Tryz.results50, go_sem]; try rfl) rfl ⟨by rw [L.out] <;> rfl, ?_⟩
  (with_reducible repeat first | exact Bel.refl _ | refine Bel.setCell ?_ (by first | exact Nat.le_refl _ | (dsimp only; omega)) _ | refine Bel.alloc ?_ _ | refine Bel.drew ?_ | assumption | refine Bel.trans ?_ (by assumption))
 replace h1 := Classical.not_not.1 h1
 by_cases h2 : ¬ b.kind = 1
 ·have L := Lib.hid (show rck 4 a b = zero from rck_no fun h => h2 h.2)
  obtain ⟨k', n', s', t', m'⟩ := b
  obtain ⟨k, n, s, t, m⟩ := a
  have hk : k = 1 := h1
  subst hk
  have f2 : (k' != 1) = true := by rw [bne_iff_ne]; exact h2
  clear h1 h2 ha hb
  go_enter Tryz.func50, Tryz.ntmps50
  go_wp2_with fail
  refine bodyPost_ret (by simp [results, Tryz.results50, go_sem]; try rfl) rfl ⟨by rw [L.out] <;> rfl, ?_⟩
  (with_reducible repeat first | exact Bel.refl _ | refine Bel.setCell ?_ (by first | exact Nat.le_refl _ | (dsimp only; omega)) _ | refine Bel.alloc ?_ _ | refine Bel.drew ?_ | assumption | refine Bel.trans ?_ (by assumption))
 replace h2 := Classical.not_not.1 h2
 have d2 := vs_dec' hb h2
 have d1 := vs_dec' ha h1
 obtain ⟨k', n', s', t', m'⟩ := b
 obtain ⟨k, n, s, t, m⟩ := a
 have hk : k = 1 := h1
 have hk' : k' = 1 := h2
 subst hk hk'
 clear h1 h2
 have HC := Lib.hid (fun w => add_any n s n' s' w)
 have E := opV_cases 4 n s n' s' d1 d2
 rcases E with ⟨x, y, he, -⟩ | ⟨e, he0, he⟩
 ·have L := Lib.hid (show rck 4 ⟨1, n, s, t, m⟩ ⟨1, n', s', t', m'⟩ = _ from rck_yes (a3 := t) (a4 := m) he)
  replace he : addV n s n' s' = _ := he
  rw [he] at HC
  clear he d1 d2 ha hb
  go_enter Tryz.func50, Tryz.ntmps50
  go_upto_region 15 with fail
  refine under_name (w0 := w) (by (with_reducible repeat first | exact Bel.refl _ | refine Bel.setCell ?_ (by first | exact Nat.le_refl _ | (dsimp only; omega)) _ | refine Bel.alloc ?_ _ | refine Bel.drew ?_ | assumption | refine Bel.trans ?_ (by assumption))) fun W hc hf hz hbW => ?_
  have A0 : Slot W w.heap.size ⟨1, n, s, t, m⟩ := by simp [Slot, ValAt, FreeAt, num0, hc, hf, hz, go_sem]
  have B0 : Slot W (w.heap.size + 1) ⟨1, n', s', t', m'⟩ := by simp [Slot, ValAt, FreeAt, hc, hf, hz, go_sem]
  have V0 : Slot W (w.heap.size + 1 + 1) zero := by simp [Slot, ValAt, FreeAt, zero, hc, hf, hz, go_sem]
  have D0 : DSlot W (w.heap.size + 1 + 1 + 1) 0 0 := by simp [DSlot, hc, hf, hz, go_sem]
  clear hc hf hz
  go_wp2_with (go_at_call 81; with_reducible refine (HC.out _).mono ?_; rintro e W1 ⟨rfl, hb1⟩; have A1 := A0.keep hb1; have B1 := B0.keep hb1; have V1 := V0.keep hb1; have D1 := D0.keep hb1; clear A0 B0 V0 D0)
  refine bodyPost_ret (by simp [results, Tryz.results50, go_sem, V1]; try rfl) rfl ⟨by rw [L.out] <;> rfl, ?_⟩
  (with_reducible repeat first | exact Bel.refl _ | refine Bel.setCell ?_ (by first | exact Nat.le_refl _ | (dsimp only; omega)) _ | refine Bel.alloc ?_ _ | refine Bel.drew ?_ | assumption | refine Bel.trans ?_ (by assumption))
 ·have L := Lib.hid (show rck 4 ⟨1, n, s, t, m⟩ ⟨1, n', s', t', m'⟩ = _ from rck_err he0 (a3 := t) (a4 := m) he)
  have f3 : (((e : Nat) : Int) != 0) = true := by rw [bne_iff_ne]; omega
  replace he : addV n s n' s' = _ := he
  rw [he] at HC
  clear he d1 d2 ha hb
  go_enter Tryz.func50, Tryz.ntmps50
  go_upto_region 15 with fail
  refine under_name (w0 := w) (by (with_reducible repeat first | exact Bel.refl _ | refine Bel.setCell ?_ (by first | exact Nat.le_refl _ | (dsimp only; omega)) _ | refine Bel.alloc ?_ _ | refine Bel.drew ?_ | assumption | refine Bel.trans ?_ (by assumption))) fun W hc hf hz hbW => ?_
  have A0 : Slot W w.heap.size ⟨1, n, s, t, m⟩ := by simp [Slot, ValAt, FreeAt, num0, hc, hf, hz, go_sem]
  have B0 : Slot W (w.heap.size + 1) ⟨1, n', s', t', m'⟩ := by simp [Slot, ValAt, FreeAt, hc, hf, hz, go_sem]
  have V0 : Slot W (w.heap.size + 1 + 1) zero := by simp [Slot, ValAt, FreeAt, zero, hc, hf, hz, go_sem]
  have D0 : DSlot W (w.heap.size + 1 + 1 + 1) 0 0 := by simp [DSlot, hc, hf, hz, go_sem]
  clear hc hf hz
  go_wp2_with (go_at_call 81; with_reducible refine (HC.out _).mono ?_; rintro e W1 ⟨rfl, hb1⟩; have A1 := A0.keep hb1; have B1 := B0.keep hb1; have V1 := V0.keep hb1; have D1 := D0.keep hb1; clear A0 B0 V0 D0)
  refine bodyPost_ret (by simp [results, Tryz.results50, go_sem, V1]; try rfl) rfl ⟨by rw [L.out] <;> rfl, ?_⟩
  (with_reducible repeat first | exact Bel.refl _ | refine Bel.setCell ?_ (by first | exact Nat.le_refl _ | (dsimp only; omega)) _ | refine Bel.alloc ?_ _ | refine Bel.drew ?_ | assumption | refine Bel.trans ?_ (by assumption))
set_option maxRecDepth 100000 in
set_option maxHeartbeats 4000000 in
theorem reck5_any (a b : Val) (ha : vsnd a = true) (hb : vsnd b = true) (w : World) : Calls Tryz.prog 50 #[.int .i64 5, a.val, b.val] w fun e w' => e = .returned (rck 5 a b).val ∧ Bel w w' := by
 by_cases h1 : ¬ a.kind = 1
 ·have L := Lib.hid (show rck 5 a b = zero from rck_no fun h => h1 h.1)
  obtain ⟨k', n', s', t', m'⟩ := b
  obtain ⟨k, n, s, t, m⟩ := a
  have f1 : (k != 1) = true := by rw [bne_iff_ne]; exact h1
  clear h1 ha hb
  go_enter Tryz.func50, Tryz.ntmps50
  go_wp2_with fail
  refine bodyPost_ret (by simp [results, Tryz.results50, go_sem]; try rfl) rfl ⟨by rw [L.out] <;> rfl, ?_⟩
  (with_reducible repeat first | exact Bel.refl _ | refine Bel.setCell ?_ (by first | exact Nat.le_refl _ | (dsimp only; omega)) _ | refine Bel.alloc ?_ _ | refine Bel.drew ?_ | assumption | refine Bel.trans ?_ (by assumption))
 replace h1 := Classical.not_not.1 h1
 by_cases h2 : ¬ b.kind = 1
 ·have L := Lib.hid (show rck 5 a b = zero from rck_no fun h => h2 h.2)
  obtain ⟨k', n', s', t', m'⟩ := b
  obtain ⟨k, n, s, t, m⟩ := a
  have hk : k = 1 := h1
  subst hk
  have f2 : (k' != 1) = true := by rw [bne_iff_ne]; exact h2
  clear h1 h2 ha hb
  go_enter Tryz.func50, Tryz.ntmps50
  go_wp2_with fail
  refine bodyPost_ret (by simp [results, Tryz.results50, go_sem]; try rfl) rfl ⟨by rw [L.out] <;> rfl, ?_⟩
  (with_reducible repeat first | exact Bel.refl _ | refine Bel.setCell ?_ (by first | exact Nat.le_refl _ | (dsimp only; omega)) _ | refine Bel.alloc ?_ _ | refine Bel.drew ?_ | assumption | refine Bel.trans ?_ (by assumption))
 replace h2 := Classical.not_not.1 h2
 have d2 := vs_dec' hb h2
 have d1 := vs_dec' ha h1
 obtain ⟨k', n', s', t', m'⟩ := b
 obtain ⟨k, n, s, t, m⟩ := a
 have hk : k = 1 := h1
 have hk' : k' = 1 := h2
 subst hk hk'
 clear h1 h2
 have HC := Lib.hid (fun w => add_any n s (-n') s' w)
 have E := opV_cases 5 n s n' s' d1 d2
 have HN := Lib.hid (fun w => neg_any n' s' w)
 rw [show negV n' s' = .tuple #[decA (-n') s', .int .i64 0] from if_pos d2] at HN
 rcases E with ⟨x, y, he, -⟩ | ⟨e, he0, he⟩
 ·have L := Lib.hid (show rck 5 ⟨1, n, s, t, m⟩ ⟨1, n', s', t', m'⟩ = _ from rck_yes (a3 := t) (a4 := m) he)
  replace he : addV n s (-n') s' = _ := he
  rw [he] at HC
  clear he d1 d2 ha hb
  go_enter Tryz.func50, Tryz.ntmps50
  go_upto_region 14 with fail
  refine under_name (w0 := w) (by (with_reducible repeat first | exact Bel.refl _ | refine Bel.setCell ?_ (by first | exact Nat.le_refl _ | (dsimp only; omega)) _ | refine Bel.alloc ?_ _ | refine Bel.drew ?_ | assumption | refine Bel.trans ?_ (by assumption))) fun W hc hf hz hbW => ?_
  have A0 : Slot W w.heap.size ⟨1, n, s, t, m⟩ := by simp [Slot, ValAt, FreeAt, num0, hc, hf, hz, go_sem]
  have B0 : Slot W (w.heap.size + 1) ⟨1, n', s', t', m'⟩ := by simp [Slot, ValAt, FreeAt, hc, hf, hz, go_sem]
  have V0 : Slot W (w.heap.size + 1 + 1) zero := by simp [Slot, ValAt, FreeAt, zero, hc, hf, hz, go_sem]
  have D0 : DSlot W (w.heap.size + 1 + 1 + 1) 0 0 := by simp [DSlot, hc, hf, hz, go_sem]
  clear hc hf hz
  go_wp2_with (first
   | (go_at_call 80; with_reducible refine (HN.out _).mono ?_; rintro e W1 ⟨rfl, hb1⟩; have A1 := A0.keep hb1; have B1 := B0.keep hb1; have V1 := V0.keep hb1; have D1 := D0.keep hb1; clear A0 B0 V0 D0)
   | (go_at_call 81; with_reducible refine (HC.out _).mono ?_; rintro e W2 ⟨rfl, hb2⟩; have A2 := (slot_other (slot_other A1 (by omega)) (by omega)).keep hb2; have B2 := (slot_dec (-n') s' B1).keep hb2; have V2 := (slot_other (slot_other V1 (by omega)) (by omega)).keep hb2; have D2 := (dslot_other (dslot_other D1 (by omega)) (by omega)).keep hb2; clear A1 B1 V1 D1))
  refine bodyPost_ret (by simp [results, Tryz.results50, go_sem, V2]; try rfl) rfl ⟨by rw [L.out] <;> rfl, ?_⟩
  (with_reducible repeat first | exact Bel.refl _ | refine Bel.setCell ?_ (by first | exact Nat.le_refl _ | (dsimp only; omega)) _ | refine Bel.alloc ?_ _ | refine Bel.drew ?_ | assumption | refine Bel.trans ?_ (by assumption))
 ·have L := Lib.hid (show rck 5 ⟨1, n, s, t, m⟩ ⟨1, n', s', t', m'⟩ = _ from rck_err he0 (a3 := t) (a4 := m) he)
  have f3 : (((e : Nat) : Int) != 0) = true := by rw [bne_iff_ne]; omega
  replace he : addV n s (-n') s' = _ := he
  rw [he] at HC
  clear he d1 d2 ha hb
  go_enter Tryz.func50, Tryz.ntmps50
  go_upto_region 14 with fail
  refine under_name (w0 := w) (by (with_reducible repeat first | exact Bel.refl _ | refine Bel.setCell ?_ (by first | exact Nat.le_refl _ | (dsimp only; omega)) _ | refine Bel.alloc ?_ _ | refine Bel.drew ?_ | assumption | refine Bel.trans ?_ (by assumption))) fun W hc hf hz hbW => ?_
  have A0 : Slot W w.heap.size ⟨1, n, s, t, m⟩ := by simp [Slot, ValAt, FreeAt, num0, hc, hf, hz, go_sem]
  have B0 : Slot W (w.heap.size + 1) ⟨1, n', s', t', m'⟩ := by simp [Slot, ValAt, FreeAt, hc, hf, hz, go_sem]
  have V0 : Slot W (w.heap.size + 1 + 1) zero := by simp [Slot, ValAt, FreeAt, zero, hc, hf, hz, go_sem]
  have D0 : DSlot W (w.heap.size + 1 + 1 + 1) 0 0 := by simp [DSlot, hc, hf, hz, go_sem]
  clear hc hf hz
  go_wp2_with (first
   | (go_at_call 80; with_reducible refine (HN.out _).mono ?_; rintro e W1 ⟨rfl, hb1⟩; have A1 := A0.keep hb1; have B1 := B0.keep hb1; have V1 := V0.keep hb1; have D1 := D0.keep hb1; clear A0 B0 V0 D0)
   | (go_at_call 81; with_reducible refine (HC.out _).mono ?_; rintro e W2 ⟨rfl, hb2⟩; have A2 := (slot_other (slot_other A1 (by omega)) (by omega)).keep hb2; have B2 := (slot_dec (-n') s' B1).keep hb2; have V2 := (slot_other (slot_other V1 (by omega)) (by omega)).keep hb2; have D2 := (dslot_other (dslot_other D1 (by omega)) (by omega)).keep hb2; clear A1 B1 V1 D1))
  refine bodyPost_ret (by simp [results, Tryz.results50, go_sem, V2]; try rfl) rfl ⟨by rw [L.out] <;> rfl, ?_⟩
  (with_reducible repeat first | exact Bel.refl _ | refine Bel.setCell ?_ (by first | exact Nat.le_refl _ | (dsimp only; omega)) _ | refine Bel.alloc ?_ _ | refine Bel.drew ?_ | assumption | refine Bel.trans ?_ (by assumption))
set_option maxRecDepth 100000 in
set_option maxHeartbeats 4000000 in
theorem reck6_any (a b : Val) (ha : vsnd a = true) (hb : vsnd b = true) (w : World) : Calls Tryz.prog 50 #[.int .i64 6, a.val, b.val] w fun e w' => e = .returned (rck 6 a b).val ∧ Bel w w' := by
 by_cases h1 : ¬ a.kind = 1
 ·have L := Lib.hid (show rck 6 a b = zero from rck_no fun h => h1 h.1)
  obtain ⟨k', n', s', t', m'⟩ := b
  obtain ⟨k, n, s, t, m⟩ := a
  have f1 : (k != 1) = true := by rw [bne_iff_ne]; exact h1
  clear h1 ha hb
  go_enter Tryz.func50, Tryz.ntmps50
  go_wp2_with fail
  refine bodyPost_ret (by simp [results, Tryz.results50, go_sem]; try rfl) rfl ⟨by rw [L.out] <;> rfl, ?_⟩
  (with_reducible repeat first | exact Bel.refl _ | refine Bel.setCell ?_ (by first | exact Nat.le_refl _ | (dsimp only; omega)) _ | refine Bel.alloc ?_ _ | refine Bel.drew ?_ | assumption | refine Bel.trans ?_ (by assumption))
 replace h1 := Classical.not_not.1 h1
 by_cases h2 : ¬ b.kind = 1
 ·have L := Lib.hid (show rck 6 a b = zero from rck_no fun h => h2 h.2)
  obtain ⟨k', n', s', t', m'⟩ := b
  obtain ⟨k, n, s, t, m⟩ := a
  have hk : k = 1 := h1
  subst hk
  have f2 : (k' != 1) = true := by rw [bne_iff_ne]; exact h2
  clear h1 h2 ha hb
  go_enter Tryz.func50, Tryz.ntmps50
  go_wp2_with fail
  refine bodyPost_ret (by simp [results, Tryz.results50, go_sem]; try rfl) rfl ⟨by rw [L.out] <;> rfl, ?_⟩
  (with_reducible repeat first | exact Bel.refl _ | refine Bel.setCell ?_ (by first | exact Nat.le_refl _ | (dsimp only; omega)) _ | refine Bel.alloc ?_ _ | refine Bel.drew ?_ | assumption | refine Bel.trans ?_ (by assumption))
 replace h2 := Classical.not_not.1 h2
 have d2 := vs_dec' hb h2
 have d1 := vs_dec' ha h1
 obtain ⟨k', n', s', t', m'⟩ := b
 obtain ⟨k, n, s, t, m⟩ := a
 have hk : k = 1 := h1
 have hk' : k' = 1 := h2
 subst hk hk'
 clear h1 h2
 have HC := Lib.hid (fun w => mul_any n s n' s' w)
 have E := opV_cases 6 n s n' s' d1 d2
 rcases E with ⟨x, y, he, -⟩ | ⟨e, he0, he⟩
 ·have L := Lib.hid (show rck 6 ⟨1, n, s, t, m⟩ ⟨1, n', s', t', m'⟩ = _ from rck_yes (a3 := t) (a4 := m) he)
  replace he : mulV n s n' s' = _ := he
  rw [he] at HC
  clear he d1 d2 ha hb
  go_enter Tryz.func50, Tryz.ntmps50
  go_upto_region 12 with fail
  refine under_name (w0 := w) (by (with_reducible repeat first | exact Bel.refl _ | refine Bel.setCell ?_ (by first | exact Nat.le_refl _ | (dsimp only; omega)) _ | refine Bel.alloc ?_ _ | refine Bel.drew ?_ | assumption | refine Bel.trans ?_ (by assumption))) fun W hc hf hz hbW => ?_
  have A0 : Slot W w.heap.size ⟨1, n, s, t, m⟩ := by simp [Slot, ValAt, FreeAt, num0, hc, hf, hz, go_sem]
  have B0 : Slot W (w.heap.size + 1) ⟨1, n', s', t', m'⟩ := by simp [Slot, ValAt, FreeAt, hc, hf, hz, go_sem]
  have V0 : Slot W (w.heap.size + 1 + 1) zero := by simp [Slot, ValAt, FreeAt, zero, hc, hf, hz, go_sem]
  have D0 : DSlot W (w.heap.size + 1 + 1 + 1) 0 0 := by simp [DSlot, hc, hf, hz, go_sem]
  clear hc hf hz
  go_wp2_with (go_at_call 78; with_reducible refine (HC.out _).mono ?_; rintro e W1 ⟨rfl, hb1⟩; have A1 := A0.keep hb1; have B1 := B0.keep hb1; have V1 := V0.keep hb1; have D1 := D0.keep hb1; clear A0 B0 V0 D0)
  refine bodyPost_ret (by simp [results, Tryz.results50, go_sem, V1]; try rfl) rfl ⟨by rw [L.out] <;> rfl, ?_⟩
  (with_reducible repeat first | exact Bel.refl _ | refine Bel.setCell ?_ (by first | exact Nat.le_refl _ | (dsimp only; omega)) _ | refine Bel.alloc ?_ _ | refine Bel.drew ?_ | assumption | refine Bel.trans ?_ (by assumption))
 ·have L := Lib.hid (show rck 6 ⟨1, n, s, t, m⟩ ⟨1, n', s', t', m'⟩ = _ from rck_err he0 (a3 := t) (a4 := m) he)
  have f3 : (((e : Nat) : Int) != 0) = true := by rw [bne_iff_ne]; omega
  replace he : mulV n s n' s' = _ := he
  rw [he] at HC
  clear he d1 d2 ha hb
  go_enter Tryz.func50, Tryz.ntmps50
  go_upto_region 12 with fail
  refine under_name (w0 := w) (by (with_reducible repeat first | exact Bel.refl _ | refine Bel.setCell ?_ (by first | exact Nat.le_refl _ | (dsimp only; omega)) _ | refine Bel.alloc ?_ _ | refine Bel.drew ?_ | assumption | refine Bel.trans ?_ (by assumption))) fun W hc hf hz hbW => ?_
  have A0 : Slot W w.heap.size ⟨1, n, s, t, m⟩ := by simp [Slot, ValAt, FreeAt, num0, hc, hf, hz, go_sem]
  have B0 : Slot W (w.heap.size + 1) ⟨1, n', s', t', m'⟩ := by simp [Slot, ValAt, FreeAt, hc, hf, hz, go_sem]
  have V0 : Slot W (w.heap.size + 1 + 1) zero := by simp [Slot, ValAt, FreeAt, zero, hc, hf, hz, go_sem]
  have D0 : DSlot W (w.heap.size + 1 + 1 + 1) 0 0 := by simp [DSlot, hc, hf, hz, go_sem]
  clear hc hf hz
  go_wp2_with (go_at_call 78; with_reducible refine (HC.out _).mono ?_; rintro e W1 ⟨rfl, hb1⟩; have A1 := A0.keep hb1; have B1 := B0.keep hb1; have V1 := V0.keep hb1; have D1 := D0.keep hb1; clear A0 B0 V0 D0)
  refine bodyPost_ret (by simp [results, Tryz.results50, go_sem, V1]; try rfl) rfl ⟨by rw [L.out] <;> rfl, ?_⟩
  (with_reducible repeat first | exact Bel.refl _ | refine Bel.setCell ?_ (by first | exact Nat.le_refl _ | (dsimp only; omega)) _ | refine Bel.alloc ?_ _ | refine Bel.drew ?_ | assumption | refine Bel.trans ?_ (by assumption))
set_option maxRecDepth 100000 in
set_option maxHeartbeats 4000000 in
theorem reck7_any (a b : Val) (ha : vsnd a = true) (hb : vsnd b = true) (w : World) : Calls Tryz.prog 50 #[.int .i64 7, a.val, b.val] w fun e w' => e = .returned (rck 7 a b).val ∧ Bel w w' := by
 by_cases h1 : ¬ a.kind = 1
 ·have L := Lib.hid (show rck 7 a b = zero from rck_no fun h => h1 h.1)
  obtain ⟨k', n', s', t', m'⟩ := b
  obtain ⟨k, n, s, t, m⟩ := a
  have f1 : (k != 1) = true := by rw [bne_iff_ne]; exact h1
  clear h1 ha hb
  go_enter Tryz.func50, Tryz.ntmps50
  go_wp2_with fail
  refine bodyPost_ret (by simp [results, Tryz.results50, go_sem]; try rfl) rfl ⟨by rw [L.out] <;> rfl, ?_⟩
  (with_reducible repeat first | exact Bel.refl _ | refine Bel.setCell ?_ (by first | exact Nat.le_refl _ | (dsimp only; omega)) _ | refine Bel.alloc ?_ _ | refine Bel.drew ?_ | assumption | refine Bel.trans ?_ (by assumption))
 replace h1 := Classical.not_not.1 h1
 by_cases h2 : ¬ b.kind = 1
 ·have L := Lib.hid (show rck 7 a b = zero from rck_no fun h => h2 h.2)
  obtain ⟨k', n', s', t', m'⟩ := b
  obtain ⟨k, n, s, t, m⟩ := a
  have hk : k = 1 := h1
  subst hk
  have f2 : (k' != 1) = true := by rw [bne_iff_ne]; exact h2
  clear h1 h2 ha hb
  go_enter Tryz.func50, Tryz.ntmps50
  go_wp2_with fail
  refine bodyPost_ret (by simp [results, Tryz.results50, go_sem]; try rfl) rfl ⟨by rw [L.out] <;> rfl, ?_⟩
  (with_reducible repeat first | exact Bel.refl _ | refine Bel.setCell ?_ (by first | exact Nat.le_refl _ | (dsimp only; omega)) _ | refine Bel.alloc ?_ _ | refine Bel.drew ?_ | assumption | refine Bel.trans ?_ (by assumption))
 replace h2 := Classical.not_not.1 h2
 have d2 := vs_dec' hb h2
 have d1 := vs_dec' ha h1
 obtain ⟨k', n', s', t', m'⟩ := b
 obtain ⟨k, n, s, t, m⟩ := a
 have hk : k = 1 := h1
 have hk' : k' = 1 := h2
 subst hk hk'
 clear h1 h2
 have HC := Lib.hid (fun w => div_any n s n' s' w)
 have E := opV_cases 7 n s n' s' d1 d2
 rcases E with ⟨x, y, he, -⟩ | ⟨e, he0, he⟩
 ·have L := Lib.hid (show rck 7 ⟨1, n, s, t, m⟩ ⟨1, n', s', t', m'⟩ = _ from rck_yes (a3 := t) (a4 := m) he)
  replace he : divV n s n' s' = _ := he
  rw [he] at HC
  clear he d1 d2 ha hb
  go_enter Tryz.func50, Tryz.ntmps50
  go_upto_region 13 with fail
  refine under_name (w0 := w) (by (with_reducible repeat first | exact Bel.refl _ | refine Bel.setCell ?_ (by first | exact Nat.le_refl _ | (dsimp only; omega)) _ | refine Bel.alloc ?_ _ | refine Bel.drew ?_ | assumption | refine Bel.trans ?_ (by assumption))) fun W hc hf hz hbW => ?_
  have A0 : Slot W w.heap.size ⟨1, n, s, t, m⟩ := by simp [Slot, ValAt, FreeAt, num0, hc, hf, hz, go_sem]
  have B0 : Slot W (w.heap.size + 1) ⟨1, n', s', t', m'⟩ := by simp [Slot, ValAt, FreeAt, hc, hf, hz, go_sem]
  have V0 : Slot W (w.heap.size + 1 + 1) zero := by simp [Slot, ValAt, FreeAt, zero, hc, hf, hz, go_sem]
  have D0 : DSlot W (w.heap.size + 1 + 1 + 1) 0 0 := by simp [DSlot, hc, hf, hz, go_sem]
  clear hc hf hz
  go_wp2_with (go_at_call 79; with_reducible refine (HC.out _).mono ?_; rintro e W1 ⟨rfl, hb1⟩; have A1 := A0.keep hb1; have B1 := B0.keep hb1; have V1 := V0.keep hb1; have D1 := D0.keep hb1; clear A0 B0 V0 D0)
  refine bodyPost_ret (by simp [results, Tryz.results50, go_sem, V1]; try rfl) rfl ⟨by rw [L.out] <;> rfl, ?_⟩
  (with_reducible repeat first | exact Bel.refl _ | refine Bel.setCell ?_ (by first | exact Nat.le_refl _ | (dsimp only; omega)) _ | refine Bel.alloc ?_ _ | refine Bel.drew ?_ | assumption | refine Bel.trans ?_ (by assumption))
 ·have L := Lib.hid (show rck 7 ⟨1, n, s, t, m⟩ ⟨1, n', s', t', m'⟩ = _ from rck_err he0 (a3 := t) (a4 := m) he)
  have f3 : (((e : Nat) : Int) != 0) = true := by rw [bne_iff_ne]; omega
  replace he : divV n s n' s' = _ := he
  rw [he] at HC
  clear he d1 d2 ha hb
  go_enter Tryz.func50, Tryz.ntmps50
  go_upto_region 13 with fail
  refine under_name (w0 := w) (by (with_reducible repeat first | exact Bel.refl _ | refine Bel.setCell ?_ (by first | exact Nat.le_refl _ | (dsimp only; omega)) _ | refine Bel.alloc ?_ _ | refine Bel.drew ?_ | assumption | refine Bel.trans ?_ (by assumption))) fun W hc hf hz hbW => ?_
  have A0 : Slot W w.heap.size ⟨1, n, s, t, m⟩ := by simp [Slot, ValAt, FreeAt, num0, hc, hf, hz, go_sem]
  have B0 : Slot W (w.heap.size + 1) ⟨1, n', s', t', m'⟩ := by simp [Slot, ValAt, FreeAt, hc, hf, hz, go_sem]
  have V0 : Slot W (w.heap.size + 1 + 1) zero := by simp [Slot, ValAt, FreeAt, zero, hc, hf, hz, go_sem]
  have D0 : DSlot W (w.heap.size + 1 + 1 + 1) 0 0 := by simp [DSlot, hc, hf, hz, go_sem]
  clear hc hf hz
  go_wp2_with (go_at_call 79; with_reducible refine (HC.out _).mono ?_; rintro e W1 ⟨rfl, hb1⟩; have A1 := A0.keep hb1; have B1 := B0.keep hb1; have V1 := V0.keep hb1; have D1 := D0.keep hb1; clear A0 B0 V0 D0)
  refine bodyPost_ret (by simp [results, Tryz.results50, go_sem, V1]; try rfl) rfl ⟨by rw [L.out] <;> rfl, ?_⟩
  (with_reducible repeat first | exact Bel.refl _ | refine Bel.setCell ?_ (by first | exact Nat.le_refl _ | (dsimp only; omega)) _ | refine Bel.alloc ?_ _ | refine Bel.drew ?_ | assumption | refine Bel.trans ?_ (by assumption))
set_option maxRecDepth 100000 in
set_option maxHeartbeats 4000000 in
theorem reck3_any (b c : Val) (hb : vsnd b = true) (w : World) : Calls Tryz.prog 50 #[.int .i64 3, b.val, c.val] w fun e w' => e = .returned (rck 5 num0 b).val ∧ Bel w w' := by
 by_cases h2 : ¬ b.kind = 1
 ·have L := Lib.hid (show rck 5 num0 b = zero from rck_no fun h => h2 h.2)
  obtain ⟨k', n', s', t', m'⟩ := b
  obtain ⟨ck, cn, cs, ct, cm⟩ := c
  have f2 : (k' != 1) = true := by rw [bne_iff_ne]; exact h2
  clear h2 hb
  go_enter Tryz.func50, Tryz.ntmps50
  go_wp2_with fail
  refine bodyPost_ret (by simp [results, Tryz.results50, go_sem]; try rfl) rfl ⟨by rw [L.out] <;> rfl, ?_⟩
  (with_reducible repeat first | exact Bel.refl _ | refine Bel.setCell ?_ (by first | exact Nat.le_refl _ | (dsimp only; omega)) _ | refine Bel.alloc ?_ _ | refine Bel.drew ?_ | assumption | refine Bel.trans ?_ (by assumption))
 replace h2 := Classical.not_not.1 h2
 have d2 := vs_dec' hb h2
 obtain ⟨k', n', s', t', m'⟩ := b
 obtain ⟨ck, cn, cs, ct, cm⟩ := c
 have hk : k' = 1 := h2
 subst hk
 clear h2
 have d1 : SndD 0 0 := ⟨by decide, by decide, ⟨by decide, by decide⟩, .inl rfl⟩
 have HC := Lib.hid (fun w => add_any 0 0 (-n') s' w)
 have E := opV_cases 5 0 0 n' s' d1 d2
 have HN := Lib.hid (fun w => neg_any n' s' w)
 rw [show negV n' s' = .tuple #[decA (-n') s', .int .i64 0] from if_pos d2] at HN
 rcases E with ⟨x, y, he, -⟩ | ⟨e, he0, he⟩
 ·have L := Lib.hid (show rck 5 num0 ⟨1, n', s', t', m'⟩ = _ from rck_yes (a3 := ⟨#[]⟩) (a4 := 0) he)
  replace he : addV 0 0 (-n') s' = _ := he
  rw [he] at HC
  clear he d1 d2 hb
  go_enter Tryz.func50, Tryz.ntmps50
  go_upto_region 14 with fail
  refine under_name (w0 := w) (by (with_reducible repeat first | exact Bel.refl _ | refine Bel.setCell ?_ (by first | exact Nat.le_refl _ | (dsimp only; omega)) _ | refine Bel.alloc ?_ _ | refine Bel.drew ?_ | assumption | refine Bel.trans ?_ (by assumption))) fun W hc hf hz hbW => ?_
  have A0 : Slot W w.heap.size ⟨1, 0, 0, ⟨#[]⟩, 0⟩ := by simp [Slot, ValAt, FreeAt, num0, hc, hf, hz, go_sem]
  have B0 : Slot W (w.heap.size + 1) ⟨1, n', s', t', m'⟩ := by simp [Slot, ValAt, FreeAt, hc, hf, hz, go_sem]
  have V0 : Slot W (w.heap.size + 1 + 1) zero := by simp [Slot, ValAt, FreeAt, zero, hc, hf, hz, go_sem]
  have D0 : DSlot W (w.heap.size + 1 + 1 + 1) 0 0 := by simp [DSlot, hc, hf, hz, go_sem]
  clear hc hf hz
  go_wp2_with (first
   | (go_at_call 80; with_reducible refine (HN.out _).mono ?_; rintro e W1 ⟨rfl, hb1⟩; have A1 := A0.keep hb1; have B1 := B0.keep hb1; have V1 := V0.keep hb1; have D1 := D0.keep hb1; clear A0 B0 V0 D0)
   | (go_at_call 81; with_reducible refine (HC.out _).mono ?_; rintro e W2 ⟨rfl, hb2⟩; have A2 := (slot_other (slot_other A1 (by omega)) (by omega)).keep hb2; have B2 := (slot_dec (-n') s' B1).keep hb2; have V2 := (slot_other (slot_other V1 (by omega)) (by omega)).keep hb2; have D2 := (dslot_other (dslot_other D1 (by omega)) (by omega)).keep hb2; clear A1 B1 V1 D1))
  refine bodyPost_ret (by simp [results, Tryz.results50, go_sem, V2]; try rfl) rfl ⟨by rw [L.out] <;> rfl, ?_⟩
  (with_reducible repeat first | exact Bel.refl _ | refine Bel.setCell ?_ (by first | exact Nat.le_refl _ | (dsimp only; omega)) _ | refine Bel.alloc ?_ _ | refine Bel.drew ?_ | assumption | refine Bel.trans ?_ (by assumption))
 ·have L := Lib.hid (show rck 5 num0 ⟨1, n', s', t', m'⟩ = _ from rck_err he0 (a3 := ⟨#[]⟩) (a4 := 0) he)
  have f3 : (((e : Nat) : Int) != 0) = true := by rw [bne_iff_ne]; omega
  replace he : addV 0 0 (-n') s' = _ := he
  rw [he] at HC
  clear he d1 d2 hb
  go_enter Tryz.func50, Tryz.ntmps50
  go_upto_region 14 with fail
  refine under_name (w0 := w) (by (with_reducible repeat first | exact Bel.refl _ | refine Bel.setCell ?_ (by first | exact Nat.le_refl _ | (dsimp only; omega)) _ | refine Bel.alloc ?_ _ | refine Bel.drew ?_ | assumption | refine Bel.trans ?_ (by assumption))) fun W hc hf hz hbW => ?_
  have A0 : Slot W w.heap.size ⟨1, 0, 0, ⟨#[]⟩, 0⟩ := by simp [Slot, ValAt, FreeAt, num0, hc, hf, hz, go_sem]
  have B0 : Slot W (w.heap.size + 1) ⟨1, n', s', t', m'⟩ := by simp [Slot, ValAt, FreeAt, hc, hf, hz, go_sem]
  have V0 : Slot W (w.heap.size + 1 + 1) zero := by simp [Slot, ValAt, FreeAt, zero, hc, hf, hz, go_sem]
  have D0 : DSlot W (w.heap.size + 1 + 1 + 1) 0 0 := by simp [DSlot, hc, hf, hz, go_sem]
  clear hc hf hz
  go_wp2_with (first
   | (go_at_call 80; with_reducible refine (HN.out _).mono ?_; rintro e W1 ⟨rfl, hb1⟩; have A1 := A0.keep hb1; have B1 := B0.keep hb1; have V1 := V0.keep hb1; have D1 := D0.keep hb1; clear A0 B0 V0 D0)
   | (go_at_call 81; with_reducible refine (HC.out _).mono ?_; rintro e W2 ⟨rfl, hb2⟩; have A2 := (slot_other (slot_other A1 (by omega)) (by omega)).keep hb2; have B2 := (slot_dec (-n') s' B1).keep hb2; have V2 := (slot_other (slot_other V1 (by omega)) (by omega)).keep hb2; have D2 := (dslot_other (dslot_other D1 (by omega)) (by omega)).keep hb2; clear A1 B1 V1 D1))
  refine bodyPost_ret (by simp [results, Tryz.results50, go_sem, V2]; try rfl) rfl ⟨by rw [L.out] <;> rfl, ?_⟩
  (with_reducible repeat first | exact Bel.refl _ | refine Bel.setCell ?_ (by first | exact Nat.le_refl _ | (dsimp only; omega)) _ | refine Bel.alloc ?_ _ | refine Bel.drew ?_ | assumption | refine Bel.trans ?_ (by assumption))
end Go.Proofs.YtjckpkamhdbcnaaGreatDoor
