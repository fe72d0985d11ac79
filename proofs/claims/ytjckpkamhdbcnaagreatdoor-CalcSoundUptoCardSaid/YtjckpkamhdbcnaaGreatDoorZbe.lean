import Derived.Test.YtjckpkamhdbcnaaGreatDoorZba
import Derived.Test.YtjckpkamhdbcnaaGreatDoorZbb
import Derived.Test.YtjckpkamhdbcnaaGreatDoorZbc
namespace Go.Proofs.YtjckpkamhdbcnaaGreatDoor
set_option maxRecDepth 100000
set_option maxHeartbeats 64000000
set_option linter.unusedSimpArgs false
set_option linter.unusedVariables false
open Go.RowKit
attribute [local go_sem ↓] Qas Qau
theorem Qaz {w : World} {B T o : Nat} {v : Val} {x : Value} (h : Slot w B v) (hne : ¬ B = T) : Slot (w.setCell ⟨T, o, none⟩ x) B v := by
 obtain ⟨h0, ⟨a0, a1, a2, a3, a4⟩, ⟨f0, f1, f2, f3, f4⟩⟩ := h
 have ne : ¬ T = B := fun e => hne e.symm
 simp only [Nat.zero_add] at a0 a1 a2 a3 a4
 refine ⟨by simpa [World.setCell] using h0, ⟨?_, ?_, ?_, ?_, ?_⟩, ⟨?_, ?_, ?_, ?_, ?_⟩⟩
 all_goals first | (rw [World.cell?_setCell_other w _ _ x (by intro e; cases e; exact hne rfl)]; simp only [Nat.zero_add]; assumption) | (simp [go_sem]; assumption)
theorem Qkw {w : World} {T : Nat} {k n' s' : Int} {t : ByteArray} {m : Int} (n s : Int) (h : Slot w T ⟨k, n', s', t, m⟩) : Slot ((w.setCell ⟨T, 1, none⟩ (.int .i64 n)).setCell ⟨T, 2, none⟩ (.int .i64 s)) T ⟨k, n, s, t, m⟩ := by
 obtain ⟨h0, ⟨a0, a1, a2, a3, a4⟩, ⟨f0, f1, f2, f3, f4⟩⟩ := h
 simp only [Nat.zero_add] at a0 a1 a2 a3 a4
 refine ⟨by simpa [World.setCell] using h0, ⟨?_, ?_, ?_, ?_, ?_⟩, ⟨?_, ?_, ?_, ?_, ?_⟩⟩
 all_goals simp [go_sem, a0, a1, a2, a3, a4, f0, f1, f2, f3, f4]
abbrev Qfv (w : World) (b : Nat) (x y : Int) : Prop := b < w.heap.size /\ (w.cell? ⟨b, 0, none⟩ = some (.int .i64 x) /\ w.cell? ⟨b, 1, none⟩ = some (.int .i64 y)) /\ w.frozen? ⟨b, 0, none⟩ = false /\ w.frozen? ⟨b, 1, none⟩ = false
theorem Qfv.keep {w w' : World} {b : Nat} {x y : Int} (h : Qfv w b x y) (hb : Bel w w') : Qfv w' b x y :=
 ⟨lL h.1 hb.size, ⟨(hb.cells _ _ h.1).trans h.2.1.1, (hb.cells _ _ h.1).trans h.2.1.2⟩, (hb.frozens _ _ h.1).trans h.2.2.1, (hb.frozens _ _ h.1).trans h.2.2.2⟩
theorem Qci {w : World} {B T o : Nat} {x y : Int} {v : Value} (h : Qfv w B x y) (hne : ¬ B = T) : Qfv (w.setCell ⟨T, o, none⟩ v) B x y := by
 obtain ⟨h0, ⟨a0, a1⟩, f0, f1⟩ := h
 have ne : ¬ T = B := fun e => hne e.symm
 refine ⟨by simpa [World.setCell] using h0, ⟨?_, ?_⟩, ?_, ?_⟩
 all_goals first | (rw [World.cell?_setCell_other w _ _ v (by intro e; cases e; exact hne rfl)]; assumption) | (simp [go_sem]; assumption)
def opV (op n s m t : Int) : Value := if op = 6 then mulV n s m t else if op = 7 then divV n s m t else if op = 5 then addV n s (-m) t else addV n s m t
def opD (op n s m t : Int) : Int × Int × Nat := decOf (opV op n s m t)
theorem Quv {n s : Int} (h : SndD n s) : SndD (-n) s := by
 obtain ⟨h0, h1, ⟨h2, h3⟩, h4⟩ := h
 refine ⟨h0, h1, ⟨by omega, by omega⟩, ?_⟩
 rcases h4 with h4 | h4
 ·exact .inl h4
 exact .inr (by omega)
theorem Qrm (s : Nat) : ∀ m, (trim m s).2 = 0 \/ (trim m s).1 % 10 ≠ 0 := by
 induction s with
 | zero => intro m; simp [trim]
 | succ k ih =>
  intro m
  unfold trim
  split
  ·exact ih _
  right; assumption
theorem Qe7 (x : Bool) (m s : Nat) (hs : s <= 6) : (∃ a b : Int, decV x m s = .tuple #[decA a b, .int .i64 0] /\ SndD a b) \/ decV x m s = .tuple #[decA 0 0, .int .i64 3] := by
 unfold decV
 by_cases h : 999999999999 < (trim m s).1
 ·rw [iP h]; exact .inr rfl
 rw [iN h]
 have h1 := Qrm s m
 have h2 := (Qdm s m).2
 refine .inl ⟨_, _, rfl, by omega, by omega, ?_, ?_⟩
 ·unfold small; split <;> omega
 rcases h1 with h1 | h1
 ·exact .inl (by omega)
 exact .inr (by split <;> omega)
theorem Qea (op n s m t : Int) (h1 : SndD n s) (h2 : SndD m t) : (∃ a b : Int, opV op n s m t = .tuple #[decA a b, .int .i64 0] /\ SndD a b) \/ ∃ e : Nat, e ≠ 0 /\ opV op n s m t = .tuple #[decA 0 0, .int .i64 e] := by
 have A : ∀ m', SndD m' t -> (∃ a b : Int, addV n s m' t = .tuple #[decA a b, .int .i64 0] /\ SndD a b) \/ ∃ e : Nat, e ≠ 0 /\ addV n s m' t = .tuple #[decA 0 0, .int .i64 e] := fun m' h => by
  unfold addV
  rw [iP ⟨h1, h⟩]
  rcases Qe7 _ _ 6 (Nat.le_refl _) with h | h
  ·exact .inl h
  exact .inr ⟨3, by decide, h⟩
 unfold opV
 by_cases o6 : op = 6
 ·rw [iP o6]
  unfold mulV
  rw [iP ⟨h1, h2⟩]
  by_cases hst : s + t <= 6
  ·rw [iP hst]
   rcases Qe7 _ _ (s + t).toNat (by omega) with h | h
   ·exact .inl h
   exact .inr ⟨3, by decide, h⟩
  rw [iN hst]
  rcases Qe7 _ _ 6 (Nat.le_refl _) with h | h
  ·exact .inl h
  exact .inr ⟨3, by decide, h⟩
 rw [iN o6]
 by_cases o7 : op = 7
 ·rw [iP o7]
  unfold divV
  rw [iP ⟨h1, h2⟩]
  by_cases hm : m = 0
  ·rw [iP hm]; exact .inr ⟨4, by decide, rfl⟩
  rw [iN hm]
  rcases Qe7 _ _ 6 (Nat.le_refl _) with h | h
  ·exact .inl h
  exact .inr ⟨3, by decide, h⟩
 rw [iN o7]
 by_cases o5 : op = 5
 ·rw [iP o5]; exact A _ (Quv h2)
 rw [iN o5]; exact A _ h2
def rck (op : Int) (a b : Val) : Val := if a.kind = 1 /\ b.kind = 1 then (if (opD op a.n a.scale b.n b.scale).2.2 = 0 then ⟨1, (opD op a.n a.scale b.n b.scale).1, (opD op a.n a.scale b.n b.scale).2.1, ⟨#[]⟩, 0⟩ else zero) else zero
def num0 : Val := ⟨1, 0, 0, ⟨#[]⟩, 0⟩
theorem Qkx {op : Int} {a b : Val} (h : ¬ (a.kind = 1 /\ b.kind = 1)) : rck op a b = zero := iN h
theorem Qhc {op x y n s m t a4 b4 : Int} {a3 b3 : ByteArray} (h : opV op n s m t = .tuple #[decA x y, .int .i64 0]) : rck op ⟨1, n, s, a3, a4⟩ ⟨1, m, t, b3, b4⟩ = ⟨1, x, y, ⟨#[]⟩, 0⟩ := by
 have : opD op n s m t = (x, y, 0) := by unfold opD; rw [h]; rfl
 unfold rck
 rw [iP ⟨rfl, rfl⟩]
 simp only [this]
 rfl
theorem Qhd {op x y n s m t a4 b4 : Int} {a3 b3 : ByteArray} {e : Nat} (he : e ≠ 0) (h : opV op n s m t = .tuple #[decA x y, .int .i64 e]) : rck op ⟨1, n, s, a3, a4⟩ ⟨1, m, t, b3, b4⟩ = zero := by
 have : opD op n s m t = (x, y, e) := by unfold opD; rw [h]; rfl
 unfold rck
 rw [iP ⟨rfl, rfl⟩]
 simp only [this]
 rw [iN he]
theorem Qdt {a : Val} (h : vsnd a = true) (hk : a.kind = 1) : SndD a.n a.scale := by
 obtain ⟨k, n, s, t, m⟩ := a
 have hk : k = 1 := hk
 subst hk
 exact Qfh h
theorem Qhe {n s : Int} (h : SndD n s) : vsnd ⟨1, n, s, ⟨#[]⟩, 0⟩ = true := by
 rw [vs1, Qbf h, (Qa5 ⟨#[]⟩).2 rfl]; rfl
theorem Qbx : vsnd zero = true := by rw [show zero = (⟨0, 0, 0, ⟨#[]⟩, 0⟩ : Val) from rfl, vs0, (Qa5 ⟨#[]⟩).2 rfl]; rfl
theorem Qox (op : Int) (a b : Val) (ha : vsnd a = true) (hb : vsnd b = true) : vsnd (rck op a b) = true := by
 by_cases h : a.kind = 1 /\ b.kind = 1
 ·have h1 := Qdt ha h.1
  have h2 := Qdt hb h.2
  obtain ⟨k, n, s, t, m⟩ := a
  obtain ⟨k', n', s', t', m'⟩ := b
  obtain ⟨e1, e2⟩ : k = 1 /\ k' = 1 := h
  subst e1 e2
  rcases Qea op _ _ _ _ h1 h2 with ⟨x, y, he, hs⟩ | ⟨e, he, h⟩
  ·rw [Qhc he]; exact Qhe hs
  rw [Qhd he h]; exact Qbx
 rw [Qkx h]; exact Qbx
theorem Qe8 (op : Int) (hop : op = 4 \/ op = 5 \/ op = 6 \/ op = 7) (a b : Val) (ha : vsnd a = true) (hb : vsnd b = true) (w : World) : Calls Tryz.prog 50 #[.int .i64 op, a.val, b.val] w fun e w' => e = .returned (rck op a b).val /\ Bel w w' := by
 by_cases hk : ¬ (a.kind = 1 /\ b.kind = 1)
 ·have L := Hd (show rck op a b = zero from Qkx hk)
  obtain ⟨k', n', s', t', m'⟩ := b
  obtain ⟨k, n, s, t, m⟩ := a
  replace hk : ¬ (k = 1 /\ k' = 1) := hk
  have e3 : (op == 3) = false := by rw [bN]; omega
  clear ha hb hop
  by_cases h1 : k = 1
  ·subst h1
   have f2 : (k' != 1) = true := by rw [bne_iff_ne]; omega
   clear hk
   go_enter Tryz.func50, Tryz.ntmps50
   go_wp2_with fail
   refine pR (by simp [results, Tryz.results50, go_sem]; try rfl) rfl ⟨by rw [L.out] <;> rfl, ?_⟩
   exact Bel.y
  have f1 : (k != 1) = true := by rw [bne_iff_ne]; exact h1
  clear h1 hk
  go_enter Tryz.func50, Tryz.ntmps50
  go_wp2_with fail
  refine pR (by simp [results, Tryz.results50, go_sem]; try rfl) rfl ⟨by rw [L.out] <;> rfl, ?_⟩
  exact Bel.y
 replace hk := Classical.not_not.1 hk
 have d2 := Qdt hb hk.2
 have d1 := Qdt ha hk.1
 obtain ⟨k', n', s', t', m'⟩ := b
 obtain ⟨k, n, s, t, m⟩ := a
 obtain ⟨rfl, rfl⟩ : k = 1 /\ k' = 1 := hk
 clear ha hb
 have HN := Hd (fun w => Qop n' s' w)
 rw [show negV n' s' = .tuple #[decA (-n') s', .int .i64 0] from iP d2] at HN
 have E := Qea op n s n' s' d1 d2
 clear d1 d2
 rcases hop with rfl | rfl | rfl | rfl
 all_goals
  rcases E with ⟨x, y, he, -⟩ | ⟨e, he0, he⟩
  all_goals
   first
   | have L := Hd (show rck _ ⟨1, n, s, t, m⟩ ⟨1, n', s', t', m'⟩ = _ from Qhc (a3 := t) (a4 := m) he)
   | (have L := Hd (show rck _ ⟨1, n, s, t, m⟩ ⟨1, n', s', t', m'⟩ = _ from Qhd he0 (a3 := t) (a4 := m) he); have f3 : (((e : Nat) : Int) != 0) = true := by rw [bne_iff_ne]; omega)
   first
   | (have HC := Hd (show ∀ w, Calls Tryz.prog 81 #[decA n s, decA n' s'] w fun e w' => e = .returned (opV 4 n s n' s') /\ Bel w w' from fun w => Qjk n s n' s' w); rw [he] at HC)
   | (have HC := Hd (show ∀ w, Calls Tryz.prog 81 #[decA n s, decA (-n') s'] w fun e w' => e = .returned (opV 5 n s n' s') /\ Bel w w' from fun w => Qjk n s (-n') s' w); rw [he] at HC)
   | (have HC := Hd (show ∀ w, Calls Tryz.prog 78 #[decA n s, decA n' s'] w fun e w' => e = .returned (opV 6 n s n' s') /\ Bel w w' from fun w => Quq n s n' s' w); rw [he] at HC)
   | (have HC := Hd (show ∀ w, Calls Tryz.prog 79 #[decA n s, decA n' s'] w fun e w' => e = .returned (opV 7 n s n' s') /\ Bel w w' from fun w => Qut n s n' s' w); rw [he] at HC)
   clear he
   go_enter Tryz.func50, Tryz.ntmps50
   go_upto_region 8 with fail
   refine uN (w0 := w) (by exact Bel.y) fun W hc hf hz hbW => ?_
   have A0 : Slot W w.heap.size ⟨1, n, s, t, m⟩ := by simp [Slot, Qal, Qah, num0, hc, hf, hz, go_sem]
   have B0 : Slot W (w.heap.size + 1) ⟨1, n', s', t', m'⟩ := by simp [Slot, Qal, Qah, hc, hf, hz, go_sem]
   have V0 : Slot W (w.heap.size + 1 + 1) zero := by simp [Slot, Qal, Qah, zero, hc, hf, hz, go_sem]
   have D0 : Qfv W (w.heap.size + 1 + 1 + 1) 0 0 := by simp [Qfv, hc, hf, hz, go_sem]
   clear hc hf hz
   go_wp2_with (first
    | (go_at_call 80; with_reducible refine (HN.out _).mono ?_; rintro e W1 ⟨rfl, hb1⟩; have A1 := A0.keep hb1; have B1 := B0.keep hb1; have V1 := V0.keep hb1; have D1 := D0.keep hb1; clear A0 B0 V0 D0)
    | (go_at_call 81; with_reducible refine (HC.out _).mono ?_; rintro e W2 ⟨rfl, hb2⟩; have A2 := (Qaz (Qaz A1 (by omega)) (by omega)).keep hb2; have B2 := (Qkw (-n') s' B1).keep hb2; have VF := (Qaz (Qaz V1 (by omega)) (by omega)).keep hb2; have D2 := (Qci (Qci D1 (by omega)) (by omega)).keep hb2; clear A1 B1 V1 D1)
    | (go_at_call 81; with_reducible refine (HC.out _).mono ?_; rintro e W1 ⟨rfl, hb1⟩; have VF := V0.keep hb1; have DF := D0.keep hb1; clear A0 B0 V0 D0)
    | (go_at_call 78; with_reducible refine (HC.out _).mono ?_; rintro e W1 ⟨rfl, hb1⟩; have VF := V0.keep hb1; have DF := D0.keep hb1; clear A0 B0 V0 D0)
    | (go_at_call 79; with_reducible refine (HC.out _).mono ?_; rintro e W1 ⟨rfl, hb1⟩; have VF := V0.keep hb1; have DF := D0.keep hb1; clear A0 B0 V0 D0))
   refine pR (by simp [results, Tryz.results50, go_sem, VF]; try rfl) rfl ⟨by rw [L.out] <;> rfl, ?_⟩
   exact Bel.y
theorem Qoy (a b : Val) (ha : vsnd a = true) (hb : vsnd b = true) (w : World) : Calls Tryz.prog 50 #[.int .i64 4, a.val, b.val] w fun e w' => e = .returned (rck 4 a b).val /\ Bel w w' := Qe8 4 (by decide) a b ha hb w
theorem Qoz (a b : Val) (ha : vsnd a = true) (hb : vsnd b = true) (w : World) : Calls Tryz.prog 50 #[.int .i64 5, a.val, b.val] w fun e w' => e = .returned (rck 5 a b).val /\ Bel w w' := Qe8 5 (by decide) a b ha hb w
theorem Qo0 (a b : Val) (ha : vsnd a = true) (hb : vsnd b = true) (w : World) : Calls Tryz.prog 50 #[.int .i64 6, a.val, b.val] w fun e w' => e = .returned (rck 6 a b).val /\ Bel w w' := Qe8 6 (by decide) a b ha hb w
theorem Qo1 (a b : Val) (ha : vsnd a = true) (hb : vsnd b = true) (w : World) : Calls Tryz.prog 50 #[.int .i64 7, a.val, b.val] w fun e w' => e = .returned (rck 7 a b).val /\ Bel w w' := Qe8 7 (by decide) a b ha hb w
theorem Qo2 (b c : Val) (hb : vsnd b = true) (w : World) : Calls Tryz.prog 50 #[.int .i64 3, b.val, c.val] w fun e w' => e = .returned (rck 5 num0 b).val /\ Bel w w' := by
 by_cases h2 : ¬ b.kind = 1
 ·have L := Hd (show rck 5 num0 b = zero from Qkx fun h => h2 h.2)
  obtain ⟨k', n', s', t', m'⟩ := b
  obtain ⟨ck, cn, cs, ct, cm⟩ := c
  have f2 : (k' != 1) = true := by rw [bne_iff_ne]; exact h2
  clear h2 hb
  go_enter Tryz.func50, Tryz.ntmps50
  go_wp2_with fail
  refine pR (by simp [results, Tryz.results50, go_sem]; try rfl) rfl ⟨by rw [L.out] <;> rfl, ?_⟩
  exact Bel.y
 replace h2 := Classical.not_not.1 h2
 have d2 := Qdt hb h2
 obtain ⟨k', n', s', t', m'⟩ := b
 obtain ⟨ck, cn, cs, ct, cm⟩ := c
 have hk : k' = 1 := h2
 subst hk
 clear h2 hb
 have HN := Hd (fun w => Qop n' s' w)
 rw [show negV n' s' = .tuple #[decA (-n') s', .int .i64 0] from iP d2] at HN
 have E := Qea 5 0 0 n' s' ⟨by decide, by decide, ⟨by decide, by decide⟩, .inl rfl⟩ d2
 clear d2
 rcases E with ⟨x, y, he, -⟩ | ⟨e, he0, he⟩
 all_goals
  first
  | have L := Hd (show rck _ num0 ⟨1, n', s', t', m'⟩ = _ from Qhc (a3 := ⟨#[]⟩) (a4 := 0) he)
  | (have L := Hd (show rck _ num0 ⟨1, n', s', t', m'⟩ = _ from Qhd he0 (a3 := ⟨#[]⟩) (a4 := 0) he); have f3 : (((e : Nat) : Int) != 0) = true := by rw [bne_iff_ne]; omega)
  first
  | (have HC := Hd (show ∀ w, Calls Tryz.prog 81 #[decA 0 0, decA (-n') s'] w fun e w' => e = .returned (opV 5 0 0 n' s') /\ Bel w w' from fun w => Qjk 0 0 (-n') s' w); rw [he] at HC)
  clear he
  go_enter Tryz.func50, Tryz.ntmps50
  go_upto_region 8 with fail
  refine uN (w0 := w) (by exact Bel.y) fun W hc hf hz hbW => ?_
  have A0 : Slot W w.heap.size ⟨1, 0, 0, ⟨#[]⟩, 0⟩ := by simp [Slot, Qal, Qah, num0, hc, hf, hz, go_sem]
  have B0 : Slot W (w.heap.size + 1) ⟨1, n', s', t', m'⟩ := by simp [Slot, Qal, Qah, hc, hf, hz, go_sem]
  have V0 : Slot W (w.heap.size + 1 + 1) zero := by simp [Slot, Qal, Qah, zero, hc, hf, hz, go_sem]
  have D0 : Qfv W (w.heap.size + 1 + 1 + 1) 0 0 := by simp [Qfv, hc, hf, hz, go_sem]
  clear hc hf hz
  go_wp2_with (first
   | (go_at_call 80; with_reducible refine (HN.out _).mono ?_; rintro e W1 ⟨rfl, hb1⟩; have A1 := A0.keep hb1; have B1 := B0.keep hb1; have V1 := V0.keep hb1; have D1 := D0.keep hb1; clear A0 B0 V0 D0)
   | (go_at_call 81; with_reducible refine (HC.out _).mono ?_; rintro e W2 ⟨rfl, hb2⟩; have A2 := (Qaz (Qaz A1 (by omega)) (by omega)).keep hb2; have B2 := (Qkw (-n') s' B1).keep hb2; have VF := (Qaz (Qaz V1 (by omega)) (by omega)).keep hb2; have D2 := (Qci (Qci D1 (by omega)) (by omega)).keep hb2; clear A1 B1 V1 D1))
  refine pR (by simp [results, Tryz.results50, go_sem, VF]; try rfl) rfl ⟨by rw [L.out] <;> rfl, ?_⟩
  exact Bel.y
end Go.Proofs.YtjckpkamhdbcnaaGreatDoor
