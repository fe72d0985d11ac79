import Derived.Test.YtjckpkamhdbcnaaGreatDoorZbb
import Derived.Test.YtjckpkamhdbcnaaGreatDoorZbc
namespace Go.Proofs.YtjckpkamhdbcnaaGreatDoor
set_option maxRecDepth 100000
set_option maxHeartbeats 64000000
set_option linter.unusedSimpArgs false
set_option linter.unusedVariables false
section
open Go.RowKit
attribute [local go_sem ↓] Qas Qau
def eqV (a b : Val) : Val := if vsnd a = true /\ vsnd b = true /\ (a.kind = 0 \/ b.kind = 0 \/ a.kind = b.kind) then tval (veq a b) else zero
def ltV (a b : Val) : Val := if vsnd a = true /\ vsnd b = true /\ a.kind = b.kind /\ a.kind ≠ 0 /\ a.kind ≠ 3 then tval (decide (vcmp a b < 0)) else zero
theorem slots3 (w : World) (a b v : Val) : Slot (((w.alloc (.cells #[.int .i64 a.kind, .int .i64 a.n, .int .i64 a.scale, .string a.text, .int .i64 a.num] 25)).alloc (.cells #[.int .i64 b.kind, .int .i64 b.n, .int .i64 b.scale, .string b.text, .int .i64 b.num] 25)).alloc (.cells #[.int .i64 v.kind, .int .i64 v.n, .int .i64 v.scale, .string v.text, .int .i64 v.num] 25)) w.heap.size a /\
  Slot (((w.alloc (.cells #[.int .i64 a.kind, .int .i64 a.n, .int .i64 a.scale, .string a.text, .int .i64 a.num] 25)).alloc (.cells #[.int .i64 b.kind, .int .i64 b.n, .int .i64 b.scale, .string b.text, .int .i64 b.num] 25)).alloc (.cells #[.int .i64 v.kind, .int .i64 v.n, .int .i64 v.scale, .string v.text, .int .i64 v.num] 25)) (w.heap.size + 1) b /\
  Slot (((w.alloc (.cells #[.int .i64 a.kind, .int .i64 a.n, .int .i64 a.scale, .string a.text, .int .i64 a.num] 25)).alloc (.cells #[.int .i64 b.kind, .int .i64 b.n, .int .i64 b.scale, .string b.text, .int .i64 b.num] 25)).alloc (.cells #[.int .i64 v.kind, .int .i64 v.n, .int .i64 v.scale, .string v.text, .int .i64 v.num] 25)) (w.heap.size + 1 + 1) v := by
 simp [Slot, Qal, Qah, go_sem]
structure Trio (w : World) (g : Nat) (a b v : Val) : Prop where
 a : Slot w g a
 b : Slot w (g + 1) b
 v : Slot w (g + 1 + 1) v
theorem Trio.keep {w w' : World} {g : Nat} {a b v : Val} (h : Trio w g a b v) (hb : Bel w w') : Trio w' g a b v := ⟨h.a.keep hb, h.b.keep hb, h.v.keep hb⟩
theorem Qaj (w : World) (a b : Val) : Trio (((w.alloc (.cells #[.int .i64 a.kind, .int .i64 a.n, .int .i64 a.scale, .string a.text, .int .i64 a.num] 25)).alloc (.cells #[.int .i64 b.kind, .int .i64 b.n, .int .i64 b.scale, .string b.text, .int .i64 b.num] 25)).alloc (.cells #[.int .i64 0, .int .i64 0, .int .i64 0, .string ⟨#[]⟩, .int .i64 0] 25)) w.heap.size a b zero :=
 ⟨(slots3 w a b zero).1, (slots3 w a b zero).2.1, (slots3 w a b zero).2.2⟩
theorem Qgf (a b : Val) (ha : a.text.size <= 9223372036854775807) (hb : b.text.size <= 9223372036854775807) (w : World) : Calls Tryz.prog 15 #[a.val, b.val] w fun e w' => e = .returned (eqV a b).val /\ Bel w w' := by
 have SA := Hd (fun w => Qbs a ha w)
 have SB := Hd (fun w => Qbs b hb w)
 cases hva : vsnd a with
 | false =>
  have L := Hd (show eqV a b = zero from iN (fun h => by rw [h.1] at hva; cases hva))
  have HA := Hd hva
  obtain ⟨k, n, s, t, m⟩ := a
  obtain ⟨k', n', s', t', m'⟩ := b
  clear hva ha hb SB
  go_enter Tryz.func15, Tryz.ntmps15
  go_wp2_with (first
   | (go_at_call 22; with_reducible refine (SA.out _).mono ?_; rintro e W1 ⟨rfl, hb1⟩; rw [HA.out]; obtain ⟨A1, B1, V1⟩ := (Qaj w ⟨k, n, s, t, m⟩ ⟨k', n', s', t', m'⟩).keep hb1))
  refine pR (by first | (simp [results, Tryz.results15, go_sem, V1]; done) | (simp [results, Tryz.results15, go_sem, V1]; rfl)) rfl ⟨by rw [L.out] <;> rfl, ?_⟩
  exact Bel.y
 | true =>
 cases hvb : vsnd b with
 | false =>
  have L := Hd (show eqV a b = zero from iN (fun h => by rw [h.2.1] at hvb; cases hvb))
  have HA := Hd hva
  have HB := Hd hvb
  obtain ⟨k, n, s, t, m⟩ := a
  obtain ⟨k', n', s', t', m'⟩ := b
  clear hva hvb ha hb
  go_enter Tryz.func15, Tryz.ntmps15
  go_wp2_with (first
   | (go_at_call 22; with_reducible refine (SA.out _).mono ?_; rintro e W1 ⟨rfl, hb1⟩; rw [HA.out]; obtain ⟨A1, B1, V1⟩ := (Qaj w ⟨k, n, s, t, m⟩ ⟨k', n', s', t', m'⟩).keep hb1)
   | (go_at_call 22; with_reducible refine (SB.out _).mono ?_; rintro e W2 ⟨rfl, hb2⟩; rw [HB.out]; have A2 := A1.keep hb2; have B2 := B1.keep hb2; have V2 := V1.keep hb2; clear A1 B1 V1))
  refine pR (by first | (simp [results, Tryz.results15, go_sem, V2]; done) | (simp [results, Tryz.results15, go_sem, V2]; rfl)) rfl ⟨by rw [L.out] <;> rfl, ?_⟩
  exact Bel.y
 | true =>
 by_cases h1 : a.kind = 0
 ·
  obtain ⟨z, hz⟩ : ∃ z, z = tval (veq a b) := ⟨_, rfl⟩
  have CT := Hd (show ∀ w, Calls Tryz.prog 36 #[.bool (veq a b)] w fun e w' => e = .returned z.val /\ Bel w w' from fun w => by rw [hz]; exact Qd8 _ w)
  have L := Hd (show eqV a b = z from (iP ⟨hva, hvb, .inl h1⟩).trans hz.symm)
  have HA := Hd hva
  have HB := Hd hvb
  obtain ⟨k, n, s, t, m⟩ := a
  obtain ⟨k', n', s', t', m'⟩ := b
  have f1 : (k == 0) = true := by rw [beq_iff_eq]; exact h1
  clear hva hvb ha hb hz h1
  go_enter Tryz.func15, Tryz.ntmps15
  go_wp2_with (first
   | (go_at_call 22; with_reducible refine (SA.out _).mono ?_; rintro e W1 ⟨rfl, hb1⟩; rw [HA.out]; obtain ⟨A1, B1, V1⟩ := (Qaj w ⟨k, n, s, t, m⟩ ⟨k', n', s', t', m'⟩).keep hb1)
   | (go_at_call 22; with_reducible refine (SB.out _).mono ?_; rintro e W2 ⟨rfl, hb2⟩; rw [HB.out]; have A2 := A1.keep hb2; have B2 := B1.keep hb2; have V2 := V1.keep hb2; clear A1 B1 V1)
   | (go_at_call 36; with_reducible refine (CT.out _).mono ?_; rintro e W4 ⟨rfl, hb4⟩; have A4 := A2.keep hb4; have B4 := B2.keep hb4; have V4 := V2.keep hb4; clear A2 B2 V2))
  refine pR (by first | (simp [results, Tryz.results15, go_sem, V4]; done) | (simp [results, Tryz.results15, go_sem, V4]; rfl)) rfl ⟨by rw [L.out] <;> rfl, ?_⟩
  exact Bel.y
 by_cases h2 : b.kind = 0
 ·
  obtain ⟨z, hz⟩ : ∃ z, z = tval (veq a b) := ⟨_, rfl⟩
  have CT := Hd (show ∀ w, Calls Tryz.prog 36 #[.bool (veq a b)] w fun e w' => e = .returned z.val /\ Bel w w' from fun w => by rw [hz]; exact Qd8 _ w)
  have L := Hd (show eqV a b = z from (iP ⟨hva, hvb, .inr (.inl h2)⟩).trans hz.symm)
  have HA := Hd hva
  have HB := Hd hvb
  obtain ⟨k, n, s, t, m⟩ := a
  obtain ⟨k', n', s', t', m'⟩ := b
  have f1 : (k == 0) = false := by rw [bN]; exact h1
  have f2 : (k' == 0) = true := by rw [beq_iff_eq]; exact h2
  clear hva hvb ha hb hz h1 h2
  go_enter Tryz.func15, Tryz.ntmps15
  go_wp2_with (first
   | (go_at_call 22; with_reducible refine (SA.out _).mono ?_; rintro e W1 ⟨rfl, hb1⟩; rw [HA.out]; obtain ⟨A1, B1, V1⟩ := (Qaj w ⟨k, n, s, t, m⟩ ⟨k', n', s', t', m'⟩).keep hb1)
   | (go_at_call 22; with_reducible refine (SB.out _).mono ?_; rintro e W2 ⟨rfl, hb2⟩; rw [HB.out]; have A2 := A1.keep hb2; have B2 := B1.keep hb2; have V2 := V1.keep hb2; clear A1 B1 V1)
   | (go_at_call 36; with_reducible refine (CT.out _).mono ?_; rintro e W4 ⟨rfl, hb4⟩; have A4 := A2.keep hb4; have B4 := B2.keep hb4; have V4 := V2.keep hb4; clear A2 B2 V2))
  refine pR (by first | (simp [results, Tryz.results15, go_sem, V4]; done) | (simp [results, Tryz.results15, go_sem, V4]; rfl)) rfl ⟨by rw [L.out] <;> rfl, ?_⟩
  exact Bel.y
 by_cases h3 : a.kind = b.kind
 ·
  obtain ⟨z, hz⟩ : ∃ z, z = tval (veq a b) := ⟨_, rfl⟩
  have CT := Hd (show ∀ w, Calls Tryz.prog 36 #[.bool (veq a b)] w fun e w' => e = .returned z.val /\ Bel w w' from fun w => by rw [hz]; exact Qd8 _ w)
  have L := Hd (show eqV a b = z from (iP ⟨hva, hvb, .inr (.inr h3)⟩).trans hz.symm)
  have HA := Hd hva
  have HB := Hd hvb
  obtain ⟨k, n, s, t, m⟩ := a
  obtain ⟨k', n', s', t', m'⟩ := b
  have f1 : (k == 0) = false := by rw [bN]; exact h1
  have f2 : (k' == 0) = false := by rw [bN]; exact h2
  have f3 : (k == k') = true := by rw [beq_iff_eq]; exact h3
  clear hva hvb ha hb hz h1 h2 h3
  go_enter Tryz.func15, Tryz.ntmps15
  go_wp2_with (first
   | (go_at_call 22; with_reducible refine (SA.out _).mono ?_; rintro e W1 ⟨rfl, hb1⟩; rw [HA.out]; obtain ⟨A1, B1, V1⟩ := (Qaj w ⟨k, n, s, t, m⟩ ⟨k', n', s', t', m'⟩).keep hb1)
   | (go_at_call 22; with_reducible refine (SB.out _).mono ?_; rintro e W2 ⟨rfl, hb2⟩; rw [HB.out]; have A2 := A1.keep hb2; have B2 := B1.keep hb2; have V2 := V1.keep hb2; clear A1 B1 V1)
   | (go_at_call 36; with_reducible refine (CT.out _).mono ?_; rintro e W4 ⟨rfl, hb4⟩; have A4 := A2.keep hb4; have B4 := B2.keep hb4; have V4 := V2.keep hb4; clear A2 B2 V2))
  refine pR (by first | (simp [results, Tryz.results15, go_sem, V4]; done) | (simp [results, Tryz.results15, go_sem, V4]; rfl)) rfl ⟨by rw [L.out] <;> rfl, ?_⟩
  exact Bel.y
 
 have L := Hd (show eqV a b = zero from iN (fun h => by rcases h.2.2 with h | h | h; exact h1 h; exact h2 h; exact h3 h))
 have HA := Hd hva
 have HB := Hd hvb
 obtain ⟨k, n, s, t, m⟩ := a
 obtain ⟨k', n', s', t', m'⟩ := b
 have f1 : (k == 0) = false := by rw [bN]; exact h1
 have f2 : (k' == 0) = false := by rw [bN]; exact h2
 have f3 : (k == k') = false := by rw [bN]; exact h3
 clear hva hvb ha hb h1 h2 h3
 go_enter Tryz.func15, Tryz.ntmps15
 go_wp2_with (first
  | (go_at_call 22; with_reducible refine (SA.out _).mono ?_; rintro e W1 ⟨rfl, hb1⟩; rw [HA.out]; obtain ⟨A1, B1, V1⟩ := (Qaj w ⟨k, n, s, t, m⟩ ⟨k', n', s', t', m'⟩).keep hb1)
  | (go_at_call 22; with_reducible refine (SB.out _).mono ?_; rintro e W2 ⟨rfl, hb2⟩; rw [HB.out]; have A2 := A1.keep hb2; have B2 := B1.keep hb2; have V2 := V1.keep hb2; clear A1 B1 V1))
 refine pR (by first | (simp [results, Tryz.results15, go_sem, V2]; done) | (simp [results, Tryz.results15, go_sem, V2]; rfl)) rfl ⟨by rw [L.out] <;> rfl, ?_⟩
 exact Bel.y
theorem Qd9 (a b : Val) (ha : a.text.size <= 9223372036854775807) (hb : b.text.size <= 9223372036854775807) (w : World) : Calls Tryz.prog 17 #[a.val, b.val] w fun e w' => e = .returned (ltV a b).val /\ Bel w w' := by
 by_cases hs : vsnd a = true /\ vsnd b = true
 ·have hva := hs.1
  have hvb := hs.2
  by_cases h1 : ¬ a.kind = b.kind
  ·
   have cc := fun w => Qbw a b ha hb w
   rw [show vcmpV a b = .tuple #[.int .i64 (vcmp a b), .int .i64 0] from iP ⟨hva, hvb⟩] at cc
   obtain ⟨c, hc⟩ : ∃ c, c = vcmp a b := ⟨_, rfl⟩
   rw [← hc] at cc
   have CC := Hd cc
   have L := Hd (show ltV a b = zero from iN (fun h => h1 h.2.2.1))
   obtain ⟨k, n, s, t, m⟩ := a
   obtain ⟨k', n', s', t', m'⟩ := b
   have f1 : (k != k') = true := by rw [bne_iff_ne]; exact h1
   clear ha hb cc hc hva hvb hs h1
   go_enter Tryz.func17, Tryz.ntmps17
   go_wp2_with (first
    | (go_at_call 38; with_reducible refine (CC.out _).mono ?_; rintro e W3 ⟨rfl, hb3⟩; obtain ⟨A3, B3, V3⟩ := (Qaj w ⟨k, n, s, t, m⟩ ⟨k', n', s', t', m'⟩).keep hb3))
   refine pR (by first | (simp [results, Tryz.results17, go_sem, V3]; done) | (simp [results, Tryz.results17, go_sem, V3]; rfl)) rfl ⟨by rw [L.out] <;> rfl, ?_⟩
   exact Bel.y
  replace h1 := Classical.not_not.1 h1
  by_cases h2 : a.kind = 0
  ·
   have cc := fun w => Qbw a b ha hb w
   rw [show vcmpV a b = .tuple #[.int .i64 (vcmp a b), .int .i64 0] from iP ⟨hva, hvb⟩] at cc
   obtain ⟨c, hc⟩ : ∃ c, c = vcmp a b := ⟨_, rfl⟩
   rw [← hc] at cc
   have CC := Hd cc
   have L := Hd (show ltV a b = zero from iN (fun h => h.2.2.2.1 h2))
   obtain ⟨k, n, s, t, m⟩ := a
   obtain ⟨k', n', s', t', m'⟩ := b
   have f1 : (k != k') = false := by rw [bne_eq_false_iff_eq]; exact h1
   have f2 : (k == 0) = true := by rw [beq_iff_eq]; exact h2
   clear ha hb cc hc hva hvb hs h1 h2
   go_enter Tryz.func17, Tryz.ntmps17
   go_wp2_with (first
    | (go_at_call 38; with_reducible refine (CC.out _).mono ?_; rintro e W3 ⟨rfl, hb3⟩; obtain ⟨A3, B3, V3⟩ := (Qaj w ⟨k, n, s, t, m⟩ ⟨k', n', s', t', m'⟩).keep hb3))
   refine pR (by first | (simp [results, Tryz.results17, go_sem, V3]; done) | (simp [results, Tryz.results17, go_sem, V3]; rfl)) rfl ⟨by rw [L.out] <;> rfl, ?_⟩
   exact Bel.y
  by_cases h3 : a.kind = 3
  ·
   have cc := fun w => Qbw a b ha hb w
   rw [show vcmpV a b = .tuple #[.int .i64 (vcmp a b), .int .i64 0] from iP ⟨hva, hvb⟩] at cc
   obtain ⟨c, hc⟩ : ∃ c, c = vcmp a b := ⟨_, rfl⟩
   rw [← hc] at cc
   have CC := Hd cc
   have L := Hd (show ltV a b = zero from iN (fun h => h.2.2.2.2 h3))
   obtain ⟨k, n, s, t, m⟩ := a
   obtain ⟨k', n', s', t', m'⟩ := b
   have f1 : (k != k') = false := by rw [bne_eq_false_iff_eq]; exact h1
   have f2 : (k == 0) = false := by rw [bN]; exact h2
   have f3 : (k == 3) = true := by rw [beq_iff_eq]; exact h3
   clear ha hb cc hc hva hvb hs h1 h2 h3
   go_enter Tryz.func17, Tryz.ntmps17
   go_wp2_with (first
    | (go_at_call 38; with_reducible refine (CC.out _).mono ?_; rintro e W3 ⟨rfl, hb3⟩; obtain ⟨A3, B3, V3⟩ := (Qaj w ⟨k, n, s, t, m⟩ ⟨k', n', s', t', m'⟩).keep hb3))
   refine pR (by first | (simp [results, Tryz.results17, go_sem, V3]; done) | (simp [results, Tryz.results17, go_sem, V3]; rfl)) rfl ⟨by rw [L.out] <;> rfl, ?_⟩
   exact Bel.y
  
  have cc := fun w => Qbw a b ha hb w
  rw [show vcmpV a b = .tuple #[.int .i64 (vcmp a b), .int .i64 0] from iP ⟨hva, hvb⟩] at cc
  obtain ⟨c, hc⟩ : ∃ c, c = vcmp a b := ⟨_, rfl⟩
  rw [← hc] at cc
  have CC := Hd cc
  obtain ⟨z, hz⟩ : ∃ z, z = tval (decide (c < 0)) := ⟨_, rfl⟩
  have CT := Hd (show ∀ w, Calls Tryz.prog 36 #[.bool (decide (c < 0))] w fun e w' => e = .returned z.val /\ Bel w w' from fun w => by rw [hz]; exact Qd8 _ w)
  have L := Hd (show ltV a b = z from (iP ⟨hva, hvb, h1, h2, h3⟩).trans (by rw [hz, hc]))
  obtain ⟨k, n, s, t, m⟩ := a
  obtain ⟨k', n', s', t', m'⟩ := b
  have f1 : (k != k') = false := by rw [bne_eq_false_iff_eq]; exact h1
  have f2 : (k == 0) = false := by rw [bN]; exact h2
  have f3 : (k == 3) = false := by rw [bN]; exact h3
  clear ha hb cc hc hva hvb hs hz h1 h2 h3
  go_enter Tryz.func17, Tryz.ntmps17
  go_wp2_with (first
   | (go_at_call 38; with_reducible refine (CC.out _).mono ?_; rintro e W3 ⟨rfl, hb3⟩; obtain ⟨A3, B3, V3⟩ := (Qaj w ⟨k, n, s, t, m⟩ ⟨k', n', s', t', m'⟩).keep hb3)
   | (go_at_call 36; with_reducible refine (CT.out _).mono ?_; rintro e W4 ⟨rfl, hb4⟩; have A4 := A3.keep hb4; have B4 := B3.keep hb4; have V4 := V3.keep hb4; clear A3 B3 V3))
  refine pR (by first | (simp [results, Tryz.results17, go_sem, V4]; done) | (simp [results, Tryz.results17, go_sem, V4]; rfl)) rfl ⟨by rw [L.out] <;> rfl, ?_⟩
  exact Bel.y
 have cc := fun w => Qbw a b ha hb w
 rw [show vcmpV a b = .tuple #[.int .i64 0, .int .i64 2] from iN hs] at cc
 have CC := Hd cc
 have L := Hd (show ltV a b = zero from iN (fun h => hs ⟨h.1, h.2.1⟩))
 obtain ⟨k, n, s, t, m⟩ := a
 obtain ⟨k', n', s', t', m'⟩ := b
 clear ha hb cc hs
 go_enter Tryz.func17, Tryz.ntmps17
 go_wp2_with (first
  | (go_at_call 38; with_reducible refine (CC.out _).mono ?_; rintro e W3 ⟨rfl, hb3⟩; obtain ⟨A3, B3, V3⟩ := (Qaj w ⟨k, n, s, t, m⟩ ⟨k', n', s', t', m'⟩).keep hb3))
 refine pR (by first | (simp [results, Tryz.results17, go_sem, V3]; done) | (simp [results, Tryz.results17, go_sem, V3]; rfl)) rfl ⟨by rw [L.out] <;> rfl, ?_⟩
 exact Bel.y
end
section
open Go.RowKit
attribute [local go_sem ↓] Qas Qau
def cmpd (op : Int) (a b : Val) : Val := if op = 8 then eqV a b else if op = 9 then nt (eqV a b) else if op = 10 then ltV a b else if op = 12 then ltV b a else if op = 11 then nt (ltV b a) else nt (ltV a b)
theorem Qov (a b : Val) (ha : a.text.size <= 9223372036854775807) (hb : b.text.size <= 9223372036854775807) (w : World) : Calls Tryz.prog 55 #[.int .i64 8, a.val, b.val] w fun e w' => e = .returned (cmpd 8 a b).val /\ Bel w w' := by
 have CE := fun w => Qgf a b ha hb w
 have L := Hd (show cmpd 8 a b = eqV a b from rfl)
 generalize eqV a b = z at CE L
 clear ha hb
 obtain ⟨k, n, s, t, m⟩ := a
 obtain ⟨k', n', s', t', m'⟩ := b
 obtain ⟨zk, zn, zs, zt, zm⟩ := z
 have CE := Hd CE
 go_enter Tryz.func55, Tryz.ntmps55
 go_wp2_with ((go_at_call 15; with_reducible refine (CE.out _).mono ?_; rintro e W1 ⟨rfl, hb1⟩; obtain ⟨A1, B1, V1⟩ := (Qaj w ⟨k, n, s, t, m⟩ ⟨k', n', s', t', m'⟩).keep hb1))
 refine pR (by simp [results, Tryz.results55, go_sem, V1]; try rfl) rfl ⟨by rw [L.out] <;> rfl, ?_⟩
 exact Bel.y
theorem Qow (a b : Val) (ha : a.text.size <= 9223372036854775807) (hb : b.text.size <= 9223372036854775807) (w : World) : Calls Tryz.prog 55 #[.int .i64 9, a.val, b.val] w fun e w' => e = .returned (cmpd 9 a b).val /\ Bel w w' := by
 have CE := fun w => Qgf a b ha hb w
 have L := Hd (show cmpd 9 a b = nt (eqV a b) from rfl)
 generalize eqV a b = z at CE L
 have CN := fun w => Qha z w
 generalize nt z = y at CN L
 clear ha hb
 obtain ⟨k, n, s, t, m⟩ := a
 obtain ⟨k', n', s', t', m'⟩ := b
 obtain ⟨zk, zn, zs, zt, zm⟩ := z
 obtain ⟨yk, yn, ys, yt, ym⟩ := y
 have CE := Hd CE
 have CN := Hd CN
 go_enter Tryz.func55, Tryz.ntmps55
 go_wp2_with (first
  | (go_at_call 15; with_reducible refine (CE.out _).mono ?_; rintro e W1 ⟨rfl, hb1⟩; obtain ⟨A1, B1, V1⟩ := (Qaj w ⟨k, n, s, t, m⟩ ⟨k', n', s', t', m'⟩).keep hb1)
  | (go_at_call 51; with_reducible refine (CN.out _).mono ?_; rintro e W2 ⟨rfl, hb2⟩; have V2 := V1.keep hb2; clear A1 B1 V1))
 refine pR (by simp [results, Tryz.results55, go_sem, V2]; try rfl) rfl ⟨by rw [L.out] <;> rfl, ?_⟩
 exact Bel.y
theorem Qlw (a b : Val) (ha : a.text.size <= 9223372036854775807) (hb : b.text.size <= 9223372036854775807) (w : World) : Calls Tryz.prog 55 #[.int .i64 10, a.val, b.val] w fun e w' => e = .returned (cmpd 10 a b).val /\ Bel w w' := by
 have CE := fun w => Qd9 a b ha hb w
 have L := Hd (show cmpd 10 a b = ltV a b from rfl)
 generalize ltV a b = z at CE L
 clear ha hb
 obtain ⟨k, n, s, t, m⟩ := a
 obtain ⟨k', n', s', t', m'⟩ := b
 obtain ⟨zk, zn, zs, zt, zm⟩ := z
 have CE := Hd CE
 go_enter Tryz.func55, Tryz.ntmps55
 go_wp2_with ((go_at_call 17; with_reducible refine (CE.out _).mono ?_; rintro e W1 ⟨rfl, hb1⟩; obtain ⟨A1, B1, V1⟩ := (Qaj w ⟨k, n, s, t, m⟩ ⟨k', n', s', t', m'⟩).keep hb1))
 refine pR (by simp [results, Tryz.results55, go_sem, V1]; try rfl) rfl ⟨by rw [L.out] <;> rfl, ?_⟩
 exact Bel.y
theorem Qlx (a b : Val) (ha : a.text.size <= 9223372036854775807) (hb : b.text.size <= 9223372036854775807) (w : World) : Calls Tryz.prog 55 #[.int .i64 12, a.val, b.val] w fun e w' => e = .returned (cmpd 12 a b).val /\ Bel w w' := by
 have CE := fun w => Qd9 b a hb ha w
 have L := Hd (show cmpd 12 a b = ltV b a from rfl)
 generalize ltV b a = z at CE L
 clear ha hb
 obtain ⟨k, n, s, t, m⟩ := a
 obtain ⟨k', n', s', t', m'⟩ := b
 obtain ⟨zk, zn, zs, zt, zm⟩ := z
 have CE := Hd CE
 go_enter Tryz.func55, Tryz.ntmps55
 go_wp2_with ((go_at_call 17; with_reducible refine (CE.out _).mono ?_; rintro e W1 ⟨rfl, hb1⟩; obtain ⟨A1, B1, V1⟩ := (Qaj w ⟨k, n, s, t, m⟩ ⟨k', n', s', t', m'⟩).keep hb1))
 refine pR (by simp [results, Tryz.results55, go_sem, V1]; try rfl) rfl ⟨by rw [L.out] <;> rfl, ?_⟩
 exact Bel.y
theorem Qly (a b : Val) (ha : a.text.size <= 9223372036854775807) (hb : b.text.size <= 9223372036854775807) (w : World) : Calls Tryz.prog 55 #[.int .i64 11, a.val, b.val] w fun e w' => e = .returned (cmpd 11 a b).val /\ Bel w w' := by
 have CE := fun w => Qd9 b a hb ha w
 have L := Hd (show cmpd 11 a b = nt (ltV b a) from rfl)
 generalize ltV b a = z at CE L
 have CN := fun w => Qha z w
 generalize nt z = y at CN L
 clear ha hb
 obtain ⟨k, n, s, t, m⟩ := a
 obtain ⟨k', n', s', t', m'⟩ := b
 obtain ⟨zk, zn, zs, zt, zm⟩ := z
 obtain ⟨yk, yn, ys, yt, ym⟩ := y
 have CE := Hd CE
 have CN := Hd CN
 go_enter Tryz.func55, Tryz.ntmps55
 go_wp2_with (first
  | (go_at_call 17; with_reducible refine (CE.out _).mono ?_; rintro e W1 ⟨rfl, hb1⟩; obtain ⟨A1, B1, V1⟩ := (Qaj w ⟨k, n, s, t, m⟩ ⟨k', n', s', t', m'⟩).keep hb1)
  | (go_at_call 51; with_reducible refine (CN.out _).mono ?_; rintro e W2 ⟨rfl, hb2⟩; have V2 := V1.keep hb2; clear A1 B1 V1))
 refine pR (by simp [results, Tryz.results55, go_sem, V2]; try rfl) rfl ⟨by rw [L.out] <;> rfl, ?_⟩
 exact Bel.y
theorem Qlz (a b : Val) (ha : a.text.size <= 9223372036854775807) (hb : b.text.size <= 9223372036854775807) (w : World) : Calls Tryz.prog 55 #[.int .i64 13, a.val, b.val] w fun e w' => e = .returned (cmpd 13 a b).val /\ Bel w w' := by
 have CE := fun w => Qd9 a b ha hb w
 have L := Hd (show cmpd 13 a b = nt (ltV a b) from rfl)
 generalize ltV a b = z at CE L
 have CN := fun w => Qha z w
 generalize nt z = y at CN L
 clear ha hb
 obtain ⟨k, n, s, t, m⟩ := a
 obtain ⟨k', n', s', t', m'⟩ := b
 obtain ⟨zk, zn, zs, zt, zm⟩ := z
 obtain ⟨yk, yn, ys, yt, ym⟩ := y
 have CE := Hd CE
 have CN := Hd CN
 go_enter Tryz.func55, Tryz.ntmps55
 go_wp2_with (first
  | (go_at_call 17; with_reducible refine (CE.out _).mono ?_; rintro e W1 ⟨rfl, hb1⟩; obtain ⟨A1, B1, V1⟩ := (Qaj w ⟨k, n, s, t, m⟩ ⟨k', n', s', t', m'⟩).keep hb1)
  | (go_at_call 51; with_reducible refine (CN.out _).mono ?_; rintro e W2 ⟨rfl, hb2⟩; have V2 := V1.keep hb2; clear A1 B1 V1))
 refine pR (by simp [results, Tryz.results55, go_sem, V2]; try rfl) rfl ⟨by rw [L.out] <;> rfl, ?_⟩
 exact Bel.y
end
end Go.Proofs.YtjckpkamhdbcnaaGreatDoor
