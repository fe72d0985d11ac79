import Derived.Test.YtjckpkamhdbcnaaGreatDoorZm
import Derived.Test.YtjckpkamhdbcnaaGreatDoorZbd
import Derived.Test.YtjckpkamhdbcnaaGreatDoorZbc
import Derived.Test.YtjckpkamhdbcnaaGreatDoorZca
import Derived.Test.YtjckpkamhdbcnaaGreatDoorZl
import Derived.Test.YtjckpkamhdbcnaaGreatDoorZd
import Derived.Test.YtjckpkamhdbcnaaGreatDoorZba
import Derived.Test.YtjckpkamhdbcnaaGreatDoorZy
import Derived.Test.YtjckpkamhdbcnaaGreatDoorShelf
import Derived.Laws.Cover1
import Derived.Test.YtjckpkamhdbcnaaGreatDoorZbb
namespace Go.Proofs.YtjckpkamhdbcnaaGreatDoor
set_option maxRecDepth 100000
set_option maxHeartbeats 64000000
set_option linter.unusedSimpArgs false
set_option linter.unusedVariables false
section
open Go.RowKit
def ValForm (v : Val) : Prop := v = ⟨0, 0, 0, ⟨#[]⟩, 0⟩ \/ (∃ n s, v = ⟨1, n, s, ⟨#[]⟩, 0⟩) \/ (∃ t, v = ⟨2, 0, 0, t, 0⟩) \/ v = ⟨3, 0, 0, ⟨#[]⟩, 0⟩ \/ v = ⟨3, 0, 0, ⟨#[]⟩, 1⟩ \/ ∃ d, v = ⟨4, 0, 0, ⟨#[]⟩, d⟩
theorem Qr7 {v : Val} (h : vsnd v = true) : ValForm v := by
 obtain ⟨k, n, s, t, m⟩ := v
 rcases kinds k with rfl | rfl | rfl | rfl | rfl | hk
 ·rw [vsnd0, Qa8] at h
  exact .inl h
 ·rw [vsnd1, bA, Qa8] at h
  exact .inr (.inl ⟨n, s, h.1⟩)
 ·rw [vsnd2, bA, Qa8] at h
  exact .inr (.inr (.inl ⟨t, h.1⟩))
 ·rw [vsnd3, bA, Qa8, Bool.or_eq_true, decide_eq_true_eq, decide_eq_true_eq] at h
  obtain ⟨h1, h2⟩ := h
  rcases h2 with rfl | rfl
  ·exact .inr (.inr (.inr (.inl h1)))
  exact .inr (.inr (.inr (.inr (.inl h1))))
 ·rw [vsnd4, bA, Qa8] at h
  exact .inr (.inr (.inr (.inr (.inr ⟨m, h.1⟩))))
 rw [vsnd5 k n s m t hk] at h; cases h
end
section
attribute [local go_sem ↓] Qas Qau
open Go.RowKit
theorem Qih : ∀ a b : List UInt8, Op.bytesLess a b = decide (Lib.compareBytes a b < 0)
 | [], [] => rfl
 | [], _ :: _ => rfl
 | _ :: _, [] => rfl
 | x :: a, y :: b => by
  have ih := Qih a b
  unfold Op.bytesLess Lib.compareBytes
  by_cases h1 : x < y
  ·rw [iP h1, dT h1]; rfl
  rw [iN h1, dF h1]
  by_cases h2 : y < x
  ·rw [iP h2]
   have hne : (x == y) = false := by rw [bN]; rintro rfl; exact h1 h2
   rw [hne]; rfl
  rw [iN h2]
  have he : (x == y) = true := by
   rw [beq_iff_eq]
   apply UInt8.toNat_inj.1
   have g1 : ¬ x.toNat < y.toNat := fun h => h1 (UInt8.lt_iff_toNat_lt.2 h)
   have g2 : ¬ y.toNat < x.toNat := fun h => h2 (UInt8.lt_iff_toNat_lt.2 h)
   omega
  rw [he, ih]; simp
theorem Qr8 : ∀ a b : List UInt8, Lib.compareBytes a b = 0 ↔ a = b
 | [], [] => by simp [Lib.compareBytes]
 | [], _ :: _ => by simp [Lib.compareBytes]
 | _ :: _, [] => by simp [Lib.compareBytes]
 | x :: a, y :: b => by
  have ih := Qr8 a b
  unfold Lib.compareBytes
  by_cases h1 : x < y
  ·rw [iP h1]
   constructor
   ·intro h; omega
   intro h
   have : x = y := (List.cons.inj h).1
   subst this
   exact absurd (UInt8.lt_iff_toNat_lt.1 h1) (Nat.lt_irrefl _)
  rw [iN h1]
  by_cases h2 : y < x
  ·rw [iP h2]
   constructor
   ·intro h; omega
   intro h
   have : x = y := (List.cons.inj h).1
   subst this
   exact absurd h2 h1
  rw [iN h2, ih]
  have he : x = y := by
   apply UInt8.toNat_inj.1
   have g1 : ¬ x.toNat < y.toNat := fun h => h1 (UInt8.lt_iff_toNat_lt.2 h)
   have g2 : ¬ y.toNat < x.toNat := fun h => h2 (UInt8.lt_iff_toNat_lt.2 h)
   omega
  subst he
  simp
theorem Qk6 (a b : List UInt8) : Lib.compareBytes a b = -1 \/ Lib.compareBytes a b = 0 \/ Lib.compareBytes a b = 1 := by
 induction a generalizing b with
 | nil => cases b <;> simp [Lib.compareBytes]
 | cons x a ih =>
  cases b with
  | nil => simp [Lib.compareBytes]
  | cons y b =>
   unfold Lib.compareBytes
   split
   ·left; rfl
   split
   ·right; right; rfl
   exact ih b
theorem Qwx {x y : Int} (h : x < y) : Lib.compareInt x y = -1 := iP h
theorem Qwy {x y : Int} (h : y < x) : Lib.compareInt x y = 1 := by unfold Lib.compareInt; rw [iN (by omega), iP h]
theorem Qxi (x : Int) : Lib.compareInt x x = 0 := by unfold Lib.compareInt; rw [iN (by omega), iN (by omega)]
theorem Qed (a b : Val) (ha : a.text.size <= 9223372036854775807) (hb : b.text.size <= 9223372036854775807) (w : World) : Calls Tryz.prog 37 #[a.val, b.val] w fun e w' => e = .returned (vcmpV a b) /\ Bel w w' := by
 have sa := fun w => Qat a ha w
 have sb := fun w => Qat b hb w
 have SA := Hd sa
 have SB := Hd sb
 clear sa sb
 cases hva : vsnd a with
 | false =>
  have L := Hd (show vcmpV a b = .tuple #[.int .i64 0, .int .i64 2] from iN (fun h => by rw [h.1] at hva; cases hva))
  have HA := Hd hva
  have HB := HA
  obtain ⟨k, n, s, t, m⟩ := a
  obtain ⟨k', n', s', t', m'⟩ := b
  clear hva ha hb
  go_enter Tryz.func37, Tryz.ntmps37
  go_wp2_with (first
   | (go_at_call 20; with_reducible refine (SA.out _).mono ?_; rintro e W1 ⟨rfl, hb1⟩; rw [HA.out]; obtain ⟨hc, hf⟩ := bcell hb1; obtain ⟨hz0, hz1⟩ := Bel.lt2 hb1))
  go_ret2
  exact ⟨by (rw [L.out]) <;> rfl, (((((Bel.refl _).alloc _).alloc _).trans hb1))⟩
 | true =>
  cases hvb : vsnd b with
  | false =>
   have L := Hd (show vcmpV a b = .tuple #[.int .i64 0, .int .i64 2] from iN (fun h => by rw [h.2] at hvb; cases hvb))
   have HA := Hd hva
   have HB := Hd hvb
   obtain ⟨k, n, s, t, m⟩ := a
   obtain ⟨k', n', s', t', m'⟩ := b
   clear hva hvb ha hb
   go_enter Tryz.func37, Tryz.ntmps37
   go_wp2_with (first
    | (go_at_call 20; with_reducible refine (SA.out _).mono ?_; rintro e W1 ⟨rfl, hb1⟩; rw [HA.out]; obtain ⟨hc, hf⟩ := bcell hb1; obtain ⟨hz0, hz1⟩ := Bel.lt2 hb1)
    | (go_at_call 20; with_reducible refine (SB.out _).mono ?_; rintro e W2 ⟨rfl, hb2⟩; rw [HB.out]; obtain ⟨hc2, hf2⟩ := bcell hb2))
   go_ret2
   exact ⟨by (rw [L.out]) <;> rfl, (((((Bel.refl _).alloc _).alloc _).trans hb1).trans hb2)⟩
  | true =>
   have L0 : vcmpV a b = .tuple #[.int .i64 (vcmp a b), .int .i64 0] := iP ⟨hva, hvb⟩
   have HA := Hd hva
   have HB := Hd hvb
   obtain ⟨k, n, s, t, m⟩ := a
   obtain ⟨k', n', s', t', m'⟩ := b
   by_cases hk : k = k'
   ·subst hk
    have e0 : (k != k) = false := by simp
    by_cases h1 : k = 1
    ·subst h1
     have hv : vcmp ⟨1, n, s, t, m⟩ ⟨1, n', s', t', m'⟩ = sgn (unt n s) (unt n' s') := rfl
     have c := fun w => Qr5 n s n' s' w
     rw [Qos (Qfh hva) (Qfh hvb)] at c
     obtain ⟨z, hz⟩ : ∃ z, z = sgn (unt n s) (unt n' s') := ⟨_, rfl⟩
     rw [← hz] at c hv
     rw [hv] at L0
     have L := Hd L0
     have C := Hd c
     clear c hz hva hvb ha hb hv L0 e0
     go_enter Tryz.func37, Tryz.ntmps37
     go_wp2_with (first
      | (go_at_call 20; with_reducible refine (SA.out _).mono ?_; rintro e W1 ⟨rfl, hb1⟩; rw [HA.out]; obtain ⟨hc, hf⟩ := bcell hb1; obtain ⟨hz0, hz1⟩ := Bel.lt2 hb1)
      | (go_at_call 20; with_reducible refine (SB.out _).mono ?_; rintro e W2 ⟨rfl, hb2⟩; rw [HB.out]; obtain ⟨hc2, hf2⟩ := bcell hb2)
      | (go_at_call 67; refine (C.out _).mono ?_; rintro e W3 ⟨rfl, hb3⟩))
     go_ret2
     exact ⟨by (rw [L.out]) <;> rfl, ((((((Bel.refl _).alloc _).alloc _).trans hb1).trans hb2).trans hb3)⟩
    have k1 : (k == 1) = false := by rw [bN]; exact h1
    by_cases h2 : k = 2
    ·subst h2
     have hm := (Qfi hva).1
     have hm' := (Qfi hvb).1
     subst hm hm'
     have hv : vcmp ⟨2, n, s, t, 0⟩ ⟨2, n', s', t', 0⟩ = Lib.compareBytes t.data.toList t'.data.toList := rfl
     have bl := Qih t.data.toList t'.data.toList
     have be := Qr8 t.data.toList t'.data.toList
     rw [← ByteArray.toList_eq, ← ByteArray.toList_eq] at bl be hv
     rcases Qk6 t.toList t'.toList with hc | hc | hc
     ·rw [hc] at bl hv
      rw [hv] at L0
      have L := Hd L0
      have q1 : Op.bytesLess t.toList t'.toList = true := by rw [bl]; rfl
      clear hva hvb ha hb hv L0 e0 bl be hc h1
      go_enter Tryz.func37, Tryz.ntmps37
      go_wp2_with (first
       | (go_at_call 20; with_reducible refine (SA.out _).mono ?_; rintro e W1 ⟨rfl, hb1⟩; rw [HA.out]; obtain ⟨hc, hf⟩ := bcell hb1; obtain ⟨hz0, hz1⟩ := Bel.lt2 hb1)
       | (go_at_call 20; with_reducible refine (SB.out _).mono ?_; rintro e W2 ⟨rfl, hb2⟩; rw [HB.out]; obtain ⟨hc2, hf2⟩ := bcell hb2))
      go_ret2
      exact ⟨by (rw [L.out]) <;> rfl, (((((Bel.refl _).alloc _).alloc _).trans hb1).trans hb2)⟩
     ·have heq : (t.toList == t'.toList) = true := by rw [beq_iff_eq]; exact be.1 hc
      rw [hc] at bl hv
      rw [hv] at L0
      have L := Hd L0
      have q1 : Op.bytesLess t.toList t'.toList = false := by rw [bl]; rfl
      clear hva hvb ha hb hv L0 e0 bl be hc h1
      go_enter Tryz.func37, Tryz.ntmps37
      go_wp2_with (first
       | (go_at_call 20; with_reducible refine (SA.out _).mono ?_; rintro e W1 ⟨rfl, hb1⟩; rw [HA.out]; obtain ⟨hc, hf⟩ := bcell hb1; obtain ⟨hz0, hz1⟩ := Bel.lt2 hb1)
       | (go_at_call 20; with_reducible refine (SB.out _).mono ?_; rintro e W2 ⟨rfl, hb2⟩; rw [HB.out]; obtain ⟨hc2, hf2⟩ := bcell hb2))
      go_ret2
      exact ⟨by (rw [L.out]) <;> rfl, (((((Bel.refl _).alloc _).alloc _).trans hb1).trans hb2)⟩
     have heq : (t.toList == t'.toList) = false := by
      rw [bN]
      intro h
      rw [be.2 h] at hc
      omega
     rw [hc] at bl hv
     rw [hv] at L0
     have L := Hd L0
     have q1 : Op.bytesLess t.toList t'.toList = false := by rw [bl]; rfl
     clear hva hvb ha hb hv L0 e0 bl be hc h1
     go_enter Tryz.func37, Tryz.ntmps37
     go_wp2_with (first
      | (go_at_call 20; with_reducible refine (SA.out _).mono ?_; rintro e W1 ⟨rfl, hb1⟩; rw [HA.out]; obtain ⟨hc, hf⟩ := bcell hb1; obtain ⟨hz0, hz1⟩ := Bel.lt2 hb1)
      | (go_at_call 20; with_reducible refine (SB.out _).mono ?_; rintro e W2 ⟨rfl, hb2⟩; rw [HB.out]; obtain ⟨hc2, hf2⟩ := bcell hb2))
     go_ret2
     exact ⟨by (rw [L.out]) <;> rfl, (((((Bel.refl _).alloc _).alloc _).trans hb1).trans hb2)⟩
    have ht := Qg9 ⟨h1, h2⟩ hva
    have ht' := Qg9 ⟨h1, h2⟩ hvb
    have q1 : Op.bytesLess t.toList t'.toList = false := by rw [ht, ht', ByteArray.toList_eq]; rfl
    have q2 : (t.toList == t'.toList) = true := by rw [ht, ht', ByteArray.toList_eq]; rfl
    have hv : vcmp ⟨k, n, s, t, m⟩ ⟨k, n', s', t', m'⟩ = Lib.compareInt m m' := by
     unfold vcmp
     rw [iN (fun h => h rfl), iN h1, iN h2]
    by_cases hl : m < m'
    ·rw [Qwx hl] at hv
     rw [hv] at L0
     have L := Hd L0
     have g1 : decide (m < m') = true := by exact dT hl
     clear hva hvb ha hb hv L0 e0 h1 h2 ht ht' hl
     go_enter Tryz.func37, Tryz.ntmps37
     go_wp2_with (first
      | (go_at_call 20; with_reducible refine (SA.out _).mono ?_; rintro e W1 ⟨rfl, hb1⟩; rw [HA.out]; obtain ⟨hc, hf⟩ := bcell hb1; obtain ⟨hz0, hz1⟩ := Bel.lt2 hb1)
      | (go_at_call 20; with_reducible refine (SB.out _).mono ?_; rintro e W2 ⟨rfl, hb2⟩; rw [HB.out]; obtain ⟨hc2, hf2⟩ := bcell hb2))
     go_ret2
     exact ⟨by (rw [L.out]) <;> rfl, (((((Bel.refl _).alloc _).alloc _).trans hb1).trans hb2)⟩
    have g1 : decide (m < m') = false := by exact dF hl
    by_cases hg : m' < m
    ·rw [Qwy hg] at hv
     rw [hv] at L0
     have L := Hd L0
     have g2 : decide (m' < m) = true := by exact dT hg
     clear hva hvb ha hb hv L0 e0 h1 h2 ht ht' hl hg
     go_enter Tryz.func37, Tryz.ntmps37
     go_wp2_with (first
      | (go_at_call 20; with_reducible refine (SA.out _).mono ?_; rintro e W1 ⟨rfl, hb1⟩; rw [HA.out]; obtain ⟨hc, hf⟩ := bcell hb1; obtain ⟨hz0, hz1⟩ := Bel.lt2 hb1)
      | (go_at_call 20; with_reducible refine (SB.out _).mono ?_; rintro e W2 ⟨rfl, hb2⟩; rw [HB.out]; obtain ⟨hc2, hf2⟩ := bcell hb2))
     go_ret2
     exact ⟨by (rw [L.out]) <;> rfl, (((((Bel.refl _).alloc _).alloc _).trans hb1).trans hb2)⟩
    obtain rfl : m = m' := by omega
    rw [Qxi] at hv
    rw [hv] at L0
    have L := Hd L0
    clear hva hvb ha hb hv L0 e0 h1 h2 ht ht' hl hg
    go_enter Tryz.func37, Tryz.ntmps37
    go_wp2_with (first
     | (go_at_call 20; with_reducible refine (SA.out _).mono ?_; rintro e W1 ⟨rfl, hb1⟩; rw [HA.out]; obtain ⟨hc, hf⟩ := bcell hb1; obtain ⟨hz0, hz1⟩ := Bel.lt2 hb1)
     | (go_at_call 20; with_reducible refine (SB.out _).mono ?_; rintro e W2 ⟨rfl, hb2⟩; rw [HB.out]; obtain ⟨hc2, hf2⟩ := bcell hb2))
    go_ret2
    exact ⟨by (rw [L.out]) <;> rfl, (((((Bel.refl _).alloc _).alloc _).trans hb1).trans hb2)⟩
   have e0 : (k == k') = false := by rw [bN]; exact hk
   have e1 : (k != k') = true := by rw [bne, e0]; rfl
   have hv : vcmp ⟨k, n, s, t, m⟩ ⟨k', n', s', t', m'⟩ = Lib.compareInt k k' := by unfold vcmp; rw [iP hk]
   by_cases hl : k < k'
   ·rw [Qwx hl] at hv
    rw [hv] at L0
    have L := Hd L0
    have g1 : decide (k < k') = true := by exact dT hl
    clear hva hvb ha hb hv L0 hk hl
    go_enter Tryz.func37, Tryz.ntmps37
    go_wp2_with (first
     | (go_at_call 20; with_reducible refine (SA.out _).mono ?_; rintro e W1 ⟨rfl, hb1⟩; rw [HA.out]; obtain ⟨hc, hf⟩ := bcell hb1; obtain ⟨hz0, hz1⟩ := Bel.lt2 hb1)
     | (go_at_call 20; with_reducible refine (SB.out _).mono ?_; rintro e W2 ⟨rfl, hb2⟩; rw [HB.out]; obtain ⟨hc2, hf2⟩ := bcell hb2))
    go_ret2
    exact ⟨by (rw [L.out]) <;> rfl, (((((Bel.refl _).alloc _).alloc _).trans hb1).trans hb2)⟩
   rw [Qwy (by omega)] at hv
   rw [hv] at L0
   have L := Hd L0
   have g1 : decide (k < k') = false := by exact dF hl
   clear hva hvb ha hb hv L0 hk hl
   go_enter Tryz.func37, Tryz.ntmps37
   go_wp2_with (first
    | (go_at_call 20; with_reducible refine (SA.out _).mono ?_; rintro e W1 ⟨rfl, hb1⟩; rw [HA.out]; obtain ⟨hc, hf⟩ := bcell hb1; obtain ⟨hz0, hz1⟩ := Bel.lt2 hb1)
    | (go_at_call 20; with_reducible refine (SB.out _).mono ?_; rintro e W2 ⟨rfl, hb2⟩; rw [HB.out]; obtain ⟨hc2, hf2⟩ := bcell hb2))
   go_ret2
   exact ⟨by (rw [L.out]) <;> rfl, (((((Bel.refl _).alloc _).alloc _).trans hb1).trans hb2)⟩
theorem Qfw (x y : Int) : Lib.compareInt x y = 0 ↔ x = y := by
 unfold Lib.compareInt
 repeat' split
 all_goals omega
theorem Qvf (x y : Int) : -1 <= Lib.compareInt x y /\ Lib.compareInt x y <= 1 := by
 unfold Lib.compareInt
 repeat' split
 all_goals omega
theorem Qvg (x y : Int) : sgn x y = Lib.compareInt x y := by
 unfold Lib.compareInt sgn
 repeat' split
 all_goals omega
theorem Qvh (a b : Val) : -1 <= vcmp a b /\ vcmp a b <= 1 := by
 unfold vcmp
 split
 ·exact Qvf _ _
 split
 ·rw [Qvg]; exact Qvf _ _
 split
 ·rcases Qk6 a.text.data.toList b.text.data.toList with h | h | h <;> rw [h] <;> decide
 exact Qvf _ _
theorem Qvi {n s m t : Int} (h1 : SndD n s) (h2 : SndD m t) (h : unt n s = unt m t) : n = m /\ s = t := by
 obtain ⟨a0, a6, _, a10⟩ := h1
 obtain ⟨b0, b6, _, b10⟩ := h2
 unfold unt at h
 have key : ∀ (n m : Int) (i j : Nat), i < j -> j <= 6 -> n * (P10 j : Nat) = m * (P10 i : Nat) -> m % 10 = 0 := by
  intro n m i j hij hj he
  obtain ⟨d, rfl⟩ : ∃ d, j = i + 1 + d := ⟨j - i - 1, by omega⟩
  have hp : ∀ k, P10 k = 10 ^ k := by
   intro k
   induction k with
   | zero => rfl
   | succ k ih => rw [Nat.pow_succ, ← ih, Qvp]
  rw [hp, hp, Nat.pow_add, Nat.pow_succ] at he
  have hpos : (0 : Int) < ((10 ^ i : Nat) : Int) := by
   have := Nat.pow_pos (n := i) (show 0 < 10 by omega)
   omega
  have he2 : (n * (10 ^ d : Nat) * 10) * ((10 ^ i : Nat) : Int) = m * ((10 ^ i : Nat) : Int) := by
   rw [← he]
   push_cast
   rw [Int.mul_assoc, Int.mul_assoc, Int.mul_assoc]
   congr 1
   rw [Int.mul_comm ((10 : Int) ^ d), Int.mul_comm 10 ((10 : Int) ^ i), ← Int.mul_assoc, Int.mul_comm ((10:Int) ^ i * 10)]
  have he3 := Int.eq_of_mul_eq_mul_right (by omega) he2
  omega
 have hst : s = t := by
  rcases Int.lt_trichotomy s t with hlt | heq | hgt
  ·have := key m n (6 - t).toNat (6 - s).toNat (by omega) (by omega)
   have h3 := key n m (6 - t).toNat (6 - s).toNat (by omega) (by omega) h
   rcases b10 with hb | hb
   ·omega
   exact absurd h3 hb
  ·exact heq
  have h3 := key m n (6 - s).toNat (6 - t).toNat (by omega) (by omega) h.symm
  rcases a10 with ha | ha
  ·omega
  exact absurd h3 ha
 subst hst
 refine ⟨?_, rfl⟩
 have hpos : (P10 (6 - s).toNat : Int) ≠ 0 := by
  have := Qec 1 s
  unfold unt at this
  intro e
  rw [e] at this
  omega
 exact Int.eq_of_mul_eq_mul_right hpos h
theorem Qjp {n s m : Int} {t : ByteArray} (h : vsnd ⟨0, n, s, t, m⟩ = true) : n = 0 /\ s = 0 /\ t = ⟨#[]⟩ /\ m = 0 := by
 rw [vs0] at h
 simp only [bA, beq_iff_eq, Qa5] at h
 exact ⟨h.1, h.2.1, h.2.2.1, h.2.2.2⟩
theorem Qk7 {n s m : Int} {t : ByteArray} (h : vsnd ⟨3, n, s, t, m⟩ = true) : n = 0 /\ s = 0 /\ t = ⟨#[]⟩ /\ (m = 0 \/ m = 1) := by
 rw [vs3] at h
 simp only [bA, beq_iff_eq, Qa5, Bool.or_eq_true] at h
 exact ⟨h.1, h.2.1, h.2.2.1, h.2.2.2⟩
theorem Qpl {n s m : Int} {t : ByteArray} (h : vsnd ⟨4, n, s, t, m⟩ = true) : n = 0 /\ s = 0 /\ t = ⟨#[]⟩ := by
 rw [vs4] at h
 simp only [bA, beq_iff_eq, Qa5] at h
 exact ⟨h.1, h.2.1, h.2.2.1⟩
theorem Qxj {a b : ByteArray} (h : a.data.toList = b.data.toList) : a = b := by
 obtain ⟨⟨a⟩⟩ := a
 obtain ⟨⟨b⟩⟩ := b
 simp at h
 rw [h]
theorem Qfx {a b : Val} (ha : vsnd a = true) (hb : vsnd b = true) (hk : a.kind = b.kind) (h1 : a.kind = 1 -> a.n = b.n /\ a.scale = b.scale) (h2 : a.kind = 2 -> a.text = b.text) (h3 : a.kind ≠ 1 -> a.kind ≠ 2 -> a.num = b.num) : a = b := by
 obtain ⟨k, n, s, t, m⟩ := a
 obtain ⟨k', n', s', t', m'⟩ := b
 simp only at hk h1 h2 h3
 subst hk
 rcases kinds k with rfl | rfl | rfl | rfl | rfl | h5
 ·obtain ⟨rfl, rfl, rfl, rfl⟩ := Qjp ha
  obtain ⟨rfl, rfl, rfl, rfl⟩ := Qjp hb
  rfl
 ·obtain ⟨rfl, rfl⟩ := Qou ha
  obtain ⟨rfl, rfl⟩ := Qou hb
  obtain ⟨rfl, rfl⟩ := h1 rfl
  rfl
 ·obtain ⟨rfl, rfl, rfl, _⟩ := Qfi ha
  obtain ⟨rfl, rfl, rfl, _⟩ := Qfi hb
  rw [h2 rfl]
 ·obtain ⟨rfl, rfl, rfl, _⟩ := Qk7 ha
  obtain ⟨rfl, rfl, rfl, _⟩ := Qk7 hb
  rw [h3 (by decide) (by decide)]
 ·obtain ⟨rfl, rfl, rfl⟩ := Qpl ha
  obtain ⟨rfl, rfl, rfl⟩ := Qpl hb
  rw [h3 (by decide) (by decide)]
 rw [vsnd5 _ _ _ _ _ h5] at ha
 cases ha
theorem Qpm {a b : Val} (ha : vsnd a = true) (hb : vsnd b = true) : vcmp a b = 0 ↔ a = b := by
 constructor
 ·intro h
  unfold vcmp at h
  by_cases hk : a.kind = b.kind
  ·rw [iN (fun h => h hk)] at h
   by_cases h1 : a.kind = 1
   ·rw [iP h1, Qvg, Qfw] at h
    have hda : SndD a.n a.scale := by
     obtain ⟨k, n, s, t, m⟩ := a
     simp only at h1
     subst h1
     exact Qfh ha
    have hdb : SndD b.n b.scale := by
     obtain ⟨k, n, s, t, m⟩ := b
     simp only at hk
     rw [h1] at hk
     subst hk
     exact Qfh hb
    have := Qvi hda hdb h
    exact Qfx ha hb hk (fun _ => this) (fun h2 => absurd (h1.symm.trans h2) (by decide)) (fun h _ => absurd h1 h)
   rw [iN h1] at h
   by_cases h2 : a.kind = 2
   ·rw [iP h2, Qr8] at h
    exact Qfx ha hb hk (fun h => absurd h h1) (fun _ => Qxj h) (fun _ h => absurd h2 h)
   rw [iN h2, Qfw] at h
   exact Qfx ha hb hk (fun h => absurd h h1) (fun h => absurd h h2) (fun _ _ => h)
  rw [iP hk, Qfw] at h
  exact absurd h hk
 rintro rfl
 unfold vcmp
 rw [iN (fun h => h rfl)]
 split
 ·rw [Qvg, Qfw]
 split
 ·rw [Qr8]
 rw [Qfw]
end
section
open Go.RowKit
attribute [local go_sem ↓] Qas Qau
theorem Qcm (w : World) : Calls Tryz.prog 19 #[.bool true] w fun e w' => e = .returned (Val.val ⟨3, 0, 0, ⟨#[]⟩, 1⟩) /\ Bel w w' := by
 go_enter Tryz.func19, Tryz.ntmps19
 go_wp2
 exact pR (by simp [results, Tryz.results19, go_sem]) rfl ⟨rfl, (Bel.refl _).alloc _⟩
theorem Qee (w : World) : Calls Tryz.prog 19 #[.bool false] w fun e w' => e = .returned (Val.val ⟨3, 0, 0, ⟨#[]⟩, 0⟩) /\ Bel w w' := by
 go_enter Tryz.func19, Tryz.ntmps19
 go_wp2
 exact pR (by simp [results, Tryz.results19, go_sem]) rfl ⟨rfl, (Bel.refl _).alloc _⟩
def cnt (b : Bool) (vs : List Val) : Nat := (vs.filter (veq · (tval b))).length
theorem Qk8 (b : Bool) (vs : List Val) (k : Nat) (v : Val) (h : vs[k]? = some v) : cnt b (vs.take (k + 1)) = cnt b (vs.take k) + if veq v (tval b) then 1 else 0 := by
 rw [List.take_add_one, h]
 unfold cnt
 rw [List.filter_append, lA]
 by_cases hv : veq v (tval b) = true <;> simp [List.filter_cons, hv]
theorem Qez (b : Bool) (vs : List Val) : cnt b vs <= vs.length := List.length_filter_le _ _
theorem Qet (vs : List Val) (A : Option Addr) (c : Nat) (w : World) (hv : Vals w A vs) (hl : vs.length <= maxLen) :
  Calls Tryz.prog 87 #[.slice A vs.length c] w fun e w' => e = .returned (.tuple #[.int .i64 (cnt true vs), .int .i64 (cnt false vs)]) /\ Bel w w' := by
 unfold maxLen at hl
 go_enter Tryz.func87, Tryz.ntmps87
 go_wp2_with fail
 go_loopw [2, 3, 4] (fun y n i wr => ∃ k : Nat, k <= vs.length /\ i = .int .i64 k /\ y = .int .i64 (cnt true (vs.take k)) /\ n = .int .i64 (cnt false (vs.take k)) /\ Bel w wr) (fun _ _ i _ => vs.length - (intOf i).toNat)
 case atStart => exact ⟨0, by omega, rfl, rfl, rfl, Bel.refl _⟩
 case round =>
  obtain ⟨k, hk, rfl, rfl, rfl, hb⟩ := hrel
  by_cases hlt : k < vs.length
  ·obtain ⟨b, off, rfl, hbl, hcell⟩ := hv (by omega)
   obtain ⟨⟨k0, n0, s0, t0, m0⟩, hv0⟩ : ∃ v, vs[k]? = some v := ⟨_, gE hlt⟩
   have hbw := lL hbl hb.size
   have hV := (hcell k _ hv0).keep hb hbl
   clear hcell
   have Ht := Hd (Qk8 true vs k _ hv0)
   have Hf := Hd (Qk8 false vs k _ hv0)
   have l1 := Qez true (vs.take k)
   have l2 := Qez false (vs.take k)
   have l3 : (vs.take k).length <= k := List.length_take_le _ _
   have H3 := three ⟨k0, n0, s0, t0, m0⟩
   clear hv0
   rcases H3 with ⟨e1, e2⟩ | ⟨e1, e2⟩ | ⟨e1, e2⟩
   all_goals
    simp only [e1, e2, if_true, Bool.false_eq_true, if_false] at Ht Hf
    simp only [tval, if_true, Bool.false_eq_true, if_false] at e1 e2
    have h5 := hV
    go_wp2_with fail
    go_region_held3 (fun w' => Bel wr w' /\ (∀ b o, b < wr.heap.size -> w'.cell? ⟨b, o, none⟩ = wr.cell? ⟨b, o, none⟩)) (first | exact keep0 | exact keep1 ‹_› ‹_›) ((go_at_call 19; refine (Qcm _).mono ?_; rintro e w1 ⟨rfl, hb1⟩))
    rename_i hH; obtain ⟨hk1, -⟩ := hH
    clear h5
    have h5 := hV.keep hk1 hbw
    have hbw1 := lL hbw hk1.size
    go_wp2_with fail
    go_region_held3 (fun w' => Bel w1 w' /\ (∀ b o, b < w1.heap.size -> w'.cell? ⟨b, o, none⟩ = w1.cell? ⟨b, o, none⟩)) (first | exact keep0 | exact keep1 ‹_› ‹_›) ((go_at_call 19; refine (Qee _).mono ?_; rintro e w2 ⟨rfl, hb2⟩))
    rename_i hH; obtain ⟨hk2, -⟩ := hH
    clear h5
    go_wp2
    go_roundw
    case rel => exact ⟨k + 1, by omega, by go_num, by rw [Ht.out]; go_num, by rw [Hf.out]; go_num, (hb.trans hk1).trans hk2⟩
    case measure => simp [intOf]; omega
  go_wp2
  go_ret2
  obtain rfl : k = vs.length := by omega
  exact ⟨by simp, hb⟩
theorem Qdi (d : Bool) (vs : List Val) : noneIs d vs = true ↔ cnt d vs = 0 := by
 simp [noneIs, cnt]
theorem Qdj (d : Bool) (vs : List Val) : allAre d vs = true ↔ cnt d vs = vs.length := by
 simp [allAre, cnt]
theorem Qr9 (vs : List Val) : (0 < cnt false vs /\ jn false vs = tval false) \/ (cnt false vs = 0 /\ cnt true vs = vs.length /\ jn false vs = tval true) \/ (cnt false vs = 0 /\ cnt true vs < vs.length /\ jn false vs = zero) := by
 by_cases h : noneIs false vs = true
 ·have h0 := (Qdi _ _).1 h
  by_cases h' : allAre true vs = true
  ·exact .inr (.inl ⟨h0, (Qdj _ _).1 h', by simp [jn, h, jr, h']⟩)
  have := Qez true vs
  have h2 : cnt true vs ≠ vs.length := fun e => h' ((Qdj _ _).2 e)
  exact .inr (.inr ⟨h0, by omega, by simp [jn, h, jr, h']⟩)
 have h0 : cnt false vs ≠ 0 := fun e => h ((Qdi _ _).2 e)
 exact .inl ⟨by omega, by simp [jn, h]⟩
theorem Qsa (vs : List Val) : (0 < cnt true vs /\ jn true vs = tval true) \/ (cnt true vs = 0 /\ cnt false vs = vs.length /\ jn true vs = tval false) \/ (cnt true vs = 0 /\ cnt false vs < vs.length /\ jn true vs = zero) := by
 by_cases h : noneIs true vs = true
 ·have h0 := (Qdi _ _).1 h
  by_cases h' : allAre false vs = true
  ·exact .inr (.inl ⟨h0, (Qdj _ _).1 h', by simp [jn, h, jr, h']⟩)
  have := Qez false vs
  have h2 : cnt false vs ≠ vs.length := fun e => h' ((Qdj _ _).2 e)
  exact .inr (.inr ⟨h0, by omega, by simp [jn, h, jr, h']⟩)
 have h0 : cnt true vs ≠ 0 := fun e => h ((Qdi _ _).2 e)
 exact .inl ⟨by omega, by simp [jn, h]⟩
theorem Qsb (vs : List Val) (A : Option Addr) (c : Nat) (w : World) (hv : Vals w A vs) (hl : vs.length <= maxLen) :
  Calls Tryz.prog 60 #[.slice A vs.length c] w fun e w' => e = .returned (jn false vs).val /\ Bel w w' := by
 have HJ := Qr9 vs
 have l1 := Qez true vs
 have l2 := Qez false vs
 have hl' := hl
 unfold maxLen at hl'
 rcases HJ with ⟨g, HJ⟩ | ⟨g, g2, HJ⟩ | ⟨g, g2, HJ⟩
 all_goals
  have Hj := Hd HJ
  clear HJ
  go_enter Tryz.func60, Tryz.ntmps60
  go_wp2_with fail
  refine (Qet vs A c _ (hv.keep ((Bel.refl w).alloc _)) hl).mono ?_
  rintro e w1 ⟨rfl, hb1⟩
  have s1 := (Qj9 w zero).keep hb1
  go_wp2_with (go_at_call 19; first | ((with_reducible refine (Qcm _).mono ?_); rintro e w2 ⟨rfl, hb2⟩; have s2 := s1.keep hb2) | ((with_reducible refine (Qee _).mono ?_); rintro e w2 ⟨rfl, hb2⟩; have s2 := s1.keep hb2))
  refine pR (by first | (simp [results, Tryz.results60, go_sem, s2]; rfl) | (simp [results, Tryz.results60, go_sem, s1]; rfl)) rfl ⟨by rw [Hj.out]; rfl, ?_⟩
  exact Bel.y
theorem Qvj (vs : List Val) (A : Option Addr) (c : Nat) (w : World) (hv : Vals w A vs) (hl : vs.length <= maxLen) :
  Calls Tryz.prog 61 #[.slice A vs.length c] w fun e w' => e = .returned (jn true vs).val /\ Bel w w' := by
 have HJ := Qsa vs
 have l1 := Qez true vs
 have l2 := Qez false vs
 have hl' := hl
 unfold maxLen at hl'
 rcases HJ with ⟨g, HJ⟩ | ⟨g, g2, HJ⟩ | ⟨g, g2, HJ⟩
 all_goals
  have Hj := Hd HJ
  clear HJ
  go_enter Tryz.func61, Tryz.ntmps61
  go_wp2_with fail
  refine (Qet vs A c _ (hv.keep ((Bel.refl w).alloc _)) hl).mono ?_
  rintro e w1 ⟨rfl, hb1⟩
  have s1 := (Qj9 w zero).keep hb1
  go_wp2_with (go_at_call 19; first | ((with_reducible refine (Qcm _).mono ?_); rintro e w2 ⟨rfl, hb2⟩; have s2 := s1.keep hb2) | ((with_reducible refine (Qee _).mono ?_); rintro e w2 ⟨rfl, hb2⟩; have s2 := s1.keep hb2))
  refine pR (by first | (simp [results, Tryz.results61, go_sem, s2]; rfl) | (simp [results, Tryz.results61, go_sem, s1]; rfl)) rfl ⟨by rw [Hj.out]; rfl, ?_⟩
  exact Bel.y
theorem Qpn (b : Bool) (v : Val) : cnt b [v] = if veq v (tval b) then 1 else 0 := by
 unfold cnt; by_cases h : veq v (tval b) = true <;> simp [List.filter_cons, h]
theorem Qfc (v : Val) (w : World) : Calls Tryz.prog 59 #[v.val] w fun e w' => e = .returned (nt v).val /\ Bel w w' := by
 have H3 := three v
 have HN : Hid (nt v = if veq v (tval true) then tval false else if veq v (tval false) then tval true else zero) := rfl
 have ct := Qpn true v
 have cf := Qpn false v
 rcases H3 with ⟨e1, e2⟩ | ⟨e1, e2⟩ | ⟨e1, e2⟩
 all_goals
  rw [e1, e2] at HN
  rw [e1] at ct
  rw [e2] at cf
  simp only [if_true, Bool.false_eq_true, if_false] at ct cf HN
  have Ct := Hd ct
  have Cf := Hd cf
  clear ct cf e1 e2
  go_enter Tryz.func59, Tryz.ntmps59
  go_wp2_with fail
  refine (Qet [v] (some ⟨w.heap.size + 1 + 1, 0, none⟩) 1 _ (Qku _ v (by simp)) (by simp [maxLen])).mono ?_
  rintro e w1 ⟨he, hb1⟩
  rw [Ct.out, Cf.out] at he
  subst he
  have s1 : Slot w1 (w.heap.size + 1) zero := by
   have := (Qqa (w.alloc _) _ zero).keep hb1
   rw [World.size_alloc] at this
   exact this
  go_wp2_with (go_at_call 19; first | ((with_reducible refine (Qcm _).mono ?_); rintro e w2 ⟨rfl, hb2⟩; have s2 := s1.keep hb2) | ((with_reducible refine (Qee _).mono ?_); rintro e w2 ⟨rfl, hb2⟩; have s2 := s1.keep hb2))
  refine pR (by first | (simp [results, Tryz.results59, go_sem, s2]; rfl) | (simp [results, Tryz.results59, go_sem, s1]; rfl)) rfl ⟨by rw [HN.out]; rfl, ?_⟩
  exact Bel.y
theorem Qcd (b : Bool) (w : World) : Calls Tryz.prog 19 #[.bool b] w fun e w' => e = .returned (tval b).val /\ Bel w w' := by
 cases b
 ·exact Qee w
 exact Qcm w
end
section
open Go.RowKit
attribute [local go_sem ↓] Qas Qau
theorem kind0 {a : Val} (h : vsnd a = true) (hk : a.kind = 0) : a = zero := by
 obtain ⟨k, n, s, t, m⟩ := a
 have hk : k = 0 := hk
 subst hk
 obtain ⟨rfl, rfl, rfl, rfl⟩ := Qjp h
 rfl
theorem Qvk {a b : Val} (ha : vsnd a = true) (hb : vsnd b = true) : veq a b = (vcmp a b == 0) := by
 have h := Qpm ha hb
 cases hv : veq a b with
 | true => exact (beq_iff_eq.2 (h.2 ((Qa8 _ _).1 hv))).symm
 | false => exact (beq_eq_false_iff_ne.2 (fun e => by rw [(Qa8 _ _).2 (h.1 e)] at hv; cases hv)).symm
theorem Qwz (a b : Val) : decide (vcmp a b < 0) = (vcmp a b == -1) := by
 have h := Qvh a b
 by_cases g : vcmp a b = -1
 ·rw [g]; rfl
 rw [beq_eq_false_iff_ne.2 g]; exact dF (by omega)
theorem Qfy (a b : Val) (ha : a.text.size <= 9223372036854775807) (hb : b.text.size <= 9223372036854775807) (w : World) : Calls Tryz.prog 16 #[a.val, b.val] w fun e w' => e = .returned (eqV a b).val /\ Bel w w' := by
 have SA := Hd (fun w => Qat a ha w)
 have SB := Hd (fun w => Qat b hb w)
 cases hva : vsnd a with
 | false =>
  have L := Hd (show eqV a b = zero from iN (fun h => by rw [h.1] at hva; cases hva))
  have HA := Hd hva
  obtain ⟨k, n, s, t, m⟩ := a
  obtain ⟨k', n', s', t', m'⟩ := b
  clear hva ha hb SB
  go_enter Tryz.func16, Tryz.ntmps16
  go_wp2_with (first
   | (go_at_call 20; with_reducible refine (SA.out _).mono ?_; rintro e W1 ⟨rfl, hb1⟩; rw [HA.out]; obtain ⟨A1, B1, V1⟩ := (Qaj w ⟨k, n, s, t, m⟩ ⟨k', n', s', t', m'⟩).keep hb1))
  refine pR (by first | (simp [results, Tryz.results16, go_sem, V1]; done) | (simp [results, Tryz.results16, go_sem, V1]; rfl)) rfl ⟨by rw [L.out] <;> rfl, ?_⟩
  exact Bel.y
 | true =>
 cases hvb : vsnd b with
 | false =>
  have L := Hd (show eqV a b = zero from iN (fun h => by rw [h.2.1] at hvb; cases hvb))
  have HA := Hd hva
  have HB := Hd hvb
  obtain ⟨k, n, s, t, m⟩ := a
  obtain ⟨k', n', s', t', m'⟩ := b
  clear hva hvb ha hb
  go_enter Tryz.func16, Tryz.ntmps16
  go_wp2_with (first
   | (go_at_call 20; with_reducible refine (SA.out _).mono ?_; rintro e W1 ⟨rfl, hb1⟩; rw [HA.out]; obtain ⟨A1, B1, V1⟩ := (Qaj w ⟨k, n, s, t, m⟩ ⟨k', n', s', t', m'⟩).keep hb1)
   | (go_at_call 20; with_reducible refine (SB.out _).mono ?_; rintro e W2 ⟨rfl, hb2⟩; rw [HB.out]; have A2 := A1.keep hb2; have B2 := B1.keep hb2; have V2 := V1.keep hb2; clear A1 B1 V1))
  refine pR (by first | (simp [results, Tryz.results16, go_sem, V2]; done) | (simp [results, Tryz.results16, go_sem, V2]; rfl)) rfl ⟨by rw [L.out] <;> rfl, ?_⟩
  exact Bel.y
 | true =>
 by_cases h12 : a.kind = 0 /\ b.kind = 0
 ·have h1 := h12.1
  have h2 := h12.2
  have hq : veq a b = true := (Qa8 _ _).2 ((kind0 hva h1).trans (kind0 hvb h2).symm)
  obtain ⟨z, hz⟩ : ∃ z, z = tval (veq a b) := ⟨_, rfl⟩
  have CT := Hd (show ∀ w, Calls Tryz.prog 19 #[.bool (true)] w fun e w' => e = .returned z.val /\ Bel w w' from fun w => by rw [hz]; rw [hq]; exact Qcd true w)
  have L := Hd (show eqV a b = z from (iP ⟨hva, hvb, .inl h1⟩).trans hz.symm)
  have HA := Hd hva
  have HB := Hd hvb
  obtain ⟨k, n, s, t, m⟩ := a
  obtain ⟨k', n', s', t', m'⟩ := b
  have f1 : (k == 0) = true := by rw [beq_iff_eq]; exact h1
  have f2 : (k' == 0) = true := by rw [beq_iff_eq]; exact h2
  clear hva hvb ha hb hz h1 h2 hq h12
  go_enter Tryz.func16, Tryz.ntmps16
  go_wp2_with (first
   | (go_at_call 20; with_reducible refine (SA.out _).mono ?_; rintro e W1 ⟨rfl, hb1⟩; rw [HA.out]; obtain ⟨A1, B1, V1⟩ := (Qaj w ⟨k, n, s, t, m⟩ ⟨k', n', s', t', m'⟩).keep hb1)
   | (go_at_call 20; with_reducible refine (SB.out _).mono ?_; rintro e W2 ⟨rfl, hb2⟩; rw [HB.out]; have A2 := A1.keep hb2; have B2 := B1.keep hb2; have V2 := V1.keep hb2; clear A1 B1 V1)
   | (go_at_call 19; with_reducible refine (CT.out _).mono ?_; rintro e W4 ⟨rfl, hb4⟩; have A4 := A2.keep hb4; have B4 := B2.keep hb4; have V4 := V2.keep hb4; clear A2 B2 V2))
  refine pR (by first | (simp [results, Tryz.results16, go_sem, V4]; done) | (simp [results, Tryz.results16, go_sem, V4]; rfl)) rfl ⟨by rw [L.out] <;> rfl, ?_⟩
  exact Bel.y
 by_cases h1 : a.kind = 0
 ·have h2 : ¬ b.kind = 0 := fun h => h12 ⟨h1, h⟩
  have hq : veq a b = false := dF (fun h => h2 (h ▸ h1))
  obtain ⟨z, hz⟩ : ∃ z, z = tval (veq a b) := ⟨_, rfl⟩
  have CT := Hd (show ∀ w, Calls Tryz.prog 19 #[.bool (false)] w fun e w' => e = .returned z.val /\ Bel w w' from fun w => by rw [hz]; rw [hq]; exact Qcd false w)
  have L := Hd (show eqV a b = z from (iP ⟨hva, hvb, .inl h1⟩).trans hz.symm)
  have HA := Hd hva
  have HB := Hd hvb
  obtain ⟨k, n, s, t, m⟩ := a
  obtain ⟨k', n', s', t', m'⟩ := b
  have f1 : (k == 0) = true := by rw [beq_iff_eq]; exact h1
  have f2 : (k' == 0) = false := by rw [bN]; exact h2
  clear hva hvb ha hb hz h1 h2 hq h12
  go_enter Tryz.func16, Tryz.ntmps16
  go_wp2_with (first
   | (go_at_call 20; with_reducible refine (SA.out _).mono ?_; rintro e W1 ⟨rfl, hb1⟩; rw [HA.out]; obtain ⟨A1, B1, V1⟩ := (Qaj w ⟨k, n, s, t, m⟩ ⟨k', n', s', t', m'⟩).keep hb1)
   | (go_at_call 20; with_reducible refine (SB.out _).mono ?_; rintro e W2 ⟨rfl, hb2⟩; rw [HB.out]; have A2 := A1.keep hb2; have B2 := B1.keep hb2; have V2 := V1.keep hb2; clear A1 B1 V1)
   | (go_at_call 19; with_reducible refine (CT.out _).mono ?_; rintro e W4 ⟨rfl, hb4⟩; have A4 := A2.keep hb4; have B4 := B2.keep hb4; have V4 := V2.keep hb4; clear A2 B2 V2))
  refine pR (by first | (simp [results, Tryz.results16, go_sem, V4]; done) | (simp [results, Tryz.results16, go_sem, V4]; rfl)) rfl ⟨by rw [L.out] <;> rfl, ?_⟩
  exact Bel.y
 by_cases h2 : b.kind = 0
 ·
  have hq : veq a b = false := dF (fun h => h1 (h ▸ h2))
  obtain ⟨z, hz⟩ : ∃ z, z = tval (veq a b) := ⟨_, rfl⟩
  have CT := Hd (show ∀ w, Calls Tryz.prog 19 #[.bool (false)] w fun e w' => e = .returned z.val /\ Bel w w' from fun w => by rw [hz]; rw [hq]; exact Qcd false w)
  have L := Hd (show eqV a b = z from (iP ⟨hva, hvb, .inr (.inl h2)⟩).trans hz.symm)
  have HA := Hd hva
  have HB := Hd hvb
  obtain ⟨k, n, s, t, m⟩ := a
  obtain ⟨k', n', s', t', m'⟩ := b
  have f1 : (k == 0) = false := by rw [bN]; exact h1
  have f2 : (k' == 0) = true := by rw [beq_iff_eq]; exact h2
  clear hva hvb ha hb hz h1 h2 hq
  go_enter Tryz.func16, Tryz.ntmps16
  go_wp2_with (first
   | (go_at_call 20; with_reducible refine (SA.out _).mono ?_; rintro e W1 ⟨rfl, hb1⟩; rw [HA.out]; obtain ⟨A1, B1, V1⟩ := (Qaj w ⟨k, n, s, t, m⟩ ⟨k', n', s', t', m'⟩).keep hb1)
   | (go_at_call 20; with_reducible refine (SB.out _).mono ?_; rintro e W2 ⟨rfl, hb2⟩; rw [HB.out]; have A2 := A1.keep hb2; have B2 := B1.keep hb2; have V2 := V1.keep hb2; clear A1 B1 V1)
   | (go_at_call 19; with_reducible refine (CT.out _).mono ?_; rintro e W4 ⟨rfl, hb4⟩; have A4 := A2.keep hb4; have B4 := B2.keep hb4; have V4 := V2.keep hb4; clear A2 B2 V2))
  refine pR (by first | (simp [results, Tryz.results16, go_sem, V4]; done) | (simp [results, Tryz.results16, go_sem, V4]; rfl)) rfl ⟨by rw [L.out] <;> rfl, ?_⟩
  exact Bel.y
 by_cases h3 : a.kind = b.kind
 ·
  have cc := fun w => Qed a b ha hb w
  rw [show vcmpV a b = .tuple #[.int .i64 (vcmp a b), .int .i64 0] from iP ⟨hva, hvb⟩] at cc
  have hq := Qvk hva hvb
  obtain ⟨c, hc⟩ : ∃ c, c = vcmp a b := ⟨_, rfl⟩
  rw [← hc] at cc hq
  have CC := Hd cc
  obtain ⟨z, hz⟩ : ∃ z, z = tval (veq a b) := ⟨_, rfl⟩
  have CT := Hd (show ∀ w, Calls Tryz.prog 19 #[.bool (c == 0)] w fun e w' => e = .returned z.val /\ Bel w w' from fun w => by rw [hz]; rw [hq]; exact Qcd _ w)
  have L := Hd (show eqV a b = z from (iP ⟨hva, hvb, .inr (.inr h3)⟩).trans hz.symm)
  have HA := Hd hva
  have HB := Hd hvb
  obtain ⟨k, n, s, t, m⟩ := a
  obtain ⟨k', n', s', t', m'⟩ := b
  have f1 : (k == 0) = false := by rw [bN]; exact h1
  have f2 : (k' == 0) = false := by rw [bN]; exact h2
  have f3 : (k != k') = false := by rw [bne_eq_false_iff_eq]; exact h3
  clear hva hvb ha hb hz h1 h2 h3 cc hc hq
  go_enter Tryz.func16, Tryz.ntmps16
  go_wp2_with (first
   | (go_at_call 20; with_reducible refine (SA.out _).mono ?_; rintro e W1 ⟨rfl, hb1⟩; rw [HA.out]; obtain ⟨A1, B1, V1⟩ := (Qaj w ⟨k, n, s, t, m⟩ ⟨k', n', s', t', m'⟩).keep hb1)
   | (go_at_call 20; with_reducible refine (SB.out _).mono ?_; rintro e W2 ⟨rfl, hb2⟩; rw [HB.out]; have A2 := A1.keep hb2; have B2 := B1.keep hb2; have V2 := V1.keep hb2; clear A1 B1 V1)
   | (go_at_call 37; with_reducible refine (CC.out _).mono ?_; rintro e W3 ⟨rfl, hb3⟩; have A3 := A2.keep hb3; have B3 := B2.keep hb3; have V3 := V2.keep hb3; clear A2 B2 V2)
   | (go_at_call 19; with_reducible refine (CT.out _).mono ?_; rintro e W4 ⟨rfl, hb4⟩; have A4 := A3.keep hb4; have B4 := B3.keep hb4; have V4 := V3.keep hb4; clear A3 B3 V3))
  refine pR (by first | (simp [results, Tryz.results16, go_sem, V4]; done) | (simp [results, Tryz.results16, go_sem, V4]; rfl)) rfl ⟨by rw [L.out] <;> rfl, ?_⟩
  exact Bel.y
 
 have L := Hd (show eqV a b = zero from iN (fun h => by rcases h.2.2 with h | h | h; exact h1 h; exact h2 h; exact h3 h))
 have HA := Hd hva
 have HB := Hd hvb
 obtain ⟨k, n, s, t, m⟩ := a
 obtain ⟨k', n', s', t', m'⟩ := b
 have f1 : (k == 0) = false := by rw [bN]; exact h1
 have f2 : (k' == 0) = false := by rw [bN]; exact h2
 have f3 : (k != k') = true := by rw [bne_iff_ne]; exact h3
 clear hva hvb ha hb h1 h2 h3
 go_enter Tryz.func16, Tryz.ntmps16
 go_wp2_with (first
  | (go_at_call 20; with_reducible refine (SA.out _).mono ?_; rintro e W1 ⟨rfl, hb1⟩; rw [HA.out]; obtain ⟨A1, B1, V1⟩ := (Qaj w ⟨k, n, s, t, m⟩ ⟨k', n', s', t', m'⟩).keep hb1)
  | (go_at_call 20; with_reducible refine (SB.out _).mono ?_; rintro e W2 ⟨rfl, hb2⟩; rw [HB.out]; have A2 := A1.keep hb2; have B2 := B1.keep hb2; have V2 := V1.keep hb2; clear A1 B1 V1))
 refine pR (by first | (simp [results, Tryz.results16, go_sem, V2]; done) | (simp [results, Tryz.results16, go_sem, V2]; rfl)) rfl ⟨by rw [L.out] <;> rfl, ?_⟩
 exact Bel.y
theorem Qdk (a b : Val) (ha : a.text.size <= 9223372036854775807) (hb : b.text.size <= 9223372036854775807) (w : World) : Calls Tryz.prog 18 #[a.val, b.val] w fun e w' => e = .returned (ltV a b).val /\ Bel w w' := by
 have SA := Hd (fun w => Qat a ha w)
 have SB := Hd (fun w => Qat b hb w)
 cases hva : vsnd a with
 | false =>
  have L := Hd (show ltV a b = zero from iN (fun h => by rw [h.1] at hva; cases hva))
  have HA := Hd hva
  obtain ⟨k, n, s, t, m⟩ := a
  obtain ⟨k', n', s', t', m'⟩ := b
  clear hva ha hb SB
  go_enter Tryz.func18, Tryz.ntmps18
  go_wp2_with (first
   | (go_at_call 20; with_reducible refine (SA.out _).mono ?_; rintro e W1 ⟨rfl, hb1⟩; rw [HA.out]; obtain ⟨A1, B1, V1⟩ := (Qaj w ⟨k, n, s, t, m⟩ ⟨k', n', s', t', m'⟩).keep hb1))
  refine pR (by first | (simp [results, Tryz.results18, go_sem, V1]; done) | (simp [results, Tryz.results18, go_sem, V1]; rfl)) rfl ⟨by rw [L.out] <;> rfl, ?_⟩
  exact Bel.y
 | true =>
 cases hvb : vsnd b with
 | false =>
  have L := Hd (show ltV a b = zero from iN (fun h => by rw [h.2.1] at hvb; cases hvb))
  have HA := Hd hva
  have HB := Hd hvb
  obtain ⟨k, n, s, t, m⟩ := a
  obtain ⟨k', n', s', t', m'⟩ := b
  clear hva hvb ha hb
  go_enter Tryz.func18, Tryz.ntmps18
  go_wp2_with (first
   | (go_at_call 20; with_reducible refine (SA.out _).mono ?_; rintro e W1 ⟨rfl, hb1⟩; rw [HA.out]; obtain ⟨A1, B1, V1⟩ := (Qaj w ⟨k, n, s, t, m⟩ ⟨k', n', s', t', m'⟩).keep hb1)
   | (go_at_call 20; with_reducible refine (SB.out _).mono ?_; rintro e W2 ⟨rfl, hb2⟩; rw [HB.out]; have A2 := A1.keep hb2; have B2 := B1.keep hb2; have V2 := V1.keep hb2; clear A1 B1 V1))
  refine pR (by first | (simp [results, Tryz.results18, go_sem, V2]; done) | (simp [results, Tryz.results18, go_sem, V2]; rfl)) rfl ⟨by rw [L.out] <;> rfl, ?_⟩
  exact Bel.y
 | true =>
 by_cases h1 : ¬ a.kind = b.kind
 ·
  have L := Hd (show ltV a b = zero from iN (fun h => h1 h.2.2.1))
  have HA := Hd hva
  have HB := Hd hvb
  obtain ⟨k, n, s, t, m⟩ := a
  obtain ⟨k', n', s', t', m'⟩ := b
  have f1 : (k != k') = true := by rw [bne_iff_ne]; exact h1
  clear hva hvb ha hb h1
  go_enter Tryz.func18, Tryz.ntmps18
  go_wp2_with (first
   | (go_at_call 20; with_reducible refine (SA.out _).mono ?_; rintro e W1 ⟨rfl, hb1⟩; rw [HA.out]; obtain ⟨A1, B1, V1⟩ := (Qaj w ⟨k, n, s, t, m⟩ ⟨k', n', s', t', m'⟩).keep hb1)
   | (go_at_call 20; with_reducible refine (SB.out _).mono ?_; rintro e W2 ⟨rfl, hb2⟩; rw [HB.out]; have A2 := A1.keep hb2; have B2 := B1.keep hb2; have V2 := V1.keep hb2; clear A1 B1 V1))
  refine pR (by first | (simp [results, Tryz.results18, go_sem, V2]; done) | (simp [results, Tryz.results18, go_sem, V2]; rfl)) rfl ⟨by rw [L.out] <;> rfl, ?_⟩
  exact Bel.y
 replace h1 := Classical.not_not.1 h1
 by_cases h2 : a.kind = 0
 ·
  have L := Hd (show ltV a b = zero from iN (fun h => h.2.2.2.1 h2))
  have HA := Hd hva
  have HB := Hd hvb
  obtain ⟨k, n, s, t, m⟩ := a
  obtain ⟨k', n', s', t', m'⟩ := b
  have f1 : (k != k') = false := by rw [bne_eq_false_iff_eq]; exact h1
  have f2 : (k == 0) = true := by rw [beq_iff_eq]; exact h2
  clear hva hvb ha hb h1 h2
  go_enter Tryz.func18, Tryz.ntmps18
  go_wp2_with (first
   | (go_at_call 20; with_reducible refine (SA.out _).mono ?_; rintro e W1 ⟨rfl, hb1⟩; rw [HA.out]; obtain ⟨A1, B1, V1⟩ := (Qaj w ⟨k, n, s, t, m⟩ ⟨k', n', s', t', m'⟩).keep hb1)
   | (go_at_call 20; with_reducible refine (SB.out _).mono ?_; rintro e W2 ⟨rfl, hb2⟩; rw [HB.out]; have A2 := A1.keep hb2; have B2 := B1.keep hb2; have V2 := V1.keep hb2; clear A1 B1 V1))
  refine pR (by first | (simp [results, Tryz.results18, go_sem, V2]; done) | (simp [results, Tryz.results18, go_sem, V2]; rfl)) rfl ⟨by rw [L.out] <;> rfl, ?_⟩
  exact Bel.y
 by_cases h3 : a.kind = 3
 ·
  have L := Hd (show ltV a b = zero from iN (fun h => h.2.2.2.2 h3))
  have HA := Hd hva
  have HB := Hd hvb
  obtain ⟨k, n, s, t, m⟩ := a
  obtain ⟨k', n', s', t', m'⟩ := b
  have f1 : (k != k') = false := by rw [bne_eq_false_iff_eq]; exact h1
  have f2 : (k == 0) = false := by rw [bN]; exact h2
  have f3 : (k == 3) = true := by rw [beq_iff_eq]; exact h3
  clear hva hvb ha hb h1 h2 h3
  go_enter Tryz.func18, Tryz.ntmps18
  go_wp2_with (first
   | (go_at_call 20; with_reducible refine (SA.out _).mono ?_; rintro e W1 ⟨rfl, hb1⟩; rw [HA.out]; obtain ⟨A1, B1, V1⟩ := (Qaj w ⟨k, n, s, t, m⟩ ⟨k', n', s', t', m'⟩).keep hb1)
   | (go_at_call 20; with_reducible refine (SB.out _).mono ?_; rintro e W2 ⟨rfl, hb2⟩; rw [HB.out]; have A2 := A1.keep hb2; have B2 := B1.keep hb2; have V2 := V1.keep hb2; clear A1 B1 V1))
  refine pR (by first | (simp [results, Tryz.results18, go_sem, V2]; done) | (simp [results, Tryz.results18, go_sem, V2]; rfl)) rfl ⟨by rw [L.out] <;> rfl, ?_⟩
  exact Bel.y
 
 have cc := fun w => Qed a b ha hb w
 rw [show vcmpV a b = .tuple #[.int .i64 (vcmp a b), .int .i64 0] from iP ⟨hva, hvb⟩] at cc
 have hq := Qwz a b
 obtain ⟨c, hc⟩ : ∃ c, c = vcmp a b := ⟨_, rfl⟩
 rw [← hc] at cc hq
 have CC := Hd cc
 obtain ⟨z, hz⟩ : ∃ z, z = tval (decide (c < 0)) := ⟨_, rfl⟩
 have CT := Hd (show ∀ w, Calls Tryz.prog 19 #[.bool (c == -1)] w fun e w' => e = .returned z.val /\ Bel w w' from fun w => by rw [hz]; rw [hq]; exact Qcd _ w)
 have L := Hd (show ltV a b = z from (iP ⟨hva, hvb, h1, h2, h3⟩).trans (by rw [hz, hc]))
 have HA := Hd hva
 have HB := Hd hvb
 obtain ⟨k, n, s, t, m⟩ := a
 obtain ⟨k', n', s', t', m'⟩ := b
 have f1 : (k != k') = false := by rw [bne_eq_false_iff_eq]; exact h1
 have f2 : (k == 0) = false := by rw [bN]; exact h2
 have f3 : (k == 3) = false := by rw [bN]; exact h3
 clear ha hb cc hc hva hvb hq hz h1 h2 h3
 go_enter Tryz.func18, Tryz.ntmps18
 go_wp2_with (first
  | (go_at_call 20; with_reducible refine (SA.out _).mono ?_; rintro e W1 ⟨rfl, hb1⟩; rw [HA.out]; obtain ⟨A1, B1, V1⟩ := (Qaj w ⟨k, n, s, t, m⟩ ⟨k', n', s', t', m'⟩).keep hb1)
  | (go_at_call 20; with_reducible refine (SB.out _).mono ?_; rintro e W2 ⟨rfl, hb2⟩; rw [HB.out]; have A2 := A1.keep hb2; have B2 := B1.keep hb2; have V2 := V1.keep hb2; clear A1 B1 V1)
  | (go_at_call 37; with_reducible refine (CC.out _).mono ?_; rintro e W3 ⟨rfl, hb3⟩; have A3 := A2.keep hb3; have B3 := B2.keep hb3; have V3 := V2.keep hb3; clear A2 B2 V2)
  | (go_at_call 19; with_reducible refine (CT.out _).mono ?_; rintro e W4 ⟨rfl, hb4⟩; have A4 := A3.keep hb4; have B4 := B3.keep hb4; have V4 := V3.keep hb4; clear A3 B3 V3))
 refine pR (by first | (simp [results, Tryz.results18, go_sem, V4]; done) | (simp [results, Tryz.results18, go_sem, V4]; rfl)) rfl ⟨by rw [L.out] <;> rfl, ?_⟩
 exact Bel.y
end
end Go.Proofs.YtjckpkamhdbcnaaGreatDoor
