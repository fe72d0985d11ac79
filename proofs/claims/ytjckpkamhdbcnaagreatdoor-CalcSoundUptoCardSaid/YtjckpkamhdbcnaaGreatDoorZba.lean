import Derived.Test.YtjckpkamhdbcnaaGreatDoorZb
import Derived.Test.YtjckpkamhdbcnaaGreatDoorZc
import Derived.Test.YtjckpkamhdbcnaaGreatDoorShm
import Derived.Deep.LoopGhost
import Derived.Laws.Externs
import Derived.Deep.OwnRows
import Derived.Deep.QuietTactic
import Derived.BigQuiet
import Derived.Deep.CutBlock
import Derived.Deep.DeepCutAuto
import Derived.Deep.RegionHeld3
namespace Go.Proofs.YtjckpkamhdbcnaaGreatDoor
set_option maxRecDepth 100000
set_option maxHeartbeats 64000000
set_option linter.unusedSimpArgs false
set_option linter.unusedVariables false
section
def heven (m d : Nat) : Nat := if d < 2 * (m % d) \/ (2 * (m % d) = d /\ m / d % 2 = 1) then m / d + 1 else m / d
theorem Qks (m d : Nat) : heven m d <= m / d + 1 := by unfold heven; split <;> omega
def dg (m i : Nat) : Nat := m / 10 ^ i % 10
def tv (f : Nat -> Nat) (i : Nat) : Nat -> Nat
 | 0 => 0
 | n + 1 => f i + 10 * tv f (i + 1) n
theorem Qwg {k : Nat} (h : k <= 12) : P10 k <= 1000000000000 := Qmb h
end
section
open Go.RowKit
theorem Qg8 (z : Int) (h0 : 0 <= z) (h1 : z <= 18) (w : World) : Calls Tryz.prog 119 #[.int .i64 z] w fun e w' => e = .returned (.int .i64 (P10 z.toNat)) /\ Bel w w' := by
 obtain ⟨n, rfl⟩ : ∃ n : Nat, z = n := ⟨z.toNat, by omega⟩
 exact Qmc n (by omega) w
theorem Qoo (x : Nat) (w : World) : (callFunc 160 #[.int .u64 x, .int .u64 1, .int .u64 0]).run Tryz.prog w =
  .ok (.value (.tuple #[.int .u64 (((x + 1) % 18446744073709551616 : Nat) : Int), .int .u64 (((x + 1) / 18446744073709551616 : Nat) : Int)])) w := by
 have h := run_add64 (P := Tryz.prog) (x : Int) 1 0 (by omega) (by omega) (by omega) (by omega) w
 rw [run_callFunc_extern Tryz.func160 (by kernel_rfl) (by kernel_rfl) (by kernel_rfl) (e := add64Entry) (by kernel_rfl), h]
 simp only [Result.andThen]
 congr 5 <;> omega
theorem Qrh (m : Nat) : (wlo m + 1) % 18446744073709551616 = wlo (m + 1) := by unfold wlo; omega
theorem Qri (m : Nat) : whi m + (wlo m + 1) / 18446744073709551616 = whi (m + 1) := by unfold wlo whi; omega
theorem Quo (m : Nat) : wlo m % 2 = m % 2 := by unfold wlo; omega
def hup (q r d : Nat) : Nat := if d < 2 * r \/ (2 * r = d /\ q % 2 = 1) then q + 1 else q
theorem Qh5 (m d : Nat) : hup (m / d) (m % d) d = heven m d := rfl
theorem Qfu (x : Bool) (q r d : Nat) (s : Int) (hq : q + 1 < big128) (hr : r <= 1000000000000000000) (hd : d <= 1000000000000000000) (w : World) :
  Calls Tryz.prog 121 #[wideM x q r d s] w fun e w' => e = .returned (wideM x (hup q r d) 0 1 s) /\ Bel w w' := by
 have hl : Hid (hup q r d = if d < 2 * r \/ (2 * r = d /\ q % 2 = 1) then q + 1 else q) := rfl
 have i1 : (r : Int) <= 1000000000000000000 := by omega
 have i2 : (d : Int) <= 1000000000000000000 := by omega
 have hodd := Quo q
 have i4 : (whi (q + 1) : Int) <= 18446744073709551615 := by have := Qmh hq; omega
 have a1 := fun w => Qoo (wlo q) w
 have a2 := Qri q
 rw [Qrh] at a1
 obtain ⟨c, hc⟩ : ∃ c, c = (wlo q + 1) / 18446744073709551616 := ⟨_, rfl⟩
 rw [← hc] at a1 a2
 have a3 : (whi q : Int) + (c : Int) = (whi (q + 1) : Nat) := by omega
 have a4 : IntKind.u64.wrap ((whi q : Int) + (c : Int)) = (whi (q + 1) : Nat) := by
  rw [a3, wrapM, Nat.mod_eq_of_lt (by have := Qmh hq; omega)]
 have A1 := Hd (And.intro a1 a4)
 have HO := Hd hodd
 clear a1 a2 a3 a4 hq hr hd hc hodd i4
 have w2 : IntKind.u64.wrap (2 * (r : Int)) = ((2 * r : Nat) : Int) := by rw [Qbq]; omega
 obtain ⟨r2, hr2⟩ : ∃ r2, r2 = 2 * r := ⟨_, rfl⟩
 rw [← hr2] at w2 hl
 clear i1 i2 hr2
 rcases Nat.lt_trichotomy d r2 with h | h | h
 ·have hv : Hid (hup q r d = q + 1) := by rw [Hid, hl.out, iP (.inl h)]
  have t1 : (d : Int) < r2 := by omega
  clear h
  obtain ⟨a1, a4⟩ := A1.out
  go_enter Tryz.func121, Tryz.ntmps121
  go_wp2
  refine pR (by simp [results, Tryz.results121, go_sem]; try rfl) rfl ⟨by (rw [hv.out]) <;> rfl, ?_⟩
  exact ((Bel.refl w).alloc _).alloc _
 ·have t1 : ¬ (d : Int) < r2 := by omega
  have t2 : ((r2 : Int) == (d : Int)) = true := by simp; omega
  have t22 : (r2 == d) = true := by simp; omega
  have t3 : (wlo q : Int) % 2 = ((q % 2 : Nat) : Int) := by have := HO.out; omega
  rcases Nat.mod_two_eq_zero_or_one q with h2 | h2
  ·have hv : Hid (hup q r d = q) := by rw [Hid, hl.out, iN (by omega)]
   have t4 : ((wlo q : Int) % 2 == 1) = false := by rw [t3, h2]; rfl
   have t5 : (wlo q % 2 == 1) = false := by rw [HO.out, h2]; rfl
   have t6 : ¬ (wlo q : Int) % 2 = 1 := by rw [t3, h2]; decide
   subst h
   clear h2 t3
   obtain ⟨a1, a4⟩ := A1.out
   go_enter Tryz.func121, Tryz.ntmps121
   go_wp2
   refine pR (by simp [results, Tryz.results121, go_sem]; try rfl) rfl ⟨by (rw [hv.out]) <;> rfl, ?_⟩
   exact ((Bel.refl w).alloc _).alloc _
  have hv : Hid (hup q r d = q + 1) := by rw [Hid, hl.out, iP (.inr ⟨h.symm, h2⟩)]
  have t4 : ((wlo q : Int) % 2 == 1) = true := by rw [t3, h2]; rfl
  have t5 : (wlo q % 2 == 1) = true := by rw [HO.out, h2]; rfl
  have t6 : (wlo q : Int) % 2 = 1 := by rw [t3, h2]; decide
  subst h
  clear h2 t3
  obtain ⟨a1, a4⟩ := A1.out
  go_enter Tryz.func121, Tryz.ntmps121
  go_wp2
  refine pR (by simp [results, Tryz.results121, go_sem]; try rfl) rfl ⟨by (rw [hv.out]) <;> rfl, ?_⟩
  exact ((Bel.refl w).alloc _).alloc _
 have hv : Hid (hup q r d = q) := by rw [Hid, hl.out, iN (by omega)]
 have t1 : ¬ (d : Int) < r2 := by omega
 have t2 : ((r2 : Int) == (d : Int)) = false := by simp; omega
 have t22 : (r2 == d) = false := by simp; omega
 clear h
 obtain ⟨a1, a4⟩ := A1.out
 go_enter Tryz.func121, Tryz.ntmps121
 go_wp2
 refine pR (by simp [results, Tryz.results121, go_sem]; try rfl) rfl ⟨by (rw [hv.out]) <;> rfl, ?_⟩
 exact ((Bel.refl w).alloc _).alloc _
theorem Qsv (n : Int) (hn : In64 n) (w : World) : Calls Tryz.prog 156 #[.int .i64 n] w fun e w' => e = .returned (.int .u64 (n.natAbs : Int)) /\ w' = w := by
 obtain ⟨h0, h1⟩ := hn
 by_cases h : n < 0
 ·go_enter Tryz.func156, Tryz.ntmps156
  go_wp2
  go_ret
  exact ⟨Qgl (by rw [Qbq, Qbq]; omega), rfl⟩
 go_enter Tryz.func156, Tryz.ntmps156
 go_wp2
 go_ret
 exact ⟨Qgl (by omega), rfl⟩
theorem Qh6 (x : Bool) (m : Nat) (s n t : Int) (hm : m < 18446744073709551616) (hn : In64 n) (hs : -1000 <= s /\ s <= 1000) (ht : -1000 <= t /\ t <= 1000) (w : World) :
  Calls Tryz.prog 116 #[wideM x m 0 1 s, .int .i64 n, .int .i64 t] w fun e w' => e = .returned (wideM (x != decide (n < 0)) (m * n.natAbs) 0 1 (s + t)) /\ Bel w w' := by
 have e0 := Qdy hm
 have e1 := Qdz hm
 have hN : n.natAbs < 18446744073709551616 := by have := hn.1; have := hn.2; omega
 have c2 := fun w => Tryz.bits_Mul64 m n.natAbs hm hN w
 have c1 := fun w => Qsv n hn w
 obtain ⟨N, hN'⟩ : ∃ N, N = n.natAbs := ⟨_, rfl⟩
 rw [← hN'] at c1 c2
 obtain ⟨p, hp⟩ : ∃ p, p = m * N := ⟨_, rfl⟩
 rw [← hp] at c2
 change ∀ w, Calls _ _ _ w fun e w' => e = .returned (.tuple #[.int .u64 ((whi p : Nat) : Int), .int .u64 ((wlo p : Nat) : Int)]) /\ w' = w at c2
 have hv : Hid (m * n.natAbs = p) := by rw [Hid, hp, hN']
 have C1 := Hd c1
 have C2 := Hd c2
 obtain ⟨s1, s2⟩ := hs
 obtain ⟨t1, t2⟩ := ht
 show Calls Tryz.prog 116 #[wideV x (whi m) (wlo m) 0 1 s, .int .i64 n, .int .i64 t] w _
 rw [e0, e1]
 clear hm hn hN hN' hp c1 c2 e0 e1
 have ends : ∀ y, (x != decide (n < 0)) = y -> Calls Tryz.prog 116 #[wideV x 0 m 0 1 s, .int .i64 n, .int .i64 t] w fun e w' => e = .returned (wideV y (whi p) (wlo p) 0 1 (s + t)) /\ Bel w w' := by
  intro y hy
  have hy1 : (!(x == decide (n < 0))) = y := hy
  go_enter Tryz.func116, Tryz.ntmps116
  go_wp2_with fail
  refine uN (((Bel.refl w).alloc _).alloc _) fun W hc hf hz hb => ?_
  have hA : Sl6 W w.heap.size x 0 m 0 1 s := by simp [Sl6, Ar6, Fr6, hz, hc, hf, go_sem]
  have hB : Sl6 W (w.heap.size + 1) false 0 0 0 0 0 := by simp [Sl6, Ar6, Fr6, hz, hc, hf, go_sem]
  clear hc hf hz
  go_region_with (first
   | (go_at_call 156; refine (C1.out _).mono ?_; rintro e W1 ⟨rfl, rfl⟩)
   | (go_at_call 157; refine (C2.out _).mono ?_; rintro e W1 ⟨rfl, rfl⟩))
  all_goals
   replace hA : Sl6 ((W.setCell ⟨w.heap.size, 1, none⟩ (.int .u64 (whi p))).setCell ⟨w.heap.size, 2, none⟩ (.int .u64 (wlo p))).drew w.heap.size x (whi p) (wlo p) 0 1 s := by
    simp (maxDischargeDepth := 20) [Sl6, Ar6, Fr6, go_sem, hA]
   replace hB : Sl6 ((W.setCell ⟨w.heap.size, 1, none⟩ (.int .u64 (whi p))).setCell ⟨w.heap.size, 2, none⟩ (.int .u64 (wlo p))).drew (w.heap.size + 1) false 0 0 0 0 0 := by
    simp (maxDischargeDepth := 20) [Sl6, Ar6, Fr6, go_sem, hB]
   replace hb : Bel w ((W.setCell ⟨w.heap.size, 1, none⟩ (.int .u64 (whi p))).setCell ⟨w.heap.size, 2, none⟩ (.int .u64 (wlo p))).drew := by exact Bel.y
   generalize ((W.setCell ⟨w.heap.size, 1, none⟩ (.int .u64 (whi p))).setCell ⟨w.heap.size, 2, none⟩ (.int .u64 (wlo p))).drew = W2 at *
   clear W
   go_wp2
   refine pR (by simp [results, Tryz.results116, go_sem, hA, hB]; try rfl) rfl ⟨rfl, ?_⟩
   exact Bel.y
 have := ends _ rfl
 rw [hv.out]
 exact this
theorem Qrj (x : Bool) (m : Nat) (s n : Int) (hm : m < big128) (hn : In64 n) (hn0 : n ≠ 0) (w : World) :
  Calls Tryz.prog 120 #[wideM x m 0 1 s, .int .i64 n] w fun e w' => e = .returned (wideM (x != decide (n < 0)) (m / n.natAbs) (m % n.natAbs) n.natAbs s) /\ Bel w w' := by
 have hN : n.natAbs < 18446744073709551616 := by have := hn.1; have := hn.2; omega
 have c2 := fun y w => Qdo y m 0 1 n.natAbs s hm (by omega) hN w
 have c1 := fun w => Qsv n hn w
 have C1 := Hd c1
 have C2 := Hd c2
 clear hm hn hn0 hN c1 c2
 generalize hxy : (x != decide (n < 0)) = y
 have hy1 : (!(x == decide (n < 0))) = y := hxy
 go_enter Tryz.func120, Tryz.ntmps120
 go_wp2_with fail
 refine uN (((Bel.refl w).alloc _).alloc _) fun W hc hf hz hb => ?_
 have hA : Sl6 W w.heap.size y (whi m) (wlo m) 0 1 s := by simp [Sl6, Ar6, Fr6, hz, hc, hf, go_sem]
 have hB : Sl6 W (w.heap.size + 1) false 0 0 0 0 0 := by simp [Sl6, Ar6, Fr6, hz, hc, hf, go_sem]
 clear hc hf hz
 have hz : w.heap.size + 1 < W.heap.size := hB.1.1
 go_region_with (first
  | (go_at_call 156; refine (C1.out _).mono ?_; rintro e W1 ⟨rfl, rfl⟩)
  | (go_at_call 158; refine (C2.out _ _).mono ?_; rintro e W1 ⟨rfl, hb1⟩; replace hb1 := (Bel.refl W).drew.trans hb1; replace hA := hA.keep hb1; replace hB := hB.keep hb1; replace hb := hb.trans hb1))
 all_goals
  go_wp2
  refine pR (by simp [results, Tryz.results120, go_sem, hA, hB]; try rfl) rfl ⟨rfl, ?_⟩
  exact Bel.y
theorem Qlv (x : Bool) (m : Nat) (s : Int) (hs : s <= 6) (w : World) :
  Calls Tryz.prog 117 #[wideM x m 0 1 s] w fun e w' => e = .returned (wideM x m 0 1 s) /\ Bel w w' := by
 go_enter Tryz.func117, Tryz.ntmps117
 go_wp2
 refine pR (by simp [results, Tryz.results117, go_sem]; try rfl) rfl ⟨rfl, ?_⟩
 exact ((Bel.refl w).alloc _).alloc _
theorem Qjj (x : Bool) (m : Nat) (s : Int) (h1 : 6 < s) (h2 : s <= 12) (hm : m + 1 < big128) (w : World) :
  Calls Tryz.prog 117 #[wideM x m 0 1 s] w fun e w' => e = .returned (wideM x (heven m (P10 (s - 6).toNat)) 0 1 6) /\ Bel w w' := by
 have hp := Qs4 (show (s - 6).toNat <= 6 by omega)
 have hp0 := Qdn (s - 6).toNat
 have c1 := fun w => Qg8 (s - 6) (by omega) (by omega) w
 obtain ⟨d, hd⟩ : ∃ d, d = P10 (s - 6).toNat := ⟨_, rfl⟩
 rw [← hd] at c1 hp hp0 ⊢
 have c2 := fun w => Qdo x m 0 1 d s (by unfold big128 at hm; omega) (by omega) (by omega) w
 have hr := Nat.mod_lt m hp0
 have hle := Nat.div_le_self m d
 have c3 := fun w => Qfu x (m / d) (m % d) d 6 (by omega) (by omega) (by omega) w
 rw [Qh5] at c3
 have C1 := Hd c1
 have C2 := Hd c2
 have C3 := Hd c3
 have id := Hd (show IntKind.u64.wrap (d : Int) = d by rw [wrapM, Nat.mod_eq_of_lt (by omega)])
 have i1 : (d : Int) <= 1000000 := by omega
 have w1 : IntKind.i64.wrap (s - 6) = s - 6 := by rw [IntKind.wrap_i64]; omega
 clear c1 c2 c3 hm hd hp hp0 hr hle
 generalize m / d = q at *
 generalize m % d = r at *
 generalize heven m d = hv at *
 go_enter Tryz.func117, Tryz.ntmps117
 go_wp2_with fail
 refine uN (((Bel.refl w).alloc _).alloc _) fun W hc hf hz hb => ?_
 have hA : Sl6 W w.heap.size x (whi m) (wlo m) 0 1 s := by simp [Sl6, Ar6, Fr6, hz, hc, hf, go_sem]
 have hB : Sl6 W (w.heap.size + 1) false 0 0 0 0 0 := by simp [Sl6, Ar6, Fr6, hz, hc, hf, go_sem]
 clear hc hf hz
 have hz : w.heap.size + 1 < W.heap.size := hB.1.1
 have idd := id.out
 go_region_with (first
  | (go_at_call 119; refine (C1.out _).mono ?_; rintro e W1 ⟨rfl, hb1⟩; replace hb1 := (Bel.refl W).drew.trans hb1; replace hA := hA.keep hb1; replace hB := hB.keep hb1; replace hb := hb.trans hb1; clear hb1)
  | (go_at_call 158; refine (C2.out _).mono ?_; rintro e W1 ⟨rfl, hb1⟩; replace hA := hA.keep hb1; replace hB := hB.keep hb1; replace hb := hb.trans hb1; clear hb1))
 all_goals
  replace hA : Sl6 ((((((W1.setCell ⟨w.heap.size, 0, none⟩ (.bool x)).setCell ⟨w.heap.size, 1, none⟩ (.int .u64 (whi q))).setCell ⟨w.heap.size, 2, none⟩ (.int .u64 (wlo q))).setCell ⟨w.heap.size, 3, none⟩ (.int .u64 r)).setCell ⟨w.heap.size, 4, none⟩ (.int .u64 d)).setCell ⟨w.heap.size, 5, none⟩ (.int .i64 s)) w.heap.size x (whi q) (wlo q) r d s := by
   simp (maxDischargeDepth := 20) [Sl6, Ar6, Fr6, go_sem, hA]
  replace hB : Sl6 ((((((W1.setCell ⟨w.heap.size, 0, none⟩ (.bool x)).setCell ⟨w.heap.size, 1, none⟩ (.int .u64 (whi q))).setCell ⟨w.heap.size, 2, none⟩ (.int .u64 (wlo q))).setCell ⟨w.heap.size, 3, none⟩ (.int .u64 r)).setCell ⟨w.heap.size, 4, none⟩ (.int .u64 d)).setCell ⟨w.heap.size, 5, none⟩ (.int .i64 s)) (w.heap.size + 1) false 0 0 0 0 0 := by
   simp (maxDischargeDepth := 20) [Sl6, Ar6, Fr6, go_sem, hB]
  replace hb : Bel w ((((((W1.setCell ⟨w.heap.size, 0, none⟩ (.bool x)).setCell ⟨w.heap.size, 1, none⟩ (.int .u64 (whi q))).setCell ⟨w.heap.size, 2, none⟩ (.int .u64 (wlo q))).setCell ⟨w.heap.size, 3, none⟩ (.int .u64 r)).setCell ⟨w.heap.size, 4, none⟩ (.int .u64 d)).setCell ⟨w.heap.size, 5, none⟩ (.int .i64 s)) := by exact Bel.y
  generalize ((((((W1.setCell ⟨w.heap.size, 0, none⟩ (.bool x)).setCell ⟨w.heap.size, 1, none⟩ (.int .u64 (whi q))).setCell ⟨w.heap.size, 2, none⟩ (.int .u64 (wlo q))).setCell ⟨w.heap.size, 3, none⟩ (.int .u64 r)).setCell ⟨w.heap.size, 4, none⟩ (.int .u64 d)).setCell ⟨w.heap.size, 5, none⟩ (.int .i64 s)) = W2 at *
  go_wp2_with (go_at_call 121; refine (C3.out _).mono ?_; rintro e W3 ⟨rfl, hb1⟩
               replace hA := Sl6.keep (show Sl6 (W2.setCell ⟨w.heap.size, 5, none⟩ (.int .i64 6)) w.heap.size x (whi q) (wlo q) r d 6 by simp [Sl6, Ar6, Fr6, go_sem, hA]) hb1
               replace hB := Sl6.keep (show Sl6 (W2.setCell ⟨w.heap.size, 5, none⟩ (.int .i64 6)) (w.heap.size + 1) false 0 0 0 0 0 by simp [Sl6, Ar6, Fr6, go_sem, hB]) hb1
               replace hb := (hb.setCell (p := ⟨w.heap.size, 5, none⟩) (by simp) (.int .i64 6)).trans hb1; clear hb1)
  refine pR (by simp [results, Tryz.results117, go_sem, hA, hB]; try rfl) rfl ⟨rfl, ?_⟩
  exact Bel.y
theorem decs2 {w : World} {b : Nat} {x y z u : Int} (hb : b < w.heap.size) (h0 : w.cell? ⟨b, 0, none⟩ = some (.int .i64 x)) (h1 : w.cell? ⟨b, 1, none⟩ = some (.int .i64 y))
  (h2 : w.cell? ⟨b, 2, none⟩ = some (.int .i64 z)) (h3 : w.cell? ⟨b, 3, none⟩ = some (.int .i64 u)) : DecsAt w b [(x, y), (z, u)] := by
 refine ⟨hb, fun i hi => ?_⟩
 have : i = 0 \/ i = 1 := by simp at hi; omega
 rcases this with rfl | rfl
 ·exact ⟨h0, h1⟩
 exact ⟨h2, h3⟩
theorem Qbi (x y z u : Int) (b : Nat) (w : World) (hd : DecsAt w b [(x, y), (z, u)]) :
  Calls Tryz.prog 114 #[.slice (some ⟨b, 0, none⟩) 2 2] w fun e w' => e = .returned (.bool (sndB x y && sndB z u)) /\ Bel w w' :=
 (Qev b [(x, y), (z, u)] 2 (by simp) w hd).mono fun e w' ⟨he, hb⟩ => ⟨by rw [he]; simp [allSnd], hb⟩
def unt (n s : Int) : Int := n * P10 (6 - s).toNat
theorem Qkt (n s : Int) (h : SndD n s) : -1000000000000000000 <= unt n s /\ unt n s <= 1000000000000000000 := by
 obtain ⟨h1, h2, ⟨h3, h4⟩, -⟩ := h
 have hp := Qs4 (show (6 - s).toNat <= 6 by omega)
 unfold unt
 generalize P10 (6 - s).toNat = p at *
 have hp' : (p : Int) <= 1000000 := by omega
 constructor
 ·have := Int.mul_le_mul_of_nonneg_right h3 (show (0 : Int) <= p by omega)
  have : (-999999999999 : Int) * p >= -999999999999 * 1000000 := by omega
  omega
 have := Int.mul_le_mul_of_nonneg_right h4 (show (0 : Int) <= p by omega)
 omega
theorem Qd7 (n s : Int) (h : SndD n s) (w : World) : Calls Tryz.prog 122 #[.agg #[.int .i64 n, .int .i64 s]] w fun e w' => e = .returned (.int .i64 (unt n s)) /\ Bel w w' := by
 have hbd := Qkt n s h
 obtain ⟨h1, h2, -, -⟩ := h
 have c1 := fun w => Qg8 (6 - s) (by omega) (by omega) w
 have hv : Hid (unt n s = n * P10 (6 - s).toNat) := rfl
 have w1 : IntKind.i64.wrap (6 - s) = 6 - s := by rw [IntKind.wrap_i64]; omega
 have w2 : IntKind.i64.wrap (n * (P10 (6 - s).toNat : Int)) = unt n s := by rw [IntKind.wrap_i64]; unfold unt at *; omega
 generalize P10 (6 - s).toNat = p at *
 have C1 := Hd c1
 clear c1
 go_enter Tryz.func122, Tryz.ntmps122
 go_wp2_with fail
 refine uN ((Bel.refl w).alloc _) fun W hc hf hz hb => ?_
 have hw : Arr2 W w.heap.size n s := by simp [Arr2, hz, hc, go_sem]
 clear hc hf hz
 refine Qaw (S := (fun w' => Bel W w' /\ (∀ b o, b < W.heap.size -> w'.cell? ⟨b, o, none⟩ = W.cell? ⟨b, o, none⟩))) (by kernel_rfl) (by kernel_rfl) keep0 ?_
 repeat (first | (refine Qbg (by rfl) ?_; (try simp only [Act.put, List.setIfInBounds_toArray, List.set_cons_zero, List.set_cons_succ]))
                              | (refine Qa7 (by rfl) (fun w hS => by (try dsimp only at hS); go_simp; first | done | with_reducible rfl) ?_; (try simp only [Act.put, List.setIfInBounds_toArray, List.set_cons_zero, List.set_cons_succ]))
                              | (refine Qbo (f := 119) (by rfl) (fun w => by go_simp; first | done | with_reducible rfl) (fun w hS => (C1.out w).mono fun e w' ⟨he, hb⟩ => ⟨he, keep1 hS hb⟩) ?_; (try simp only [Act.put, List.setIfInBounds_toArray, List.set_cons_zero, List.set_cons_succ])))
 refine Qbp fun W1 hS => ?_
 have hb1 := hb.trans hS.1
 clear hS
 go_wp2
 go_ret
 exact ⟨rfl, hb1⟩
theorem Qeo {n : Int} (h : small n) : In64 n := ⟨by have := h.1; omega, by have := h.2; omega⟩
theorem Qcy {n s m t : Int} (h : ¬ (SndD n s /\ SndD m t)) : (sndB n s && sndB m t) = false := by
 by_cases h1 : SndD n s
 ·rw [Qbf h1, Qjt fun h2 => h ⟨h1, h2⟩]; rfl
 rw [Qjt h1]; rfl
theorem Qop (n s : Int) (w : World) : Calls Tryz.prog 80 #[decA n s] w fun e w' => e = .returned (negV n s) /\ Bel w w' := by
 by_cases h : SndD n s
 ·have hv : Hid (negV n s = .tuple #[decA (-n) s, .int .i64 0]) := iP h
  have c1 := fun w hd => Qeh n s (w.heap.size + 1 + 1) w hd
  have hs := Hd (Qbf h)
  have i1 := h.2.2.1.1
  have i2 := h.2.2.1.2
  clear c1 h
  go_enter Tryz.func80, Tryz.ntmps80
  go_wp2_with fail
  refine Qac ((((Bel.refl w).alloc _).alloc _).alloc _) fun W hc hf hz hb => ?_
  have hA : Sl2 W w.heap.size n s := by simp [Sl2, Arr2, Fr2, hz, hc, hf, go_sem]
  have hB : Sl2 W (w.heap.size + 1) 0 0 := by simp [Sl2, Arr2, Fr2, hz, hc, hf, go_sem]
  have hD : DecsAt W (w.heap.size + 1 + 1) [(n, s)] := decs1 (by simp [hz]) (by simp [hc, go_sem]) (by simp [hc, go_sem])
  clear hc hf hz
  go_wp2_with (go_at_call 114; refine (Qeh n s _ _ hD).mono ?_; rintro e W1 ⟨rfl, hb1⟩; rw [hs.out]
               replace hA := hA.keep hb1; replace hB := hB.keep hb1; replace hb := hb.trans hb1; clear hb1 hD)
  refine pR (by simp [results, Tryz.results80, go_sem, hA, hB]; try rfl) rfl ⟨by (rw [hv.out]) <;> rfl, ?_⟩
  exact Bel.y
 have hv : Hid (negV n s = errV 2) := iN h
 have hs := Hd (Qjt h)
 clear h
 go_enter Tryz.func80, Tryz.ntmps80
 go_wp2_with fail
 refine Qac ((((Bel.refl w).alloc _).alloc _).alloc _) fun W hc hf hz hb => ?_
 have hB : Sl2 W (w.heap.size + 1) 0 0 := by simp [Sl2, Arr2, Fr2, hz, hc, hf, go_sem]
 have hD : DecsAt W (w.heap.size + 1 + 1) [(n, s)] := decs1 (by simp [hz]) (by simp [hc, go_sem]) (by simp [hc, go_sem])
 clear hc hf hz
 go_wp2_with (go_at_call 114; refine (Qeh n s _ _ hD).mono ?_; rintro e W1 ⟨rfl, hb1⟩; rw [hs.out]
              replace hB := hB.keep hb1; replace hb := hb.trans hb1; clear hb1 hD)
 refine pR (by simp [results, Tryz.results80, go_sem, hB]; try rfl) rfl ⟨by (rw [hv.out]) <;> rfl, ?_⟩
 exact Bel.y
def sgn (x y : Int) : Int := if x < y then -1 else if y < x then 1 else 0
def cmpV (n s m t : Int) : Value := if SndD n s /\ SndD m t then .tuple #[.int .i64 (sgn (unt n s) (unt m t)), .int .i64 0] else .tuple #[.int .i64 0, .int .i64 2]
theorem Qup (n s m t : Int) (w : World) : Calls Tryz.prog 98 #[decA n s, decA m t] w fun e w' => e = .returned (cmpV n s m t) /\ Bel w w' := by
 by_cases h : SndD n s /\ SndD m t
 ·have hs := Hd (show (sndB n s && sndB m t) = true by rw [Qbf h.1, Qbf h.2]; rfl)
  have c1 := Hd fun w => Qd7 n s h.1 w
  have c2 := Hd fun w => Qd7 m t h.2 w
  have hv : Hid (cmpV n s m t = .tuple #[.int .i64 (sgn (unt n s) (unt m t)), .int .i64 0]) := iP h
  clear h
  obtain ⟨x, hx⟩ : ∃ x, x = unt n s := ⟨_, rfl⟩
  obtain ⟨y, hy⟩ : ∃ y, y = unt m t := ⟨_, rfl⟩
  rw [← hx] at c1 hv
  rw [← hy] at c2 hv
  clear hx hy
  have tri : (x < y /\ sgn x y = -1) \/ (sgn x y = 0 /\ x = y) \/ (y < x /\ sgn x y = 1) := by
   rcases Int.lt_trichotomy x y with h | h | h
   ·exact .inl ⟨h, by simp [sgn, h]⟩
   ·exact .inr (.inl ⟨by subst h; simp [sgn], h⟩)
   exact .inr (.inr ⟨h, by simp [sgn, h, show ¬ x < y by omega]⟩)
  rcases tri with ⟨h, hg⟩ | ⟨hg, rfl⟩ | ⟨h, hg⟩
  all_goals
   rw [hg] at hv
   clear hg
   go_enter Tryz.func98, Tryz.ntmps98
   go_wp2_with fail
   refine Qac ((((Bel.refl w).alloc _).alloc _).alloc _) fun W hc hf hz hb => ?_
   have hA : Sl2 W w.heap.size n s := by simp [Sl2, Arr2, Fr2, hz, hc, hf, go_sem]
   have hB : Sl2 W (w.heap.size + 1) m t := by simp [Sl2, Arr2, Fr2, hz, hc, hf, go_sem]
   have hD : DecsAt W (w.heap.size + 1 + 1) [(n, s), (m, t)] := decs2 (by simp [hz]) (by simp [hc, go_sem]) (by simp [hc, go_sem]) (by simp [hc, go_sem]) (by simp [hc, go_sem])
   clear hc hf hz
   go_wp2_with (go_at_call 114; refine (Qbi n s m t _ _ hD).mono ?_; rintro e W1 ⟨rfl, hb1⟩; rw [hs.out]
                replace hA := hA.keep hb1; replace hB := hB.keep hb1; replace hb := hb.trans hb1; clear hb1 hD)
   refine Qaw (S := (fun w' => Bel W1 w' /\ (∀ b o, b < W1.heap.size -> w'.cell? ⟨b, o, none⟩ = W1.cell? ⟨b, o, none⟩))) (by kernel_rfl) (by kernel_rfl) keep0 ?_
   repeat (first | (refine Qbg (by rfl) ?_; (try simp only [Act.put, List.setIfInBounds_toArray, List.set_cons_zero, List.set_cons_succ]))
                              | (refine Qa7 (by rfl) (fun w hS => by (try dsimp only at hS); go_simp; first | done | with_reducible rfl) ?_; (try simp only [Act.put, List.setIfInBounds_toArray, List.set_cons_zero, List.set_cons_succ]))
                              | (refine Qbo (f := 122) (by rfl) (fun w => by go_simp; first | done | with_reducible rfl) (fun w hS => (c1.out w).mono fun e w' ⟨he, hb⟩ => ⟨he, keep1 hS hb⟩) ?_; (try simp only [Act.put, List.setIfInBounds_toArray, List.set_cons_zero, List.set_cons_succ]))
                              | (refine Qbo (f := 122) (by rfl) (fun w => by go_simp; first | done | with_reducible rfl) (fun w hS => (c2.out w).mono fun e w' ⟨he, hb⟩ => ⟨he, keep1 hS hb⟩) ?_; (try simp only [Act.put, List.setIfInBounds_toArray, List.set_cons_zero, List.set_cons_succ])))
   refine Qbp fun W2 hS => ?_
   have hb2 := hb.trans hS.1
   clear hS
   go_wp2
   go_ret2
   exact ⟨by (rw [hv.out]) <;> rfl, hb2⟩
 have hv : Hid (cmpV n s m t = .tuple #[.int .i64 0, .int .i64 2]) := iN h
 have hs := Hd (Qcy h)
 clear h
 go_enter Tryz.func98, Tryz.ntmps98
 go_wp2_with fail
 refine Qac ((((Bel.refl w).alloc _).alloc _).alloc _) fun W hc hf hz hb => ?_
 have hD : DecsAt W (w.heap.size + 1 + 1) [(n, s), (m, t)] := decs2 (by simp [hz]) (by simp [hc, go_sem]) (by simp [hc, go_sem]) (by simp [hc, go_sem]) (by simp [hc, go_sem])
 clear hc hf hz
 go_wp2_with (go_at_call 114; refine (Qbi n s m t _ _ hD).mono ?_; rintro e W1 ⟨rfl, hb1⟩; rw [hs.out]
              replace hb := hb.trans hb1; clear hb1 hD)
 go_ret2
 exact ⟨by (rw [hv.out]) <;> rfl, hb⟩
def addV (n s m t : Int) : Value := if SndD n s /\ SndD m t then decV (decide (unt n s + unt m t < 0)) (unt n s + unt m t).natAbs 6 else errV 2
theorem Qjk (n s m t : Int) (w : World) : Calls Tryz.prog 81 #[decA n s, decA m t] w fun e w' => e = .returned (addV n s m t) /\ Bel w w' := by
 by_cases h : SndD n s /\ SndD m t
 ·have hs := Hd (show (sndB n s && sndB m t) = true by rw [Qbf h.1, Qbf h.2]; rfl)
  have c1 := Hd fun w => Qd7 n s h.1 w
  have c2 := Hd fun w => Qd7 m t h.2 w
  have hv : Hid (addV n s m t = _) := iP h
  have b1 := Qkt n s h.1
  have b2 := Qkt m t h.2
  clear h
  obtain ⟨x, hx⟩ : ∃ x, x = unt n s := ⟨_, rfl⟩
  obtain ⟨y, hy⟩ : ∃ y, y = unt m t := ⟨_, rfl⟩
  rw [← hx] at c1 hv b1
  rw [← hy] at c2 hv b2
  clear hx hy
  have w1 : IntKind.i64.wrap (x + y) = x + y := by rw [IntKind.wrap_i64]; omega
  have d1 := fun w => Qb8 (x + y) 6 ⟨by omega, by omega⟩ w
  have d2 := fun w => Qgn (decide (x + y < 0)) (x + y).natAbs 6 (by unfold big128; omega) (by omega) w
  rw [wide0 (by omega)] at d2
  obtain ⟨a, b, e, hsh⟩ := Qco (decide (x + y < 0)) (x + y).natAbs 6
  rw [hsh] at hv d2
  have D1 := Hd d1
  have D2 := Hd d2
  clear d1 d2 hsh b1 b2
  go_enter Tryz.func81, Tryz.ntmps81
  go_wp2_with fail
  refine Qac (((((Bel.refl w).alloc _).alloc _).alloc _).alloc _) fun W hc hf hz hb => ?_
  have hA : Sl2 W w.heap.size n s := by simp [Sl2, Arr2, Fr2, hz, hc, hf, go_sem]
  have hB : Sl2 W (w.heap.size + 1) m t := by simp [Sl2, Arr2, Fr2, hz, hc, hf, go_sem]
  have hR : Sl2 W (w.heap.size + 1 + 1) 0 0 := by simp [Sl2, Arr2, Fr2, hz, hc, hf, go_sem]
  have hD : DecsAt W (w.heap.size + 1 + 1 + 1) [(n, s), (m, t)] := decs2 (by simp [hz]) (by simp [hc, go_sem]) (by simp [hc, go_sem]) (by simp [hc, go_sem]) (by simp [hc, go_sem])
  clear hc hf hz
  go_wp2_with (go_at_call 114; refine (Qbi n s m t _ _ hD).mono ?_; rintro e W1 ⟨rfl, hb1⟩; rw [hs.out]
               replace hA := hA.keep hb1; replace hB := hB.keep hb1; replace hR := hR.keep hb1; replace hb := hb.trans hb1; clear hb1 hD)
  replace hA := hA.keep (Bel.refl W1).drew; replace hB := hB.keep (Bel.refl W1).drew; replace hR := hR.keep (Bel.refl W1).drew; replace hb := hb.drew
  go_region_with (first
   | (go_at_call_of 122 (Value.agg #[Value.int .i64 n, Value.int .i64 s]); refine (c1.out _).mono ?_; rintro e W2 ⟨rfl, hb1⟩; replace hA := hA.keep hb1; replace hB := hB.keep hb1; replace hR := hR.keep hb1; replace hb := hb.trans hb1; clear hb1)
   | (go_at_call_of 122 (Value.agg #[Value.int .i64 m, Value.int .i64 t]); refine (c2.out _).mono ?_; rintro e W3 ⟨rfl, hb1⟩; replace hA := hA.keep hb1; replace hB := hB.keep hb1; replace hR := hR.keep hb1; replace hb := hb.trans hb1; clear hb1)
   | (go_at_call 115; refine (D1.out _).mono ?_; rintro e W4 ⟨rfl, hb1⟩; replace hR := hR.keep hb1; replace hb := hb.trans hb1; clear hb1 hA hB)
   | (go_at_call 118; refine (D2.out _).mono ?_; rintro e W5 ⟨rfl, hb1⟩; replace hR := hR.keep hb1; replace hb := hb.trans hb1; clear hb1))
  all_goals
   go_wp2
   refine pR (by simp [results, Tryz.results81, go_sem, hR]; try rfl) rfl ⟨by (rw [hv.out]) <;> rfl, ?_⟩
   exact Bel.y
 have hv : Hid (addV n s m t = errV 2) := iN h
 have hs := Hd (Qcy h)
 clear h
 go_enter Tryz.func81, Tryz.ntmps81
 go_wp2_with fail
 refine Qac (((((Bel.refl w).alloc _).alloc _).alloc _).alloc _) fun W hc hf hz hb => ?_
 have hR : Sl2 W (w.heap.size + 1 + 1) 0 0 := by simp [Sl2, Arr2, Fr2, hz, hc, hf, go_sem]
 have hD : DecsAt W (w.heap.size + 1 + 1 + 1) [(n, s), (m, t)] := decs2 (by simp [hz]) (by simp [hc, go_sem]) (by simp [hc, go_sem]) (by simp [hc, go_sem]) (by simp [hc, go_sem])
 clear hc hf hz
 go_wp2_with (go_at_call 114; refine (Qbi n s m t _ _ hD).mono ?_; rintro e W1 ⟨rfl, hb1⟩; rw [hs.out]
              replace hR := hR.keep hb1; replace hb := hb.trans hb1; clear hb1 hD)
 refine pR (by simp [results, Tryz.results81, go_sem, hR]; try rfl) rfl ⟨by (rw [hv.out]) <;> rfl, ?_⟩
 exact Bel.y
def mulV (n s m t : Int) : Value :=
 if SndD n s /\ SndD m t then (if s + t <= 6 then decV (decide (n < 0) != decide (m < 0)) (n.natAbs * m.natAbs) (s + t).toNat
  else decV (decide (n < 0) != decide (m < 0)) (heven (n.natAbs * m.natAbs) (P10 (s + t - 6).toNat)) 6) else errV 2
theorem Qsw {n s m t : Int} (h : SndD n s /\ SndD m t) : n.natAbs * m.natAbs <= 999999999998000000000001 := by
 have h1 := h.1.2.2.1.1
 have h2 := h.1.2.2.1.2
 have h3 := h.2.2.2.1.1
 have h4 := h.2.2.2.1.2
 exact Nat.mul_le_mul (show n.natAbs <= 999999999999 by omega) (show m.natAbs <= 999999999999 by omega)
theorem Qoq (n s m t : Int) (h : SndD n s /\ SndD m t) (y : Bool) (hy : (decide (n < 0) != decide (m < 0)) = y) (M : Nat) (S : Nat)
  (hR : ∀ w, Calls Tryz.prog 117 #[wideM y (n.natAbs * m.natAbs) 0 1 (s + t)] w fun e w' => e = .returned (wideM y M 0 1 S) /\ Bel w w') (hM : M < big128) (hS : S <= 100) (w : World) :
  Calls Tryz.prog 78 #[decA n s, decA m t] w fun e w' => e = .returned (decV y M S) /\ Bel w w' := by
 have hs := Hd (show (sndB n s && sndB m t) = true by rw [Qbf h.1, Qbf h.2]; rfl)
 have hp := Qsw h
 obtain ⟨⟨h1, h2, h3, -⟩, ⟨h4, h5, h6, -⟩⟩ := h
 have c1 := fun w => Qb8 n s (Qeo h3) w
 have c2 := fun w => Qh6 (decide (n < 0)) n.natAbs s m t (by have := h3.1; have := h3.2; omega) (Qeo h6) ⟨by omega, by omega⟩ ⟨by omega, by omega⟩ w
 rw [wide0 (by have := h3.1; have := h3.2; omega), hy] at c2
 have c3 := fun w => Qgn y M S hM hS w
 obtain ⟨a, b, e, hsh⟩ := Qco y M S
 rw [hsh] at c3 ⊢
 have C1 := Hd c1
 have C2 := Hd c2
 have C3 := Hd c3
 have C4 := Hd hR
 have hv : Hid True := trivial
 clear c1 c2 c3 hR h1 h2 h3 h4 h5 h6 hp hsh hM hS hy
 go_enter Tryz.func78, Tryz.ntmps78
 go_wp2_with fail
 refine Qac (((((Bel.refl w).alloc _).alloc _).alloc _).alloc _) fun W hc hf hz hb => ?_
 have hA : Sl2 W w.heap.size n s := by simp [Sl2, Arr2, Fr2, hz, hc, hf, go_sem]
 have hB : Sl2 W (w.heap.size + 1) m t := by simp [Sl2, Arr2, Fr2, hz, hc, hf, go_sem]
 have hR : Sl2 W (w.heap.size + 1 + 1) 0 0 := by simp [Sl2, Arr2, Fr2, hz, hc, hf, go_sem]
 have hD : DecsAt W (w.heap.size + 1 + 1 + 1) [(n, s), (m, t)] := decs2 (by simp [hz]) (by simp [hc, go_sem]) (by simp [hc, go_sem]) (by simp [hc, go_sem]) (by simp [hc, go_sem])
 clear hc hf hz
 go_wp2_with (go_at_call 114; refine (Qbi n s m t _ _ hD).mono ?_; rintro e W1 ⟨rfl, hb1⟩; rw [hs.out]
              replace hA := hA.keep hb1; replace hB := hB.keep hb1; replace hR := hR.keep hb1; replace hb := hb.trans hb1; clear hb1 hD)
 replace hA := hA.keep (Bel.refl W1).drew; replace hB := hB.keep (Bel.refl W1).drew; replace hR := hR.keep (Bel.refl W1).drew; replace hb := hb.drew
 go_region_held3 (fun w' => Arr2 w' w.heap.size n s /\ Arr2 w' (w.heap.size + 1) m t) (first | exact ⟨hA.1, hB.1⟩ | (simp [Arr2, go_sem, hA, hB]; done) | go_keep)
  (first
   | (go_at_call 115; refine (C1.out _).mono ?_; rintro e W2 ⟨rfl, hb1⟩; replace hA := hA.keep hb1; replace hB := hB.keep hb1; replace hR := hR.keep hb1; replace hb := hb.trans hb1; clear hb1)
   | (go_at_call 116; refine (C2.out _).mono ?_; rintro e W3 ⟨rfl, hb1⟩; replace hA := hA.keep hb1; replace hB := hB.keep hb1; replace hR := hR.keep hb1; replace hb := hb.trans hb1; clear hb1)
   | (go_at_call 117; refine (C4.out _).mono ?_; rintro e W4 ⟨rfl, hb1⟩; replace hA := hA.keep hb1; replace hB := hB.keep hb1; replace hR := hR.keep hb1; replace hb := hb.trans hb1; clear hb1)
   | (go_at_call 118; refine (C3.out _).mono ?_; rintro e W5 ⟨rfl, hb1⟩; replace hA := hA.keep hb1; replace hB := hB.keep hb1; replace hR := hR.keep hb1; replace hb := hb.trans hb1; clear hb1))
 all_goals
  go_wp2
  refine pR (by simp [results, Tryz.results78, go_sem, hR]; try rfl) rfl ⟨rfl, ?_⟩
  exact Bel.y
theorem Quq (n s m t : Int) (w : World) : Calls Tryz.prog 78 #[decA n s, decA m t] w fun e w' => e = .returned (mulV n s m t) /\ Bel w w' := by
 by_cases h : SndD n s /\ SndD m t
 ·have hp := Qsw h
  have hm : n.natAbs * m.natAbs + 1 < big128 := by unfold big128; omega
  have h1 := h.1.1
  have h2 := h.1.2.1
  have h3 := h.2.1
  have h4 := h.2.2.1
  rw [show mulV n s m t = _ from iP h]
  by_cases h6 : s + t <= 6
  ·rw [iP h6]
   refine Qoq n s m t h _ rfl _ _ (fun w => ?_) (by omega) (by omega) w
   rw [show (((s + t).toNat : Nat) : Int) = s + t by omega]
   exact Qlv _ _ _ h6 w
  rw [iN h6]
  refine Qoq n s m t h _ rfl _ 6 (fun w => ?_) ?_ (by omega) w
  ·exact Qjj _ _ _ (by omega) (by omega) hm w
  have := Qks (n.natAbs * m.natAbs) (P10 (s + t - 6).toNat)
  have := Nat.div_le_self (n.natAbs * m.natAbs) (P10 (s + t - 6).toNat)
  omega
 have hv : Hid (mulV n s m t = errV 2) := iN h
 have hs := Hd (Qcy h)
 clear h
 go_enter Tryz.func78, Tryz.ntmps78
 go_wp2_with fail
 refine Qac (((((Bel.refl w).alloc _).alloc _).alloc _).alloc _) fun W hc hf hz hb => ?_
 have hR : Sl2 W (w.heap.size + 1 + 1) 0 0 := by simp [Sl2, Arr2, Fr2, hz, hc, hf, go_sem]
 have hD : DecsAt W (w.heap.size + 1 + 1 + 1) [(n, s), (m, t)] := decs2 (by simp [hz]) (by simp [hc, go_sem]) (by simp [hc, go_sem]) (by simp [hc, go_sem]) (by simp [hc, go_sem])
 clear hc hf hz
 go_wp2_with (go_at_call 114; refine (Qbi n s m t _ _ hD).mono ?_; rintro e W1 ⟨rfl, hb1⟩; rw [hs.out]
              replace hR := hR.keep hb1; replace hb := hb.trans hb1; clear hb1 hD)
 refine pR (by simp [results, Tryz.results78, go_sem, hR]; try rfl) rfl ⟨by (rw [hv.out]) <;> rfl, ?_⟩
 exact Bel.y
def divV (n s m t : Int) : Value :=
 if SndD n s /\ SndD m t then (if m = 0 then errV 4
  else decV (decide (n < 0) != decide (m < 0)) (heven (n.natAbs * P10 (t + 6).toNat) (m.natAbs * P10 s.toNat)) 6) else errV 2
theorem Qor (x : Bool) : (x != false) = x := by cases x <;> rfl
theorem Qur (m p : Int) (hp : 1 <= p) : decide (m * p < 0) = decide (m < 0) := by
 have : m * p < 0 ↔ m < 0 := by
  constructor
  ·intro h
   rcases Int.lt_or_le m 0 with h1 | h1
   ·exact h1
   have := Int.mul_nonneg h1 (show 0 <= p by omega); omega
  intro h
  exact Int.mul_neg_of_neg_of_pos h (by omega)
 simp only [this]
theorem new6 {w w' : World} {T : TypeId} (hb : Bel (w.alloc (.cells #[.bool false, .int .u64 0, .int .u64 0, .int .u64 0, .int .u64 0, .int .i64 0] T)) w') : Sl6 w' w.heap.size false 0 0 0 0 0 :=
 Sl6.keep (w := w.alloc (.cells #[.bool false, .int .u64 0, .int .u64 0, .int .u64 0, .int .u64 0, .int .i64 0] T)) (by simp [Sl6, Ar6, Fr6, go_sem]) hb
theorem new6d {w w' : World} {T : TypeId} (hb : Bel (w.alloc (.cells #[.bool false, .int .u64 0, .int .u64 0, .int .u64 0, .int .u64 0, .int .i64 0] T)).drew w') : Sl6 w' w.heap.size false 0 0 0 0 0 :=
 Sl6.keep (w := (w.alloc (.cells #[.bool false, .int .u64 0, .int .u64 0, .int .u64 0, .int .u64 0, .int .i64 0] T)).drew) (by simp [Sl6, Ar6, Fr6, go_sem]) hb
theorem Qdl {a b : Nat} (h : a + 1 + 1 < b) : (¬ b = a /\ ¬ b = a + 1 /\ ¬ b = a + 1 + 1) /\ (¬ a = b /\ ¬ a + 1 = b /\ ¬ a + 1 + 1 = b) := by omega
theorem Qus (n s m t : Int) (h : SndD n s /\ SndD m t) (hm0 : m ≠ 0) (w : World) :
  Calls Tryz.prog 79 #[decA n s, decA m t] w fun e w' => e = .returned (decV (decide (n < 0) != decide (m < 0)) (heven (n.natAbs * P10 (t + 6).toNat) (m.natAbs * P10 s.toNat)) 6) /\ Bel w w' := by
 have hs := Hd (show (sndB n s && sndB m t) = true by rw [Qbf h.1, Qbf h.2]; rfl)
 obtain ⟨⟨h1, h2, h3, -⟩, ⟨h4, h5, h6, -⟩⟩ := h
 have p1 := Qwg (show (t + 6).toNat <= 12 by omega)
 have p10 := Qdn (t + 6).toNat
 have p2 := Qs4 (show s.toNat <= 6 by omega)
 have p20 := Qdn s.toNat
 have cp1 := fun w => Qg8 (t + 6) (by omega) (by omega) w
 have cp2 := fun w => Qg8 s (by omega) (by omega) w
 obtain ⟨P, hP⟩ : ∃ P, P = P10 (t + 6).toNat := ⟨_, rfl⟩
 obtain ⟨p, hp⟩ : ∃ p, p = P10 s.toNat := ⟨_, rfl⟩
 rw [← hP] at cp1 p1 p10 ⊢
 rw [← hp] at cp2 p2 p20 ⊢
 clear hP hp
 have c1 := fun w => Qb8 n 6 (Qeo h3) w
 have c2 := fun w => Qh6 (decide (n < 0)) n.natAbs 6 (P : Int) 0 (by have := h3.1; have := h3.2; omega) ⟨by omega, by omega⟩ ⟨by omega, by omega⟩ ⟨by omega, by omega⟩ w
 rw [wide0 (by have := h3.1; have := h3.2; omega), show decide ((P : Int) < 0) = false by simp, Qor, show ((P : Int)).natAbs = P by omega, show (6 : Int) + 0 = 6 by omega] at c2
 have hmp1 : -1000000000000000000 <= m * (p : Int) /\ m * (p : Int) <= 1000000000000000000 := by
  have a1 := Int.mul_le_mul_of_nonneg_right h6.1 (show (0 : Int) <= p by omega)
  have a2 := Int.mul_le_mul_of_nonneg_right h6.2 (show (0 : Int) <= p by omega)
  constructor <;> omega
 have hmpn : (m * (p : Int)).natAbs = m.natAbs * p := by rw [Int.natAbs_mul]; rfl
 have hmp0 : m * (p : Int) ≠ 0 := by
  intro h
  rcases Int.mul_eq_zero.1 h with h | h
  ·exact hm0 h
  omega
 have hM : n.natAbs * P <= 999999999999 * 1000000000000 := Nat.mul_le_mul (by have := h3.1; have := h3.2; omega) p1
 have hdec := Qur m p (by omega)
 obtain ⟨y, hy⟩ : ∃ y, (decide (n < 0) != decide (m < 0)) = y := ⟨_, rfl⟩
 obtain ⟨q, hq⟩ : ∃ q, q = m * (p : Int) := ⟨_, rfl⟩
 obtain ⟨M, hMM⟩ : ∃ M, M = n.natAbs * P := ⟨_, rfl⟩
 obtain ⟨D, hD⟩ : ∃ D, D = m.natAbs * p := ⟨_, rfl⟩
 rw [← hq] at hmp1 hmpn hmp0 hdec
 rw [← hMM] at c2 hM ⊢
 rw [← hD] at hmpn ⊢
 have c3 := fun w => Qrj (decide (n < 0)) M 6 q (by unfold big128; omega) ⟨by omega, by omega⟩ hmp0 w
 rw [hdec, hy, hmpn] at c3
 rw [hy]
 have hDpos : 0 < D := by omega
 have hr := Nat.mod_lt M hDpos
 have hle := Nat.div_le_self M D
 have c4 := fun w => Qfu y (M / D) (M % D) D 6 (by unfold big128; omega) (by omega) (by omega) w
 rw [Qh5] at c4
 have hhe := Qks M D
 have c5 := fun w => Qgn y (heven M D) 6 (by unfold big128; omega) (by omega) w
 obtain ⟨a, b, e, hsh⟩ := Qco y (heven M D) 6
 rw [hsh] at c5 ⊢
 have w1 : IntKind.i64.wrap (t + 6) = t + 6 := by rw [IntKind.wrap_i64]; omega
 have w2 : IntKind.i64.wrap (m * (p : Int)) = q := by rw [IntKind.wrap_i64, ← hq]; omega
 have k0 : (m == 0) = false := by simp [hm0]
 have C1 := Hd c1
 have C2 := Hd c2
 have C3 := Hd c3
 have C4 := Hd c4
 have C5 := Hd c5
 have CP1 := Hd cp1
 have CP2 := Hd cp2
 clear c1 c2 c3 c4 c5 cp1 cp2 h1 h2 h3 h4 h5 h6 hM hMM hD hq hy hr hle hhe hsh p1 p10 p2 p20 hmp1 hmpn hmp0 hdec hDpos hm0
 generalize M / D = Q at *
 generalize M % D = R at *
 generalize heven M D = E at *
 go_enter Tryz.func79, Tryz.ntmps79
 go_wp2_with fail
 refine Qac (((((Bel.refl w).alloc _).alloc _).alloc _).alloc _) fun W hc hf hz hb => ?_
 have hA : Sl2 W w.heap.size n s := by simp [Sl2, Arr2, Fr2, hz, hc, hf, go_sem]
 have hB : Sl2 W (w.heap.size + 1) m t := by simp [Sl2, Arr2, Fr2, hz, hc, hf, go_sem]
 have hR : Sl2 W (w.heap.size + 1 + 1) 0 0 := by simp [Sl2, Arr2, Fr2, hz, hc, hf, go_sem]
 have hD : DecsAt W (w.heap.size + 1 + 1 + 1) [(n, s), (m, t)] := decs2 (by simp [hz]) (by simp [hc, go_sem]) (by simp [hc, go_sem]) (by simp [hc, go_sem]) (by simp [hc, go_sem])
 clear hc hf hz
 go_wp2_with (go_at_call 114; refine (Qbi n s m t _ _ hD).mono ?_; rintro e W1 ⟨rfl, hb1⟩; rw [hs.out]
              replace hA := hA.keep hb1; replace hB := hB.keep hb1; replace hR := hR.keep hb1; replace hb := hb.trans hb1; clear hb1 hD)
 go_upto_region 5 with (fail)
 go_cut [6] (fun u wx => ∃ g : Nat, u = .pointer (some ⟨g, 0, none⟩) /\ Sl6 wx g (decide (n < 0)) (whi M) (wlo M) 0 1 6 /\ Sl2 wx w.heap.size n s /\ Sl2 wx (w.heap.size + 1) m t /\ Sl2 wx (w.heap.size + 1 + 1) 0 0 /\ Bel w wx /\ w.heap.size + 1 + 1 < g)
 case first =>
  have hb0 := hb; have hA0 := hA; have hB0 := hB; have hR0 := hR
  replace hA := hA.keep (Bel.refl W1).drew; replace hB := hB.keep (Bel.refl W1).drew; replace hR := hR.keep (Bel.refl W1).drew; replace hb := hb.drew
  have hne0 := Qdl hR0.1.1
  go_region_held3 (fun w' => Arr2 w' w.heap.size n s /\ Arr2 w' (w.heap.size + 1) m t) (first | with_reducible exact ⟨hA.1, hB.1⟩ | (simp (maxDischargeDepth := 20) [Arr2, go_sem, hA, hB, hne]; done) | (have hne := Qdl hR.1.1; simp (maxDischargeDepth := 20) [Arr2, go_sem, hA, hB, hne]; first | done | omega) | (simp [Arr2, go_sem, hA, hB]; first | done | omega) | (simp (maxDischargeDepth := 20) [Arr2, go_sem, hA0, hB0, hne0]; first | done | omega))
   (first
    | (go_at_call 115; refine (C1.out _).mono ?_; rintro e W2 ⟨rfl, hb1⟩; (first | (with_reducible replace hA := hA.keep hb1; replace hB := hB.keep hb1; replace hR := hR.keep hb1; replace hb := hb.trans hb1; (try (replace hU := hU.keep hb1)); clear hb1) | (with_reducible have hU := new6 hb1; have hlt := hR.1.1; have hne := Qdl hR.1.1; replace hb1 := ((Bel.refl _).alloc _).trans hb1; replace hA := hA.keep hb1; replace hB := hB.keep hb1; replace hR := hR.keep hb1; replace hb := hb.trans hb1; clear hb1) | (have hU := new6d hb1; have hlt := hR0.1.1; have hne := Qdl hR0.1.1; replace hb1 := ((Bel.refl _).alloc _).drew.trans hb1; replace hA := hA0.keep hb1; replace hB := hB0.keep hb1; replace hR := hR0.keep hb1; replace hb := hb0.trans hb1; clear hb1)))
    | (go_at_call 119; refine (CP1.out _).mono ?_; rintro e W3 ⟨rfl, hb1⟩; (first | (with_reducible replace hA := hA.keep hb1; replace hB := hB.keep hb1; replace hR := hR.keep hb1; replace hb := hb.trans hb1; (try (replace hU := hU.keep hb1)); clear hb1) | (with_reducible have hU := new6 hb1; have hlt := hR.1.1; have hne := Qdl hR.1.1; replace hb1 := ((Bel.refl _).alloc _).trans hb1; replace hA := hA.keep hb1; replace hB := hB.keep hb1; replace hR := hR.keep hb1; replace hb := hb.trans hb1; clear hb1) | (have hU := new6d hb1; have hlt := hR0.1.1; have hne := Qdl hR0.1.1; replace hb1 := ((Bel.refl _).alloc _).drew.trans hb1; replace hA := hA0.keep hb1; replace hB := hB0.keep hb1; replace hR := hR0.keep hb1; replace hb := hb0.trans hb1; clear hb1)))
    | (go_at_call 116; refine (C2.out _).mono ?_; rintro e W4 ⟨rfl, hb1⟩; (first | (with_reducible replace hA := hA.keep hb1; replace hB := hB.keep hb1; replace hR := hR.keep hb1; replace hb := hb.trans hb1; (try (replace hU := hU.keep hb1)); clear hb1) | (with_reducible have hU := new6 hb1; have hlt := hR.1.1; have hne := Qdl hR.1.1; replace hb1 := ((Bel.refl _).alloc _).trans hb1; replace hA := hA.keep hb1; replace hB := hB.keep hb1; replace hR := hR.keep hb1; replace hb := hb.trans hb1; clear hb1) | (have hU := new6d hb1; have hlt := hR0.1.1; have hne := Qdl hR0.1.1; replace hb1 := ((Bel.refl _).alloc _).drew.trans hb1; replace hA := hA0.keep hb1; replace hB := hB0.keep hb1; replace hR := hR0.keep hb1; replace hb := hb0.trans hb1; clear hb1))))
  all_goals
   go_wp2_with fail
   go_meet
  case rel | rel | rel | rel =>
   first
    | (refine ⟨_, rfl, ?_, ?_, ?_, ?_, ?_, hlt⟩
       ·simp (maxDischargeDepth := 20) [Sl6, Ar6, Fr6, go_sem, hU]
       ·simp (maxDischargeDepth := 20) [Sl2, Arr2, Fr2, go_sem, hA, hne]
       ·simp (maxDischargeDepth := 20) [Sl2, Arr2, Fr2, go_sem, hB, hne]
       ·simp (maxDischargeDepth := 20) [Sl2, Arr2, Fr2, go_sem, hR, hne]
       ·exact Bel.y)
    | (have hlt := hR.1.1
       have hlt1 : w.heap.size < W4.heap.size := hA.1.1
       have hlt2 : w.heap.size + 1 < W4.heap.size := hB.1.1
       have hne := Qdl hlt
       refine ⟨_, rfl, ?_, ?_, ?_, ?_, ?_, hlt⟩
       ·simp (maxDischargeDepth := 20) [Sl6, Ar6, Fr6, go_sem]
       ·(simp (maxDischargeDepth := 20) [Sl2, Arr2, Fr2, go_sem, hA, hne] <;> omega)
       ·(simp (maxDischargeDepth := 20) [Sl2, Arr2, Fr2, go_sem, hB, hne] <;> omega)
       ·(simp (maxDischargeDepth := 20) [Sl2, Arr2, Fr2, go_sem, hR, hne] <;> omega)
       exact Bel.y)
 case rest =>
  obtain ⟨g, rfl, hU, hA, hB, hR, hb, hlt⟩ := hcut
  have hne := Qdl hlt
  go_wp2_with fail
  replace hA := hA.keep (Bel.refl wc).drew; replace hB := hB.keep (Bel.refl wc).drew; replace hR := hR.keep (Bel.refl wc).drew; replace hU := hU.keep (Bel.refl wc).drew; replace hb := hb.drew
  go_region_held3 (fun w' => Arr2 w' w.heap.size n s /\ Arr2 w' (w.heap.size + 1) m t /\ Ar6 w' g (decide (n < 0)) (whi M) (wlo M) 0 1 6)
   (first | with_reducible exact ⟨hA.1, hB.1, hU.1⟩ | (simp (maxDischargeDepth := 20) [Arr2, Ar6, go_sem, hA, hB, hU, hne]; first | done | omega))
   (first
    | (go_at_call 119; refine (CP2.out _).mono ?_; rintro e W3 ⟨rfl, hb1⟩; replace hA := hA.keep hb1; replace hB := hB.keep hb1; replace hR := hR.keep hb1; replace hU := hU.keep hb1; replace hb := hb.trans hb1; clear hb1)
    | (go_at_call 120; refine (C3.out _).mono ?_; rintro e W3 ⟨rfl, hb1⟩; replace hA := hA.keep hb1; replace hB := hB.keep hb1; replace hR := hR.keep hb1; replace hU := hU.keep hb1; replace hb := hb.trans hb1; clear hb1)
    | (go_at_call 121; refine (C4.out _).mono ?_; rintro e W4 ⟨rfl, hb1⟩; replace hA := hA.keep hb1; replace hB := hB.keep hb1; replace hR := hR.keep hb1; replace hU := hU.keep hb1; replace hb := hb.trans hb1; clear hb1)
    | (go_at_call 118; refine (C5.out _).mono ?_; rintro e W5 ⟨rfl, hb1⟩; replace hA := hA.keep hb1; replace hB := hB.keep hb1; replace hR := hR.keep hb1; replace hU := hU.keep hb1; replace hb := hb.trans hb1; clear hb1))
  all_goals
   go_wp2
   refine pR (by simp [results, Tryz.results79, go_sem, hR]; try rfl) rfl ⟨rfl, ?_⟩
   exact Bel.y
theorem Qut (n s m t : Int) (w : World) : Calls Tryz.prog 79 #[decA n s, decA m t] w fun e w' => e = .returned (divV n s m t) /\ Bel w w' := by
 by_cases h : SndD n s /\ SndD m t
 ·rw [show divV n s m t = _ from iP h]
  by_cases h0 : m = 0
  ·rw [iP h0]
   have hs := Hd (show (sndB n s && sndB m t) = true by rw [Qbf h.1, Qbf h.2]; rfl)
   subst h0
   clear h
   go_enter Tryz.func79, Tryz.ntmps79
   go_wp2_with fail
   refine Qac (((((Bel.refl w).alloc _).alloc _).alloc _).alloc _) fun W hc hf hz hb => ?_
   have hB : Sl2 W (w.heap.size + 1) 0 t := by simp [Sl2, Arr2, Fr2, hz, hc, hf, go_sem]
   have hR : Sl2 W (w.heap.size + 1 + 1) 0 0 := by simp [Sl2, Arr2, Fr2, hz, hc, hf, go_sem]
   have hD : DecsAt W (w.heap.size + 1 + 1 + 1) [(n, s), (0, t)] := decs2 (by simp [hz]) (by simp [hc, go_sem]) (by simp [hc, go_sem]) (by simp [hc, go_sem]) (by simp [hc, go_sem])
   clear hc hf hz
   go_wp2_with (go_at_call 114; refine (Qbi n s 0 t _ _ hD).mono ?_; rintro e W1 ⟨rfl, hb1⟩; rw [hs.out]
                replace hB := hB.keep hb1; replace hR := hR.keep hb1; replace hb := hb.trans hb1; clear hb1 hD)
   refine pR (by simp [results, Tryz.results79, go_sem, hR]; try rfl) rfl ⟨rfl, ?_⟩
   exact Bel.y
  rw [iN h0]
  exact Qus n s m t h h0 w
 have hv : Hid (divV n s m t = errV 2) := iN h
 have hs := Hd (Qcy h)
 clear h
 go_enter Tryz.func79, Tryz.ntmps79
 go_wp2_with fail
 refine Qac (((((Bel.refl w).alloc _).alloc _).alloc _).alloc _) fun W hc hf hz hb => ?_
 have hR : Sl2 W (w.heap.size + 1 + 1) 0 0 := by simp [Sl2, Arr2, Fr2, hz, hc, hf, go_sem]
 have hD : DecsAt W (w.heap.size + 1 + 1 + 1) [(n, s), (m, t)] := decs2 (by simp [hz]) (by simp [hc, go_sem]) (by simp [hc, go_sem]) (by simp [hc, go_sem]) (by simp [hc, go_sem])
 clear hc hf hz
 go_wp2_with (go_at_call 114; refine (Qbi n s m t _ _ hD).mono ?_; rintro e W1 ⟨rfl, hb1⟩; rw [hs.out]
              replace hR := hR.keep hb1; replace hb := hb.trans hb1; clear hb1 hD)
 refine pR (by simp [results, Tryz.results79, go_sem, hR]; try rfl) rfl ⟨by (rw [hv.out]) <;> rfl, ?_⟩
 exact Bel.y
def above (f : Nat -> Nat) (k : Nat) : Nat -> Nat := fun i => if k <= i then f i else 0
def CB (f : Nat -> Nat) (P i : Nat) : Prop := (∀ j, j < i -> f j = dg P j) /\ tv f i (60 - i) = P / 10 ^ i /\ f i <= 1080 /\ ∀ j, i < j -> f j <= 972
def lv (n : Int) (s : Nat) : Nat := n.natAbs * 10 ^ (12 - s)
end
end Go.Proofs.YtjckpkamhdbcnaaGreatDoor
