import Derived.Test.YtcknjhgolajclaaDoorDec
import Derived.Deep.OwnRows
import Derived.Deep.QuietTactic
import Derived.BigQuiet
namespace Go.Proofs.YtcknjhgolajclaaDoor
set_option linter.unusedSimpArgs false
set_option linter.unusedVariables false
open Go.RowKit

/-! Deci: the document's rows of digits. -/
/-- A block in which n numbers stand from o on, free for a store. -/
def DRow (w : World) (b o n : Nat) (f : Nat → Nat) : Prop :=
  b < w.heap.size ∧ ∀ i, i < n → w.cell? ⟨b, o + i, none⟩ = some (.int .i64 (f i : Nat)) ∧ w.frozen? ⟨b, o + i, none⟩ = false
theorem DRow.keep {w w' : World} {b o n : Nat} {f : Nat → Nat} (h : DRow w b o n f) (hb : Bel w w') : DRow w' b o n f :=
  ⟨Nat.lt_of_lt_of_le h.1 hb.size, fun i hi => ⟨(hb.cells _ _ h.1).trans (h.2 i hi).1, (hb.frozens _ _ h.1).trans (h.2 i hi).2⟩⟩
theorem DRow.ext {w : World} {b o n : Nat} {f g : Nat → Nat} (h : DRow w b o n f) (hfg : ∀ i, i < n → f i = g i) : DRow w b o n g :=
  ⟨h.1, fun i hi => ⟨by rw [← hfg i hi]; exact (h.2 i hi).1, (h.2 i hi).2⟩⟩
theorem DRow.at0 {w : World} {b n : Nat} {f : Nat → Nat} (h : DRow w b 0 n f) {i : Nat} (hi : i < n) : w.cell? ⟨b, i, none⟩ = some (.int .i64 (f i : Nat)) ∧ w.frozen? ⟨b, i, none⟩ = false := by
  have := h.2 i hi
  rwa [Nat.zero_add] at this
theorem DRow.put {w : World} {b n : Nat} {f : Nat → Nat} (h : DRow w b 0 n f) (k v : Nat) (hk : k < n) : DRow (w.setCell ⟨b, k, none⟩ (.int .i64 (v : Nat))) b 0 n (upd f k v) := by
  refine ⟨by have := h.1; simpa using this, fun i hi => ?_⟩
  rw [Nat.zero_add]
  obtain ⟨h1, h2⟩ := h.at0 hi
  obtain ⟨h3, h4⟩ := h.at0 hk
  by_cases he : i = k
  · subst he
    rw [upd_at]
    exact ⟨by simp [go_sem, h1], by simp [go_sem, h2]⟩
  · rw [upd_ne _ _ _ _ he]
    have he' : ¬ k = i := fun h => he h.symm
    exact ⟨by simp [go_sem, h1, he, he'], by simp [go_sem, h2, he, he']⟩
theorem Bel.drewN {a b : World} (h : Bel a b) (n : Nat) : Bel a (b.drewN n) := Bel.trans h ⟨rfl, rfl, rfl, Nat.le_refl _, fun _ _ => rfl⟩
theorem DRow.drewN {w : World} {b o n : Nat} {f : Nat → Nat} (h : DRow w b o n f) (k : Nat) : DRow (w.drewN k) b o n f := h.keep ((Bel.refl w).drewN k)
theorem DRow.drew {w : World} {b o n : Nat} {f : Nat → Nat} (h : DRow w b o n f) : DRow w.drew b o n f := h.keep (Bel.refl w).drew
/-- The rest of a row. -/
theorem DRow.tail {w : World} {b o n : Nat} {f : Nat → Nat} (h : DRow w b o n f) (k : Nat) (hk : k ≤ n) : DRow w b (o + k) (n - k) (fun i => f (k + i)) :=
  ⟨h.1, fun i hi => by rw [Nat.add_assoc]; exact h.2 (k + i) (by omega)⟩
/-- What a store elsewhere leaves. -/
theorem DRow.other {w : World} {b o n : Nat} {f : Nat → Nat} (h : DRow w b o n f) {a : Addr} (ha : b ≠ a.block) (v : Value) : DRow (w.setCell a v) b o n f := by
  refine ⟨by have := h.1; simpa using this, fun i hi => ?_⟩
  obtain ⟨h1, h2⟩ := h.2 i hi
  have e : ∀ o, (⟨b, o, none⟩ : Addr).block ≠ a.block := fun _ => ha
  exact ⟨by rw [← h1]; exact World.cell?_of_block (Deep.blk_setCell_other _ _ _ _ ha), by rw [← h2]; exact World.frozen?_of_block (Deep.blk_setCell_other _ _ _ _ ha)⟩
theorem made_row (w : World) (n : Nat) (t : TypeId) : DRow (w.alloc (.cells (madeCells #[.int .i64 0] n) t)) w.heap.size 0 n (fun _ => 0) := by
  have h := World.rowIs_made w (.int .i64 0) n t
  exact ⟨h.lt, fun i hi => by rw [Nat.zero_add]; exact ⟨h.cell hi, h.frozen i⟩⟩
theorem Tryd.underRow : Tryd.prog.underlying 52 = some (.slice 3) := by kernel_rfl
theorem Tryd.infoRow : (Tryd.prog.info? 3).map (fun i => (i.zero, i.size, i.bytes)) = some (some (.int .i64 0), 1, 8) := by kernel_rfl
theorem make_row (n : Nat) (hn : n ≤ 1000) (w : World) : (Instr.makeSlice 52 (.int .i64 n) (.int .i64 n)).run Tryd.prog w = .ok (.slice (some ⟨w.heap.size, 0, none⟩) n n) (w.alloc (.cells (madeCells #[.int .i64 0] n) 3)) :=
  run_make_row' 52 3 (.int .i64 0) 8 Tryd.underRow Tryd.infoRow rfl .i64 .i64 n (by omega) (by omega) w
theorem rsize_any (n : Int) (hn : small n) (w : World) : Calls Tryd.prog 35 #[.int .i64 n] w fun e w' => e = .returned (.int .i64 (n.natAbs : Int)) ∧ w' = w := by
  have h1 := hn.1
  have h2 := hn.2
  by_cases h : n < 0
  · have hv : Hid (-n = (n.natAbs : Int)) := by show _ = _; omega
    clear hn
    go_enter Tryd.func35, Tryd.ntmps35
    go_wp2
    go_ret
    exact ⟨by rw [← hv.out]; rfl, rfl⟩
  · have hv : Hid (n = (n.natAbs : Int)) := by show _ = _; omega
    clear hn
    go_enter Tryd.func35, Tryd.ntmps35
    go_wp2
    go_ret
    exact ⟨by (rw [← hv.out]) <;> rfl, rfl⟩
def below (f : Nat → Nat) (k : Nat) : Nat → Nat := fun i => if i < k then f i else 0
theorem below_upd (f : Nat → Nat) (k i : Nat) : upd (below f k) k (f k) i = below f (k + 1) i := by
  unfold upd below
  by_cases h : i = k
  · subst h; rw [if_pos rfl, if_pos (by omega)]
  · rw [if_neg h]
    by_cases h2 : i < k
    · rw [if_pos h2, if_pos (by omega)]
    · rw [if_neg h2, if_neg (by omega)]
set_option maxHeartbeats 1000000 in
theorem rdigits_any (x : Nat) (hx : x ≤ 999999999999) (w : World) : Calls Tryd.prog 34 #[.int .i64 x, .int .i64 12] w fun e w' => e = .returned (.slice (some ⟨w.heap.size, 0, none⟩) 12 12) ∧ DRow w' w.heap.size 0 12 (dg x) ∧ Bel w w' := by
  have hmk : ∀ w, (Instr.makeSlice 52 (.int .i64 12) (.int .i64 12)).run Tryd.prog w = .ok (.slice (some ⟨w.heap.size, 0, none⟩) 12 12) (w.alloc (.cells (madeCells #[.int .i64 0] 12) 3)) := make_row 12 (by omega)
  go_enter Tryd.func34, Tryd.ntmps34
  go_wp2
  have hD := made_row w 12 3
  have hb := (Bel.refl w).alloc (.cells (madeCells #[.int .i64 0] 12) 3)
  go_loopg [0, 6] 12 (fun g z i wr => ∃ k : Nat, k ≤ 12 ∧ z = .int .i64 ((x / 10 ^ k : Nat) : Int) ∧ i = .int .i64 k ∧ Hid (g = 12 - k) ∧ DRow wr w.heap.size 0 12 (below (dg x) k) ∧ Bel w wr)
  case atStart => exact ⟨0, by omega, by simp, rfl, rfl, hD.ext fun i hi => by simp [below], hb⟩
  case round =>
    clear hD hb hmk
    obtain ⟨k, hk, rfl, rfl, hh, hD, hb⟩ := hrel
    have hkk : (k : Int) ≤ 12 := by omega
    by_cases hlt : k < 12
    · obtain ⟨c1, c2⟩ := hD.at0 hlt
      have hle : ((x / 10 ^ k : Nat) : Int) ≤ 999999999999 := by have := Nat.div_le_self x (10 ^ k); omega
      have E := Lib.hid (show (((x / 10 ^ k : Nat) : Int) % 10 = ((dg x k : Nat) : Int)) ∧ ((x / 10 ^ k : Nat) : Int) / 10 = ((x / 10 ^ (k + 1) : Nat) : Int) from ⟨by rw [dg]; omega, by rw [div_succ]; omega⟩)
      generalize x / 10 ^ k = z at *
      go_wp2
      go_roundg (gk - 1)
      case measure => have := hh.out; omega
      case rel => exact ⟨k + 1, by omega, by rw [E.out.2], by go_num, (show _ = _ by have := hh.out; omega), by rw [E.out.1]; exact (hD.put k (dg x k) hlt).ext fun i _ => below_upd _ _ _, hb.setCell (Nat.le_refl _) _⟩
    · obtain rfl : k = 12 := by omega
      go_wp2
      go_ret
      exact ⟨rfl, hD.ext fun i hi => by simp [below, hi], hb⟩
set_option maxHeartbeats 1000000 in
theorem rplus_any (n : Nat) (h0 : 0 < n) (hn : n ≤ 60) (b1 o1 cc b2 x y : Nat) (w : World) (hx : DRow w b1 o1 n (dg x)) (hy : DRow w b2 0 n (dg y)) :
    Calls Tryd.prog 52 #[.slice (some ⟨b1, o1, none⟩) n cc, .slice (some ⟨b2, 0, none⟩) n n] w fun e w' => e = .returned (.slice (some ⟨w.heap.size, 0, none⟩) n n) ∧ DRow w' w.heap.size 0 n (dg (x + y)) ∧ Bel w w' := by
  have hmk : ∀ w, (Instr.makeSlice 52 (.int .i64 n) (.int .i64 n)).run Tryd.prog w = .ok (.slice (some ⟨w.heap.size, 0, none⟩) n n) (w.alloc (.cells (madeCells #[.int .i64 0] n) 3)) := make_row n (by omega)
  go_enter Tryd.func52, Tryd.ntmps52
  go_wp2
  have hD := made_row w n 3
  have hb := (Bel.refl w).alloc (.cells (madeCells #[.int .i64 0] n) 3)
  have hnn : (n : Int) ≤ 60 := by omega
  go_loopg [6, 7] n (fun g c i wr => ∃ k : Nat, k ≤ n ∧ c = .int .i64 ((car x y k : Nat) : Int) ∧ i = .int .i64 k ∧ Hid (g = n - k) ∧ DRow wr w.heap.size 0 n (below (dg (x + y)) k) ∧ Bel w wr)
  case atStart => exact ⟨0, by omega, by rw [car_0]; rfl, rfl, rfl, hD.ext fun i hi => by simp [below], hb⟩
  case round =>
    clear hD hb hmk
    obtain ⟨k, hk, rfl, rfl, hh, hD, hb⟩ := hrel
    by_cases hlt : k < n
    · obtain ⟨c1, c2⟩ := hD.at0 hlt
      obtain ⟨c3, -⟩ := (hx.keep hb).2 k hlt
      obtain ⟨c5, -⟩ := (hy.keep hb).at0 hlt
      have d1 : ((dg x k : Nat) : Int) ≤ 9 := by have := dg_lt x k; omega
      have d2 : ((dg y k : Nat) : Int) ≤ 9 := by have := dg_lt y k; omega
      have d3 : ((car x y k : Nat) : Int) ≤ 1 := by have := car_le x y k; omega
      have E := Lib.hid (show ((((dg x k : Nat) : Int) + (dg y k : Nat) + (car x y k : Nat)) % 10 = ((dg (x + y) k : Nat) : Int)) ∧ (((dg x k : Nat) : Int) + (dg y k : Nat) + (car x y k : Nat)) / 10 = ((car x y (k + 1) : Nat) : Int) from
        ⟨by rw [← plus_digit]; omega, by rw [← plus_carry]; omega⟩)
      generalize hp : dg x k = p at *
      generalize hq : dg y k = q at *
      generalize hr : car x y k = r at *
      clear hp hq hr
      have i1 : (0 : Int) ≤ k := by omega
      have i2 : (k : Int) < n := by omega
      go_wp2
      go_quiet (fail)
      go_wp2
      go_roundg (gk - 1)
      case measure => have := hh.out; omega
      case rel => exact ⟨k + 1, by omega, by rw [E.out.2], by go_num, (show _ = _ by have := hh.out; omega), by rw [E.out.1]; exact ((hD.drewN _).put k (dg (x + y) k) hlt).ext fun i _ => below_upd _ _ _, (hb.drewN _).setCell (Nat.le_refl _) _⟩
    · obtain rfl : k = n := by omega
      go_wp2
      go_ret
      exact ⟨rfl, hD.ext fun i hi => by simp [below, hi], hb⟩
end Go.Proofs.YtcknjhgolajclaaDoor
