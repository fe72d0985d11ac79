
import Derived.Test.YtpmmbcobjibpeaaGreatDoorSte
import Derived.Test.YtpmmbcobjibpeaaGreatDoorWdm
import Derived.Test.YtpmmbcobjibpeaaGreatDoorSpk
namespace Go.Proofs.YtpmmbcobjibpeaaGreatDoor
set_option linter.unusedSimpArgs false
set_option linter.unusedVariables false
open Go.RowKit Go.Lib

/-! Sets, as data. -/
structure St where
  kind : Int
  sp : List Sp
  all : Bool
  ws : List ByteArray
  bools : Int
  nul : Bool
/-- A list of spans in blocks from lo on; one of strings. -/
def SpP (lo : Nat) (w : World) (A : Option Addr) (c : Nat) (l : List Sp) : Prop := Sps w A l ∧ l.length ≤ c ∧ (A = none ∧ c = 0 ∨ ∃ b off, A = some ⟨b, off, none⟩ ∧ lo ≤ b ∧ b < w.heap.size)
def StP (lo : Nat) (w : World) (A : Option Addr) (c : Nat) (l : List ByteArray) : Prop := Strs w A l ∧ (A = none → c = 0) ∧ (l = [] ∨ ∃ g off, A = some ⟨g, off, none⟩ ∧ lo ≤ g)
theorem SpP.nil (lo : Nat) (w : World) : SpP lo w none 0 [] := ⟨Sps.nil, Nat.le_refl _, .inl ⟨rfl, rfl⟩⟩
theorem StP.nil (lo : Nat) (w : World) : StP lo w none 0 [] := ⟨Strs.nil, fun _ => rfl, .inl rfl⟩
theorem SpP.keep {lo : Nat} {w w' : World} {A : Option Addr} {c : Nat} {l : List Sp} (h : SpP lo w A c l) (hb : Bel w w') : SpP lo w' A c l := by
  obtain ⟨h1, h2, h3⟩ := h
  refine ⟨h1.keep hb, h2, ?_⟩
  rcases h3 with h3 | ⟨b, off, e, h4, h5⟩
  · exact .inl h3
  · exact .inr ⟨b, off, e, h4, Nat.lt_of_lt_of_le h5 hb.size⟩
theorem StP.keep {lo : Nat} {w w' : World} {A : Option Addr} {c : Nat} {l : List ByteArray} (h : StP lo w A c l) (hb : Bel w w') : StP lo w' A c l := ⟨h.1.keep hb, h.2⟩
theorem SpP.low {lo lo' : Nat} {w : World} {A : Option Addr} {c : Nat} {l : List Sp} (h : SpP lo w A c l) (hl : lo' ≤ lo) : SpP lo' w A c l := by
  obtain ⟨h1, h2, h3⟩ := h
  refine ⟨h1, h2, ?_⟩
  rcases h3 with h3 | ⟨b, off, e, h4, h5⟩
  · exact .inl h3
  · exact .inr ⟨b, off, e, Nat.le_trans hl h4, h5⟩
theorem StP.low {lo lo' : Nat} {w : World} {A : Option Addr} {c : Nat} {l : List ByteArray} (h : StP lo w A c l) (hl : lo' ≤ lo) : StP lo' w A c l := by
  obtain ⟨h1, h2, h3⟩ := h
  refine ⟨h1, h2, ?_⟩
  rcases h3 with h3 | ⟨g, off, e, h4⟩
  · exact .inl h3
  · exact .inr ⟨g, off, e, Nat.le_trans hl h4⟩
/-- Under stores into blocks below. -/
theorem SpP.other {lo : Nat} {W W' : World} {A : Option Addr} {c : Nat} {l : List Sp} (h : SpP lo W A c l) (hz : W'.heap.size = W.heap.size) (hk : ∀ k o, lo ≤ k → W'.cell? ⟨k, o, none⟩ = W.cell? ⟨k, o, none⟩) : SpP lo W' A c l := by
  obtain ⟨h1, h2, h3⟩ := h
  rcases h3 with ⟨rfl, rfl⟩ | ⟨b, off, rfl, h4, h5⟩
  · obtain rfl : l = [] := List.eq_nil_of_length_eq_zero (by omega)
    exact SpP.nil _ _
  · refine ⟨fun h0 => ?_, h2, .inr ⟨b, off, rfl, h4, by rw [hz]; exact h5⟩⟩
    obtain ⟨b', off', e, h6, h7⟩ := h1 h0
    cases e
    refine ⟨b, off, rfl, by rw [hz]; exact h5, fun i s hs => ?_⟩
    have := h7 i s hs
    exact ⟨(hk b _ h4).trans this.1, (hk b _ h4).trans this.2⟩
theorem StP.other {lo : Nat} {W W' : World} {A : Option Addr} {c : Nat} {l : List ByteArray} (h : StP lo W A c l) (hz : W'.heap.size = W.heap.size) (hk : ∀ k o, lo ≤ k → W'.cell? ⟨k, o, none⟩ = W.cell? ⟨k, o, none⟩) : StP lo W' A c l := by
  obtain ⟨h1, h2, h3⟩ := h
  refine ⟨?_, h2, h3⟩
  rcases h3 with rfl | ⟨g, off, rfl, hg⟩
  · exact Strs.nil
  · intro h0
    obtain ⟨b, off', e, h4, h5⟩ := h1 h0
    cases e
    exact ⟨g, off, rfl, by rw [hz]; exact h4, fun j u hu => (hk g _ hg).trans (h5 j u hu)⟩
theorem SpP.sl {lo : Nat} {w : World} {A : Option Addr} {c : Nat} {l : List Sp} (h : SpP lo w A c l) : SlS w (.slice A l.length c) l := by
  obtain ⟨h1, h2, h3⟩ := h
  refine ⟨A, c, rfl, h1, h2, ?_⟩
  rcases h3 with h3 | ⟨b, off, e, h4, h5⟩
  · exact .inl h3
  · exact .inr ⟨b, off, e, h5⟩
theorem SpP.of_own {lo : Nat} {w : World} {v : Value} {l : List Sp} (h : OwnS w lo v l) : ∃ A c, v = .slice A l.length c ∧ SpP lo w A c l := by
  obtain ⟨A, c, e, hs, hA, hc⟩ := h.sps
  refine ⟨A, c, e, hs, hc, ?_⟩
  rcases h.2 with ⟨e1, e2⟩ | ⟨g, cap, cur, e1, hlo, hh, _⟩
  · rw [e] at e1
    simp only [Value.slice.injEq] at e1
    exact .inl ⟨e1.1, e1.2.2⟩
  · rw [e] at e1
    cases e1
    refine .inr ⟨g, 0, rfl, hlo, ?_⟩
    rcases Nat.lt_or_ge g w.heap.size with h | h
    · exact h
    · rw [Array.getElem?_eq_none h] at hh; cases hh
theorem StP.of_made {w0 w : World} {A : Option Addr} {c : Nat} {l : List ByteArray} (h1 : Strs w A l) (h2 : A = none → c = 0) (h3 : l = [] ∨ ∃ g, A = some ⟨g, 0, none⟩ ∧ w0.heap.size ≤ g) : StP w0.heap.size w A c l :=
  ⟨h1, h2, h3.imp id fun ⟨g, e, h⟩ => ⟨g, 0, e, h⟩⟩
/-- A set, as a value. -/
abbrev St.val (s : St) (A : Option Addr) (c : Nat) (A2 : Option Addr) (c2 : Nat) : Value := .agg #[.int .i64 s.kind, .slice A s.sp.length c, .bool s.all, .slice A2 s.ws.length c2, .int .i64 s.bools, .bool s.nul]
/-- What a call makes: a set in memory of its own. -/
def SetOut (w : World) (s : St) (e : Ending) (w' : World) : Prop := ∃ A c A2 c2, e = .returned (s.val A c A2 c2) ∧ SpP w.heap.size w' A c s.sp ∧ StP w.heap.size w' A2 c2 s.ws ∧ Bel w w'
def allS (k : Int) : St := ⟨k, if k = 1 then [(-999999999999, 999999999999)] else if k = 4 then [(0, 3652058)] else [], decide (k = 2), [], if k = 3 then 3 else 0, true⟩
set_option maxRecDepth 100000 in
set_option maxHeartbeats 4000000 in
theorem all1_any (w : World) : Calls Tryz.prog 65 #[.int .i64 1] w (SetOut w (allS 1)) := by
  go_enter Tryz.func65, Tryz.ntmps65
  go_wp2_with fail
  refine bodyPost_ret (by simp [results, Tryz.results65, go_sem, allS]; try rfl) rfl ⟨some ⟨w.heap.size + 2, 0, none⟩, 1, none, 0, rfl, ⟨fun _ => ⟨_, _, rfl, by simp, ?_⟩, Nat.le_refl _, .inr ⟨_, _, rfl, by omega, by simp⟩⟩, StP.nil _ _, ?_⟩
  · intro i s hs
    match i, hs with
    | 0, hs => cases hs; exact ⟨by simp [go_sem], by simp [go_sem]⟩
  · (repeat (first | with_reducible exact Bel.refl _ | with_reducible refine Bel.setCell ?_ (by first | exact Nat.le_refl _ | (dsimp only; omega)) _ | with_reducible refine Bel.alloc ?_ _ | with_reducible refine Bel.drew ?_ | with_reducible assumption | with_reducible refine Bel.trans ?_ (by assumption)))
set_option maxRecDepth 100000 in
set_option maxHeartbeats 4000000 in
theorem all4_any (w : World) : Calls Tryz.prog 65 #[.int .i64 4] w (SetOut w (allS 4)) := by
  go_enter Tryz.func65, Tryz.ntmps65
  go_wp2_with fail
  refine bodyPost_ret (by simp [results, Tryz.results65, go_sem, allS]; try rfl) rfl ⟨some ⟨w.heap.size + 2, 0, none⟩, 1, none, 0, rfl, ⟨fun _ => ⟨_, _, rfl, by simp, ?_⟩, Nat.le_refl _, .inr ⟨_, _, rfl, by omega, by simp⟩⟩, StP.nil _ _, ?_⟩
  · intro i s hs
    match i, hs with
    | 0, hs => cases hs; exact ⟨by simp [go_sem], by simp [go_sem]⟩
  · (repeat (first | with_reducible exact Bel.refl _ | with_reducible refine Bel.setCell ?_ (by first | exact Nat.le_refl _ | (dsimp only; omega)) _ | with_reducible refine Bel.alloc ?_ _ | with_reducible refine Bel.drew ?_ | with_reducible assumption | with_reducible refine Bel.trans ?_ (by assumption)))
set_option maxRecDepth 100000 in
set_option maxHeartbeats 4000000 in
theorem all3_any (w : World) : Calls Tryz.prog 65 #[.int .i64 3] w (SetOut w (allS 3)) := by
  go_enter Tryz.func65, Tryz.ntmps65
  go_wp2_with fail
  refine bodyPost_ret (by simp [results, Tryz.results65, go_sem, allS]; try rfl) rfl ⟨none, 0, none, 0, rfl, SpP.nil _ _, StP.nil _ _, ?_⟩
  (repeat (first | with_reducible exact Bel.refl _ | with_reducible refine Bel.setCell ?_ (by first | exact Nat.le_refl _ | (dsimp only; omega)) _ | with_reducible refine Bel.alloc ?_ _ | with_reducible refine Bel.drew ?_ | with_reducible assumption | with_reducible refine Bel.trans ?_ (by assumption)))
set_option maxRecDepth 100000 in
set_option maxHeartbeats 4000000 in
theorem all2_any (w : World) : Calls Tryz.prog 65 #[.int .i64 2] w (SetOut w (allS 2)) := by
  have C := fun W => wmake_any true [] none 0 W Strs.nil (by simp) (by simp)
  have KN : keptl okw [] = [] := List.eq_nil_of_length_eq_zero (Nat.le_zero.1 (keptl_len okw []))
  rw [KN] at C
  replace C := Lib.hid C
  go_enter Tryz.func65, Tryz.ntmps65
  go_upto_region 8 with fail
  refine under_name (w0 := w) (by (repeat (first | with_reducible exact Bel.refl _ | with_reducible refine Bel.setCell ?_ (by first | exact Nat.le_refl _ | (dsimp only; omega)) _ | with_reducible refine Bel.alloc ?_ _ | with_reducible refine Bel.drew ?_ | with_reducible assumption | with_reducible refine Bel.trans ?_ (by assumption)))) fun W hc hf hz hb => ?_
  have r0 : W.cell? ⟨w.heap.size, 0, none⟩ = some (.int .i64 0) := by simp [hc, go_sem]
  have r1 : W.cell? ⟨w.heap.size, 1, none⟩ = some (.slice none 0 0) := by simp [hc, go_sem]
  have r2 : W.cell? ⟨w.heap.size, 2, none⟩ = some (.bool false) := by simp [hc, go_sem]
  have r3 : W.cell? ⟨w.heap.size, 3, none⟩ = some (.slice none 0 0) := by simp [hc, go_sem]
  have r4 : W.cell? ⟨w.heap.size, 4, none⟩ = some (.int .i64 0) := by simp [hc, go_sem]
  have r5 : W.cell? ⟨w.heap.size, 5, none⟩ = some (.bool false) := by simp [hc, go_sem]
  have rf0 : W.frozen? ⟨w.heap.size, 0, none⟩ = false := by simp [hf, go_sem]
  have rf1 : W.frozen? ⟨w.heap.size, 1, none⟩ = false := by simp [hf, go_sem]
  have rf2 : W.frozen? ⟨w.heap.size, 2, none⟩ = false := by simp [hf, go_sem]
  have rf3 : W.frozen? ⟨w.heap.size, 3, none⟩ = false := by simp [hf, go_sem]
  have rf4 : W.frozen? ⟨w.heap.size, 4, none⟩ = false := by simp [hf, go_sem]
  have rf5 : W.frozen? ⟨w.heap.size, 5, none⟩ = false := by simp [hf, go_sem]
  have m0 : W.cell? ⟨w.heap.size + 1, 0, none⟩ = some (.int .i64 2) := by simp [hc, go_sem]
  have m1 : W.cell? ⟨w.heap.size + 1, 1, none⟩ = some (.slice none 0 0) := by simp [hc, go_sem]
  have m2 : W.cell? ⟨w.heap.size + 1, 2, none⟩ = some (.bool false) := by simp [hc, go_sem]
  have m3 : W.cell? ⟨w.heap.size + 1, 3, none⟩ = some (.slice none 0 0) := by simp [hc, go_sem]
  have m4 : W.cell? ⟨w.heap.size + 1, 4, none⟩ = some (.int .i64 0) := by simp [hc, go_sem]
  have m5 : W.cell? ⟨w.heap.size + 1, 5, none⟩ = some (.bool true) := by simp [hc, go_sem]
  have mf0 : W.frozen? ⟨w.heap.size + 1, 0, none⟩ = false := by simp [hf, go_sem]
  have mf1 : W.frozen? ⟨w.heap.size + 1, 1, none⟩ = false := by simp [hf, go_sem]
  have mf2 : W.frozen? ⟨w.heap.size + 1, 2, none⟩ = false := by simp [hf, go_sem]
  have mf3 : W.frozen? ⟨w.heap.size + 1, 3, none⟩ = false := by simp [hf, go_sem]
  have mf4 : W.frozen? ⟨w.heap.size + 1, 4, none⟩ = false := by simp [hf, go_sem]
  have mf5 : W.frozen? ⟨w.heap.size + 1, 5, none⟩ = false := by simp [hf, go_sem]
  have z0 : w.heap.size + 2 ≤ W.heap.size := by simp [hz]
  clear hc hf hz
  go_wp2_with (go_at_call 70; (with_reducible refine Calls.mono (C.out _) ?_); rintro e W1 ⟨A', c', rfl, h1, h2, h3, hb1⟩; have hbX := hb.trans hb1; have z1 : w.heap.size + 2 ≤ W1.heap.size := (Nat.le_trans z0 hb1.size); replace r0 := (hb1.cells _ _ (by omega)).trans r0; replace r1 := (hb1.cells _ _ (by omega)).trans r1; replace r2 := (hb1.cells _ _ (by omega)).trans r2; replace r3 := (hb1.cells _ _ (by omega)).trans r3; replace r4 := (hb1.cells _ _ (by omega)).trans r4; replace r5 := (hb1.cells _ _ (by omega)).trans r5; replace rf0 := (hb1.frozens _ _ (by omega)).trans rf0; replace rf1 := (hb1.frozens _ _ (by omega)).trans rf1; replace rf2 := (hb1.frozens _ _ (by omega)).trans rf2; replace rf3 := (hb1.frozens _ _ (by omega)).trans rf3; replace rf4 := (hb1.frozens _ _ (by omega)).trans rf4; replace rf5 := (hb1.frozens _ _ (by omega)).trans rf5; replace m0 := (hb1.cells _ _ (by omega)).trans m0; replace m1 := (hb1.cells _ _ (by omega)).trans m1; replace m2 := (hb1.cells _ _ (by omega)).trans m2; replace m3 := (hb1.cells _ _ (by omega)).trans m3; replace m4 := (hb1.cells _ _ (by omega)).trans m4; replace m5 := (hb1.cells _ _ (by omega)).trans m5; replace mf0 := (hb1.frozens _ _ (by omega)).trans mf0; replace mf1 := (hb1.frozens _ _ (by omega)).trans mf1; replace mf2 := (hb1.frozens _ _ (by omega)).trans mf2; replace mf3 := (hb1.frozens _ _ (by omega)).trans mf3; replace mf4 := (hb1.frozens _ _ (by omega)).trans mf4; replace mf5 := (hb1.frozens _ _ (by omega)).trans mf5)
  have hS : StP (w.heap.size + 2) W1 A' c' [] := ⟨h1, h2, .inl rfl⟩
  refine bodyPost_ret (by simp [results, Tryz.results65, go_sem, allS, r0, m0, rf0, mf0, r1, m1, rf1, mf1, r2, m2, rf2, mf2, r3, m3, rf3, mf3, r4, m4, rf4, mf4, r5, m5, rf5, mf5]; try rfl) rfl ⟨none, 0, A', c', rfl, SpP.nil _ _, StP.low (StP.other hS (by simp) fun k o hk => ?_) (Nat.le_add_right _ _), ?_⟩
  · have n1 : ¬ w.heap.size = k := by omega
    have n2 : ¬ w.heap.size + 1 = k := by omega
    simp [go_sem, n1, n2]
  · (repeat (first | with_reducible exact Bel.refl _ | with_reducible refine Bel.setCell ?_ (by first | exact Nat.le_refl _ | (dsimp only; omega)) _ | with_reducible refine Bel.alloc ?_ _ | with_reducible refine Bel.drew ?_ | with_reducible assumption | with_reducible refine Bel.trans ?_ (by assumption)))
theorem sall_any (k : Int) (h1 : 1 ≤ k) (h4 : k ≤ 4) (w : World) : Calls Tryz.prog 65 #[.int .i64 k] w (SetOut w (allS k)) := by
  have : k = 1 ∨ k = 2 ∨ k = 3 ∨ k = 4 := by omega
  rcases this with rfl | rfl | rfl | rfl
  · exact all1_any w
  · exact all2_any w
  · exact all3_any w
  · exact all4_any w
end Go.Proofs.YtpmmbcobjibpeaaGreatDoor
