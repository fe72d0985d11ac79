
import Derived.Test.YtpmmbcobjibpeaaGreatDoorSpa
import Derived.Test.YtpmmbcobjibpeaaGreatDoorUni
import Derived.Deep.LoopGhost
import Derived.Deep.OwnRows
import Derived.Deep.QuietTactic
import Derived.BigQuiet
import Derived.Deep.RegionHeld3
import Derived.Deep.CutBlock
import Derived.Deep.DeepCutAuto
import Derived.Laws.RangeAny
import Derived.Lib.OthersKept
import Derived.Lib.Hide
namespace Go.Proofs.YtpmmbcobjibpeaaGreatDoor
set_option linter.unusedSimpArgs false
set_option linter.unusedVariables false
open Go.ChangeShapes Go.WideShapes Go.ChangeAt Go.RowKit

/-! Spans: the functions that call no other one. -/
theorem Bel.drewN' {a b : World} (h : Bel a b) (n : Nat) : Bel a (b.drewN n) := Bel.trans h ⟨rfl, rfl, rfl, Nat.le_refl _, fun _ _ => rfl⟩
def seq (x y : Sp) : Bool := decide (x = y)
theorem ite2 {w : World} {p1 p2 : Prop} [Decidable p1] [Decidable p2] {b : Bool} (h : b = true ↔ p1 ∧ p2) :
    (if p1 then if p2 then Result.ok (Value.bool true) w else Result.ok (Value.bool false) w else Result.ok (Value.bool false) w) = Result.ok (Value.bool b) w := by
  cases b
  · simp only [Bool.false_eq_true, false_iff] at h
    repeat' split
    all_goals first | rfl | exact absurd ⟨‹_›, ‹_›⟩ h
  · have := h.1 rfl
    simp [this]
theorem eql_sp (a b a' b' : Int) (w : World) :
    (binOp .eql 61 (.agg #[.int .i64 a, .int .i64 b]) (.agg #[.int .i64 a', .int .i64 b'])).run Tryz.prog w = .ok (.bool (seq (a, b) (a', b'))) w := by
  go_simp
  exact ite2 (by simp [seq])
theorem neq_sp (a b a' b' : Int) (w : World) :
    (binOp .neq 61 (.agg #[.int .i64 a, .int .i64 b]) (.agg #[.int .i64 a', .int .i64 b'])).run Tryz.prog w = .ok (.bool (!seq (a, b) (a', b'))) w := by
  have h := eql_sp a b a' b' w
  rw [run_eql_struct] at h
  rw [run_neq_struct]
  generalize (Op.equalIn 10000 61 _ _).run Tryz.prog w = r at h ⊢
  cases r with
  | ok x w1 =>
    simp only [Result.andThen_ok, Result.ok.injEq, Value.bool.injEq] at h ⊢
    simp [h]
  | halt x w1 => simp [Result.andThen] at h
attribute [local go_sem ↓] eql_sp neq_sp
/-- A slice of spans that reads as a list. -/
def SlS (w : World) (v : Value) (l : List Sp) : Prop := ∃ A c, v = .slice A l.length c ∧ Sps w A l ∧ l.length ≤ c ∧ (A = none ∧ c = 0 ∨ ∃ b off, A = some ⟨b, off, none⟩ ∧ b < w.heap.size)
theorem SlS.keep {w w' : World} {v : Value} {l : List Sp} (h : SlS w v l) (hb : Bel w w') : SlS w' v l := by
  obtain ⟨A, c, e, hs, hc, hA⟩ := h
  refine ⟨A, c, e, hs.keep hb, hc, ?_⟩
  rcases hA with hA | ⟨b, off, e, hlt⟩
  · exact .inl hA
  · exact .inr ⟨b, off, e, Nat.lt_of_lt_of_le hlt hb.size⟩
theorem OwnS.sl {w : World} {B : Nat} {v : Value} {l : List Sp} (h : OwnS w B v l) : SlS w v l := by
  obtain ⟨A, c, e, hs, hA, hc⟩ := h.sps
  refine ⟨A, c, e, hs, hc, ?_⟩
  rcases h.2 with ⟨e1, e2⟩ | ⟨g, cap, cur, e1, _, hh, _⟩
  · rw [e] at e1
    simp only [Value.slice.injEq] at e1
    exact .inl ⟨e1.1, e1.2.2⟩
  · rw [e] at e1
    cases e1
    refine .inr ⟨g, 0, rfl, ?_⟩
    rcases Nat.lt_or_ge g w.heap.size with h | h
    · exact h
    · rw [Array.getElem?_eq_none h] at hh; cases hh
def touchB (t s : Sp) : Bool := decide (s.1 ≤ t.2 + 1)
theorem touch_any (t s : Sp) (w : World) (ht : Rng t) (hs : Rng s) :
    Calls Tryz.prog 78 #[spv t, spv s] w fun e w' => e = .returned (.bool (touchB t s)) ∧ Bel w w' := by
  obtain ⟨t1, t2⟩ := t
  obtain ⟨s1, s2⟩ := s
  obtain ⟨h1, h2, h3, h4⟩ := ht
  obtain ⟨g1, g2, g3, g4⟩ := hs
  simp only at h1 h2 h3 h4 g1 g2 g3 g4
  by_cases e1 : t2 = 9223372036854775807
  · have e2 : touchB (t1, t2) (s1, s2) = true := by simp [touchB]; omega
    rw [e2]
    subst e1
    go_enter Tryz.func78, Tryz.ntmps78
    go_wp2_with fail
    go_ret
    refine ⟨rfl, ?_⟩
    (repeat (first | with_reducible exact Bel.refl _ | with_reducible refine Bel.setCell ?_ (by first | exact Nat.le_refl _ | (dsimp only; omega)) _ | with_reducible refine Bel.alloc ?_ _ | with_reducible refine Bel.drew ?_ | with_reducible assumption | with_reducible refine Bel.trans ?_ (by assumption)))
  · have e3 : -9223372036854775808 ≤ t2 + 1 ∧ t2 + 1 ≤ 9223372036854775807 := by omega
    obtain ⟨e4, e5⟩ := e3
    have e7 : (t2 == 9223372036854775807) = false := by simp [e1]
    by_cases e6 : s1 ≤ t2 + 1
    · have e2 : touchB (t1, t2) (s1, s2) = true := by simp [touchB]; omega
      rw [e2]
      go_enter Tryz.func78, Tryz.ntmps78
      go_wp2_with fail
      go_ret
      refine ⟨rfl, ?_⟩
      (repeat (first | with_reducible exact Bel.refl _ | with_reducible refine Bel.setCell ?_ (by first | exact Nat.le_refl _ | (dsimp only; omega)) _ | with_reducible refine Bel.alloc ?_ _ | with_reducible refine Bel.drew ?_ | with_reducible assumption | with_reducible refine Bel.trans ?_ (by assumption)))
    · have e2 : touchB (t1, t2) (s1, s2) = false := by simp [touchB]; omega
      rw [e2]
      go_enter Tryz.func78, Tryz.ntmps78
      go_wp2_with fail
      go_ret
      refine ⟨rfl, ?_⟩
      (repeat (first | with_reducible exact Bel.refl _ | with_reducible refine Bel.setCell ?_ (by first | exact Nat.le_refl _ | (dsimp only; omega)) _ | with_reducible refine Bel.alloc ?_ _ | with_reducible refine Bel.drew ?_ | with_reducible assumption | with_reducible refine Bel.trans ?_ (by assumption)))
def dist (a b : Int) : Int := if a < b then b - a else a - b
theorem wrap_diff {a b : Int} (ha : -9223372036854775808 ≤ a ∧ a ≤ 9223372036854775807) (hb : -9223372036854775808 ≤ b ∧ b ≤ 9223372036854775807) (h : b ≤ a) : IntKind.u64.wrap (IntKind.u64.wrap a - IntKind.u64.wrap b) = a - b := by
  simp [IntKind.wrap, IntKind.bits, IntKind.signed]
  omega
def smemB (l : List Sp) (n : Int) : Bool := l.any fun s => decide (s.1 ≤ n) && decide (n ≤ s.2)
theorem smemB_iff (l : List Sp) (n : Int) : smemB l n = true ↔ SMem l n := by
  simp [smemB, SMem]
theorem smemB_snoc (l : List Sp) (s : Sp) (n : Int) : smemB (l ++ [s]) n = (smemB l n || (decide (s.1 ≤ n) && decide (n ≤ s.2))) := by simp [smemB]
theorem smemB_hit {l : List Sp} {s : Sp} {n : Int} (hs : s ∈ l) (h1 : s.1 ≤ n) (h2 : n ≤ s.2) : smemB l n = true := (smemB_iff ..).2 ⟨s, hs, h1, h2⟩
theorem SlS.row {w : World} {A : Option Addr} {l : List Sp} {n c : Nat} (h : SlS w (.slice A n c) l) : n = l.length ∧ Sps w A l := by
  obtain ⟨A', c', e, hs, _⟩ := h
  cases e
  exact ⟨rfl, hs⟩
theorem rspans_any (v : Value) (l : List Sp) (n : Int) (w : World) (h : SlS w v l) (hl : l.length ≤ 1000000) :
    Calls Tryz.prog 42 #[v, .int .i64 n] w fun e w' => e = .returned (.bool (smemB l n)) ∧ Bel w w' := by
  obtain ⟨A, c, rfl, hs, _, _⟩ := h
  have hli : (l.length : Int) ≤ 9223372036854775807 := by omega
  clear hl
  go_enter Tryz.func42, Tryz.ntmps42
  go_wp2_with fail
  go_loopg [5] l.length (fun g i wr => ∃ k : Nat, i = .int .i64 k ∧ k ≤ l.length ∧ Hid (smemB (l.take k) n = false ∧ g = l.length - k) ∧ Bel w wr)
  case atStart => exact ⟨0, rfl, Nat.zero_le _, ⟨rfl, rfl⟩, Bel.refl _⟩
  case round =>
    obtain ⟨k, rfl, hk, hh, hb⟩ := hrel
    by_cases hp : k < l.length
    · obtain ⟨b, off, rfl, hlt, hat⟩ := hs (by omega)
      obtain ⟨s, hsk⟩ : ∃ s, l[k]? = some s := ⟨_, List.getElem?_eq_getElem hp⟩
      have ha := (hat k s hsk).keep hb hlt
      have S := Lib.hid (And.intro (List.mem_of_getElem? hsk) (take_snoc hsk))
      obtain ⟨a0, a1⟩ := ha
      obtain ⟨s1, s2⟩ := s
      have i1 : (k : Int) < l.length := by omega
      clear hs hat hsk
      simp only at a0 a1
      by_cases c1 : s1 ≤ n
      · by_cases c2 : n ≤ s2
        · go_wp2_with fail
          go_ret
          rw [smemB_hit S.out.1 c1 c2]
          exact ⟨rfl, hb⟩
        · have R := Lib.hid (show smemB (l.take (k + 1)) n = false by rw [S.out.2, smemB_snoc, hh.out.1]; simp [c1, c2])
          go_wp2_with fail
          go_roundg (l.length - (k + 1))
          case measure => have := hh.out.2; omega
          case rel => exact ⟨k + 1, by go_num, by omega, ⟨R.out, rfl⟩, hb⟩
      · have R := Lib.hid (show smemB (l.take (k + 1)) n = false by rw [S.out.2, smemB_snoc, hh.out.1]; simp [c1])
        go_wp2_with fail
        go_roundg (l.length - (k + 1))
        case measure => have := hh.out.2; omega
        case rel => exact ⟨k + 1, by go_num, by omega, ⟨R.out, rfl⟩, hb⟩
    · obtain rfl : k = l.length := by omega
      go_wp2_with fail
      go_ret
      have e := hh.out.1
      rw [List.take_length] at e
      rw [e]
      exact ⟨rfl, hb⟩
set_option maxRecDepth 100000 in
set_option maxHeartbeats 4000000 in
theorem rordered_any (v : Value) (l : List Sp) (w : World) (h : SlS w v l) (hl : l.length ≤ 1000000) (ho : Ord l) (hr : ∀ s ∈ l, Rng s) :
    Calls Tryz.prog 38 #[v] w fun e w' => e = .returned (.bool true) ∧ Bel w w' := by
  obtain ⟨A, c, rfl, hs, _, _⟩ := h
  have hli : (l.length : Int) ≤ 9223372036854775807 := by omega
  have HO := Lib.hid (And.intro ho hr)
  clear hl ho hr
  go_enter Tryz.func38, Tryz.ntmps38
  go_wp2_with fail
  go_loopg [3] l.length (fun g i wr => ∃ k : Nat, i = .int .i64 k ∧ k ≤ l.length ∧ Hid (g = l.length - k) ∧ Bel w wr)
  case atStart => exact ⟨0, rfl, Nat.zero_le _, rfl, Bel.refl _⟩
  case round =>
    obtain ⟨k, rfl, hk, hh, hb⟩ := hrel
    by_cases hp : k < l.length
    · obtain ⟨b, off, rfl, hlt, hat⟩ := hs (by omega)
      obtain ⟨s, hsk⟩ : ∃ s, l[k]? = some s := ⟨_, List.getElem?_eq_getElem hp⟩
      have ha := (hat k s hsk).keep hb hlt
      have n1 : ¬ s.2 < s.1 := by have := HO.out.1.2 s (List.mem_of_getElem? hsk); omega
      have rs := HO.out.2 s (List.mem_of_getElem? hsk)
      obtain ⟨r1, r2, _, _⟩ := rs
      have i1 : (k : Int) < l.length := by omega
      have hl1 := Nat.lt_of_lt_of_le hlt hb.size
      cases k with
      | zero =>
        obtain ⟨a0, a1⟩ := ha
        obtain ⟨s1, s2⟩ := s
        clear hs hat hsk
        simp only [Nat.zero_mul, Nat.add_zero] at a0 a1 n1 r1 r2
        have z : (((0 : Nat)) : Int) = 0 := rfl
        rw [z]
        rw [z] at i1
        go_wp2_with fail
        have d1 : decide (s2 < s1) = false := decide_eq_false (by omega)
        refine wp_region_uni (S := (fun w' => Bel wr w' ∧ (∀ b o, b < wr.heap.size → w'.cell? ⟨b, o, none⟩ = wr.cell? ⟨b, o, none⟩))) (by kernel_rfl) (by kernel_rfl) keep0 ?_
        repeat (first | (refine wpUni_skip (by rfl) ?_; (try simp only [Act.put, List.setIfInBounds_toArray, List.set_cons_zero, List.set_cons_succ]))
                                                            | (refine wpUni_value (by rfl) (fun w hS => by (try dsimp only at hS); go_simp; first | done | with_reducible rfl) ?_; (try simp only [Act.put, List.setIfInBounds_toArray, List.set_cons_zero, List.set_cons_succ])))
        refine wpUni_nil fun W1 hS => ?_
        have hb1 := hb.trans hS.1
        clear hS
        go_wp2_with fail
        go_roundg (l.length - 1)
        case measure => have := hh.out; omega
        case rel => exact ⟨1, by go_num, by omega, rfl, hb1⟩
      | succ j =>
        obtain ⟨t, htk⟩ : ∃ t, l[j]? = some t := ⟨_, List.getElem?_eq_getElem (by omega)⟩
        have hb' := (hat j t htk).keep hb hlt
        have n2 := ord_next HO.out.1 htk hsk
        have n3 : ¬ s.1 ≤ t.2 := by omega
        have n4 : ¬ s.1 - 1 ≤ t.2 := by omega
        have rt := HO.out.2 t (List.mem_of_getElem? htk)
        have r3 : -9223372036854775808 ≤ s.1 - 1 := by obtain ⟨_, _, q, _⟩ := rt; omega
        have r4 : s.1 - 1 ≤ 9223372036854775807 := by omega
        obtain ⟨a0, a1⟩ := ha
        obtain ⟨b0, b1⟩ := hb'
        obtain ⟨s1, s2⟩ := s
        obtain ⟨t1, t2⟩ := t
        clear hs hat hsk htk n2 rt
        simp only at a0 a1 b0 b1 n1 n3 n4 r1 r2 r3 r4
        have z : ((j + 1 : Nat) : Int) = (j : Int) + 1 := by omega
        have i2 : (j : Int) + 1 < l.length := by omega
        have i3 : (j : Int) < l.length := by omega
        have i4 : (0 : Int) < (j : Int) + 1 := by omega
        rw [z]
        clear i1
        go_wp2_with fail
        have d1 : decide (s2 < s1) = false := decide_eq_false (by omega)
        have d2 : decide (s1 ≤ t2) = false := decide_eq_false (by omega)
        have d3 : decide (s1 - 1 ≤ t2) = false := decide_eq_false (by omega)
        have d4 : decide ((0 : Int) < (j : Int) + 1) = true := decide_eq_true (by omega)
        have d5 : (0 : Int) ≤ (j : Int) + 1 := by omega
        have d6 : ((j : Int) + 1).toNat = j + 1 := by omega
        have d8 : IntKind.i64.wrap (s1 - 1) = s1 - 1 := by simp [IntKind.wrap, IntKind.bits, IntKind.signed]; omega
        have d7 : IntKind.i64.wrap (j : Int) = j := by simp [IntKind.wrap, IntKind.bits, IntKind.signed]; omega
        refine wp_region_uni (S := (fun w' => Bel wr w' ∧ (∀ b o, b < wr.heap.size → w'.cell? ⟨b, o, none⟩ = wr.cell? ⟨b, o, none⟩))) (by kernel_rfl) (by kernel_rfl) keep0 ?_
        repeat (first | (refine wpUni_skip (by rfl) ?_; (try simp only [Act.put, List.setIfInBounds_toArray, List.set_cons_zero, List.set_cons_succ]))
                                                            | (refine wpUni_value (by rfl) (fun w hS => by (try dsimp only at hS); go_simp; first | done | with_reducible rfl) ?_; (try simp only [Act.put, List.setIfInBounds_toArray, List.set_cons_zero, List.set_cons_succ])))
        refine wpUni_nil fun W1 hS => ?_
        have hb1 := hb.trans hS.1
        clear hS
        go_wp2_with fail
        go_roundg (l.length - (j + 2))
        case measure => have := hh.out; omega
        case rel => exact ⟨j + 2, by go_num, by omega, rfl, hb1⟩
    · obtain rfl : k = l.length := by omega
      go_wp2_with fail
      go_ret
      exact ⟨rfl, hb⟩
end Go.Proofs.YtpmmbcobjibpeaaGreatDoor
