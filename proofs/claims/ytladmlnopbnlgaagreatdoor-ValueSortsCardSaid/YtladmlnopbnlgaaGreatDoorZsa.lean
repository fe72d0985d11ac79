import Derived.Test.YtladmlnopbnlgaaGreatDoorVal
import Derived.Test.YtladmlnopbnlgaaGreatDoorVza
namespace Go.Proofs.YtladmlnopbnlgaaGreatDoor
set_option linter.unusedSimpArgs false
set_option linter.unusedVariables false
open Go.RowKit
attribute [local go_sem ↓] eql_val neq_val

/-! Values: the document's Same; slices.Clip. -/
set_option maxRecDepth 100000 in
set_option maxHeartbeats 2000000 in
theorem rsame_any (xs ys : List Val) (A B : Option Addr) (c c' : Nat) (w : World) (hx : Vals w A xs) (hy : Vals w B ys) (hl : xs.length ≤ maxLen) (hl' : ys.length ≤ maxLen) :
    Calls Tryz.prog 7 #[.slice A xs.length c, .slice B ys.length c'] w fun e w' => e = .returned (.bool (decide (xs = ys))) ∧ Bel w w' := by
  unfold maxLen at hl hl'
  by_cases hn : xs.length = ys.length
  · rw [← hn]
    have hli : (xs.length : Int) ≤ 9223372036854775807 := by omega
    have HN := Lib.hid hn
    clear hn hl'
    go_enter Tryz.func7, Tryz.ntmps7
    go_wp2_with fail
    go_loopg [5] xs.length (fun g i wr => ∃ k : Nat, i = .int .i64 k ∧ k ≤ xs.length ∧ Hid (xs.take k = ys.take k ∧ g = xs.length - k) ∧ Bel w wr)
    case atStart => exact ⟨0, rfl, Nat.zero_le _, ⟨rfl, rfl⟩, Bel.refl _⟩
    case round =>
      obtain ⟨k, rfl, hk, hh, hb⟩ := hrel
      by_cases hp : k < xs.length
      · obtain ⟨b, off, rfl, hlt, hat⟩ := hx (by omega)
        obtain ⟨b', off', rfl, hlt', hat'⟩ := hy (by have := HN.out; omega)
        obtain ⟨u, huk⟩ : ∃ u, xs[k]? = some u := ⟨_, List.getElem?_eq_getElem hp⟩
        obtain ⟨v, hvk⟩ : ∃ v, ys[k]? = some v := ⟨_, List.getElem?_eq_getElem (by have := HN.out; omega)⟩
        have ha := (hat k u huk).keep hb hlt
        have ha' := (hat' k v hvk).keep hb hlt'
        have e1 : xs.take (k + 1) = xs.take k ++ [u] := by rw [List.take_add_one, huk]; rfl
        have e2 : ys.take (k + 1) = ys.take k ++ [v] := by rw [List.take_add_one, hvk]; rfl
        obtain ⟨q, hq⟩ : ∃ q, q = veq u v := ⟨_, rfl⟩
        have HQ := Lib.hid (show q = veq u v ∧ xs[k]? = some u ∧ ys[k]? = some v ∧ xs.take (k + 1) = xs.take k ++ [u] ∧ ys.take (k + 1) = ys.take k ++ [v] from ⟨hq, huk, hvk, e1, e2⟩)
        obtain ⟨k0, n0, s0, t0, m0⟩ := u
        obtain ⟨k1, n1, s1, t1, m1⟩ := v
        obtain ⟨a0, a1, a2, a3, a4⟩ := ha
        obtain ⟨b0, b1, b2, b3, b4⟩ := ha'
        have i1 : (k : Int) < xs.length := by omega
        clear hx hy hat hat' huk hvk e1 e2
        cases q with
        | true =>
          have R := Lib.hid (show xs.take (k + 1) = ys.take (k + 1) by
            obtain ⟨g1, g2, g3, g4, g5⟩ := HQ.out
            rw [g4, g5, hh.out.1, (veq_iff _ _).1 g1.symm])
          rw [eq_comm] at hq
          go_wp2_with fail
          go_quiet (fail)
          go_wp2_with fail
          go_roundg (xs.length - (k + 1))
          case measure => have := hh.out.2; omega
          case rel => exact ⟨k + 1, by go_num, by omega, ⟨R.out, rfl⟩, hb.drewN _⟩
        | false =>
          have R := Lib.hid (show decide (xs = ys) = false by
            obtain ⟨g1, g2, g3, g4, g5⟩ := HQ.out
            refine decide_eq_false fun e => ?_
            subst e
            have h2 := g2.symm.trans g3
            have h3 := (veq_iff _ _).2 (Option.some.inj h2)
            rw [h3] at g1
            cases g1)
          rw [eq_comm] at hq
          go_wp2_with fail
          go_quiet (fail)
          go_wp2_with fail
          go_ret
          exact ⟨by (rw [R.out]) <;> rfl, hb.drewN _⟩
      · have R := Lib.hid (show decide (xs = ys) = true by
          refine decide_eq_true ?_
          have h := hh.out.1
          rw [List.take_of_length_le (by omega), List.take_of_length_le (by have := HN.out; omega)] at h
          exact h)
        go_wp2_with fail
        go_ret
        exact ⟨by (rw [R.out]) <;> rfl, hb⟩
  · have R := Lib.hid (show decide (xs = ys) = false from decide_eq_false fun e => hn (by rw [e]))
    have i1 : ¬ (xs.length : Int) = ys.length := by omega
    clear hx hy
    go_enter Tryz.func7, Tryz.ntmps7
    go_wp2_with fail
    go_ret
    exact ⟨by (rw [R.out]) <;> rfl, Bel.refl _⟩
theorem clip_any (A : Option Addr) (n c : Nat) (hnc : n ≤ c) (hc : c ≤ maxLen) (w : World) (ha : A = none → n = 0) :
    Calls Tryz.prog 12 #[.slice A n c] w fun e w' => e = .returned (.slice A n n) ∧ Bel w w' := by
  unfold maxLen at hc
  have hci : (n : Int) ≤ c := by omega
  have hc2 : (c : Int) ≤ 9223372036854775807 := by omega
  go_enter Tryz.func12, Tryz.ntmps12
  go_wp2_with fail
  go_ret
  exact ⟨rfl, Bel.refl _⟩
end Go.Proofs.YtladmlnopbnlgaaGreatDoor
