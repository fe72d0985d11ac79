
import Derived.Test.YtpmmbcobjibpeaaGreatDoorStc
namespace Go.Proofs.YtpmmbcobjibpeaaGreatDoor
set_option linter.unusedSimpArgs false
set_option linter.unusedVariables false
open Go.RowKit Go.Lib
attribute [local go_sem ↓] eql_val neq_val eql_tst neq_tst

/-! Types: Sound, in, In. -/
set_option maxRecDepth 100000 in
set_option maxHeartbeats 4000000 in
theorem tsound_any (k sc : Int) (any not : Bool) (l : List Tst) (A : Option Addr) (c : Nat) (w : World) (hs : Tsts w A l) (hl : l.length ≤ 9223372036854775807) (ht : ∀ t ∈ l, TOk t) :
    Calls Tryz.prog 10 #[tyv k sc any not (.slice A l.length c)] w fun e w' => e = .returned (.bool (tysnd k sc any not l)) ∧ Bel w w' := by
  have C1 := Lib.hid fun W => known_any k W
  have C2 := Lib.hid fun W (hW : Bel w W) => usound_any any not l A c W (hs.keep hW) hl ht
  have hT := Lib.hid (show tysnd k sc any not l = (knd k && usnd any not l && (decide (sc = 0) || (decide (k = 1) && decide (0 < sc) && decide (sc ≤ 6)))) from rfl)
  generalize tysnd k sc any not l = R at hT ⊢
  generalize usnd any not l = q2 at hT C2
  generalize knd k = q1 at hT C1
  clear hs hl ht
  cases q1 with
  | false =>
    obtain rfl : R = false := by have := hT.out; simpa using this
    clear hT C2
    go_enter Tryz.func10, Tryz.ntmps10
    go_wp2_with (go_at_call 29; refine (C1.out _).mono ?_; rintro e W1 ⟨rfl, hb1⟩; have hc1 := hb1.cells; have hz1 := hb1.lt1)
    go_ret
    refine ⟨rfl, ?_⟩
    (repeat (first | with_reducible exact Bel.refl _ | with_reducible refine Bel.setCell ?_ (by first | exact Nat.le_refl _ | (dsimp only; omega)) _ | with_reducible refine Bel.alloc ?_ _ | with_reducible refine Bel.drew ?_ | with_reducible assumption | with_reducible refine Bel.trans ?_ (by assumption)))
  | true =>
    cases q2 with
    | false =>
      obtain rfl : R = false := by have := hT.out; simpa using this
      clear hT
      go_enter Tryz.func10, Tryz.ntmps10
      go_wp2_with (first
        | (go_at_call 29; refine (C1.out _).mono ?_; rintro e W1 ⟨rfl, hb1⟩; have hc1 := hb1.cells; have hz1 := hb1.lt1; have hbX := ((Bel.refl w).alloc _).trans hb1)
        | (go_at_call 30; refine (C2.out _ hbX).mono ?_; rintro e W2 ⟨rfl, hb2⟩; have hc2 := hb2.cells; have hz2 := hb2.size; have hbY := hbX.trans hb2))
      go_ret
      exact ⟨rfl, hbY⟩
    | true =>
      have hT := Lib.hid (show R = (decide (sc = 0) || (decide (k = 1) && decide (0 < sc) && decide (sc ≤ 6))) from by have := hT.out; simpa using this)
      by_cases h0 : sc = 0
      · subst h0
        obtain rfl : R = true := by have := hT.out; simpa using this
        clear hT
        go_enter Tryz.func10, Tryz.ntmps10
        go_wp2_with (first
          | (go_at_call 29; refine (C1.out _).mono ?_; rintro e W1 ⟨rfl, hb1⟩; have hc1 := hb1.cells; have hz1 := hb1.lt1; have hbX := ((Bel.refl w).alloc _).trans hb1)
          | (go_at_call 30; refine (C2.out _ hbX).mono ?_; rintro e W2 ⟨rfl, hb2⟩; have hc2 := hb2.cells; have hz2 := hb2.size; have hbY := hbX.trans hb2))
        go_ret
        exact ⟨rfl, hbY⟩
      · have e0 : (sc == 0) = false := by simp [h0]
        by_cases h1 : k = 1
        · subst h1
          by_cases h2 : 0 < sc
          · obtain rfl : R = decide (sc ≤ 6) := by have := hT.out; simpa [h0, h2] using this
            clear hT
            go_enter Tryz.func10, Tryz.ntmps10
            go_wp2_with (first
              | (go_at_call 29; refine (C1.out _).mono ?_; rintro e W1 ⟨rfl, hb1⟩; have hc1 := hb1.cells; have hz1 := hb1.lt1; have hbX := ((Bel.refl w).alloc _).trans hb1)
              | (go_at_call 30; refine (C2.out _ hbX).mono ?_; rintro e W2 ⟨rfl, hb2⟩; have hc2 := hb2.cells; have hz2 := hb2.size; have hbY := hbX.trans hb2))
            go_ret
            exact ⟨rfl, hbY⟩
          · obtain rfl : R = false := by have := hT.out; simpa [h0, h2] using this
            clear hT
            go_enter Tryz.func10, Tryz.ntmps10
            go_wp2_with (first
              | (go_at_call 29; refine (C1.out _).mono ?_; rintro e W1 ⟨rfl, hb1⟩; have hc1 := hb1.cells; have hz1 := hb1.lt1; have hbX := ((Bel.refl w).alloc _).trans hb1)
              | (go_at_call 30; refine (C2.out _ hbX).mono ?_; rintro e W2 ⟨rfl, hb2⟩; have hc2 := hb2.cells; have hz2 := hb2.size; have hbY := hbX.trans hb2))
            go_ret
            exact ⟨rfl, hbY⟩
        · have e1 : (k == 1) = false := by simp [h1]
          obtain rfl : R = false := by have := hT.out; simpa [h0, h1] using this
          clear hT
          go_enter Tryz.func10, Tryz.ntmps10
          go_wp2_with (first
            | (go_at_call 29; refine (C1.out _).mono ?_; rintro e W1 ⟨rfl, hb1⟩; have hc1 := hb1.cells; have hz1 := hb1.lt1; have hbX := ((Bel.refl w).alloc _).trans hb1)
            | (go_at_call 30; refine (C2.out _ hbX).mono ?_; rintro e W2 ⟨rfl, hb2⟩; have hc2 := hb2.cells; have hz2 := hb2.size; have hbY := hbX.trans hb2))
          go_ret
          exact ⟨rfl, hbY⟩
def inN (k sc : Int) (any not : Bool) (l : List Tst) (v : Val) : Bool :=
  decide (v.kind = 0) || (vfit v k sc && !(decide (k = 1) && (decide ((unP sc v).1 < -999999999999) || decide (999999999999 < (unP sc v).1))) && mall any not l v)
set_option maxRecDepth 100000 in
set_option maxHeartbeats 8000000 in
theorem sin_any (k sc : Int) (any not : Bool) (l : List Tst) (A : Option Addr) (c : Nat) (v : Val) (w : World) (hs : Tsts w A l) (hl : l.length ≤ 9223372036854775807) (ht : ∀ t ∈ l, TOk t) (hu : usnd any not l = true) (hv : v.text.size ≤ 9223372036854775807) (hvs : vsnd v = true) :
    Calls Tryz.prog 32 #[tyv k sc any not (.slice A l.length c), v.val] w fun e w' => e = .returned (.bool (inN k sc any not l v)) ∧ Bel w w' := by
  have C1 := Lib.hid fun W => vfits_any v k sc hv W
  have C2 := Lib.hid fun W => unit_any k sc any not A l.length c v W
  have e3 : mallV any not l v = .tuple #[.bool (mall any not l v), .int .i64 0] := if_pos ⟨hu, hvs⟩
  have C3 := Lib.hid fun W (hW : Bel w W) => mAll_any any not l A c v W (hs.keep hW) hl ht hv
  rw [e3] at C3
  have hT := Lib.hid (show inN k sc any not l v = (decide (v.kind = 0) || (vfit v k sc && !(decide (k = 1) && (decide ((unP sc v).1 < -999999999999) || decide (999999999999 < (unP sc v).1))) && mall any not l v)) from rfl)
  generalize inN k sc any not l v = R at hT ⊢
  generalize mall any not l v = q3 at hT C3
  generalize vfit v k sc = q1 at hT C1
  generalize unP sc v = p at hT C2
  generalize hn : l.length = n at C2 C3 ⊢
  obtain ⟨p1, p2⟩ := p
  obtain ⟨v0, v1, v2, v3, v4⟩ := v
  simp only at hT C1 C2 C3
  clear hs hl ht hu hv hvs e3 hn
  by_cases h0 : v0 = 0
  · subst h0
    obtain rfl : R = true := by have := hT.out; simpa using this
    clear hT
    go_enter Tryz.func32, Tryz.ntmps32
    go_wp2_with fail
    go_ret
    refine ⟨rfl, ?_⟩
    (repeat (first | with_reducible exact Bel.refl _ | with_reducible refine Bel.setCell ?_ (by first | exact Nat.le_refl _ | (dsimp only; omega)) _ | with_reducible refine Bel.alloc ?_ _ | with_reducible refine Bel.drew ?_ | with_reducible assumption | with_reducible refine Bel.trans ?_ (by assumption)))
  · have e0 : (v0 == 0) = false := by simp [h0]
    have hT := Lib.hid (show R = (q1 && !(decide (k = 1) && (decide (p1 < -999999999999) || decide (999999999999 < p1))) && q3) from by have := hT.out; simpa [h0] using this)
    cases q1 with
    | false =>
      obtain rfl : R = false := by have := hT.out; simpa using this
      clear hT
      go_enter Tryz.func32, Tryz.ntmps32
      go_wp2_with (go_at_call 59; (with_reducible refine Calls.mono (C1.out _) ?_); rintro e W1 ⟨rfl, hb1⟩; have hc1 := hb1.cells; have hz1 := hb1.lt2)
      go_ret
      refine ⟨rfl, ?_⟩
      (repeat (first | with_reducible exact Bel.refl _ | with_reducible refine Bel.setCell ?_ (by first | exact Nat.le_refl _ | (dsimp only; omega)) _ | with_reducible refine Bel.alloc ?_ _ | with_reducible refine Bel.drew ?_ | with_reducible assumption | with_reducible refine Bel.trans ?_ (by assumption)))
    | true =>
      have hT := Lib.hid (hT.out.trans (by rw [Bool.true_and]))
      by_cases h1 : k = 1
      · subst h1
        by_cases h2 : p1 < -999999999999
        · obtain rfl : R = false := by have := hT.out; simpa [h2] using this
          clear hT
          go_enter Tryz.func32, Tryz.ntmps32
          go_wp2_with (first
            | (go_at_call 59; (with_reducible refine Calls.mono (C1.out _) ?_); rintro e W1 ⟨rfl, hb1⟩; have hc1 := hb1.cells; have hz1 := hb1.lt2; have hbX := (((Bel.refl w).alloc _).alloc _).trans hb1)
            | (go_at_call 50; (with_reducible refine Calls.mono (C2.out _) ?_); rintro e W2 ⟨rfl, hb2⟩; have hc2 := hb2.cells; have hz2 := hb2.size; have hbY := hbX.trans hb2))
          go_ret
          exact ⟨rfl, hbY⟩
        · by_cases h3 : 999999999999 < p1
          · obtain rfl : R = false := by have := hT.out; simpa [h2, h3] using this
            clear hT
            go_enter Tryz.func32, Tryz.ntmps32
            go_wp2_with (first
              | (go_at_call 59; (with_reducible refine Calls.mono (C1.out _) ?_); rintro e W1 ⟨rfl, hb1⟩; have hc1 := hb1.cells; have hz1 := hb1.lt2; have hbX := (((Bel.refl w).alloc _).alloc _).trans hb1)
              | (go_at_call 50; (with_reducible refine Calls.mono (C2.out _) ?_); rintro e W2 ⟨rfl, hb2⟩; have hc2 := hb2.cells; have hz2 := hb2.size; have hbY := hbX.trans hb2))
            go_ret
            exact ⟨rfl, hbY⟩
          · obtain rfl : R = q3 := by have := hT.out; simpa [h2, h3] using this
            clear hT
            cases R
            all_goals
              go_enter Tryz.func32, Tryz.ntmps32
              go_wp2_with (first
                | (go_at_call 59; (with_reducible refine Calls.mono (C1.out _) ?_); rintro e W1 ⟨rfl, hb1⟩; have hc1 := hb1.cells; have hz1 := hb1.lt2; have hbX := (((Bel.refl w).alloc _).alloc _).trans hb1)
                | (go_at_call 50; (with_reducible refine Calls.mono (C2.out _) ?_); rintro e W2 ⟨rfl, hb2⟩; have hc2 := hb2.cells; have hz2 := hb2.size; have hbY := hbX.trans hb2)
                | (go_at_call 60; (with_reducible refine Calls.mono (C3.out _ hbY) ?_); rintro e W3 ⟨rfl, hb3⟩; have hbZ := hbY.trans hb3))
              go_ret
              exact ⟨rfl, hbZ⟩
      · have e1 : (k == 1) = false := by simp [h1]
        obtain rfl : R = q3 := by have := hT.out; simpa [h1] using this
        clear hT
        cases R
        all_goals
          go_enter Tryz.func32, Tryz.ntmps32
          go_wp2_with (first
            | (go_at_call 59; (with_reducible refine Calls.mono (C1.out _) ?_); rintro e W1 ⟨rfl, hb1⟩; have hc1 := hb1.cells; have hz1 := hb1.lt2; have hbX := (((Bel.refl w).alloc _).alloc _).trans hb1)
            | (go_at_call 50; (with_reducible refine Calls.mono (C2.out _) ?_); rintro e W2 ⟨rfl, hb2⟩; have hc2 := hb2.cells; have hz2 := hb2.size; have hbY := hbX.trans hb2)
            | (go_at_call 60; (with_reducible refine Calls.mono (C3.out _ hbY) ?_); rintro e W3 ⟨rfl, hb3⟩; have hbZ := hbY.trans hb3))
          go_ret
          exact ⟨rfl, hbZ⟩
end Go.Proofs.YtpmmbcobjibpeaaGreatDoor
