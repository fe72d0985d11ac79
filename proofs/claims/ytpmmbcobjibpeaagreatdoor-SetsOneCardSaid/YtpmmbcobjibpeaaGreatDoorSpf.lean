
import Derived.Test.YtpmmbcobjibpeaaGreatDoorSpe
namespace Go.Proofs.YtpmmbcobjibpeaaGreatDoor
set_option linter.unusedSimpArgs false
set_option linter.unusedVariables false
open Go.RowKit Go.Lib

/-! Spans: Near. -/
def clampS (s : Sp) (n : Int) : Int := min (max n s.1) s.2
/-- Is the one nearer than the other (or as near, and less)? -/
def nearer (n y b : Int) : Bool := decide (dist y n < dist b n) || (decide (dist y n = dist b n) && decide (y < b))
def nsel (n y : Int) : Option Int → Option Int
  | none => some y
  | some b => if nearer n y b then some y else some b
def nstep (n : Int) (acc : Option Int) (s : Sp) : Option Int := if s.2 < s.1 then acc else nsel n (clampS s n) acc
def nearOf (n : Int) (l : List Sp) : Option Int := l.foldl (nstep n) none
theorem nearOf_snoc (n : Int) (l : List Sp) (s : Sp) : nearOf n (l ++ [s]) = nstep n (nearOf n l) s := by simp [nearOf]
theorem clampS_in {s : Sp} {n : Int} (hs : Rng s) (hn : I64 n) : I64 (clampS s n) := by
  obtain ⟨h1, h2, h3, h4⟩ := hs
  obtain ⟨g1, g2⟩ := hn
  unfold clampS I64
  rw [Int.min_def, Int.max_def]
  split <;> split <;> omega
theorem nstep_in {n : Int} {acc : Option Int} {s : Sp} (ha : ∀ b, acc = some b → I64 b) (hs : Rng s) (hn : I64 n) : ∀ b, nstep n acc s = some b → I64 b := by
  intro b hb
  unfold nstep at hb
  split at hb
  · exact ha b hb
  · cases acc with
    | none => cases hb; exact clampS_in hs hn
    | some c =>
      simp only [nsel] at hb
      split at hb
      · cases hb; exact clampS_in hs hn
      · cases hb; exact ha _ rfl
set_option maxRecDepth 100000 in
set_option maxHeartbeats 4000000 in
theorem near_any (v : Value) (l : List Sp) (n : Int) (w : World) (h : SlS w v l) (hl : l.length ≤ 1000) (hr : ∀ s ∈ l, Rng s) (hn : I64 n) :
    Calls Tryz.prog 71 #[v, .int .i64 n] w fun e w' => e = .returned (.tuple #[.int .i64 ((nearOf n l).getD 0), .int .i64 (if (nearOf n l).isSome then 0 else 16)]) ∧ Bel w w' := by
  obtain ⟨A, c, rfl, hs, _, _⟩ := h
  have hli : (l.length : Int) ≤ 9223372036854775807 := by omega
  obtain ⟨N, hN⟩ : ∃ N, N = nearOf n l := ⟨_, rfl⟩
  rw [← hN]
  have HNr := Lib.hid hN
  clear hN
  have HR := Lib.hid hr
  have HN := Lib.hid hn
  clear hl hr hn
  go_enter Tryz.func71, Tryz.ntmps71
  go_wp2_with fail
  go_loopg [6, 7, 15] l.length (fun g bb ff i wr => ∃ (k : Nat) (acc : Option Int), bb = .int .i64 (acc.getD 0) ∧ ff = .bool acc.isSome ∧ i = .int .i64 k ∧ k ≤ l.length ∧ Hid (acc = nearOf n (l.take k) ∧ (∀ b, acc = some b → I64 b) ∧ g = l.length - k) ∧ Bel w wr)
  case atStart => exact ⟨0, none, rfl, rfl, rfl, Nat.zero_le _, ⟨rfl, (fun b h => nomatch h), rfl⟩, Bel.refl _⟩
  case round =>
    obtain ⟨k, acc, rfl, rfl, rfl, hk, hh, hb⟩ := hrel
    by_cases hp : k < l.length
    · obtain ⟨b, off, rfl, hlt, hat⟩ := hs (by omega)
      obtain ⟨s, hsk⟩ : ∃ s, l[k]? = some s := ⟨_, List.getElem?_eq_getElem hp⟩
      have ha := (hat k s hsk).keep hb hlt
      have hlg := Nat.lt_of_lt_of_le hlt hb.size
      have RS := Lib.hid (HR.out s (List.mem_of_getElem? hsk))
      have K := Lib.hid (show nearOf n (l.take (k + 1)) = nstep n acc s ∧ ∀ b, nstep n acc s = some b → I64 b from ⟨by rw [take_snoc hsk, nearOf_snoc, hh.out.1], nstep_in hh.out.2.1 RS.out HN.out⟩)
      have i1 : (k : Int) < l.length := by omega
      clear hs hat hsk
      obtain ⟨s1, s2⟩ := s
      obtain ⟨a0, a1⟩ := ha
      simp only at a0 a1
      by_cases hs : s2 < s1
      · have J := Lib.hid (show nstep n acc (s1, s2) = acc from if_pos hs)
        go_wp2_with fail
        go_roundg (l.length - (k + 1))
        case measure => have := hh.out.2.2; omega
        case rel =>
          refine ⟨k + 1, acc, rfl, rfl, by go_num, by omega, ⟨by rw [K.out.1, J.out], hh.out.2.1, rfl⟩, ?_⟩
          (repeat (first | with_reducible exact Bel.refl _ | with_reducible refine Bel.setCell ?_ (by first | exact Nat.le_refl _ | (dsimp only; omega)) _ | with_reducible refine Bel.alloc ?_ _ | with_reducible refine Bel.drew ?_ | with_reducible assumption | with_reducible refine Bel.trans ?_ (by assumption)))
      · have hy := clampS_in RS.out HN.out
        have ey : min (max n s1) s2 = clampS (s1, s2) n := rfl
        have D1 := Lib.hid (show ∀ w, Calls Tryz.prog 104 #[.int .i64 (clampS (s1, s2) n), .int .i64 n] w fun e w' => e = .returned (.int .u64 (dist (clampS (s1, s2) n) n)) ∧ Bel w w' from fun w => distance_any _ _ w hy HN.out)
        have NS := Lib.hid (show nstep n acc (s1, s2) = nsel n (clampS (s1, s2) n) acc from if_neg hs)
        generalize clampS (s1, s2) n = y at ey D1 NS hy
        cases acc with
        | none =>
          have J := Lib.hid (show nearOf n (l.take (k + 1)) = some y by rw [K.out.1, NS.out]; rfl)
          have D2 := Lib.hid (show ∀ w, Calls Tryz.prog 104 #[.int .i64 0, .int .i64 n] w fun e w' => e = .returned (.int .u64 (dist 0 n)) ∧ Bel w w' from fun w => distance_any _ _ w ⟨by omega, by omega⟩ HN.out)
          have Y := Lib.hid hy
          generalize dist y n = dy at D1
          generalize dist 0 n = d0 at D2
          clear hy
          simp only [Option.getD_none, Option.isSome_none]
          go_wp2_with (first
            | (go_at_call 104
               have _u := hb1
               with_reducible refine Calls.mono (D2.out _) ?_
               rintro e W2 ⟨rfl, hb2⟩)
            | (go_at_call 104
               with_reducible refine Calls.mono (D1.out _) ?_
               rintro e W1 ⟨rfl, hb1⟩))
          go_roundg (l.length - (k + 1))
          case measure => have := hh.out.2.2; omega
          case rel =>
            refine ⟨k + 1, some y, rfl, rfl, by go_num, by omega, ⟨J.out.symm, (fun b hb => by cases hb; exact Y.out), rfl⟩, ?_⟩
            exact (Bel.trans (hb.alloc _) hb1).trans hb2
        | some b => 
          have D2 := Lib.hid (show ∀ w, Calls Tryz.prog 104 #[.int .i64 b, .int .i64 n] w fun e w' => e = .returned (.int .u64 (dist b n)) ∧ Bel w w' from fun w => distance_any _ _ w (hh.out.2.1 b rfl) HN.out)
          have NB := Lib.hid (show ∀ q, nearer n y b = q → nearOf n (l.take (k + 1)) = if q then some y else some b from fun q hq => by rw [K.out.1, NS.out, nsel, hq])
          have NR := Lib.hid (show nearer n y b = (decide (dist y n < dist b n) || (decide (dist y n = dist b n) && decide (y < b))) from rfl)
          have Y := Lib.hid hy
          have B := Lib.hid (hh.out.2.1 b rfl)
          generalize dist y n = dy at D1 NR
          generalize dist b n = db at D2 NR
          clear hy
          simp only [Option.getD_some, Option.isSome_some]
          by_cases q1 : dy < db
          · have J := Lib.hid (NB.out true (by rw [NR.out, decide_eq_true q1]; rfl))
            go_wp2_with (first
              | (go_at_call 104
                 have _u := hb1
                 with_reducible refine Calls.mono (D2.out _) ?_
                 rintro e W2 ⟨rfl, hb2⟩)
              | (go_at_call 104
                 with_reducible refine Calls.mono (D1.out _) ?_
                 rintro e W1 ⟨rfl, hb1⟩))
            go_roundg (l.length - (k + 1))
            case measure => have := hh.out.2.2; omega
            case rel =>
              refine ⟨k + 1, some y, rfl, rfl, by go_num, by omega, ⟨J.out.symm, (fun b hb => by cases hb; exact Y.out), rfl⟩, ?_⟩
              exact (Bel.trans (hb.alloc _) hb1).trans hb2
          · by_cases q2 : dy = db
            · subst q2
              by_cases q3 : y < b
              · have J := Lib.hid (NB.out true (by rw [NR.out, decide_eq_true q3]; simp))
                go_wp2_with (first
                  | (go_at_call 104
                     have _u := hb1
                     with_reducible refine Calls.mono (D2.out _) ?_
                     rintro e W2 ⟨rfl, hb2⟩)
                  | (go_at_call 104
                     with_reducible refine Calls.mono (D1.out _) ?_
                     rintro e W1 ⟨rfl, hb1⟩))
                go_roundg (l.length - (k + 1))
                case measure => have := hh.out.2.2; omega
                case rel =>
                  refine ⟨k + 1, some y, rfl, rfl, by go_num, by omega, ⟨J.out.symm, (fun b hb => by cases hb; exact Y.out), rfl⟩, ?_⟩
                  exact (Bel.trans (hb.alloc _) hb1).trans hb2
              · have J := Lib.hid (NB.out false (by rw [NR.out, decide_eq_false q3]; simp))
                go_wp2_with (first
                  | (go_at_call 104
                     have _u := hb1
                     with_reducible refine Calls.mono (D2.out _) ?_
                     rintro e W2 ⟨rfl, hb2⟩)
                  | (go_at_call 104
                     with_reducible refine Calls.mono (D1.out _) ?_
                     rintro e W1 ⟨rfl, hb1⟩))
                go_roundg (l.length - (k + 1))
                case measure => have := hh.out.2.2; omega
                case rel =>
                  refine ⟨k + 1, some b, rfl, rfl, by go_num, by omega, ⟨J.out.symm, (fun b hb => by cases hb; exact B.out), rfl⟩, ?_⟩
                  exact (Bel.trans (hb.alloc _) hb1).trans hb2
            · have q4 : (dy == db) = false := by simp [q2]
              have J := Lib.hid (NB.out false (by rw [NR.out, decide_eq_false q1, decide_eq_false q2]; rfl))
              go_wp2_with (first
                | (go_at_call 104
                   have _u := hb1
                   with_reducible refine Calls.mono (D2.out _) ?_
                   rintro e W2 ⟨rfl, hb2⟩)
                | (go_at_call 104
                   with_reducible refine Calls.mono (D1.out _) ?_
                   rintro e W1 ⟨rfl, hb1⟩))
              go_roundg (l.length - (k + 1))
              case measure => have := hh.out.2.2; omega
              case rel =>
                refine ⟨k + 1, some b, rfl, rfl, by go_num, by omega, ⟨J.out.symm, (fun b hb => by cases hb; exact B.out), rfl⟩, ?_⟩
                exact (Bel.trans (hb.alloc _) hb1).trans hb2
    · obtain rfl : k = l.length := by omega
      have e := hh.out.1
      rw [List.take_length] at e
      have E := Lib.hid e.symm
      clear e
      cases acc with
      | none =>
        obtain rfl : N = none := HNr.out.trans E.out
        simp only [Option.getD_none, Option.isSome_none]
        go_wp2_with fail
        go_ret2
        exact ⟨rfl, hb⟩
      | some b =>
        obtain rfl : N = some b := HNr.out.trans E.out
        simp only [Option.getD_some, Option.isSome_some]
        go_wp2_with fail
        go_ret2
        exact ⟨rfl, hb⟩
end Go.Proofs.YtpmmbcobjibpeaaGreatDoor
