import Derived.Test.YtdimpjahmdoolaaSpf
namespace Go.Proofs.Ytdimpjahmdoolaa
set_option linter.unusedSimpArgs false
set_option linter.unusedVariables false
open Go.RowKit Go.Lib
attribute [local go_sem ↓] eql_sp neq_sp

/-! Spans: the simplest facts; the law Near. -/
theorem awake_list {r : List Sp} (ho : Ord r) (hm : ∀ n, SMem r n ↔ SMem [(3, 5), (1, 2), (9, 9)] n) : r = [(1, 5), (9, 9)] := by
  refine ord_unique ho ⟨by simp, by simp⟩ fun n => (hm n).trans ?_
  simp only [smem_cons]
  constructor
  · rintro (h | h | h | h)
    · exact .inl ⟨by omega, by omega⟩
    · exact .inl ⟨by omega, by omega⟩
    · exact .inr (.inl h)
    · exact absurd h (smem_nil n)
  · rintro (h | h | h)
    · by_cases c : 3 ≤ n
      · exact .inl ⟨c, h.2⟩
      · exact .inr (.inl ⟨h.1, by omega⟩)
    · exact .inr (.inr (.inl h))
    · exact absurd h (smem_nil n)
set_option maxRecDepth 100000 in
set_option maxHeartbeats 2000000 in
theorem awake_any (w : World) : Calls Try.prog 10 #[] w fun e w' => e = .returned (.bool true) ∧ Bel w w' := by
  have hs0 : ∀ W : World, SlS (W.alloc (.cells #[.int .i64 3, .int .i64 5, .int .i64 1, .int .i64 2, .int .i64 9, .int .i64 9] 37)) (.slice (some ⟨W.heap.size, 0, none⟩) 3 3) [(3, 5), (1, 2), (9, 9)] := fun W => by
    refine ⟨some ⟨W.heap.size, 0, none⟩, 3, rfl, fun _ => ⟨_, 0, rfl, by simp, fun i s hs => ?_⟩, by simp, .inr ⟨_, 0, rfl, by simp⟩⟩
    match i, hs with
    | 0, hs => simp only [List.getElem?_cons_zero, Option.some.injEq] at hs; subst hs; simp [SpAt, go_sem]
    | 1, hs => simp only [List.getElem?_cons_succ, List.getElem?_cons_zero, Option.some.injEq] at hs; subst hs; simp [SpAt, go_sem]
    | 2, hs => simp only [List.getElem?_cons_succ, List.getElem?_cons_zero, Option.some.injEq] at hs; subst hs; simp [SpAt, go_sem]
  have J := Lib.hid (show ∀ W : World, Calls Try.prog 9 #[.slice (some ⟨W.heap.size, 0, none⟩) 3 3] (W.alloc (.cells #[.int .i64 3, .int .i64 5, .int .i64 1, .int .i64 2, .int .i64 9, .int .i64 9] 37)) (fun e w' => ∃ g cap, e = .returned (.slice (some ⟨g, 0, none⟩) 2 cap) ∧ SlS w' (.slice (some ⟨g, 0, none⟩) 2 cap) [(1, 5), (9, 9)] ∧ g < w'.heap.size ∧ Bel W w') from fun W => by
    refine (join_any _ _ _ (hs0 W) (by simp) (by intro s hs; simp at hs; rcases hs with rfl | rfl | rfl <;> (unfold Rng; simp))).mono ?_
    rintro e w' ⟨v, r, rfl, ho, h1, h2, ⟨h3, _⟩, hb⟩
    obtain rfl := awake_list h1 h3
    obtain ⟨g, cap, rfl, _, hg⟩ := ho.nonempty (by simp)
    exact ⟨g, cap, rfl, ho.sl, hg, ((Bel.refl W).alloc _).trans hb⟩)
  have N := Lib.hid (show ∀ (W : World) v, SlS W v [(1, 5), (9, 9)] → Calls Try.prog 17 #[v, .int .i64 7] W (fun e w' => e = .returned (.tuple #[.int .i64 5, .int .i64 0]) ∧ Bel W w') from fun W v h => by
    have k := near_any v [(1, 5), (9, 9)] 7 W h (by simp) (by intro s hs; simp at hs; rcases hs with rfl | rfl <;> (unfold Rng; simp)) (by unfold I64; omega)
    rw [show nearOf 7 [(1, 5), (9, 9)] = some 5 by decide +kernel] at k
    exact k)
  have H := Lib.hid (show ∀ (W : World) v (n : Int) q, smemB [(1, 5), (9, 9)] n = q → SlS W v [(1, 5), (9, 9)] → Calls Try.prog 14 #[v, .int .i64 n] W (fun e w' => e = .returned (.bool q) ∧ Bel W w') from fun W v n q hq h => by
    have k := has_any v [(1, 5), (9, 9)] n W h (by simp)
    rwa [hq] at k)
  clear hs0
  go_enter Try.func10, Try.ntmps10
  go_wp2_with (first
    | (go_at_call 9
       refine (J.out _).mono ?_
       rintro e W1 ⟨g, cap, rfl, hv, hg, hb1⟩
       have HV := Lib.hid hv
       clear hv)
    | (go_at_call 17
       refine (N.out _ _ HV.out).mono ?_
       rintro e W2 ⟨rfl, hb2⟩
       have HV2 := Lib.hid (HV.out.keep hb2)
       have hat : SpAt W2 g 0 (1, 5) := by
         obtain ⟨A, c, e, hs, _⟩ := HV2.out
         cases e
         obtain ⟨b, off, e, _, h⟩ := hs (by simp)
         cases e
         exact h 0 (1, 5) rfl
       obtain ⟨a0, a1⟩ := hat)
    | (go_at_call 14
       with_reducible refine Calls.mono (H.out _ _ 9 true (by decide +kernel) HV2.out) ?_
       rintro e W3 ⟨rfl, hb3⟩)
    | (go_at_call 14
       with_reducible refine Calls.mono (H.out _ _ 8 false (by decide +kernel) (HV2.out.keep hb3)) ?_
       rintro e W4 ⟨rfl, hb4⟩))
  go_ret
  exact ⟨rfl, ((hb1.trans hb2).trans hb3).trans hb4⟩
set_option maxRecDepth 100000 in
set_option maxHeartbeats 8000000 in
theorem law_Near (v : Value) (l : List Sp) (n : Int) (w : World) (h : SlS w v l) (hr : ∀ s ∈ l, Rng s) (hn : I64 n) :
    Calls Try.prog 6 #[v, .int .i64 n] w fun e w' => e = .returned (.bool true) ∧ Bel w w' := by
  have FW := Lib.hid (few_any v l w h)
  have hul : (l.take 100).length ≤ 100 := by rw [List.length_take]; omega
  have hr' : ∀ s ∈ l.take 100, Rng s := fun s hs => hr s (List.mem_of_mem_take hs)
  generalize l.take 100 = u at FW hul hr'
  have HR := Lib.hid hr'
  have HN := Lib.hid hn
  have NE := Lib.hid (show ∀ W v', SlS W v' u → Calls Try.prog 17 #[v', .int .i64 n] W _ from fun W v' h => near_any v' u n W h (by omega) hr' hn)
  have hli : (u.length : Int) ≤ 9223372036854775807 := by omega
  obtain ⟨N, hN⟩ : ∃ N, N = nearOf n u := ⟨_, rfl⟩
  rw [← hN] at NE
  obtain ⟨er, hE⟩ : ∃ er : Int, er = if N.isSome then 0 else 16 := ⟨_, rfl⟩
  rw [← hE] at NE
  have HE := Lib.hid hE
  have HNr := Lib.hid hN
  clear hN hr hr' hn h hul hE
  go_enter Try.func6, Try.ntmps6
  go_wp2_with (first
    | (go_at_call 8
       refine FW.out.mono ?_
       rintro e W1 ⟨v', rfl, hv', hb1⟩
       have HV := Lib.hid hv'
       clear hv')
    | (go_at_call 17
       refine (NE.out _ _ HV.out).mono ?_
       rintro e W2 ⟨rfl, hb2⟩
       obtain ⟨A, c, rfl, hs, hc, _⟩ := HV.out.keep hb2))
  go_loopg [7, 8, 9] u.length (fun g ff bb i wr => ∃ (k : Nat) (acc : Option Int), bb = .int .i64 (acc.getD 0) ∧ ff = .bool acc.isSome ∧ i = .int .i64 k ∧ k ≤ u.length ∧ Hid (acc = nearOf n (u.take k) ∧ (∀ b, acc = some b → I64 b) ∧ g = u.length - k) ∧ Bel W2 wr)
  case atStart => exact ⟨0, none, rfl, rfl, rfl, Nat.zero_le _, ⟨rfl, (fun b h => nomatch h), rfl⟩, Bel.refl _⟩
  case round =>
    obtain ⟨k, acc, rfl, rfl, rfl, hk, hh, hb⟩ := hrel
    by_cases hp : k < u.length
    · obtain ⟨b, off, rfl, hlt, hat⟩ := hs (by omega)
      obtain ⟨s, hsk⟩ : ∃ s, u[k]? = some s := ⟨_, List.getElem?_eq_getElem hp⟩
      have ha := (hat k s hsk).keep hb hlt
      have hlg := Nat.lt_of_lt_of_le hlt hb.size
      have RS := Lib.hid (HR.out s (List.mem_of_getElem? hsk))
      have K := Lib.hid (show nearOf n (u.take (k + 1)) = nstep n acc s ∧ ∀ b, nstep n acc s = some b → I64 b from ⟨by rw [take_snoc hsk, nearOf_snoc, hh.out.1], nstep_in hh.out.2.1 RS.out HN.out⟩)
      have i1 : (k : Int) < u.length := by omega
      clear hs hat hsk
      obtain ⟨s1, s2⟩ := s
      obtain ⟨a0, a1⟩ := ha
      simp only at a0 a1
      by_cases hs : s2 < s1
      · have J := Lib.hid (show nstep n acc (s1, s2) = acc from if_pos hs)
        go_wp2_with fail
        go_roundg (u.length - (k + 1))
        case measure => have := hh.out.2.2; omega
        case rel =>
          refine ⟨k + 1, acc, rfl, rfl, by go_num, by omega, ⟨by rw [K.out.1, J.out], hh.out.2.1, rfl⟩, ?_⟩
          (repeat (first | with_reducible exact Bel.refl _ | with_reducible refine Bel.setCell ?_ (by first | exact Nat.le_refl _ | (dsimp only; omega)) _ | with_reducible refine Bel.alloc ?_ _ | with_reducible refine Bel.drew ?_ | with_reducible assumption | with_reducible refine Bel.trans ?_ (by assumption)))
      · have hs' : s1 ≤ s2 := by omega
        have NS := Lib.hid (show nstep n acc (s1, s2) = nsel n (clampS (s1, s2) n) acc from if_neg hs)
        have YI := Lib.hid (clampS_in RS.out HN.out)
        by_cases y1 : n < s1
        · have ey : clampS (s1, s2) n = s1 := by unfold clampS; simp only; omega
          have y2 : ¬ s2 < s1 := hs
          rw [ey] at NS YI
          cases acc with
          | none =>
            have J := Lib.hid (show nearOf n (u.take (k + 1)) = some s1 by rw [K.out.1, NS.out]; rfl)
            simp only [Option.getD_none, Option.isSome_none]
            clear ey
            go_wp2_with fail
            go_roundg (u.length - (k + 1))
            case measure => have := hh.out.2.2; omega
            case rel =>
              refine ⟨k + 1, some s1, rfl, rfl, by go_num, by omega, ⟨J.out.symm, (fun b hb => by cases hb; exact YI.out), rfl⟩, ?_⟩
              (repeat (first | with_reducible exact Bel.refl _ | with_reducible refine Bel.setCell ?_ (by first | exact Nat.le_refl _ | (dsimp only; omega)) _ | with_reducible refine Bel.alloc ?_ _ | with_reducible refine Bel.drew ?_ | with_reducible assumption | with_reducible refine Bel.trans ?_ (by assumption)))
          | some b =>
            have D1 := Lib.hid (show ∀ w, Calls Try.prog 18 #[.int .i64 s1, .int .i64 n] w fun e w' => e = .returned (.int .u64 (dist s1 n)) ∧ Bel w w' from fun w => far_any _ _ w YI.out HN.out)
            have D2 := Lib.hid (show ∀ w, Calls Try.prog 18 #[.int .i64 b, .int .i64 n] w fun e w' => e = .returned (.int .u64 (dist b n)) ∧ Bel w w' from fun w => far_any _ _ w (hh.out.2.1 b rfl) HN.out)
            have NB := Lib.hid (show ∀ q, nearer n s1 b = q → nearOf n (u.take (k + 1)) = if q then some s1 else some b from fun q hq => by rw [K.out.1, NS.out, nsel, hq])
            have NR := Lib.hid (show nearer n s1 b = (decide (dist s1 n < dist b n) || (decide (dist s1 n = dist b n) && decide (s1 < b))) from rfl)
            have B := Lib.hid (hh.out.2.1 b rfl)
            generalize dist s1 n = dy at D1 NR
            generalize dist b n = db at D2 NR
            clear ey
            simp only [Option.getD_some, Option.isSome_some]
            by_cases q1 : dy < db
            · have J := Lib.hid (NB.out true (by rw [NR.out, decide_eq_true q1]; rfl))
              go_wp2_with (first
                | (go_at_call 18
                   with_reducible refine Calls.mono (D2.out _) ?_
                   rintro e W4 ⟨rfl, hb4⟩)
                | (go_at_call 18
                   with_reducible refine Calls.mono (D1.out _) ?_
                   rintro e W3 ⟨rfl, hb3⟩))
              go_roundg (u.length - (k + 1))
              case measure => have := hh.out.2.2; omega
              case rel =>
                refine ⟨k + 1, some s1, rfl, rfl, by go_num, by omega, ⟨J.out.symm, (fun b hb => by cases hb; exact YI.out), rfl⟩, ?_⟩
                (repeat (first | with_reducible exact Bel.refl _ | with_reducible refine Bel.setCell ?_ (by first | exact Nat.le_refl _ | (dsimp only; omega)) _ | with_reducible refine Bel.alloc ?_ _ | with_reducible refine Bel.drew ?_ | with_reducible assumption | with_reducible refine Bel.trans ?_ (by assumption)))
            · by_cases q2 : dy = db
              · subst q2
                by_cases q3 : s1 < b
                · have J := Lib.hid (NB.out true (by rw [NR.out, decide_eq_true q3]; simp))
                  go_wp2_with (first
                    | (go_at_call 18
                       with_reducible refine Calls.mono (D2.out _) ?_
                       rintro e W4 ⟨rfl, hb4⟩)
                    | (go_at_call 18
                       with_reducible refine Calls.mono (D1.out _) ?_
                       rintro e W3 ⟨rfl, hb3⟩))
                  go_roundg (u.length - (k + 1))
                  case measure => have := hh.out.2.2; omega
                  case rel =>
                    refine ⟨k + 1, some s1, rfl, rfl, by go_num, by omega, ⟨J.out.symm, (fun b hb => by cases hb; exact YI.out), rfl⟩, ?_⟩
                    (repeat (first | with_reducible exact Bel.refl _ | with_reducible refine Bel.setCell ?_ (by first | exact Nat.le_refl _ | (dsimp only; omega)) _ | with_reducible refine Bel.alloc ?_ _ | with_reducible refine Bel.drew ?_ | with_reducible assumption | with_reducible refine Bel.trans ?_ (by assumption)))
                · have J := Lib.hid (NB.out false (by rw [NR.out, decide_eq_false q3]; simp))
                  go_wp2_with (first
                    | (go_at_call 18
                       with_reducible refine Calls.mono (D2.out _) ?_
                       rintro e W4 ⟨rfl, hb4⟩)
                    | (go_at_call 18
                       with_reducible refine Calls.mono (D1.out _) ?_
                       rintro e W3 ⟨rfl, hb3⟩))
                  go_roundg (u.length - (k + 1))
                  case measure => have := hh.out.2.2; omega
                  case rel =>
                    refine ⟨k + 1, some b, rfl, rfl, by go_num, by omega, ⟨J.out.symm, (fun b hb => by cases hb; exact B.out), rfl⟩, ?_⟩
                    (repeat (first | with_reducible exact Bel.refl _ | with_reducible refine Bel.setCell ?_ (by first | exact Nat.le_refl _ | (dsimp only; omega)) _ | with_reducible refine Bel.alloc ?_ _ | with_reducible refine Bel.drew ?_ | with_reducible assumption | with_reducible refine Bel.trans ?_ (by assumption)))
              · have q4 : (dy == db) = false := by simp [q2]
                have J := Lib.hid (NB.out false (by rw [NR.out, decide_eq_false q1, decide_eq_false q2]; rfl))
                go_wp2_with (first
                  | (go_at_call 18
                     with_reducible refine Calls.mono (D2.out _) ?_
                     rintro e W4 ⟨rfl, hb4⟩)
                  | (go_at_call 18
                     with_reducible refine Calls.mono (D1.out _) ?_
                     rintro e W3 ⟨rfl, hb3⟩))
                go_roundg (u.length - (k + 1))
                case measure => have := hh.out.2.2; omega
                case rel =>
                  refine ⟨k + 1, some b, rfl, rfl, by go_num, by omega, ⟨J.out.symm, (fun b hb => by cases hb; exact B.out), rfl⟩, ?_⟩
                  (repeat (first | with_reducible exact Bel.refl _ | with_reducible refine Bel.setCell ?_ (by first | exact Nat.le_refl _ | (dsimp only; omega)) _ | with_reducible refine Bel.alloc ?_ _ | with_reducible refine Bel.drew ?_ | with_reducible assumption | with_reducible refine Bel.trans ?_ (by assumption)))
        · by_cases y2 : s2 < n
          · have ey : clampS (s1, s2) n = s2 := by unfold clampS; simp only; omega
            rw [ey] at NS YI
            cases acc with
            | none =>
              have J := Lib.hid (show nearOf n (u.take (k + 1)) = some s2 by rw [K.out.1, NS.out]; rfl)
              simp only [Option.getD_none, Option.isSome_none]
              clear ey
              go_wp2_with fail
              go_roundg (u.length - (k + 1))
              case measure => have := hh.out.2.2; omega
              case rel =>
                refine ⟨k + 1, some s2, rfl, rfl, by go_num, by omega, ⟨J.out.symm, (fun b hb => by cases hb; exact YI.out), rfl⟩, ?_⟩
                (repeat (first | with_reducible exact Bel.refl _ | with_reducible refine Bel.setCell ?_ (by first | exact Nat.le_refl _ | (dsimp only; omega)) _ | with_reducible refine Bel.alloc ?_ _ | with_reducible refine Bel.drew ?_ | with_reducible assumption | with_reducible refine Bel.trans ?_ (by assumption)))
            | some b =>
              have D1 := Lib.hid (show ∀ w, Calls Try.prog 18 #[.int .i64 s2, .int .i64 n] w fun e w' => e = .returned (.int .u64 (dist s2 n)) ∧ Bel w w' from fun w => far_any _ _ w YI.out HN.out)
              have D2 := Lib.hid (show ∀ w, Calls Try.prog 18 #[.int .i64 b, .int .i64 n] w fun e w' => e = .returned (.int .u64 (dist b n)) ∧ Bel w w' from fun w => far_any _ _ w (hh.out.2.1 b rfl) HN.out)
              have NB := Lib.hid (show ∀ q, nearer n s2 b = q → nearOf n (u.take (k + 1)) = if q then some s2 else some b from fun q hq => by rw [K.out.1, NS.out, nsel, hq])
              have NR := Lib.hid (show nearer n s2 b = (decide (dist s2 n < dist b n) || (decide (dist s2 n = dist b n) && decide (s2 < b))) from rfl)
              have B := Lib.hid (hh.out.2.1 b rfl)
              generalize dist s2 n = dy at D1 NR
              generalize dist b n = db at D2 NR
              clear ey
              simp only [Option.getD_some, Option.isSome_some]
              by_cases q1 : dy < db
              · have J := Lib.hid (NB.out true (by rw [NR.out, decide_eq_true q1]; rfl))
                go_wp2_with (first
                  | (go_at_call 18
                     with_reducible refine Calls.mono (D2.out _) ?_
                     rintro e W4 ⟨rfl, hb4⟩)
                  | (go_at_call 18
                     with_reducible refine Calls.mono (D1.out _) ?_
                     rintro e W3 ⟨rfl, hb3⟩))
                go_roundg (u.length - (k + 1))
                case measure => have := hh.out.2.2; omega
                case rel =>
                  refine ⟨k + 1, some s2, rfl, rfl, by go_num, by omega, ⟨J.out.symm, (fun b hb => by cases hb; exact YI.out), rfl⟩, ?_⟩
                  (repeat (first | with_reducible exact Bel.refl _ | with_reducible refine Bel.setCell ?_ (by first | exact Nat.le_refl _ | (dsimp only; omega)) _ | with_reducible refine Bel.alloc ?_ _ | with_reducible refine Bel.drew ?_ | with_reducible assumption | with_reducible refine Bel.trans ?_ (by assumption)))
              · by_cases q2 : dy = db
                · subst q2
                  by_cases q3 : s2 < b
                  · have J := Lib.hid (NB.out true (by rw [NR.out, decide_eq_true q3]; simp))
                    go_wp2_with (first
                      | (go_at_call 18
                         with_reducible refine Calls.mono (D2.out _) ?_
                         rintro e W4 ⟨rfl, hb4⟩)
                      | (go_at_call 18
                         with_reducible refine Calls.mono (D1.out _) ?_
                         rintro e W3 ⟨rfl, hb3⟩))
                    go_roundg (u.length - (k + 1))
                    case measure => have := hh.out.2.2; omega
                    case rel =>
                      refine ⟨k + 1, some s2, rfl, rfl, by go_num, by omega, ⟨J.out.symm, (fun b hb => by cases hb; exact YI.out), rfl⟩, ?_⟩
                      (repeat (first | with_reducible exact Bel.refl _ | with_reducible refine Bel.setCell ?_ (by first | exact Nat.le_refl _ | (dsimp only; omega)) _ | with_reducible refine Bel.alloc ?_ _ | with_reducible refine Bel.drew ?_ | with_reducible assumption | with_reducible refine Bel.trans ?_ (by assumption)))
                  · have J := Lib.hid (NB.out false (by rw [NR.out, decide_eq_false q3]; simp))
                    go_wp2_with (first
                      | (go_at_call 18
                         with_reducible refine Calls.mono (D2.out _) ?_
                         rintro e W4 ⟨rfl, hb4⟩)
                      | (go_at_call 18
                         with_reducible refine Calls.mono (D1.out _) ?_
                         rintro e W3 ⟨rfl, hb3⟩))
                    go_roundg (u.length - (k + 1))
                    case measure => have := hh.out.2.2; omega
                    case rel =>
                      refine ⟨k + 1, some b, rfl, rfl, by go_num, by omega, ⟨J.out.symm, (fun b hb => by cases hb; exact B.out), rfl⟩, ?_⟩
                      (repeat (first | with_reducible exact Bel.refl _ | with_reducible refine Bel.setCell ?_ (by first | exact Nat.le_refl _ | (dsimp only; omega)) _ | with_reducible refine Bel.alloc ?_ _ | with_reducible refine Bel.drew ?_ | with_reducible assumption | with_reducible refine Bel.trans ?_ (by assumption)))
                · have q4 : (dy == db) = false := by simp [q2]
                  have J := Lib.hid (NB.out false (by rw [NR.out, decide_eq_false q1, decide_eq_false q2]; rfl))
                  go_wp2_with (first
                    | (go_at_call 18
                       with_reducible refine Calls.mono (D2.out _) ?_
                       rintro e W4 ⟨rfl, hb4⟩)
                    | (go_at_call 18
                       with_reducible refine Calls.mono (D1.out _) ?_
                       rintro e W3 ⟨rfl, hb3⟩))
                  go_roundg (u.length - (k + 1))
                  case measure => have := hh.out.2.2; omega
                  case rel =>
                    refine ⟨k + 1, some b, rfl, rfl, by go_num, by omega, ⟨J.out.symm, (fun b hb => by cases hb; exact B.out), rfl⟩, ?_⟩
                    (repeat (first | with_reducible exact Bel.refl _ | with_reducible refine Bel.setCell ?_ (by first | exact Nat.le_refl _ | (dsimp only; omega)) _ | with_reducible refine Bel.alloc ?_ _ | with_reducible refine Bel.drew ?_ | with_reducible assumption | with_reducible refine Bel.trans ?_ (by assumption)))
          · have ey : clampS (s1, s2) n = n := by unfold clampS; simp only; omega
            rw [ey] at NS YI
            cases acc with
            | none =>
              have J := Lib.hid (show nearOf n (u.take (k + 1)) = some n by rw [K.out.1, NS.out]; rfl)
              simp only [Option.getD_none, Option.isSome_none]
              clear ey
              go_wp2_with fail
              go_roundg (u.length - (k + 1))
              case measure => have := hh.out.2.2; omega
              case rel =>
                refine ⟨k + 1, some n, rfl, rfl, by go_num, by omega, ⟨J.out.symm, (fun b hb => by cases hb; exact YI.out), rfl⟩, ?_⟩
                (repeat (first | with_reducible exact Bel.refl _ | with_reducible refine Bel.setCell ?_ (by first | exact Nat.le_refl _ | (dsimp only; omega)) _ | with_reducible refine Bel.alloc ?_ _ | with_reducible refine Bel.drew ?_ | with_reducible assumption | with_reducible refine Bel.trans ?_ (by assumption)))
            | some b =>
              have D1 := Lib.hid (show ∀ w, Calls Try.prog 18 #[.int .i64 n, .int .i64 n] w fun e w' => e = .returned (.int .u64 (dist n n)) ∧ Bel w w' from fun w => far_any _ _ w YI.out HN.out)
              have D2 := Lib.hid (show ∀ w, Calls Try.prog 18 #[.int .i64 b, .int .i64 n] w fun e w' => e = .returned (.int .u64 (dist b n)) ∧ Bel w w' from fun w => far_any _ _ w (hh.out.2.1 b rfl) HN.out)
              have NB := Lib.hid (show ∀ q, nearer n n b = q → nearOf n (u.take (k + 1)) = if q then some n else some b from fun q hq => by rw [K.out.1, NS.out, nsel, hq])
              have NR := Lib.hid (show nearer n n b = (decide (dist n n < dist b n) || (decide (dist n n = dist b n) && decide (n < b))) from rfl)
              have B := Lib.hid (hh.out.2.1 b rfl)
              generalize dist n n = dy at D1 NR
              generalize dist b n = db at D2 NR
              clear ey
              simp only [Option.getD_some, Option.isSome_some]
              by_cases q1 : dy < db
              · have J := Lib.hid (NB.out true (by rw [NR.out, decide_eq_true q1]; rfl))
                go_wp2_with (first
                  | (go_at_call 18
                     with_reducible refine Calls.mono (D2.out _) ?_
                     rintro e W4 ⟨rfl, hb4⟩)
                  | (go_at_call 18
                     with_reducible refine Calls.mono (D1.out _) ?_
                     rintro e W3 ⟨rfl, hb3⟩))
                go_roundg (u.length - (k + 1))
                case measure => have := hh.out.2.2; omega
                case rel =>
                  refine ⟨k + 1, some n, rfl, rfl, by go_num, by omega, ⟨J.out.symm, (fun b hb => by cases hb; exact YI.out), rfl⟩, ?_⟩
                  (repeat (first | with_reducible exact Bel.refl _ | with_reducible refine Bel.setCell ?_ (by first | exact Nat.le_refl _ | (dsimp only; omega)) _ | with_reducible refine Bel.alloc ?_ _ | with_reducible refine Bel.drew ?_ | with_reducible assumption | with_reducible refine Bel.trans ?_ (by assumption)))
              · by_cases q2 : dy = db
                · subst q2
                  by_cases q3 : n < b
                  · have J := Lib.hid (NB.out true (by rw [NR.out, decide_eq_true q3]; simp))
                    go_wp2_with (first
                      | (go_at_call 18
                         with_reducible refine Calls.mono (D2.out _) ?_
                         rintro e W4 ⟨rfl, hb4⟩)
                      | (go_at_call 18
                         with_reducible refine Calls.mono (D1.out _) ?_
                         rintro e W3 ⟨rfl, hb3⟩))
                    go_roundg (u.length - (k + 1))
                    case measure => have := hh.out.2.2; omega
                    case rel =>
                      refine ⟨k + 1, some n, rfl, rfl, by go_num, by omega, ⟨J.out.symm, (fun b hb => by cases hb; exact YI.out), rfl⟩, ?_⟩
                      (repeat (first | with_reducible exact Bel.refl _ | with_reducible refine Bel.setCell ?_ (by first | exact Nat.le_refl _ | (dsimp only; omega)) _ | with_reducible refine Bel.alloc ?_ _ | with_reducible refine Bel.drew ?_ | with_reducible assumption | with_reducible refine Bel.trans ?_ (by assumption)))
                  · have J := Lib.hid (NB.out false (by rw [NR.out, decide_eq_false q3]; simp))
                    go_wp2_with (first
                      | (go_at_call 18
                         with_reducible refine Calls.mono (D2.out _) ?_
                         rintro e W4 ⟨rfl, hb4⟩)
                      | (go_at_call 18
                         with_reducible refine Calls.mono (D1.out _) ?_
                         rintro e W3 ⟨rfl, hb3⟩))
                    go_roundg (u.length - (k + 1))
                    case measure => have := hh.out.2.2; omega
                    case rel =>
                      refine ⟨k + 1, some b, rfl, rfl, by go_num, by omega, ⟨J.out.symm, (fun b hb => by cases hb; exact B.out), rfl⟩, ?_⟩
                      (repeat (first | with_reducible exact Bel.refl _ | with_reducible refine Bel.setCell ?_ (by first | exact Nat.le_refl _ | (dsimp only; omega)) _ | with_reducible refine Bel.alloc ?_ _ | with_reducible refine Bel.drew ?_ | with_reducible assumption | with_reducible refine Bel.trans ?_ (by assumption)))
                · have q4 : (dy == db) = false := by simp [q2]
                  have J := Lib.hid (NB.out false (by rw [NR.out, decide_eq_false q1, decide_eq_false q2]; rfl))
                  go_wp2_with (first
                    | (go_at_call 18
                       with_reducible refine Calls.mono (D2.out _) ?_
                       rintro e W4 ⟨rfl, hb4⟩)
                    | (go_at_call 18
                       with_reducible refine Calls.mono (D1.out _) ?_
                       rintro e W3 ⟨rfl, hb3⟩))
                  go_roundg (u.length - (k + 1))
                  case measure => have := hh.out.2.2; omega
                  case rel =>
                    refine ⟨k + 1, some b, rfl, rfl, by go_num, by omega, ⟨J.out.symm, (fun b hb => by cases hb; exact B.out), rfl⟩, ?_⟩
                    (repeat (first | with_reducible exact Bel.refl _ | with_reducible refine Bel.setCell ?_ (by first | exact Nat.le_refl _ | (dsimp only; omega)) _ | with_reducible refine Bel.alloc ?_ _ | with_reducible refine Bel.drew ?_ | with_reducible assumption | with_reducible refine Bel.trans ?_ (by assumption)))
    · obtain rfl : k = u.length := by omega
      have e := hh.out.1
      rw [List.take_length] at e
      have E := Lib.hid e.symm
      clear e
      cases acc with
      | none =>
        obtain rfl : N = none := HNr.out.trans E.out
        obtain rfl : er = 16 := HE.out
        simp only [Option.getD_none, Option.isSome_none]
        go_wp2_with (go_at_call 10; refine (awake_any _).mono ?_; rintro e W9 ⟨rfl, hb9⟩)
        go_ret
        exact ⟨rfl, ((hb1.trans hb2).trans hb).trans hb9⟩
      | some b =>
        obtain rfl : N = some b := HNr.out.trans E.out
        obtain rfl : er = 0 := HE.out
        simp only [Option.getD_some, Option.isSome_some]
        go_wp2_with (go_at_call 10; refine (awake_any _).mono ?_; rintro e W9 ⟨rfl, hb9⟩)
        go_ret
        exact ⟨rfl, ((hb1.trans hb2).trans hb).trans hb9⟩
end Go.Proofs.Ytdimpjahmdoolaa
