import Derived.Test.YtdimpjahmdoolaaSpk
namespace Go.Proofs.Ytdimpjahmdoolaa
set_option linter.unusedSimpArgs false
set_option linter.unusedVariables false
open Go.RowKit Go.Lib

/-! Spans: the laws Meets and Without. -/
set_option maxRecDepth 100000 in
set_option maxHeartbeats 8000000 in
theorem law_Meets (va vb : Value) (la lb : List Sp) (n : Int) (w : World) (ha : SlS w va la) (hb : SlS w vb lb) (hra : ∀ s ∈ la, Rng s) (hrb : ∀ s ∈ lb, Rng s) :
    Calls Try.prog 4 #[va, vb, .int .i64 n] w fun e w' => e = .returned (.bool true) ∧ Bel w w' := by
  have FA := Lib.hid (few_any va la w ha)
  have FB := Lib.hid (show ∀ W, Bel w W → Calls Try.prog 8 #[vb] W _ from fun W hW => few_any vb lb W (hb.keep hW))
  have hula : (la.take 100).length ≤ 100 := by rw [List.length_take]; omega
  have hra' : ∀ s ∈ la.take 100, Rng s := fun s hs => hra s (List.mem_of_mem_take hs)
  have hulb : (lb.take 100).length ≤ 100 := by rw [List.length_take]; omega
  have hrb' : ∀ s ∈ lb.take 100, Rng s := fun s hs => hrb s (List.mem_of_mem_take hs)
  generalize la.take 100 = a at FA hula hra'
  generalize lb.take 100 = b at FB hulb hrb'
  have HA := Lib.hid (And.intro hula hra')
  have HB := Lib.hid (And.intro hulb hrb')
  clear hra hra' ha hula hrb hrb' hb hulb
  go_enter Try.func4, Try.ntmps4
  go_wp2_with (first
    | (go_at_call 8
       have _u := hb1
       refine (FB.out _ hb1).mono ?_
       rintro e W2 ⟨v2', rfl, hv2', hb2⟩
       obtain ⟨A2, c2, rfl⟩ := hv2'.form
       have VB := Lib.hid hv2'
       clear hv2')
    | (go_at_call 8
       refine FA.out.mono ?_
       rintro e W1 ⟨v1', rfl, hv1', hb1⟩
       obtain ⟨A1, c1, rfl⟩ := hv1'.form
       have VA := Lib.hid hv1'
       clear hv1')
    | (go_at_call 15
       refine (meet_any _ _ a b _ (VA.out.keep hb2) VB.out (by have := HA.out.1; omega) (by have := HB.out.1; omega) HA.out.2 HB.out.2).mono ?_
       rintro e W3 ⟨v3, r, rfl, ho, g1, g2, ⟨g3, g4⟩, hb3⟩
       obtain ⟨A3, c3, rfl⟩ := ho.sl.form
       have G := Lib.hid (And.intro ho.sl (And.intro g1 (And.intro g2 (And.intro g3 (show r.length ≤ 1000 by have := HA.out.1; have := HB.out.1; omega)))))
       clear ho g1 g2 g3 g4)
    | (go_at_call 10
       refine (awake_any _).mono ?_
       rintro e W4 ⟨rfl, hb4⟩)
    | (go_at_call 11
       refine (rordered_any _ r _ (G.out.1.keep hb4) (by have := G.out.2.2.2.2; omega) G.out.2.1 G.out.2.2.1).mono ?_
       rintro e W5 ⟨rfl, hb5⟩)
    | (go_at_call 12
       have KA := Lib.hid (VA.out.keep (((hb2.trans hb3).trans hb4).trans hb5))
       have KB := Lib.hid (VB.out.keep ((hb3.trans hb4).trans hb5))
       have KR := Lib.hid (G.out.1.keep (hb4.trans hb5))
       refine (beside_any n [(.slice A1 a.length c1, a), (.slice A2 b.length c2, b), (.slice A3 r.length c3, r)] _ 3 _ (by simp) (lists3 KA.out KB.out KR.out (by have := HA.out.1; omega) (by have := HB.out.1; omega) G.out.2.2.2.2) (by simp)).mono ?_
       rintro e W6 ⟨v6, xs, rfl, oi, hxl, hb6⟩
       obtain ⟨A6, c6, rfl, hi6, hA6⟩ := oi.ints
       have hb6 := (Bel.alloc (Bel.refl W5) _).trans hb6
       have K := Lib.hid (And.intro (KA.out.keep hb6) (And.intro (KB.out.keep hb6) (KR.out.keep hb6)))
       clear oi))
  have hli : (xs.length : Int) ≤ 9223372036854775807 := by omega
  go_loopg [9] xs.length (fun g i wr => ∃ k : Nat, i = .int .i64 k ∧ k ≤ xs.length ∧ Hid (g = xs.length - k) ∧ Bel W6 wr)
  case atStart => exact ⟨0, rfl, Nat.zero_le _, rfl, Bel.refl _⟩
  case round =>
    obtain ⟨k, rfl, hk, hh, hb⟩ := hrel
    by_cases hp : k < xs.length
    · rcases hA6 with e0 | ⟨g5, rfl, _, hg5⟩
      · rw [e0] at hp; cases hp
      · obtain ⟨x, hx⟩ : ∃ x, xs[k]? = some x := ⟨_, List.getElem?_eq_getElem hp⟩
        have a0 := (hb.cells g5 (0 + k) hg5).trans (hi6.at hx)
        rw [Nat.zero_add] at a0
        have hg6 := Nat.lt_of_lt_of_le hg5 hb.size
        have i1 : (k : Int) < xs.length := by omega
        obtain ⟨qa, hqa⟩ : ∃ q, q = smemB a x := ⟨_, rfl⟩
        obtain ⟨qb, hqb⟩ : ∃ q, q = smemB b x := ⟨_, rfl⟩
        have hqr : smemB r x = (qa && qb) := by
          rw [hqa, hqb, Bool.eq_iff_iff, smemB_iff, G.out.2.2.2.1 x]
          simp [smemB_iff, ← smemB_iff]
        have CR := Lib.hid (show ∀ W, Bel wr W → Calls Try.prog 13 #[.slice A3 r.length c3, .int .i64 x] W fun e w' => e = .returned (.bool (qa && qb)) ∧ Bel W w' from fun W hW => by
          have := rspans_any _ r x W (K.out.2.2.keep (hb.trans hW)) (by have := G.out.2.2.2.2; omega)
          rwa [hqr] at this)
        have CA := Lib.hid (show ∀ W, Bel wr W → Calls Try.prog 13 #[.slice A1 a.length c1, .int .i64 x] W fun e w' => e = .returned (.bool qa) ∧ Bel W w' from fun W hW => by
          have := rspans_any _ a x W (K.out.1.keep (hb.trans hW)) (by have := HA.out.1; omega)
          rwa [← hqa] at this)
        have CB := Lib.hid (show ∀ W, Bel wr W → Calls Try.prog 13 #[.slice A2 b.length c2, .int .i64 x] W fun e w' => e = .returned (.bool qb) ∧ Bel W w' from fun W hW => by
          have := rspans_any _ b x W (K.out.2.1.keep (hb.trans hW)) (by have := HB.out.1; omega)
          rwa [← hqb] at this)
        clear hx hi6 hqa hqb hqr
        cases qa <;> cases qb
        all_goals
          go_wp2_with fail
          refine wp_region_uni (S := (fun w' => Bel wr w' ∧ (∀ b o, b < wr.heap.size → w'.cell? ⟨b, o, none⟩ = wr.cell? ⟨b, o, none⟩))) (by kernel_rfl) (by kernel_rfl) keep0 ?_
          repeat (first
            | (refine wpUni_skip (by rfl) ?_; (try simp only [Act.put, List.setIfInBounds_toArray, List.set_cons_zero, List.set_cons_succ]))
            | (refine wpUni_value (by rfl) (fun w hS => by (try dsimp only at hS); go_simp; first | done | with_reducible rfl) ?_; (try simp only [Act.put, List.setIfInBounds_toArray, List.set_cons_zero, List.set_cons_succ]))
            | (refine wpUni_call (f := 13) (by rfl) (fun w => by go_simp; first | done | with_reducible rfl) (fun w hS => Calls.mono (CA.out w hS.1) fun e w' ⟨he, hb⟩ => ⟨he, keep1 hS hb⟩) ?_; (try simp only [Act.put, List.setIfInBounds_toArray, List.set_cons_zero, List.set_cons_succ]))
            | (refine wpUni_call (f := 13) (by rfl) (fun w => by go_simp; first | done | with_reducible rfl) (fun w hS => Calls.mono (CB.out w hS.1) fun e w' ⟨he, hb⟩ => ⟨he, keep1 hS hb⟩) ?_; (try simp only [Act.put, List.setIfInBounds_toArray, List.set_cons_zero, List.set_cons_succ]))
            | (refine wpUni_call (f := 13) (by rfl) (fun w => by go_simp; first | done | with_reducible rfl) (fun w hS => Calls.mono (CR.out w hS.1) fun e w' ⟨he, hb⟩ => ⟨he, keep1 hS hb⟩) ?_; (try simp only [Act.put, List.setIfInBounds_toArray, List.set_cons_zero, List.set_cons_succ])))
          refine wpUni_nil fun W7 hS => ?_
          have hb7 := hb.trans hS.1
          clear hS
          go_wp2_with fail
          go_roundg (xs.length - (k + 1))
          case measure => have := hh.out; omega
          case rel => exact ⟨k + 1, by go_num, by omega, rfl, hb7⟩
    · obtain rfl : k = xs.length := by omega
      go_wp2_with fail
      go_ret
      exact ⟨rfl, (((((hb1.trans hb2).trans hb3).trans hb4).trans hb5).trans hb6).trans hb⟩
set_option maxRecDepth 100000 in
set_option maxHeartbeats 8000000 in
theorem law_Without (va vb : Value) (la lb : List Sp) (n : Int) (w : World) (ha : SlS w va la) (hb : SlS w vb lb) (hra : ∀ s ∈ la, Rng s) (hrb : ∀ s ∈ lb, Rng s) :
    Calls Try.prog 5 #[va, vb, .int .i64 n] w fun e w' => e = .returned (.bool true) ∧ Bel w w' := by
  have FA := Lib.hid (few_any va la w ha)
  have FB := Lib.hid (show ∀ W, Bel w W → Calls Try.prog 8 #[vb] W _ from fun W hW => few_any vb lb W (hb.keep hW))
  have hula : (la.take 100).length ≤ 100 := by rw [List.length_take]; omega
  have hra' : ∀ s ∈ la.take 100, Rng s := fun s hs => hra s (List.mem_of_mem_take hs)
  have hulb : (lb.take 100).length ≤ 100 := by rw [List.length_take]; omega
  have hrb' : ∀ s ∈ lb.take 100, Rng s := fun s hs => hrb s (List.mem_of_mem_take hs)
  generalize la.take 100 = a at FA hula hra'
  generalize lb.take 100 = b at FB hulb hrb'
  have HA := Lib.hid (And.intro hula hra')
  have HB := Lib.hid (And.intro hulb hrb')
  clear hra hra' ha hula hrb hrb' hb hulb
  go_enter Try.func5, Try.ntmps5
  go_wp2_with (first
    | (go_at_call 8
       have _u := hb1
       refine (FB.out _ hb1).mono ?_
       rintro e W2 ⟨v2', rfl, hv2', hb2⟩
       obtain ⟨A2, c2, rfl⟩ := hv2'.form
       have VB := Lib.hid hv2'
       clear hv2')
    | (go_at_call 8
       refine FA.out.mono ?_
       rintro e W1 ⟨v1', rfl, hv1', hb1⟩
       obtain ⟨A1, c1, rfl⟩ := hv1'.form
       have VA := Lib.hid hv1'
       clear hv1')
    | (go_at_call 16
       refine (without_any _ _ a b _ (VA.out.keep hb2) VB.out (by have := HA.out.1; omega) (by have := HB.out.1; omega) HA.out.2 HB.out.2).mono ?_
       rintro e W3 ⟨v3, r, rfl, ho, g1, g2, ⟨g3, g4⟩, hb3⟩
       obtain ⟨A3, c3, rfl⟩ := ho.sl.form
       have G := Lib.hid (And.intro ho.sl (And.intro g1 (And.intro g2 (And.intro g3 (show r.length ≤ 1000 by have := HA.out.1; have := HB.out.1; omega)))))
       clear ho g1 g2 g3 g4)
    | (go_at_call 10
       refine (awake_any _).mono ?_
       rintro e W4 ⟨rfl, hb4⟩)
    | (go_at_call 11
       refine (rordered_any _ r _ (G.out.1.keep hb4) (by have := G.out.2.2.2.2; omega) G.out.2.1 G.out.2.2.1).mono ?_
       rintro e W5 ⟨rfl, hb5⟩)
    | (go_at_call 12
       have KA := Lib.hid (VA.out.keep (((hb2.trans hb3).trans hb4).trans hb5))
       have KB := Lib.hid (VB.out.keep ((hb3.trans hb4).trans hb5))
       have KR := Lib.hid (G.out.1.keep (hb4.trans hb5))
       refine (beside_any n [(.slice A1 a.length c1, a), (.slice A2 b.length c2, b), (.slice A3 r.length c3, r)] _ 3 _ (by simp) (lists3 KA.out KB.out KR.out (by have := HA.out.1; omega) (by have := HB.out.1; omega) G.out.2.2.2.2) (by simp)).mono ?_
       rintro e W6 ⟨v6, xs, rfl, oi, hxl, hb6⟩
       obtain ⟨A6, c6, rfl, hi6, hA6⟩ := oi.ints
       have hb6 := (Bel.alloc (Bel.refl W5) _).trans hb6
       have K := Lib.hid (And.intro (KA.out.keep hb6) (And.intro (KB.out.keep hb6) (KR.out.keep hb6)))
       clear oi))
  have hli : (xs.length : Int) ≤ 9223372036854775807 := by omega
  go_loopg [9] xs.length (fun g i wr => ∃ k : Nat, i = .int .i64 k ∧ k ≤ xs.length ∧ Hid (g = xs.length - k) ∧ Bel W6 wr)
  case atStart => exact ⟨0, rfl, Nat.zero_le _, rfl, Bel.refl _⟩
  case round =>
    obtain ⟨k, rfl, hk, hh, hb⟩ := hrel
    by_cases hp : k < xs.length
    · rcases hA6 with e0 | ⟨g5, rfl, _, hg5⟩
      · rw [e0] at hp; cases hp
      · obtain ⟨x, hx⟩ : ∃ x, xs[k]? = some x := ⟨_, List.getElem?_eq_getElem hp⟩
        have a0 := (hb.cells g5 (0 + k) hg5).trans (hi6.at hx)
        rw [Nat.zero_add] at a0
        have hg6 := Nat.lt_of_lt_of_le hg5 hb.size
        have i1 : (k : Int) < xs.length := by omega
        obtain ⟨qa, hqa⟩ : ∃ q, q = smemB a x := ⟨_, rfl⟩
        obtain ⟨qb, hqb⟩ : ∃ q, q = smemB b x := ⟨_, rfl⟩
        have hqr : smemB r x = (qa && !qb) := by
          rw [hqa, hqb, Bool.eq_iff_iff, smemB_iff, G.out.2.2.2.1 x]
          simp [smemB_iff, ← smemB_iff]
        have CR := Lib.hid (show ∀ W, Bel wr W → Calls Try.prog 13 #[.slice A3 r.length c3, .int .i64 x] W fun e w' => e = .returned (.bool (qa && !qb)) ∧ Bel W w' from fun W hW => by
          have := rspans_any _ r x W (K.out.2.2.keep (hb.trans hW)) (by have := G.out.2.2.2.2; omega)
          rwa [hqr] at this)
        have CA := Lib.hid (show ∀ W, Bel wr W → Calls Try.prog 13 #[.slice A1 a.length c1, .int .i64 x] W fun e w' => e = .returned (.bool qa) ∧ Bel W w' from fun W hW => by
          have := rspans_any _ a x W (K.out.1.keep (hb.trans hW)) (by have := HA.out.1; omega)
          rwa [← hqa] at this)
        have CB := Lib.hid (show ∀ W, Bel wr W → Calls Try.prog 13 #[.slice A2 b.length c2, .int .i64 x] W fun e w' => e = .returned (.bool qb) ∧ Bel W w' from fun W hW => by
          have := rspans_any _ b x W (K.out.2.1.keep (hb.trans hW)) (by have := HB.out.1; omega)
          rwa [← hqb] at this)
        clear hx hi6 hqa hqb hqr
        cases qa <;> cases qb
        all_goals
          go_wp2_with fail
          refine wp_region_uni (S := (fun w' => Bel wr w' ∧ (∀ b o, b < wr.heap.size → w'.cell? ⟨b, o, none⟩ = wr.cell? ⟨b, o, none⟩))) (by kernel_rfl) (by kernel_rfl) keep0 ?_
          repeat (first
            | (refine wpUni_skip (by rfl) ?_; (try simp only [Act.put, List.setIfInBounds_toArray, List.set_cons_zero, List.set_cons_succ]))
            | (refine wpUni_value (by rfl) (fun w hS => by (try dsimp only at hS); go_simp; first | done | with_reducible rfl) ?_; (try simp only [Act.put, List.setIfInBounds_toArray, List.set_cons_zero, List.set_cons_succ]))
            | (refine wpUni_call (f := 13) (by rfl) (fun w => by go_simp; first | done | with_reducible rfl) (fun w hS => Calls.mono (CA.out w hS.1) fun e w' ⟨he, hb⟩ => ⟨he, keep1 hS hb⟩) ?_; (try simp only [Act.put, List.setIfInBounds_toArray, List.set_cons_zero, List.set_cons_succ]))
            | (refine wpUni_call (f := 13) (by rfl) (fun w => by go_simp; first | done | with_reducible rfl) (fun w hS => Calls.mono (CB.out w hS.1) fun e w' ⟨he, hb⟩ => ⟨he, keep1 hS hb⟩) ?_; (try simp only [Act.put, List.setIfInBounds_toArray, List.set_cons_zero, List.set_cons_succ]))
            | (refine wpUni_call (f := 13) (by rfl) (fun w => by go_simp; first | done | with_reducible rfl) (fun w hS => Calls.mono (CR.out w hS.1) fun e w' ⟨he, hb⟩ => ⟨he, keep1 hS hb⟩) ?_; (try simp only [Act.put, List.setIfInBounds_toArray, List.set_cons_zero, List.set_cons_succ])))
          refine wpUni_nil fun W7 hS => ?_
          have hb7 := hb.trans hS.1
          clear hS
          go_wp2_with fail
          go_roundg (xs.length - (k + 1))
          case measure => have := hh.out; omega
          case rel => exact ⟨k + 1, by go_num, by omega, rfl, hb7⟩
    · obtain rfl : k = xs.length := by omega
      go_wp2_with fail
      go_ret
      exact ⟨rfl, (((((hb1.trans hb2).trans hb3).trans hb4).trans hb5).trans hb6).trans hb⟩
end Go.Proofs.Ytdimpjahmdoolaa
