import Derived.Test.YtdimpjahmdoolaaSph
namespace Go.Proofs.Ytdimpjahmdoolaa
set_option linter.unusedSimpArgs false
set_option linter.unusedVariables false
open Go.RowKit Go.Lib

/-! Spans: the law Joins. -/
theorem SlS.form {w : World} {v : Value} {l : List Sp} (h : SlS w v l) : ∃ A c, v = .slice A l.length c := by
  obtain ⟨A, c, e, _⟩ := h
  exact ⟨A, c, e⟩
theorem smemB_congr {a b : List Sp} (h : ∀ n, SMem a n ↔ SMem b n) (n : Int) : smemB a n = smemB b n := by
  rw [Bool.eq_iff_iff, smemB_iff, smemB_iff]
  exact h n
theorem lists2 {W : World} {v1 v2 : Value} {l1 l2 : List Sp} (h1 : SlS W v1 l1) (h2 : SlS W v2 l2) (k1 : l1.length ≤ 1000) (k2 : l2.length ≤ 1000) {t : TypeId} :
    ∀ j vl, [(v1, l1), (v2, l2)][j]? = some vl → (W.alloc (.cells #[v1, v2] t)).cell? ⟨W.heap.size, j, none⟩ = some vl.1 ∧ SlS (W.alloc (.cells #[v1, v2] t)) vl.1 vl.2 ∧ vl.2.length ≤ 1000 := by
  intro j vl h
  match j, h with
  | 0, h => simp only [List.getElem?_cons_zero, Option.some.injEq] at h; subst h; exact ⟨by simp [go_sem], h1.keep ((Bel.refl _).alloc _), k1⟩
  | 1, h => simp only [List.getElem?_cons_succ, List.getElem?_cons_zero, Option.some.injEq] at h; subst h; exact ⟨by simp [go_sem], h2.keep ((Bel.refl _).alloc _), k2⟩
theorem lists3 {W : World} {v1 v2 v3 : Value} {l1 l2 l3 : List Sp} (h1 : SlS W v1 l1) (h2 : SlS W v2 l2) (h3 : SlS W v3 l3) (k1 : l1.length ≤ 1000) (k2 : l2.length ≤ 1000) (k3 : l3.length ≤ 1000) {t : TypeId} :
    ∀ j vl, [(v1, l1), (v2, l2), (v3, l3)][j]? = some vl → (W.alloc (.cells #[v1, v2, v3] t)).cell? ⟨W.heap.size, j, none⟩ = some vl.1 ∧ SlS (W.alloc (.cells #[v1, v2, v3] t)) vl.1 vl.2 ∧ vl.2.length ≤ 1000 := by
  intro j vl h
  match j, h with
  | 0, h => simp only [List.getElem?_cons_zero, Option.some.injEq] at h; subst h; exact ⟨by simp [go_sem], h1.keep ((Bel.refl _).alloc _), k1⟩
  | 1, h => simp only [List.getElem?_cons_succ, List.getElem?_cons_zero, Option.some.injEq] at h; subst h; exact ⟨by simp [go_sem], h2.keep ((Bel.refl _).alloc _), k2⟩
  | 2, h => simp only [List.getElem?_cons_succ, List.getElem?_cons_zero, Option.some.injEq] at h; subst h; exact ⟨by simp [go_sem], h3.keep ((Bel.refl _).alloc _), k3⟩
set_option maxRecDepth 100000 in
set_option maxHeartbeats 8000000 in
theorem law_Joins (v : Value) (l : List Sp) (n : Int) (w : World) (h : SlS w v l) (hr : ∀ s ∈ l, Rng s) :
    Calls Try.prog 3 #[v, .int .i64 n] w fun e w' => e = .returned (.bool true) ∧ Bel w w' := by
  have FW := Lib.hid (few_any v l w h)
  have hul : (l.take 100).length ≤ 100 := by rw [List.length_take]; omega
  have hr' : ∀ s ∈ l.take 100, Rng s := fun s hs => hr s (List.mem_of_mem_take hs)
  generalize l.take 100 = u at FW hul hr'
  have HU := Lib.hid (And.intro hul hr')
  clear hr hr' h hul
  go_enter Try.func3, Try.ntmps3
  go_wp2_with (first
    | (go_at_call 8
       refine FW.out.mono ?_
       rintro e W1 ⟨v', rfl, hv', hb1⟩
       obtain ⟨A1, c1, rfl⟩ := hv'.form
       have HV := Lib.hid hv'
       clear hv')
    | (go_at_call 9
       refine (join_any _ u _ HV.out (by have := HU.out.1; omega) HU.out.2).mono ?_
       rintro e W2 ⟨v2, r, rfl, ho, g1, g2, ⟨g3, g4⟩, hb2⟩
       obtain ⟨A2, c2, rfl⟩ := ho.sl.form
       have G := Lib.hid (And.intro ho.sl (And.intro g1 (And.intro g2 (And.intro (smemB_congr g3) (show r.length ≤ 1000 by have := HU.out.1; omega)))))
       clear ho g1 g2 g3 g4)
    | (go_at_call 10
       refine (awake_any _).mono ?_
       rintro e W3 ⟨rfl, hb3⟩)
    | (go_at_call 11
       refine (rordered_any _ r _ (G.out.1.keep hb3) (by have := G.out.2.2.2.2; omega) G.out.2.1 G.out.2.2.1).mono ?_
       rintro e W4 ⟨rfl, hb4⟩)
    | (go_at_call 12
       go_loud (
       refine (beside_any n [(.slice A1 u.length c1, u), (.slice A2 r.length c2, r)] _ 2 _ (by simp) (lists2 (HV.out.keep ((hb2.trans hb3).trans hb4)) (G.out.1.keep (hb3.trans hb4)) (by have := HU.out.1; omega) G.out.2.2.2.2) (by simp)).mono ?_
       rintro e W5 ⟨v3, xs, rfl, oi, hxl, hb5⟩
       obtain ⟨A3, c3, rfl, hi3, hA3⟩ := oi.ints
       have hb5 := (Bel.alloc (Bel.refl W4) _).trans hb5
       have K := Lib.hid (And.intro (HV.out.keep (((hb2.trans hb3).trans hb4).trans hb5)) (G.out.1.keep ((hb3.trans hb4).trans hb5)))
       clear oi)))
  have hli : (xs.length : Int) ≤ 9223372036854775807 := by omega
  go_loopg [7] xs.length (fun g i wr => ∃ k : Nat, i = .int .i64 k ∧ k ≤ xs.length ∧ Hid (g = xs.length - k) ∧ Bel W5 wr)
  case atStart => exact ⟨0, rfl, Nat.zero_le _, rfl, Bel.refl _⟩
  case round =>
    obtain ⟨k, rfl, hk, hh, hb⟩ := hrel
    by_cases hp : k < xs.length
    · rcases hA3 with e0 | ⟨g5, rfl, _, hg5⟩
      · rw [e0] at hp; cases hp
      · obtain ⟨x, hx⟩ : ∃ x, xs[k]? = some x := ⟨_, List.getElem?_eq_getElem hp⟩
        have a0 := (hb.cells g5 (0 + k) hg5).trans (hi3.at hx)
        rw [Nat.zero_add] at a0
        have hg6 := Nat.lt_of_lt_of_le hg5 hb.size
        have i1 : (k : Int) < xs.length := by omega
        obtain ⟨q, hq⟩ : ∃ q, q = smemB u x := ⟨_, rfl⟩
        have CS := Lib.hid (show ∀ vv, vv = .slice A2 r.length c2 ∨ vv = .slice A1 u.length c1 → ∀ W, Bel wr W → Calls Try.prog 13 #[vv, .int .i64 x] W fun e w' => e = .returned (.bool q) ∧ Bel W w' from fun vv hv W hW => by
          rcases hv with rfl | rfl
          · have := rspans_any _ r x W (K.out.2.keep (hb.trans hW)) (by have := G.out.2.2.2.2; omega)
            rwa [G.out.2.2.2.1, ← hq] at this
          · have := rspans_any _ u x W (K.out.1.keep (hb.trans hW)) (by have := HU.out.1; omega)
            rwa [← hq] at this)
        have CH := Lib.hid (show ∀ W, Bel wr W → Calls Try.prog 14 #[.slice A1 u.length c1, .int .i64 x] W fun e w' => e = .returned (.bool q) ∧ Bel W w' from fun W hW => by
          have := has_any _ u x W (K.out.1.keep (hb.trans hW)) (by have := HU.out.1; omega)
          rwa [← hq] at this)
        clear hx hi3 hq
        cases q
        all_goals
          go_wp2_with fail
          refine wp_region_uni (S := (fun w' => Bel wr w' ∧ (∀ b o, b < wr.heap.size → w'.cell? ⟨b, o, none⟩ = wr.cell? ⟨b, o, none⟩))) (by kernel_rfl) (by kernel_rfl) keep0 ?_
          repeat (first | (refine wpUni_skip (by rfl) ?_; (try simp only [Act.put, List.setIfInBounds_toArray, List.set_cons_zero, List.set_cons_succ]))
                                                            | (refine wpUni_value (by rfl) (fun w hS => by (try dsimp only at hS); go_simp; first | done | with_reducible rfl) ?_; (try simp only [Act.put, List.setIfInBounds_toArray, List.set_cons_zero, List.set_cons_succ]))
                                                            | (refine wpUni_call (f := 13) (by rfl) (fun w => by go_simp; first | done | with_reducible rfl) (fun w hS => (CS.out _ (by first | exact .inl rfl | exact .inr rfl) w hS.1).mono fun e w' ⟨he, hb⟩ => ⟨he, keep1 hS hb⟩) ?_; (try simp only [Act.put, List.setIfInBounds_toArray, List.set_cons_zero, List.set_cons_succ]))
                                                            | (refine wpUni_call (f := 14) (by rfl) (fun w => by go_simp; first | done | with_reducible rfl) (fun w hS => (CH.out w hS.1).mono fun e w' ⟨he, hb⟩ => ⟨he, keep1 hS hb⟩) ?_; (try simp only [Act.put, List.setIfInBounds_toArray, List.set_cons_zero, List.set_cons_succ])))
          refine wpUni_nil fun W6 hS => ?_
          have hb7 := hb.trans hS.1
          clear hS
          go_wp2_with fail
          go_roundg (xs.length - (k + 1))
          case measure => have := hh.out; omega
          case rel => exact ⟨k + 1, by go_num, by omega, rfl, hb7⟩
    · obtain rfl : k = xs.length := by omega
      go_wp2_with fail
      go_ret
      exact ⟨rfl, ((((hb1.trans hb2).trans hb3).trans hb4).trans hb5).trans hb⟩
end Go.Proofs.Ytdimpjahmdoolaa
