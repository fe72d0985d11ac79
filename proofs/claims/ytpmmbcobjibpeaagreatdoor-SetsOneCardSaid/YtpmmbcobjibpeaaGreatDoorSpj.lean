
import Derived.Test.YtpmmbcobjibpeaaGreatDoorSpf
import Derived.WalkMore
namespace Go.Proofs.YtpmmbcobjibpeaaGreatDoor
set_option linter.unusedSimpArgs false
set_option linter.unusedVariables false
open Go.RowKit Go.Lib

theorem SlS.form {w : World} {v : Value} {l : List Sp} (h : SlS w v l) : ∃ A c, v = .slice A l.length c := by
  obtain ⟨A, c, e, _⟩ := h
  exact ⟨A, c, e⟩
/-! Spans: Meet. -/
/-- append, with what is said of the blocks of the call's own beside the row. -/
theorem app_spsQ {w0 W w : World} {v : Value} {xs ys : List Sp} {A : Option Addr} {m c : Nat} (h0 : Bel w0 W) (hW : Bel W w) (h : OwnS W w0.heap.size v xs) (hy : Sps w A ys) (hm : ys.length = m) (hA : A = none → c = 0) (hn : xs.length + ys.length ≤ 2097152) (ty : TypeId) :
    ∃ v' w', (Builtin.append_ #[34, 34] ty #[v, .slice A m c]).run Tryz.prog w = .ok v' w' ∧ (OwnS w' w0.heap.size v' (xs ++ ys) ∧ Bel w0 w' ∧ (∀ k o, k < W.heap.size → v.ownBlock ≠ some k → w'.cell? ⟨k, o, none⟩ = W.cell? ⟨k, o, none⟩) ∧ (∀ k, k < W.heap.size → v.ownBlock ≠ some k → v'.ownBlock ≠ some k) ∧ W.heap.size ≤ w'.heap.size) := by
  have hb := h0.trans hW
  obtain ⟨v', w', hr, h1, h2, h3⟩ := app_sps (h.keep hW) hy hm hA hn hb.size ty
  refine ⟨v', w', hr, h1, h2.bel hb fun k hk => (h.lt k hk).1, fun k o hk hne => ?_, fun k hk hne => ?_, Nat.le_trans hW.size h2.size⟩
  · have hk' := Nat.lt_of_lt_of_le hk hW.size
    exact (World.cell?_of_block (h2.block k hk' (fun e => hne e.symm))).trans (hW.cells k o hk)
  · rcases h3 with h3 | h3
    · rw [h3]; exact hne
    · rw [h3]
      intro e
      have := hW.size
      cases e
      omega
theorem maxE (a b : Int) : max a b = if a < b then b else a := by rw [Int.max_def]; split <;> split <;> omega
theorem minE (a b : Int) : min a b = if b < a then b else a := by rw [Int.min_def]; split <;> split <;> omega
theorem rng_of {a : List Sp} {t : Sp} (ha : ∀ s ∈ a, Rng s) (h : (∃ p ∈ a, t.1 = p.1) ∧ ∃ p ∈ a, t.2 = p.2) : Rng t := by
  obtain ⟨⟨p, hp, e1⟩, q, hq, e2⟩ := h
  have h1 := ha p hp
  have h2 := ha q hq
  unfold Rng at h1 h2 ⊢
  omega
/-- A pair of its own in a block. -/
def Box (w : World) (Q : Nat) (s : Sp) (o : Value) : Prop := Q < w.heap.size ∧ SpAt w Q 0 s ∧ o.ownBlock ≠ some Q
theorem Box.keep {w w' : World} {Q : Nat} {s : Sp} {o : Value} (h : Box w Q s o) (hb : Bel w w') : Box w' Q s o := ⟨Nat.lt_of_lt_of_le h.1 hb.size, h.2.1.keep hb h.1, h.2.2⟩
set_option maxRecDepth 100000 in
set_option maxHeartbeats 8000000 in
theorem meet_any (va vb : Value) (la lb : List Sp) (w : World) (ha : SlS w va la) (hb : SlS w vb lb) (hla : la.length ≤ 1000) (hlb : lb.length ≤ 1000) (hra : ∀ s ∈ la, Rng s) (hrb : ∀ s ∈ lb, Rng s) :
    Calls Tryz.prog 63 #[va, vb] w (SpsPost w fun r => (∀ n, SMem r n ↔ SMem la n ∧ SMem lb n) ∧ r.length ≤ la.length + lb.length) := by
  have HA := Lib.hid (And.intro ha (And.intro hla hra))
  have HB := Lib.hid (And.intro hb (And.intro hlb hrb))
  clear ha hb hla hlb hra hrb
  go_enter Tryz.func63, Tryz.ntmps63
  go_wp2_with fail
  go_step3
  go_wp2_with (first
    | (go_at_call 47
       have _u := hb1
       refine (join_any vb lb _ (HB.out.1.keep hb1) HB.out.2.1 HB.out.2.2).mono ?_
       rintro e W2 ⟨v2, b, rfl, ob, ob1, ob2, ⟨ob3, ob4⟩, hb2⟩
       obtain ⟨A2, c2, rfl⟩ := ob.sl.form
       have GA := Lib.hid (And.intro (GA'.out.1.keep hb2) GA'.out.2)
       have GB := Lib.hid (And.intro ob.sl (And.intro ob1 (And.intro ob2 (And.intro ob3 ob4))))
       clear ob ob1 ob2 ob3 ob4)
    | (go_at_call 47
       refine (join_any va la _ HA.out.1 HA.out.2.1 HA.out.2.2).mono ?_
       rintro e W1 ⟨v1, a, rfl, oa, oa1, oa2, ⟨oa3, oa4⟩, hb1⟩
       obtain ⟨A1, c1, rfl⟩ := oa.sl.form
       have GA' := Lib.hid (And.intro oa.sl (And.intro oa1 (And.intro oa2 (And.intro oa3 oa4))))
       clear oa oa1 oa2 oa3 oa4))
  go_step3
  go_wp2_with fail
  have hal : (a.length : Int) ≤ 1000 := by have := GA'.out.2.2.2.2; have := HA.out.2.1; omega
  have hbl : (b.length : Int) ≤ 1000 := by have := GB.out.2.2.2.2; have := HB.out.2.1; omega
  have hsa := GA.out.1.row.2
  have hsb := GB.out.1.row.2
  have HW := Lib.hid (And.intro hb1 hb2)
  clear hb1 hb2
  go_loopg [5, 6, 16] a.length (fun g o uu ii wr => ∃ (i u : Nat) (out : List Sp), uu = .int .i64 u ∧ ii = .int .i64 i ∧ i ≤ a.length ∧ u ≤ b.length ∧ Hid (MInv a b i u out ∧ g = a.length - i) ∧ Bel W2 wr ∧ Hid (OwnS wr W2.heap.size o out))
  case atStart => exact ⟨0, 0, [], rfl, rfl, Nat.zero_le _, Nat.zero_le _, ⟨minv_0 a b, rfl⟩, Bel.refl _, OwnS.nil _ _⟩
  case round =>
    obtain ⟨i, u, out, rfl, rfl, hi, hu, hh, hb, hown⟩ := hrel
    by_cases hp : i < a.length
    · obtain ⟨ga, oa, rfl, hga, hat⟩ := hsa (by omega)
      obtain ⟨s, hsk⟩ : ∃ s, a[i]? = some s := ⟨_, List.getElem?_eq_getElem hp⟩
      have ha := (hat i s hsk).keep hb hga
      have hlga := Nat.lt_of_lt_of_le hga hb.size
      have i1 : (i : Int) < a.length := by omega
      have SK := Lib.hid hsk
      have MI := Lib.hid (min_start GA'.out.2.1 hsk hh.out.1)
      clear hat hsk hsa
      obtain ⟨s1, s2⟩ := s
      obtain ⟨a0, a1⟩ := ha
      simp only at a0 a1
      go_upto_region 7 with (fail)
      refine under_name (w0 := wr) ?_ fun W hc hf hz hb4 => ?_
      · (repeat (first | with_reducible exact Bel.refl _ | with_reducible refine Bel.setCell ?_ (by first | exact Nat.le_refl _ | (dsimp only; omega)) _ | with_reducible refine Bel.alloc ?_ _ | with_reducible refine Bel.drew ?_ | with_reducible assumption | with_reducible refine Bel.trans ?_ (by assumption)))
      have BX := Lib.hid (show Box W wr.heap.size (s1, s2) u5 from ⟨by rw [hz]; simp, by simp [SpAt, hc, go_sem], fun e => Nat.lt_irrefl _ (hown.out.lt wr.heap.size e).2⟩)
      have hown4 := Lib.hid (hown.out.keep hb4)
      have hb5 := hb.trans hb4
      clear hc hf hz a0 a1
      have hO := Lib.hid hsb
      have a3 : i ≤ 1000 := by omega
      generalize hQ : wr.heap.size = Q at BX ⊢
      clear hQ hsb
      go_loopg [5, 6] (b.length - u) (fun g o uu w2 => ∃ (u' : Nat) (out' : List Sp), uu = .int .i64 u' ∧ u' ≤ b.length ∧ Hid (MIn a b i (s1, s2) u' out' ∧ g = b.length - u') ∧ Bel W2 w2 ∧ Hid (OwnS w2 W2.heap.size o out' ∧ Box w2 Q (s1, s2) o))
      case atStart => exact ⟨u, out, rfl, hu, ⟨MI.out, rfl⟩, hb5, hown4.out, BX.out⟩
      case round =>
        obtain ⟨u', out', rfl, hu', hh', hb', hown'⟩ := hrel
        by_cases hp' : u' < b.length
        · obtain ⟨gb, ob, rfl, hgb, hat⟩ := hO.out (by omega)
          obtain ⟨q, hqk⟩ : ∃ q, b[u']? = some q := ⟨_, List.getElem?_eq_getElem hp'⟩
          have hq := (hat u' q hqk).keep hb' hgb
          have hlgb := Nat.lt_of_lt_of_le hgb hb'.size
          have i2 : (u' : Int) < b.length := by omega
          have hol : out'.length ≤ 2000 := by have := hh'.out.1.2.2.2.2.2; omega
          have QK := Lib.hid hqk
          have HQ := Lib.hid hq
          have YW := Lib.hid (hat u' q hqk)
          obtain ⟨hQl, ⟨x0, x1⟩, hQn⟩ := hown'.out.2
          clear hat hqk hq
          obtain ⟨q1, q2⟩ := q
          obtain ⟨y0, y1⟩ := HQ.out
          simp only [Nat.zero_add] at x0 x1 y0 y1
          have EM := Lib.hid (show max s1 q1 = (if s1 < q1 then q1 else s1) ∧ min s2 q2 = (if q2 < s2 then q2 else s2) from ⟨maxE s1 q1, minE s2 q2⟩)
          go_wp2_with fail
          go_region
          generalize max s1 q1 = m1 at EM ⊢
          generalize min s2 q2 = m2 at EM ⊢
          go_upto_region 9 with (fail)
          refine under_name (w0 := wr) ?_ fun W5 hc hf hz hb5' => ?_
          · (repeat (first | with_reducible exact Bel.refl _ | with_reducible refine Bel.setCell ?_ (by first | exact Nat.le_refl _ | (dsimp only; omega)) _ | with_reducible refine Bel.alloc ?_ _ | with_reducible refine Bel.drew ?_ | with_reducible assumption | with_reducible refine Bel.trans ?_ (by assumption)))
          have k0 : W5.cell? ⟨wr.heap.size, 0, none⟩ = some (.int .i64 m1) := by simp [hc, go_sem]
          have k1 : W5.cell? ⟨wr.heap.size, 1, none⟩ = some (.int .i64 m2) := by simp [hc, go_sem]
          have own5 := Lib.hid (hown'.out.1.keep hb5')
          have BX5 := Lib.hid (hown'.out.2.keep hb5')
          have hb6 := hb'.trans hb5'
          clear hc hf hz x0 x1 y0 y1 HQ hQl hQn
          obtain ⟨hQl, ⟨x0, x1⟩, hQn⟩ := BX5.out
          have y1 := (hb6.cells gb _ hgb).trans YW.out.2
          have hgb5 := Nat.lt_of_lt_of_le hgb hb6.size
          simp only [Nat.zero_add] at x0 x1
          clear hlgb
          by_cases c1 : m1 ≤ m2
          · by_cases c2 : s2 < q2
            · have MX := Lib.hid (min_next_some (r := (m1, m2)) GA'.out.2.1 GB.out.2.1 SK.out QK.out (by simp only; omega) EM.out.1 EM.out.2 c1 hh'.out.1)
              go_wp2_with (at_builtin
                           refine wpList_app rfl (.tmp 46) (.tmp 48) _ rfl (app_spsQ (W := W5) hb6 ((Bel.refl _).alloc _) own5.out (sps_one W5 (m1, m2) rfl) rfl (fun h => by cases h) (by simp; omega) _) ?_
                           rintro v1 w1 ⟨o1, b1, c1', n1, z1⟩
                           have x0 := (c1' Q 0 hQl hQn).trans x0
                           have x1 := (c1' Q 1 hQl hQn).trans x1
                           have y1 := (b1.cells gb _ hgb).trans YW.out.2
                           have hQ1 := Nat.lt_of_lt_of_le hQl z1
                           have hgb1 := Nat.lt_of_lt_of_le hgb b1.size
                           have BX1 := Lib.hid (show Box w1 Q (s1, s2) v1 from ⟨hQ1, ⟨x0, x1⟩, n1 Q hQl hQn⟩)
                           have OC := Lib.hid o1
                           clear o1 c1' n1)
              go_region
              go_wp2_with fail
              go_roundg (a.length - (i + 1))
              case measure => have := hh.out.2; omega
              case rel =>
                refine ⟨i + 1, u', _, rfl, by go_num, by omega, hu', ⟨MX.out, rfl⟩, ?_, ?_⟩
                · (repeat (first | with_reducible exact Bel.refl _ | with_reducible refine Bel.setCell ?_ (by first | exact Nat.le_refl _ | (dsimp only; omega)) _ | with_reducible refine Bel.alloc ?_ _ | with_reducible refine Bel.drew ?_ | with_reducible assumption | with_reducible refine Bel.trans ?_ (by assumption)))
                · exact OC.out.keep (by (repeat (first | with_reducible exact Bel.refl _ | with_reducible refine Bel.setCell ?_ (by first | exact Nat.le_refl _ | (dsimp only; omega)) _ | with_reducible refine Bel.alloc ?_ _ | with_reducible refine Bel.drew ?_ | with_reducible assumption | with_reducible refine Bel.trans ?_ (by assumption))))
            · have MX := Lib.hid (min_some (r := (m1, m2)) GA'.out.2.1 GB.out.2.1 SK.out QK.out (by simp only; omega) EM.out.1 EM.out.2 c1 hh'.out.1)
              go_wp2_with (at_builtin
                           refine wpList_app rfl (.tmp 46) (.tmp 48) _ rfl (app_spsQ (W := W5) hb6 ((Bel.refl _).alloc _) own5.out (sps_one W5 (m1, m2) rfl) rfl (fun h => by cases h) (by simp; omega) _) ?_
                           rintro v1 w1 ⟨o1, b1, c1', n1, z1⟩
                           have x0 := (c1' Q 0 hQl hQn).trans x0
                           have x1 := (c1' Q 1 hQl hQn).trans x1
                           have y1 := (b1.cells gb _ hgb).trans YW.out.2
                           have hQ1 := Nat.lt_of_lt_of_le hQl z1
                           have hgb1 := Nat.lt_of_lt_of_le hgb b1.size
                           have BX1 := Lib.hid (show Box w1 Q (s1, s2) v1 from ⟨hQ1, ⟨x0, x1⟩, n1 Q hQl hQn⟩)
                           have OC := Lib.hid o1
                           clear o1 c1' n1)
              go_region
              go_wp2_with fail
              go_roundg (b.length - (u' + 1))
              case measure => have := hh'.out.2; omega
              case rel =>
                refine ⟨u' + 1, _, by go_num, by omega, ⟨MX.out, rfl⟩, ?_, ?_, ?_⟩
                · (repeat (first | with_reducible exact Bel.refl _ | with_reducible refine Bel.setCell ?_ (by first | exact Nat.le_refl _ | (dsimp only; omega)) _ | with_reducible refine Bel.alloc ?_ _ | with_reducible refine Bel.drew ?_ | with_reducible assumption | with_reducible refine Bel.trans ?_ (by assumption)))
                · exact OC.out.keep (by (repeat (first | with_reducible exact Bel.refl _ | with_reducible refine Bel.setCell ?_ (by first | exact Nat.le_refl _ | (dsimp only; omega)) _ | with_reducible refine Bel.alloc ?_ _ | with_reducible refine Bel.drew ?_ | with_reducible assumption | with_reducible refine Bel.trans ?_ (by assumption))))
                · exact ⟨hQ1, ⟨x0, x1⟩, BX1.out.2.2⟩
          · have hno : ∀ n, ¬ ((s1 ≤ n ∧ n ≤ s2) ∧ (q1 ≤ n ∧ n ≤ q2)) := fun n h => by
              have e1 := EM.out.1
              have e2 := EM.out.2
              split at e1 <;> split at e2 <;> omega
            have HNO := Lib.hid hno
            clear hno
            by_cases c2 : s2 < q2
            · have MX := Lib.hid (min_next_none GB.out.2.1 SK.out QK.out (by simp only; omega) HNO.out hh'.out.1)
              go_wp2_with fail
              go_region
              go_wp2_with fail
              go_roundg (a.length - (i + 1))
              case measure => have := hh.out.2; omega
              case rel =>
                refine ⟨i + 1, u', out', rfl, by go_num, by omega, hu', ⟨MX.out, rfl⟩, ?_, ?_⟩
                · (repeat (first | with_reducible exact Bel.refl _ | with_reducible refine Bel.setCell ?_ (by first | exact Nat.le_refl _ | (dsimp only; omega)) _ | with_reducible refine Bel.alloc ?_ _ | with_reducible refine Bel.drew ?_ | with_reducible assumption | with_reducible refine Bel.trans ?_ (by assumption)))
                · exact own5.out.keep (by (repeat (first | with_reducible exact Bel.refl _ | with_reducible refine Bel.setCell ?_ (by first | exact Nat.le_refl _ | (dsimp only; omega)) _ | with_reducible refine Bel.alloc ?_ _ | with_reducible refine Bel.drew ?_ | with_reducible assumption | with_reducible refine Bel.trans ?_ (by assumption))))
            · have MX := Lib.hid (min_none (u := u') (q := (q1, q2)) QK.out (by simp only; omega) HNO.out hh'.out.1)
              go_wp2_with fail
              go_region
              go_wp2_with fail
              go_roundg (b.length - (u' + 1))
              case measure => have := hh'.out.2; omega
              case rel =>
                refine ⟨u' + 1, out', by go_num, by omega, ⟨MX.out, rfl⟩, ?_, ?_, ?_⟩
                · (repeat (first | with_reducible exact Bel.refl _ | with_reducible refine Bel.setCell ?_ (by first | exact Nat.le_refl _ | (dsimp only; omega)) _ | with_reducible refine Bel.alloc ?_ _ | with_reducible refine Bel.drew ?_ | with_reducible assumption | with_reducible refine Bel.trans ?_ (by assumption)))
                · exact own5.out.keep (by (repeat (first | with_reducible exact Bel.refl _ | with_reducible refine Bel.setCell ?_ (by first | exact Nat.le_refl _ | (dsimp only; omega)) _ | with_reducible refine Bel.alloc ?_ _ | with_reducible refine Bel.drew ?_ | with_reducible assumption | with_reducible refine Bel.trans ?_ (by assumption))))
                · exact BX5.out.keep (by (repeat (first | with_reducible exact Bel.refl _ | with_reducible refine Bel.setCell ?_ (by first | exact Nat.le_refl _ | (dsimp only; omega)) _ | with_reducible refine Bel.alloc ?_ _ | with_reducible refine Bel.drew ?_ | with_reducible assumption | with_reducible refine Bel.trans ?_ (by assumption))))
        · obtain rfl : u' = b.length := by omega
          have MX := Lib.hid (min_end SK.out hh'.out.1)
          go_wp2_with fail
          go_roundg (a.length - (i + 1))
          case measure => have := hh.out.2; omega
          case rel => exact ⟨i + 1, b.length, out', rfl, by go_num, by omega, Nat.le_refl _, ⟨MX.out, rfl⟩, hb', hown'.out.1⟩
    · obtain rfl : i = a.length := by omega
      go_wp2_with fail
      try rw [Exit.noGoto_ret]
      go_ret
      have h := hh.out.1
      unfold MInv at h
      rw [List.take_length] at h
      refine ⟨_, out, rfl, hown.out.base (Nat.le_trans HW.out.1.size HW.out.2.size), h.1, fun t ht => ?_, ⟨fun n => (h.2.1 n).trans ?_, ?_⟩, (HW.out.1.trans HW.out.2).trans hb⟩
      · refine rng_of (a := a ++ b) (fun s hs => ?_) (h.2.2.2.2.1 t ht)
        rcases List.mem_append.1 hs with g | g
        · exact GA.out.2.2.1 s g
        · exact GB.out.2.2.1 s g
      · rw [GA.out.2.2.2.1 n, GB.out.2.2.2.1 n]
      · have h1 := h.2.2.2.2.2
        have h2 := GA.out.2.2.2.2
        have h3 := GB.out.2.2.2.2
        omega
end Go.Proofs.YtpmmbcobjibpeaaGreatDoor
