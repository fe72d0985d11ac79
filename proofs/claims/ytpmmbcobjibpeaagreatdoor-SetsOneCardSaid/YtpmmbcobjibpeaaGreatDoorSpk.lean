
import Derived.Test.YtpmmbcobjibpeaaGreatDoorSpj
namespace Go.Proofs.YtpmmbcobjibpeaaGreatDoor
set_option linter.unusedSimpArgs false
set_option linter.unusedVariables false
open Go.RowKit Go.Lib

/-! Spans: Without. -/
theorem app_spsF {w0 W w : World} {v : Value} {xs ys : List Sp} {A : Option Addr} {m c : Nat} (h0 : Bel w0 W) (hW : Bel W w) (h : OwnS W w0.heap.size v xs) (hy : Sps w A ys) (hm : ys.length = m) (hA : A = none → c = 0) (hn : xs.length + ys.length ≤ 2097152) (ty : TypeId) :
    ∃ v' w', (Builtin.append_ #[34, 34] ty #[v, .slice A m c]).run Tryz.prog w = .ok v' w' ∧ (OwnS w' w0.heap.size v' (xs ++ ys) ∧ Bel w0 w' ∧ (∀ k o, k < W.heap.size → v.ownBlock ≠ some k → w'.cell? ⟨k, o, none⟩ = W.cell? ⟨k, o, none⟩ ∧ w'.frozen? ⟨k, o, none⟩ = W.frozen? ⟨k, o, none⟩) ∧ (∀ k, k < W.heap.size → v.ownBlock ≠ some k → v'.ownBlock ≠ some k) ∧ W.heap.size ≤ w'.heap.size) := by
  have hb := h0.trans hW
  obtain ⟨v', w', hr, h1, h2, h3⟩ := app_sps (h.keep hW) hy hm hA hn hb.size ty
  refine ⟨v', w', hr, h1, h2.bel hb fun k hk => (h.lt k hk).1, fun k o hk hne => ?_, fun k hk hne => ?_, Nat.le_trans hW.size h2.size⟩
  · have hk' := Nat.lt_of_lt_of_le hk hW.size
    exact ⟨(World.cell?_of_block (h2.block k hk' (fun e => hne e.symm))).trans (hW.cells k o hk), (World.frozen?_of_block (h2.block k hk' (fun e => hne e.symm))).trans (hW.frozens k o hk)⟩
  · rcases h3 with h3 | h3
    · rw [h3]; exact hne
    · rw [h3]
      intro e
      have := hW.size
      cases e
      omega
/-- A pair of its own in a block that may be written. -/
def BoxF (w : World) (Q : Nat) (s : Sp) (o : Value) : Prop := Q < w.heap.size ∧ SpAt w Q 0 s ∧ w.frozen? ⟨Q, 0, none⟩ = false ∧ o.ownBlock ≠ some Q
theorem BoxF.keep {w w' : World} {Q : Nat} {s : Sp} {o : Value} (h : BoxF w Q s o) (hb : Bel w w') : BoxF w' Q s o := ⟨Nat.lt_of_lt_of_le h.1 hb.size, h.2.1.keep hb h.1, (hb.frozens _ _ h.1).trans h.2.2.1, h.2.2.2⟩
theorem BoxF.app {W w' : World} {Q : Nat} {s : Sp} {v v' : Value} (h : BoxF W Q s v) (c : ∀ k o, k < W.heap.size → v.ownBlock ≠ some k → w'.cell? ⟨k, o, none⟩ = W.cell? ⟨k, o, none⟩ ∧ w'.frozen? ⟨k, o, none⟩ = W.frozen? ⟨k, o, none⟩)
    (n : ∀ k, k < W.heap.size → v.ownBlock ≠ some k → v'.ownBlock ≠ some k) (z : W.heap.size ≤ w'.heap.size) : BoxF w' Q s v' :=
  ⟨Nat.lt_of_lt_of_le h.1 z, ⟨((c Q 0 h.1 h.2.2.2).1).trans h.2.1.1, ((c Q 1 h.1 h.2.2.2).1).trans h.2.1.2⟩, ((c Q 0 h.1 h.2.2.2).2).trans h.2.2.1, n Q h.1 h.2.2.2⟩
theorem BoxF.low {w : World} {Q : Nat} {s : Sp} {v : Value} (h : BoxF w Q s v) (x : Int) : BoxF (w.setCell ⟨Q, 0, none⟩ (.int .i64 x)) Q (x, s.2) v := by
  obtain ⟨h1, ⟨h2, h3⟩, h4, h5⟩ := h
  refine ⟨by simpa using h1, ⟨?_, ?_⟩, ?_, h5⟩
  · simp [go_sem, h2]
  · simpa [go_sem] using h3
  · simpa [go_sem] using h4
set_option maxRecDepth 100000 in
set_option maxHeartbeats 16000000 in
theorem without_any (va vb : Value) (la lb : List Sp) (w : World) (ha : SlS w va la) (hb : SlS w vb lb) (hla : la.length ≤ 1000) (hlb : lb.length ≤ 1000) (hra : ∀ s ∈ la, Rng s) (hrb : ∀ s ∈ lb, Rng s) :
    Calls Tryz.prog 81 #[va, vb] w (SpsPost w fun r => (∀ n, SMem r n ↔ SMem la n ∧ ¬ SMem lb n) ∧ r.length ≤ la.length + lb.length) := by
  have HA := Lib.hid (And.intro ha (And.intro hla hra))
  have HB := Lib.hid (And.intro hb (And.intro hlb hrb))
  clear ha hb hla hlb hra hrb
  go_enter Tryz.func81, Tryz.ntmps81
  go_wp2_with fail
  go_step3
  go_wp2_with (first
    | (go_at_call 47
       have _u := hb1
       refine (join_any vb lb _ (HB.out.1.keep hb1) HB.out.2.1 HB.out.2.2).mono ?_
       rintro e W2 ⟨v2, b, rfl, ob, ob1, ob2, ⟨ob3, ob4⟩, hb2⟩
       obtain ⟨A2, c2, rfl⟩ := ob.sl.form
       have GA := Lib.hid (And.intro (GA'.out.1.keep hb2) GA'.out.2)
       have GB := Lib.hid (And.intro ob.sl (And.intro ob1 (And.intro ob2 (And.intro ob3 ob4))))
       clear ob ob1 ob2 ob3 ob4)
    | (go_at_call 47
       refine (join_any va la _ HA.out.1 HA.out.2.1 HA.out.2.2).mono ?_
       rintro e W1 ⟨v1, a, rfl, oa, oa1, oa2, ⟨oa3, oa4⟩, hb1⟩
       obtain ⟨A1, c1, rfl⟩ := oa.sl.form
       have GA' := Lib.hid (And.intro oa.sl (And.intro oa1 (And.intro oa2 (And.intro oa3 oa4))))
       clear oa oa1 oa2 oa3 oa4))
  go_step3
  go_wp2_with fail
  have hal : (a.length : Int) ≤ 1000 := by have := GA'.out.2.2.2.2; have := HA.out.2.1; omega
  have hbl : (b.length : Int) ≤ 1000 := by have := GB.out.2.2.2.2; have := HB.out.2.1; omega
  have hsa := GA.out.1.row.2
  have hsb := GB.out.1.row.2
  have HW := Lib.hid (And.intro hb1 hb2)
  clear hb1 hb2
  go_loopg [5, 6, 16] a.length (fun g o uu ii wr => ∃ (i u : Nat) (out : List Sp), uu = .int .i64 u ∧ ii = .int .i64 i ∧ i ≤ a.length ∧ u ≤ b.length ∧ Hid (WInv a b i u out ∧ g = a.length - i) ∧ Bel W2 wr ∧ Hid (OwnS wr W2.heap.size o out))
  case atStart => exact ⟨0, 0, [], rfl, rfl, Nat.zero_le _, Nat.zero_le _, ⟨winv_0 a b, rfl⟩, Bel.refl _, OwnS.nil _ _⟩
  case round =>
    obtain ⟨i, u, out, rfl, rfl, hi, hu, hh, hb, hown⟩ := hrel
    by_cases hp : i < a.length
    · obtain ⟨ga, oa, rfl, hga, hat⟩ := hsa (by omega)
      obtain ⟨s, hsk⟩ : ∃ s, a[i]? = some s := ⟨_, List.getElem?_eq_getElem hp⟩
      have ha := (hat i s hsk).keep hb hga
      have hlga := Nat.lt_of_lt_of_le hga hb.size
      have i1 : (i : Int) < a.length := by omega
      have SK := Lib.hid hsk
      have SR := Lib.hid (GA.out.2.2.1 s (List.mem_of_getElem? hsk))
      have MI := Lib.hid (win_start GA'.out.2.1 hsk hh.out.1)
      clear hat hsk hsa
      obtain ⟨s1, s2⟩ := s
      obtain ⟨a0, a1⟩ := ha
      simp only at a0 a1
      go_upto_region 7 with (fail)
      refine under_name (w0 := wr) ?_ fun W hc hf hz hb4 => ?_
      · (repeat (first | with_reducible exact Bel.refl _ | with_reducible refine Bel.setCell ?_ (by first | exact Nat.le_refl _ | (dsimp only; omega)) _ | with_reducible refine Bel.alloc ?_ _ | with_reducible refine Bel.drew ?_ | with_reducible assumption | with_reducible refine Bel.trans ?_ (by assumption)))
      have BX := Lib.hid (show BoxF W wr.heap.size (s1, s2) u5 from ⟨by rw [hz]; simp, by simp [SpAt, hc, go_sem], by simp [hf, go_sem], fun e => Nat.lt_irrefl _ (hown.out.lt wr.heap.size e).2⟩)
      have hown4 := Lib.hid (hown.out.keep hb4)
      have hb5 := hb.trans hb4
      have hQ2 := hb.size
      clear hc hf hz a0 a1
      have hO := Lib.hid hsb
      have a3 : i ≤ 1000 := by omega
      generalize hQ : wr.heap.size = Q at BX hQ2 ⊢
      clear hQ hsb
      go_loopg [5, 6] (b.length - u) (fun g o uu w2 => ∃ (u' : Nat) (out' : List Sp) (lo : Int), uu = .int .i64 u' ∧ u' ≤ b.length ∧ Hid (WIn a b i (s1, s2) lo u' out' ∧ g = b.length - u') ∧ Bel W2 w2 ∧ Hid (OwnS w2 W2.heap.size o out') ∧ Hid (BoxF w2 Q (lo, s2) o))
      case atStart => exact ⟨u, out, s1, rfl, hu, ⟨MI.out, rfl⟩, hb5, hown4.out, BX.out⟩
      case round =>
        obtain ⟨u', out', lo, rfl, hu', hh', hbW, ownW, BXW⟩ := hrel
        have hol : out'.length ≤ 2000 := by have := hh'.out.1.2.2.2.2.2.2.2; omega
        have LO := Lib.hid (show I64 lo from by
          have h1 := hh'.out.1.2.1
          have h2 := hh'.out.1.2.2.1
          have h3 := SR.out
          unfold Rng at h3
          unfold I64
          simp only at h1 h2 h3
          omega)
        obtain ⟨hQl, ⟨x0, x1⟩, xf, hQn⟩ := BXW.out
        simp only [Nat.zero_add] at x0 x1
        by_cases hp' : u' < b.length
        · obtain ⟨gb, ob, rfl, hgb, hat⟩ := hO.out (by omega)
          obtain ⟨q, hqk⟩ : ∃ q, b[u']? = some q := ⟨_, List.getElem?_eq_getElem hp'⟩
          have hq := (hat u' q hqk).keep hbW hgb
          have hlgb := Nat.lt_of_lt_of_le hgb hbW.size
          have i2 : (u' : Int) < b.length := by omega
          have QK := Lib.hid hqk
          have QR := Lib.hid (GB.out.2.2.1 q (List.mem_of_getElem? hqk))
          have QW := Lib.hid (GB.out.2.1.2 q (List.mem_of_getElem? hqk))
          have YW := Lib.hid (hat u' q hqk)
          clear hat hqk
          obtain ⟨q1, q2⟩ := q
          obtain ⟨y0, y1⟩ := hq
          simp only [Nat.zero_add] at y0 y1
          by_cases e1 : q1 ≤ s2
          · go_wp2_with fail
            refine wp_region_uni (S := (fun w' => Bel wr w' ∧ (∀ b o, b < wr.heap.size → w'.cell? ⟨b, o, none⟩ = wr.cell? ⟨b, o, none⟩))) (by kernel_rfl) (by kernel_rfl) keep0 ?_
            repeat (first | (refine wpUni_skip (by rfl) ?_; (try simp only [Act.put, List.setIfInBounds_toArray, List.set_cons_zero, List.set_cons_succ]))
                                                            | (refine wpUni_value (by rfl) (fun w hS => by (try dsimp only at hS); go_simp; first | done | with_reducible rfl) ?_; (try simp only [Act.put, List.setIfInBounds_toArray, List.set_cons_zero, List.set_cons_succ])))
            refine wpUni_nil fun W1 hS => ?_
            have hb1 := hbW.trans hS.1
            have own1 := Lib.hid (ownW.out.keep hS.1)
            have BX1 := Lib.hid (BXW.out.keep hS.1)
            clear hS BXW x0 x1
            obtain ⟨hQ1, ⟨x0, x1⟩, xf, hQn⟩ := BX1.out
            simp only [Nat.zero_add] at x0 x1
            have z0 := (hb1.cells gb _ hgb).trans YW.out.1
            have z1 := (hb1.cells gb _ hgb).trans YW.out.2
            have hg1 := Nat.lt_of_lt_of_le hgb hb1.size
            clear y0 y1
            go_upto_region 9 with (fail)
            refine under_name (w0 := W1) ?_ fun W3 hc hf hz hb31 => ?_
            · (repeat (first | with_reducible exact Bel.refl _ | with_reducible refine Bel.setCell ?_ (by first | exact Nat.le_refl _ | (dsimp only; omega)) _ | with_reducible refine Bel.alloc ?_ _ | with_reducible refine Bel.drew ?_ | with_reducible assumption | with_reducible refine Bel.trans ?_ (by assumption)))
            have BC3 := Lib.hid (show BoxF W3 W1.heap.size (q1, q2) u5 from ⟨by rw [hz]; simp, by simp [SpAt, hc, go_sem], by simp [hf, go_sem], fun e => Nat.lt_irrefl _ (own1.out.lt W1.heap.size e).2⟩)
            have own3 := Lib.hid (own1.out.keep hb31)
            have BX3 := Lib.hid (BX1.out.keep hb31)
            have hb3 := hb1.trans hb31
            clear hc hf hz z0 z1 x0 x1 xf
            generalize W1.heap.size = C at BC3 ⊢
            obtain ⟨hQ3, ⟨x0, x1⟩, xf, hQn3⟩ := BX3.out
            obtain ⟨hC3, ⟨k0, k1⟩, _, _⟩ := BC3.out
            simp only [Nat.zero_add] at x0 x1 k0 k1
            by_cases e2 : lo < q1
            · have hw : IntKind.i64.wrap (q1 - 1) = q1 - 1 := by
                have h1 := LO.out
                have h2 := QR.out
                unfold I64 at h1
                unfold Rng at h2
                simp only at h2
                simp [IntKind.wrap, IntKind.bits, IntKind.signed]; omega
              by_cases e3 : s2 ≤ q2
              · have MX := Lib.hid (win_next_put GA'.out.2.1 GB.out.2.1 SR.out QR.out SK.out QK.out e2 e1 e3 hh'.out.1)
                go_wp2_with (at_builtin
                             refine wpList_app rfl (.tmp 43) (.tmp 50) _ rfl (app_spsF (W := W3) hb3 ((Bel.refl _).alloc _) own3.out (sps_one W3 (lo, q1 - 1) rfl) rfl (fun h => by cases h) (by simp; omega) _) ?_
                             rintro v1 w1 ⟨o1, b1, c1', n1, z1⟩
                             have BX4 := Lib.hid (BX3.out.app c1' n1 z1)
                             have BC4 := Lib.hid (BC3.out.app c1' n1 z1)
                             have OC := Lib.hid o1
                             clear o1 c1' n1 x0 x1 xf k0 k1
                             obtain ⟨hQ4, ⟨x0, x1⟩, xf, hQn4⟩ := BX4.out
                             obtain ⟨hC4, ⟨k0, k1⟩, _, _⟩ := BC4.out
                             simp only [Nat.zero_add] at x0 x1 k0 k1)
                go_roundg (a.length - (i + 1))
                case measure => have := hh.out.2; omega
                case rel => exact ⟨i + 1, u', _, rfl, by go_num, by omega, hu', ⟨MX.out, rfl⟩, b1, OC.out⟩
              · have MX := Lib.hid (win_on_put GB.out.2.1 SR.out QR.out QK.out e2 e1 (by simp only; omega) hh'.out.1)
                have hw2 : IntKind.i64.wrap (q2 + 1) = q2 + 1 := by
                  have h2 := QR.out
                  have h3 := SR.out
                  unfold Rng at h2 h3
                  simp only at h2 h3
                  simp [IntKind.wrap, IntKind.bits, IntKind.signed]; omega
                have e5 : q1 ≤ q2 := QW.out
                go_wp2_with (at_builtin
                             refine wpList_app rfl (.tmp 43) (.tmp 50) _ rfl (app_spsF (W := W3) hb3 ((Bel.refl _).alloc _) own3.out (sps_one W3 (lo, q1 - 1) rfl) rfl (fun h => by cases h) (by simp; omega) _) ?_
                             rintro v1 w1 ⟨o1, b1, c1', n1, z1⟩
                             have BX4 := Lib.hid (BX3.out.app c1' n1 z1)
                             have BC4 := Lib.hid (BC3.out.app c1' n1 z1)
                             have OC := Lib.hid o1
                             clear o1 c1' n1 x0 x1 xf k0 k1
                             obtain ⟨hQ4, ⟨x0, x1⟩, xf, hQn4⟩ := BX4.out
                             obtain ⟨hC4, ⟨k0, k1⟩, _, _⟩ := BC4.out
                             simp only [Nat.zero_add] at x0 x1 k0 k1)
                go_roundg (b.length - (u' + 1))
                case measure => have := hh'.out.2; omega
                case rel =>
                  refine ⟨u' + 1, _, _, by go_num, by omega, ⟨MX.out, rfl⟩, Bel.setCell b1 hQ2 _, ?_, ?_⟩
                  · exact ownsRow_setCell_other OC.out (fun e => hQn4 e) _
                  · rw [show max lo (q2 + 1) = q2 + 1 by omega]
                    exact BX4.out.low _
            · by_cases e3 : s2 ≤ q2
              · have MX := Lib.hid (win_next_skip SK.out QK.out e2 e3 hh'.out.1)
                go_wp2_with fail
                go_roundg (a.length - (i + 1))
                case measure => have := hh.out.2; omega
                case rel => exact ⟨i + 1, u', _, rfl, by go_num, by omega, hu', ⟨MX.out, rfl⟩, hb3, own3.out⟩
              · have MX := Lib.hid (win_on_skip QK.out e2 (by simp only; omega) rfl hh'.out.1)
                have hw2 : IntKind.i64.wrap (q2 + 1) = q2 + 1 := by
                  have h2 := QR.out
                  have h3 := SR.out
                  unfold Rng at h2 h3
                  simp only at h2 h3
                  simp [IntKind.wrap, IntKind.bits, IntKind.signed]; omega
                go_wp2_with fail
                go_roundg (b.length - (u' + 1))
                case measure => have := hh'.out.2; omega
                case rel =>
                  refine ⟨u' + 1, _, _, by go_num, by omega, ⟨MX.out, rfl⟩, Bel.setCell hb3 hQ2 _, ?_, ?_⟩
                  · exact ownsRow_setCell_other own3.out (fun e => BX3.out.2.2.2 e) _
                  · rw [show (if lo < q2 + 1 then q2 + 1 else lo) = max lo (q2 + 1) by rw [maxE]]
                    exact BX3.out.low _
          · have MX := Lib.hid (win_end GB.out.2.1 SR.out SK.out (.inr ⟨_, QK.out, by simp only; omega⟩) hh'.out.1)
            have e2 : decide (q1 ≤ s2) = false := decide_eq_false e1
            go_wp2_with fail
            have e2 : decide (q1 ≤ s2) = false := decide_eq_false (by omega)
            refine wp_region_uni (S := (fun w' => Bel wr w' ∧ (∀ b o, b < wr.heap.size → w'.cell? ⟨b, o, none⟩ = wr.cell? ⟨b, o, none⟩))) (by kernel_rfl) (by kernel_rfl) keep0 ?_
            repeat (first | (refine wpUni_skip (by rfl) ?_; (try simp only [Act.put, List.setIfInBounds_toArray, List.set_cons_zero, List.set_cons_succ]))
                                                            | (refine wpUni_value (by rfl) (fun w hS => by (try dsimp only at hS); go_simp; first | done | with_reducible rfl) ?_; (try simp only [Act.put, List.setIfInBounds_toArray, List.set_cons_zero, List.set_cons_succ])))
            refine wpUni_nil fun W1 hS => ?_
            have hb1 := hbW.trans hS.1
            have own1 := Lib.hid (ownW.out.keep hS.1)
            have BX1 := Lib.hid (BXW.out.keep hS.1)
            clear hS BXW x0 x1
            obtain ⟨hQ1, ⟨x0, x1⟩, xf, hQn⟩ := BX1.out
            simp only [Nat.zero_add] at x0 x1
            go_wp2_with (at_builtin
                         refine wpList_app rfl (.tmp 66) (.tmp 68) _ rfl (app_spsF (W := W1) hb1 ((Bel.refl _).alloc _) own1.out (sps_one W1 (lo, s2) rfl) rfl (fun h => by cases h) (by simp; omega) _) ?_
                         rintro v1 w1 ⟨o1, b1, _, _, _⟩
                         have OC := Lib.hid o1
                         clear o1)
            go_roundg (a.length - (i + 1))
            case measure => have := hh.out.2; omega
            case rel => exact ⟨i + 1, u', _, rfl, by go_num, by omega, hu', ⟨MX.out, rfl⟩, b1, OC.out⟩
        · obtain rfl : u' = b.length := by omega
          have MX := Lib.hid (win_end GB.out.2.1 SR.out SK.out (.inl (Nat.le_refl _)) hh'.out.1)
          go_wp2_with fail
          refine wp_region_uni (S := (fun w' => Bel wr w' ∧ (∀ b o, b < wr.heap.size → w'.cell? ⟨b, o, none⟩ = wr.cell? ⟨b, o, none⟩))) (by kernel_rfl) (by kernel_rfl) keep0 ?_
          repeat (first | (refine wpUni_skip (by rfl) ?_; (try simp only [Act.put, List.setIfInBounds_toArray, List.set_cons_zero, List.set_cons_succ]))
                                                            | (refine wpUni_value (by rfl) (fun w hS => by (try dsimp only at hS); go_simp; first | done | with_reducible rfl) ?_; (try simp only [Act.put, List.setIfInBounds_toArray, List.set_cons_zero, List.set_cons_succ])))
          refine wpUni_nil fun W1 hS => ?_
          have hb1 := hbW.trans hS.1
          have own1 := Lib.hid (ownW.out.keep hS.1)
          have BX1 := Lib.hid (BXW.out.keep hS.1)
          clear hS BXW x0 x1
          obtain ⟨hQ1, ⟨x0, x1⟩, xf, hQn⟩ := BX1.out
          simp only [Nat.zero_add] at x0 x1
          go_wp2_with (at_builtin
                       refine wpList_app rfl (.tmp 66) (.tmp 68) _ rfl (app_spsF (W := W1) hb1 ((Bel.refl _).alloc _) own1.out (sps_one W1 (lo, s2) rfl) rfl (fun h => by cases h) (by simp; omega) _) ?_
                       rintro v1 w1 ⟨o1, b1, _, _, _⟩
                       have OC := Lib.hid o1
                       clear o1)
          go_roundg (a.length - (i + 1))
          case measure => have := hh.out.2; omega
          case rel => exact ⟨i + 1, b.length, _, rfl, by go_num, by omega, Nat.le_refl _, ⟨MX.out, rfl⟩, b1, OC.out⟩
    · obtain rfl : i = a.length := by omega
      go_wp2_with fail
      try rw [Exit.noGoto_ret]
      go_ret
      have h := hh.out.1
      unfold WInv at h
      rw [List.take_length] at h
      refine ⟨_, out, rfl, hown.out.base (Nat.le_trans HW.out.1.size HW.out.2.size), h.1, fun t ht => ?_, ⟨fun n => (h.2.1 n).trans ?_, ?_⟩, (HW.out.1.trans HW.out.2).trans hb⟩
      · have h1 := h.2.2.2.2.1 t ht
        have h2 := h.1.2 t ht
        unfold Rng
        omega
      · rw [GA.out.2.2.2.1 n, GB.out.2.2.2.1 n]
      · have h1 := h.2.2.2.2.2
        have h2 := GA.out.2.2.2.2
        have h3 := GB.out.2.2.2.2
        omega
end Go.Proofs.YtpmmbcobjibpeaaGreatDoor
