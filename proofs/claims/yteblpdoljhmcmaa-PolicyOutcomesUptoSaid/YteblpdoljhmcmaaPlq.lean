import Derived.Test.YteblpdoljhmcmaaPlm
namespace Go.Proofs.Yteblpdoljhmcmaa
set_option linter.unusedSimpArgs false
set_option linter.unusedVariables false
open Go.RowKit Go.Lib
attribute [local go_sem ↓] eql_val neq_val

/-! The document's answers: has, gather. -/
theorem veq_comm (u v : Val) : veq u v = veq v u := by rw [Bool.eq_iff_iff, veq_iff, veq_iff]; exact ⟨fun h => h.symm, fun h => h.symm⟩
set_option maxRecDepth 100000 in
set_option maxHeartbeats 2000000 in
theorem rhas_any (r : List Val) (A : Option Addr) (c : Nat) (v : Val) (w : World) (hv : Vals w A r) (hl : r.length ≤ 9223372036854775807) :
    Calls Try.prog 23 #[.slice A r.length c, v.val] w fun e w' => e = .returned (.bool (memV r v)) ∧ Bel w w' := by
  have hli : (r.length : Int) ≤ 9223372036854775807 := by omega
  obtain ⟨R, hR⟩ : ∃ R, R = memV r v := ⟨_, rfl⟩
  rw [← hR]
  have RR := Lib.hid hR
  clear hR
  obtain ⟨v0, v1, v2, v3, v4⟩ := v
  go_enter Try.func23, Try.ntmps23
  go_wp2_with fail
  refine under_name ((Bel.refl w).alloc _) fun W hc hf hz hbW => ?_
  have n3 : ValAt W w.heap.size 0 ⟨v0, v1, v2, v3, v4⟩ := by simp [ValAt, hc, go_sem]
  have z0 : w.heap.size < W.heap.size := by simp [hz]
  clear hc hf hz
  generalize w.heap.size = B at n3 z0 ⊢
  go_loopg [5] r.length (fun g i wr => ∃ k : Nat, i = .int .i64 k ∧ k ≤ r.length ∧ Hid (R = memV (r.drop k) ⟨v0, v1, v2, v3, v4⟩ ∧ g = r.length - k) ∧ Bel W wr)
  case atStart => exact ⟨0, rfl, Nat.zero_le _, ⟨RR.out, rfl⟩, Bel.refl _⟩
  case round =>
    obtain ⟨k, rfl, hk, hh, hb⟩ := hrel
    by_cases hp : k < r.length
    · obtain ⟨b, off, rfl, hlt, hat⟩ := hv (by omega)
      obtain ⟨u, hvk⟩ : ∃ u, r[k]? = some u := ⟨_, List.getElem?_eq_getElem hp⟩
      have ha := (hat k u hvk).keep (hbW.trans hb) hlt
      have hn := n3.keep hb z0
      have lt1 := Nat.lt_of_lt_of_le hlt (hbW.trans hb).size
      have lt2 := Nat.lt_of_lt_of_le z0 hb.size
      have hdr : r.drop k = u :: r.drop (k + 1) := by rw [List.drop_eq_getElem_cons hp]; simp [List.getElem?_eq_getElem hp] at hvk; rw [hvk]
      have RN := Lib.hid (show R = (veq u ⟨v0, v1, v2, v3, v4⟩ || memV (r.drop (k + 1)) ⟨v0, v1, v2, v3, v4⟩) from by rw [hh.out.1, hdr, veq_comm]; rfl)
      have i1 : (k : Int) < r.length := by omega
      have i2 : (0 : Int) ≤ (k : Int) := by omega
      obtain ⟨u0, u1, u2, u3, u4⟩ := u
      obtain ⟨a0, a1, a2, a3, a4⟩ := ha
      obtain ⟨b0, b1, b2, b3, b4⟩ := hn
      simp only [Nat.zero_add] at b0 b1 b2 b3 b4
      generalize hq : veq ⟨u0, u1, u2, u3, u4⟩ ⟨v0, v1, v2, v3, v4⟩ = q at RN
      clear hv hat hvk hdr
      cases q with
      | true =>
        obtain rfl : R = true := RN.out
        go_wp2_with fail
        refine wp_region_uni (S := (fun w' => Bel wr w' ∧ (∀ b o, b < wr.heap.size → w'.cell? ⟨b, o, none⟩ = wr.cell? ⟨b, o, none⟩))) (by kernel_rfl) (by kernel_rfl) keep0 ?_
        repeat (first | (refine wpUni_skip (by rfl) ?_; (try simp only [Act.put, List.setIfInBounds_toArray, List.set_cons_zero, List.set_cons_succ]))
                                                            | (refine wpUni_value (by rfl) (fun w hS => by (try dsimp only at hS); go_simp; first | done | with_reducible rfl) ?_; (try simp only [Act.put, List.setIfInBounds_toArray, List.set_cons_zero, List.set_cons_succ])))
        refine wpUni_nil fun W1 hS => ?_
        have hb1 := hb.trans hS.1
        clear hS
        go_wp2_with fail
        go_ret
        exact ⟨rfl, hbW.trans hb1⟩
      | false =>
        have RN := Lib.hid (show R = memV (r.drop (k + 1)) ⟨v0, v1, v2, v3, v4⟩ from RN.out)
        go_wp2_with fail
        refine wp_region_uni (S := (fun w' => Bel wr w' ∧ (∀ b o, b < wr.heap.size → w'.cell? ⟨b, o, none⟩ = wr.cell? ⟨b, o, none⟩))) (by kernel_rfl) (by kernel_rfl) keep0 ?_
        repeat (first | (refine wpUni_skip (by rfl) ?_; (try simp only [Act.put, List.setIfInBounds_toArray, List.set_cons_zero, List.set_cons_succ]))
                                                            | (refine wpUni_value (by rfl) (fun w hS => by (try dsimp only at hS); go_simp; first | done | with_reducible rfl) ?_; (try simp only [Act.put, List.setIfInBounds_toArray, List.set_cons_zero, List.set_cons_succ])))
        refine wpUni_nil fun W1 hS => ?_
        have hb1 := hb.trans hS.1
        clear hS
        go_wp2_with fail
        go_roundg (r.length - (k + 1))
        case measure => have := hh.out.2; omega
        case rel => exact ⟨k + 1, by go_num, by omega, ⟨RN.out, rfl⟩, hb1⟩
    · obtain rfl : k = r.length := by omega
      have h := hh.out.1
      rw [List.drop_length] at h
      obtain rfl : R = false := h
      go_wp2_with fail
      go_ret
      exact ⟨rfl, hbW.trans hb⟩
set_option maxRecDepth 100000 in
set_option maxHeartbeats 8000000 in
theorem g65_any (r : List Val) (A : Option Addr) (c : Nat) (w : World) (hv : Vals w A r) (h0 : 0 < r.length) (hl : r.length ≤ 9223372036854775807) :
    Calls Try.prog 24 #[.int .i64 65, .slice A r.length c] w fun e w' => e = .returned (comm r).val ∧ Bel w w' := by
  have e2 : (0 : Int) < r.length := by omega
  have hli : (r.length : Int) ≤ 9223372036854775807 := by omega
  obtain ⟨b, off, rfl, hlt, ha⟩ := hd_at hv h0
  obtain ⟨R, hR⟩ : ∃ R, R = comm r := ⟨_, rfl⟩
  rw [← hR]
  have RR := Lib.hid hR
  have HT := Lib.hid (hd_mem h0)
  have HD := Lib.hid (show ∃ b0, b0 = hd r from ⟨_, rfl⟩)
  obtain ⟨b0, hb0⟩ := HD.out
  rw [← hb0] at ha HT
  have HE := Lib.hid hb0
  clear hR HD hb0
  obtain ⟨q0, q1, q2, q3, q4⟩ := b0
  obtain ⟨a0, a1, a2, a3, a4⟩ := ha
  go_enter Try.func24, Try.ntmps24
  go_wp2_with fail
  refine under_name (w0 := w) (by (repeat (first | with_reducible exact Bel.refl _ | with_reducible refine Bel.setCell ?_ (by first | exact Nat.le_refl _ | (dsimp only; omega)) _ | with_reducible refine Bel.alloc ?_ _ | with_reducible refine Bel.drew ?_ | with_reducible assumption | with_reducible refine Bel.trans ?_ (by assumption)))) fun W hc hf hz hb => ?_
  have n1 : Slot W w.heap.size nul := by simp [Slot, ValAt, FreeAt, nul, hc, hf, hz, go_sem]
  have n2 : Slot W (w.heap.size + 1) ⟨q0, q1, q2, q3, q4⟩ := by simp [Slot, ValAt, FreeAt, hc, hf, hz, go_sem]
  clear hc hf hz
  generalize hB : w.heap.size = B at n1 n2 ⊢
  have HB := Lib.hid (show w.heap.size ≤ B from by omega)
  clear hB
  go_loopg [6] r.length (fun g i wr => ∃ k : Nat, i = .int .i64 k ∧ k ≤ r.length ∧ Hid (((r.take k).any fun v => !veq v (hd r)) = false ∧ g = r.length - k) ∧ Bel w wr ∧ Slot wr B nul ∧ Slot wr (B + 1) ⟨q0, q1, q2, q3, q4⟩)
  case atStart => exact ⟨0, rfl, Nat.zero_le _, ⟨rfl, rfl⟩, hb, n1, n2⟩
  case round =>
    obtain ⟨k, rfl, hk, hh, hb, N1, N2⟩ := hrel
    have NN1 := Lib.hid N1
    have NN2 := Lib.hid N2
    by_cases hp : k < r.length
    · obtain ⟨b', off', e, hlt', hat⟩ := hv (by omega)
      cases e
      obtain ⟨u, hvk⟩ : ∃ u, r[k]? = some u := ⟨_, List.getElem?_eq_getElem hp⟩
      have hx := (hat k u hvk).keep hb hlt'
      have lt1 := Nat.lt_of_lt_of_le hlt' hb.size
      have i1 : (k : Int) < r.length := by omega
      have i2 : (0 : Int) ≤ (k : Int) := by omega
      have ne1 : ¬ B = wr.heap.size := by omega
      have ne2 : ¬ B + 1 = wr.heap.size := by omega
      have MU := Lib.hid (List.mem_of_getElem? hvk)
      have RB := Lib.hid (show veq u ⟨q0, q1, q2, q3, q4⟩ = false → R = nul from fun h => by
        rw [RR.out]
        unfold comm
        rw [if_pos (List.any_eq_true.2 ⟨u, MU.out, by rw [← HE.out, h]; rfl⟩)])
      have RG := Lib.hid (show veq u ⟨q0, q1, q2, q3, q4⟩ = true → ((r.take (k + 1)).any fun v => !veq v (hd r)) = false from fun h => by
        rw [List.take_add_one, hvk, List.any_append, hh.out.1, ← HE.out]; simp [h])
      generalize hq : veq u ⟨q0, q1, q2, q3, q4⟩ = q at RB RG
      obtain ⟨u0, u1, u2, u3, u4⟩ := u
      obtain ⟨x0, x1, x2, x3, x4⟩ := hx
      have g0 := (hb.cells _ off hlt).trans a0
      have g1 := (hb.cells _ (off + 1) hlt).trans a1
      have g2 := (hb.cells _ (off + 2) hlt).trans a2
      have g3 := (hb.cells _ (off + 3) hlt).trans a3
      have g4 := (hb.cells _ (off + 4) hlt).trans a4
      clear hat hvk N1 N2
      go_upto_region 15 with fail
      refine under_name (by (first | exact (Bel.refl wr).alloc _ | ((repeat (first | with_reducible exact Bel.refl _ | with_reducible refine Bel.setCell ?_ (by first | exact Nat.le_refl _ | (dsimp only; omega)) _ | with_reducible refine Bel.alloc ?_ _ | with_reducible refine Bel.drew ?_ | with_reducible assumption | with_reducible refine Bel.trans ?_ (by assumption)))))) fun W2 hc hf hz hbW => ?_
      have m3 : Sl5 W2 wr.heap.size u0 u1 u2 u3 u4 := by simp [Sl5, FreeAt, hc, hf, hz, go_sem]
      rw [← hbW.cells _ _ lt1] at g0 g1 g2 g3 g4
      have lt2 := Nat.lt_of_lt_of_le lt1 hbW.size
      obtain ⟨m0, ⟨m1, m2, m3, m4, m5⟩, _⟩ := m3
      clear hc hf hz x0 x1 x2 x3 x4
      refine wp_region_uni (S := (fun w' => Bel W2 w' ∧ (∀ b o, b < W2.heap.size → w'.cell? ⟨b, o, none⟩ = W2.cell? ⟨b, o, none⟩))) (by kernel_rfl) (by kernel_rfl) keep0 ?_
      repeat (first | (refine wpUni_skip (by rfl) ?_; (try simp only [Act.put, List.setIfInBounds_toArray, List.set_cons_zero, List.set_cons_succ]))
                                                            | (refine wpUni_value (by rfl) (fun w hS => by (try dsimp only at hS); go_simp; first | done | with_reducible rfl) ?_; (try simp only [Act.put, List.setIfInBounds_toArray, List.set_cons_zero, List.set_cons_succ])))
      refine wpUni_nil fun W3 hS => ?_
      have hbX := hbW.trans hS.1
      clear hS
      cases q with
      | false =>
        obtain rfl : R = nul := RB.out rfl
        obtain ⟨s0, ⟨s1, s2, s3, s4, s5⟩, ⟨f1, f2, f3, f4, f5⟩⟩ := NN1.out.keep hbX
        simp only [nul, Nat.zero_add] at s1 s2 s3 s4 s5
        go_wp2_with fail
        refine bodyPost_ret (by simp [results, Try.results24, go_sem, nul, s1, s2, s3, s4, s5]; try rfl) rfl ⟨rfl, ?_⟩
        have hB' := HB.out
        have hq1 := hb.trans hbX
        (repeat (first | with_reducible exact Bel.refl _ | with_reducible refine Bel.setCell ?_ (by first | exact Nat.le_refl _ | (dsimp only; omega)) _ | with_reducible refine Bel.alloc ?_ _ | with_reducible refine Bel.drew ?_ | with_reducible assumption | with_reducible refine Bel.trans ?_ (by assumption)))
      | true =>
        go_wp2_with fail
        go_roundg (r.length - (k + 1))
        case measure => have := hh.out.2; omega
        case rel => exact ⟨k + 1, by go_num, by omega, ⟨RG.out (by trivial), rfl⟩, hb.trans hbX, NN1.out.keep hbX, NN2.out.keep hbX⟩
    · obtain rfl : k = r.length := by omega
      have h := hh.out.1
      rw [List.take_length] at h
      have hR : R = ⟨q0, q1, q2, q3, q4⟩ := by
        rw [RR.out, HE.out]
        unfold comm
        rw [h]
        rfl
      subst hR
      obtain ⟨s0, ⟨s1, s2, s3, s4, s5⟩, ⟨f1, f2, f3, f4, f5⟩⟩ := N1
      obtain ⟨y0, ⟨y1, y2, y3, y4, y5⟩, ⟨z1, z2, z3, z4, z5⟩⟩ := N2
      simp only [nul, Nat.zero_add] at s1 s2 s3 s4 s5 y1 y2 y3 y4 y5
      have nn : ¬ B = B + 1 := by omega
      go_wp2_with fail
      refine bodyPost_ret (by simp [results, Try.results24, go_sem, nul, s1, s2, s3, s4, s5]; try rfl) rfl ⟨rfl, ?_⟩
      have hB' := HB.out
      (repeat (first | with_reducible exact Bel.refl _ | with_reducible refine Bel.setCell ?_ (by first | exact Nat.le_refl _ | (dsimp only; omega)) _ | with_reducible refine Bel.alloc ?_ _ | with_reducible refine Bel.drew ?_ | with_reducible assumption | with_reducible refine Bel.trans ?_ (by assumption)))
set_option maxRecDepth 100000 in
set_option maxHeartbeats 8000000 in
theorem g43_any (r : List Val) (A : Option Addr) (c : Nat) (w : World) (hv : Vals w A r) (h0 : 0 < r.length) (hl : r.length ≤ 9223372036854775807) :
    Calls Try.prog 24 #[.int .i64 43, .slice A r.length c] w fun e w' => e = .returned (sumF 0 0 r).val ∧ Bel w w' := by
  have e2 : (0 : Int) < r.length := by omega
  have hli : (r.length : Int) ≤ 9223372036854775807 := by omega
  obtain ⟨b, off, rfl, hlt, ha⟩ := hd_at hv h0
  obtain ⟨R, hR⟩ : ∃ R, R = sumF 0 0 r := ⟨_, rfl⟩
  rw [← hR]
  have RR := Lib.hid hR
  have HT := Lib.hid (hd_mem h0)
  have HD := Lib.hid (show ∃ b0, b0 = hd r from ⟨_, rfl⟩)
  obtain ⟨b0, hb0⟩ := HD.out
  rw [← hb0] at ha HT
  have HE := Lib.hid hb0
  clear hR HD hb0
  obtain ⟨q0, q1, q2, q3, q4⟩ := b0
  obtain ⟨a0, a1, a2, a3, a4⟩ := ha
  go_enter Try.func24, Try.ntmps24
  go_wp2_with fail
  refine under_name (w0 := w) (by (repeat (first | with_reducible exact Bel.refl _ | with_reducible refine Bel.setCell ?_ (by first | exact Nat.le_refl _ | (dsimp only; omega)) _ | with_reducible refine Bel.alloc ?_ _ | with_reducible refine Bel.drew ?_ | with_reducible assumption | with_reducible refine Bel.trans ?_ (by assumption)))) fun W hc hf hz hb => ?_
  have n1 : Slot W w.heap.size nul := by simp [Slot, ValAt, FreeAt, nul, hc, hf, hz, go_sem]
  have n2 : Slot W (w.heap.size + 1) ⟨1, 0, 0, ⟨#[]⟩, 0⟩ := by simp [Slot, ValAt, FreeAt, hc, hf, hz, go_sem]
  clear hc hf hz
  generalize hB : w.heap.size = B at n1 n2 ⊢
  have HB := Lib.hid (show w.heap.size ≤ B from by omega)
  clear hB
  go_loopg [6] r.length (fun g i wr => ∃ (k : Nat) (n s : Int), i = .int .i64 k ∧ k ≤ r.length ∧ Hid (R = sumF n s (r.drop k) ∧ g = r.length - k) ∧ Bel w wr ∧ Slot wr B nul ∧ Slot wr (B + 1) ⟨1, n, s, ⟨#[]⟩, 0⟩)
  case atStart => exact ⟨0, 0, 0, rfl, Nat.zero_le _, ⟨RR.out, rfl⟩, hb, n1, n2⟩
  case round =>
    obtain ⟨k, n, s, rfl, hk, hh, hb, N1, N2⟩ := hrel
    have NN1 := Lib.hid N1
    have NN2 := Lib.hid N2
    obtain ⟨s0, ⟨s1, s2, s3, s4, s5⟩, ⟨f1, f2, f3, f4, f5⟩⟩ := N1
    simp only [nul, Nat.zero_add] at s1 s2 s3 s4 s5
    obtain ⟨y0, ⟨y1, y2, y3, y4, y5⟩, ⟨z1, z2, z3, z4, z5⟩⟩ := N2
    simp only [Nat.zero_add] at y1 y2 y3 y4 y5
    by_cases hp : k < r.length
    · obtain ⟨b', off', e, hlt', hat⟩ := hv (by omega)
      cases e
      obtain ⟨u, hvk⟩ : ∃ u, r[k]? = some u := ⟨_, List.getElem?_eq_getElem hp⟩
      have hx := (hat k u hvk).keep hb hlt'
      have lt1 := Nat.lt_of_lt_of_le hlt' hb.size
      have i1 : (k : Int) < r.length := by omega
      have i2 : (0 : Int) ≤ (k : Int) := by omega
      have ne1 : ¬ B = wr.heap.size := by omega
      have ne2 : ¬ B + 1 = wr.heap.size := by omega
      have hdr : r.drop k = u :: r.drop (k + 1) := by rw [List.drop_eq_getElem_cons hp]; simp [List.getElem?_eq_getElem hp] at hvk; rw [hvk]
      have RN := Lib.hid (show R = if u.kind = 1 ∧ (addT n s u.n u.scale).2.2 = 0 then sumF (addT n s u.n u.scale).1 (addT n s u.n u.scale).2.1 (r.drop (k + 1)) else nul from by rw [hh.out.1, hdr]; rfl)
      have cc := fun W => radd_any n s u.n u.scale W
      rw [addV_T] at cc
      have C := Lib.hid cc
      obtain ⟨u0, u1, u2, u3, u4⟩ := u
      obtain ⟨x0, x1, x2, x3, x4⟩ := hx
      simp only at C RN
      generalize (addT n s u1 u2).1 = n' at C RN
      generalize (addT n s u1 u2).2.1 = s' at C RN
      generalize (addT n s u1 u2).2.2 = er at C RN
      clear cc hat hvk hdr hv a0 a1 a2 a3 a4
      by_cases h1 : u0 = 1 ∧ er = 0
      · obtain ⟨rfl, rfl⟩ := h1
        have RN := Lib.hid (RN.out.trans (if_pos ⟨rfl, rfl⟩))
        go_wp2_with (go_at_call 37; with_reducible refine Calls.mono (C.out _) ?_; rintro e W1 ⟨rfl, hb1⟩; have hs1 := hb1.lt1; have hs2 : B < W1.heap.size := (by omega); have hs3 : B + 1 < W1.heap.size := (by omega); have ne3 : ¬ B = W1.heap.size := (by omega); have ne4 : ¬ B + 1 = W1.heap.size := (by omega); have M2 := NN2.out.keep (((Bel.refl wr).alloc _).trans hb1); have MM1 := Lib.hid (NN1.out.keep (((Bel.refl wr).alloc _).trans hb1)); have MM2 := Lib.hid M2; have ne5 : ¬ wr.heap.size = W1.heap.size := (by omega); obtain ⟨_, ⟨d1, d2, d3, d4, d5⟩, _⟩ := (sl5_new wr 1 u1 u2 u3 u4).keep hb1; obtain ⟨t0, ⟨t1, t2, t3, t4, t5⟩, ⟨g1, g2, g3, g4, g5⟩⟩ := M2; simp only [Nat.zero_add] at t1 t2 t3 t4 t5)
        go_roundg (r.length - (k + 1))
        case measure => have := hh.out.2; omega
        case rel =>
          have hB' := HB.out
          refine ⟨k + 1, n', s', by go_num, by omega, ⟨RN.out, rfl⟩, ?_, ?_, (slot_dec _ _ MM2.out).keep ((Bel.refl _).alloc _)⟩
          · have hq1 := hb.trans (((Bel.refl wr).alloc _).trans hb1)
            (repeat (first | with_reducible exact Bel.refl _ | with_reducible refine Bel.setCell ?_ (by first | exact Nat.le_refl _ | (dsimp only; omega)) _ | with_reducible refine Bel.alloc ?_ _ | with_reducible refine Bel.drew ?_ | with_reducible assumption | with_reducible refine Bel.trans ?_ (by assumption)))
          · have nn : ¬ B = B + 1 := by omega
            exact (slot_other (slot_other MM1.out nn) nn).keep ((Bel.refl _).alloc _)
      · obtain rfl : R = nul := RN.out.trans (if_neg h1)
        clear RN
        by_cases hu : u0 = 1
        · subst hu
          have he : (er == 0) = false := beq_eq_false_iff_ne.2 fun h => h1 ⟨rfl, h⟩
          have he2 : (er != 0) = true := bne_iff_ne.2 fun h => h1 ⟨rfl, h⟩
          go_wp2_with (go_at_call 37; with_reducible refine Calls.mono (C.out _) ?_; rintro e W1 ⟨rfl, hb1⟩; have hs1 := hb1.lt1; have hs2 : B < W1.heap.size := (by omega); have ne3 : ¬ B = W1.heap.size := (by omega); have ne5 : ¬ wr.heap.size = W1.heap.size := (by omega); obtain ⟨_, ⟨d1, d2, d3, d4, d5⟩, _⟩ := (sl5_new wr 1 u1 u2 u3 u4).keep hb1; have M1 := NN1.out.keep (((Bel.refl wr).alloc _).trans hb1); have MM1 := Lib.hid M1; obtain ⟨t0, ⟨t1, t2, t3, t4, t5⟩, ⟨g1, g2, g3, g4, g5⟩⟩ := M1; simp only [nul, Nat.zero_add] at t1 t2 t3 t4 t5)
          have hB' := HB.out
          have hq1 := hb.trans (((Bel.refl wr).alloc _).trans hb1)
          refine under_ret (w0 := w) ((slot_put 0 0 0 ⟨#[]⟩ 0 MM1.out).keep ((Bel.refl _).alloc (.cells #[.int .i64 n', .int .i64 s'] 24))) ?_ fun X SX BX => ?_
          · (repeat (first | with_reducible exact Bel.refl _ | with_reducible refine Bel.setCell ?_ (by first | exact Nat.le_refl _ | (dsimp only; omega)) _ | with_reducible refine Bel.alloc ?_ _ | with_reducible refine Bel.drew ?_ | with_reducible assumption | with_reducible refine Bel.trans ?_ (by assumption)))
          obtain ⟨_, ⟨r1, r2, r3, r4, r5⟩, _⟩ := SX
          simp only [Nat.zero_add] at r1 r2 r3 r4 r5
          exact bodyPost_ret (by simp [results, Try.results24, go_sem, nul, r1, r2, r3, r4, r5]; try rfl) rfl ⟨rfl, BX⟩
        · have he : (u0 == 1) = false := beq_eq_false_iff_ne.2 hu
          have he2 : (u0 != 1) = true := bne_iff_ne.2 hu
          go_wp2_with (go_at_call 37; with_reducible refine Calls.mono (C.out _) ?_; rintro e W1 ⟨rfl, hb1⟩; have hs1 := hb1.lt1; have hs2 : B < W1.heap.size := (by omega); have ne3 : ¬ B = W1.heap.size := (by omega); have ne5 : ¬ wr.heap.size = W1.heap.size := (by omega); obtain ⟨_, ⟨d1, d2, d3, d4, d5⟩, _⟩ := (sl5_new wr u0 u1 u2 u3 u4).keep hb1; have M1 := NN1.out.keep (((Bel.refl wr).alloc _).trans hb1); have MM1 := Lib.hid M1; obtain ⟨t0, ⟨t1, t2, t3, t4, t5⟩, ⟨g1, g2, g3, g4, g5⟩⟩ := M1; simp only [nul, Nat.zero_add] at t1 t2 t3 t4 t5)
          have hB' := HB.out
          have hq1 := hb.trans (((Bel.refl wr).alloc _).trans hb1)
          refine under_ret (w0 := w) ((slot_put 0 0 0 ⟨#[]⟩ 0 MM1.out).keep ((Bel.refl _).alloc (.cells #[.int .i64 n', .int .i64 s'] 24))) ?_ fun X SX BX => ?_
          · (repeat (first | with_reducible exact Bel.refl _ | with_reducible refine Bel.setCell ?_ (by first | exact Nat.le_refl _ | (dsimp only; omega)) _ | with_reducible refine Bel.alloc ?_ _ | with_reducible refine Bel.drew ?_ | with_reducible assumption | with_reducible refine Bel.trans ?_ (by assumption)))
          obtain ⟨_, ⟨r1, r2, r3, r4, r5⟩, _⟩ := SX
          simp only [Nat.zero_add] at r1 r2 r3 r4 r5
          exact bodyPost_ret (by simp [results, Try.results24, go_sem, nul, r1, r2, r3, r4, r5]; try rfl) rfl ⟨rfl, BX⟩
    · obtain rfl : k = r.length := by omega
      have h := hh.out.1
      rw [List.drop_length] at h
      obtain rfl : R = ⟨1, n, s, ⟨#[]⟩, 0⟩ := h
      have nn : ¬ B = B + 1 := by omega
      go_wp2_with fail
      refine bodyPost_ret (by simp [results, Try.results24, go_sem, nul, s1, s2, s3, s4, s5]; try rfl) rfl ⟨rfl, ?_⟩
      have hB' := HB.out
      (repeat (first | with_reducible exact Bel.refl _ | with_reducible refine Bel.setCell ?_ (by first | exact Nat.le_refl _ | (dsimp only; omega)) _ | with_reducible refine Bel.alloc ?_ _ | with_reducible refine Bel.drew ?_ | with_reducible assumption | with_reducible refine Bel.trans ?_ (by assumption)))
end Go.Proofs.Yteblpdoljhmcmaa
