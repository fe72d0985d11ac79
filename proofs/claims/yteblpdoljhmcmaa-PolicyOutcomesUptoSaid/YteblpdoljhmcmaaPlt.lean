import Derived.Test.YteblpdoljhmcmaaPlq
namespace Go.Proofs.Yteblpdoljhmcmaa
set_option linter.unusedSimpArgs false
set_option linter.unusedVariables false
open Go.RowKit Go.Lib
attribute [local go_sem ↓] eql_val neq_val

/-! The document's answers: the least, the greatest. -/
set_option maxRecDepth 100000 in
set_option maxHeartbeats 8000000 in
theorem g60_any (r : List Val) (A : Option Addr) (c : Nat) (w : World) (hv : Vals w A r) (h0 : 0 < r.length) (hl : r.length ≤ 9223372036854775807) (ht : ∀ v ∈ r, v.text.size ≤ 9223372036854775807) (hsn : ∀ v ∈ r, vsnd v = true) :
    Calls Try.prog 24 #[.int .i64 60, .slice A r.length c] w fun e w' => e = .returned (extF (-1) (hd r) r).val ∧ Bel w w' := by
  have T := Lib.hid ht
  have S := Lib.hid hsn
  clear ht hsn
  have e2 : (0 : Int) < r.length := by omega
  have hli : (r.length : Int) ≤ 9223372036854775807 := by omega
  obtain ⟨b, off, rfl, hlt, ha⟩ := hd_at hv h0
  obtain ⟨R, hR⟩ : ∃ R, R = extF (-1) (hd r) r := ⟨_, rfl⟩
  rw [← hR]
  have RR := Lib.hid hR
  have HT := Lib.hid (hd_mem h0)
  have HD := Lib.hid (show ∃ b0, b0 = hd r from ⟨_, rfl⟩)
  obtain ⟨b0, hb0⟩ := HD.out
  rw [← hb0] at ha HT
  have HE := Lib.hid hb0
  clear hR HD hb0
  obtain ⟨q0, q1, q2, q3, q4⟩ := b0
  obtain ⟨a0, a1, a2, a3, a4⟩ := ha
  go_enter Try.func24, Try.ntmps24
  go_wp2_with fail
  refine under_name (w0 := w) (by (repeat (first | with_reducible exact Bel.refl _ | with_reducible refine Bel.setCell ?_ (by first | exact Nat.le_refl _ | (dsimp only; omega)) _ | with_reducible refine Bel.alloc ?_ _ | with_reducible refine Bel.drew ?_ | with_reducible assumption | with_reducible refine Bel.trans ?_ (by assumption)))) fun W hc hf hz hb => ?_
  have n1 : Slot W w.heap.size nul := by simp [Slot, ValAt, FreeAt, nul, hc, hf, hz, go_sem]
  have n2 : Slot W (w.heap.size + 1) ⟨q0, q1, q2, q3, q4⟩ := by simp [Slot, ValAt, FreeAt, hc, hf, hz, go_sem]
  clear hc hf hz
  generalize hB : w.heap.size = B at n1 n2 ⊢
  have HB := Lib.hid (show w.heap.size ≤ B from by omega)
  clear hB
  have RR := Lib.hid (show R = extF (-1) ⟨q0, q1, q2, q3, q4⟩ r from by rw [RR.out, HE.out])
  go_loopg [6] r.length (fun g i wr => ∃ (k : Nat) (p : Val), i = .int .i64 k ∧ k ≤ r.length ∧ Hid (R = extF (-1) p (r.drop k) ∧ p ∈ r ∧ p.kind = q0 ∧ g = r.length - k) ∧ Bel w wr ∧ Slot wr B nul ∧ Slot wr (B + 1) p)
  case atStart => exact ⟨0, _, rfl, Nat.zero_le _, ⟨RR.out, HT.out, rfl, rfl⟩, hb, n1, n2⟩
  case round =>
    obtain ⟨k, p, rfl, hk, hh, hb, N1, N2⟩ := hrel
    have NN1 := Lib.hid N1
    have NN2 := Lib.hid N2
    by_cases hp : k < r.length
    · obtain ⟨b', off', e, hlt', hat⟩ := hv (by omega)
      cases e
      obtain ⟨u, hvk⟩ : ∃ u, r[k]? = some u := ⟨_, List.getElem?_eq_getElem hp⟩
      have hx := (hat k u hvk).keep hb hlt'
      have lt1 := Nat.lt_of_lt_of_le hlt' hb.size
      have i1 : (k : Int) < r.length := by omega
      have i2 : (0 : Int) ≤ (k : Int) := by omega
      have ne1 : ¬ B = wr.heap.size := by omega
      have ne2 : ¬ B + 1 = wr.heap.size := by omega
      have hdr : r.drop k = u :: r.drop (k + 1) := by rw [List.drop_eq_getElem_cons hp]; simp [List.getElem?_eq_getElem hp] at hvk; rw [hvk]
      have RN := Lib.hid (show R = if u.kind = 0 ∨ u.kind ≠ p.kind then nul else extF (-1) (if vcmp u p = -1 then u else p) (r.drop (k + 1)) from by rw [hh.out.1, hdr]; rfl)
      have hmem : u ∈ r := List.mem_of_getElem? hvk
      have MU := Lib.hid hmem
      have MP := Lib.hid hh.out.2.1
      have PK := Lib.hid hh.out.2.2.1
      have cc := fun W => rvcompare_any u p (T.out u hmem) (T.out p hh.out.2.1) W
      rw [show vcmpV u p = .tuple #[.int .i64 (vcmp u p), .int .i64 0] from if_pos ⟨S.out u hmem, S.out p hh.out.2.1⟩] at cc
      have C := Lib.hid cc
      have bd := vcmp_bd u p
      generalize hcm : vcmp u p = cm at C RN bd
      have g0 := (hb.cells _ off hlt).trans a0
      clear cc hcm hmem hat hvk hdr N1 N2
      obtain ⟨u0, u1, u2, u3, u4⟩ := u
      obtain ⟨p0, p1, p2, p3, p4⟩ := p
      obtain ⟨x0, x1, x2, x3, x4⟩ := hx
      obtain rfl : p0 = q0 := PK.out
      go_upto_region 9 with fail
      refine under_name (by (first | exact (Bel.refl wr).alloc _ | ((repeat (first | with_reducible exact Bel.refl _ | with_reducible refine Bel.setCell ?_ (by first | exact Nat.le_refl _ | (dsimp only; omega)) _ | with_reducible refine Bel.alloc ?_ _ | with_reducible refine Bel.drew ?_ | with_reducible assumption | with_reducible refine Bel.trans ?_ (by assumption)))))) fun W2 hc hf hz hbW => ?_
      have m3 : Sl5 W2 wr.heap.size u0 u1 u2 u3 u4 := by simp [Sl5, FreeAt, hc, hf, hz, go_sem]
      have M3 := Lib.hid m3
      rw [← hbW.cells _ _ lt1] at g0
      have lt2 := Nat.lt_of_lt_of_le lt1 hbW.size
      obtain ⟨m0, ⟨m1, m2, m3, m4, m5⟩, _⟩ := m3
      clear hc hf hz x0 x1 x2 x3 x4
      by_cases h1 : u0 = 0
      · subst h1
        obtain rfl : R = nul := RN.out.trans (if_pos (.inl rfl))
        clear RN
        refine wp_region_uni (S := (fun w' => Bel W2 w' ∧ (∀ b o, b < W2.heap.size → w'.cell? ⟨b, o, none⟩ = W2.cell? ⟨b, o, none⟩))) (by kernel_rfl) (by kernel_rfl) keep0 ?_
        repeat (first | (refine wpUni_skip (by rfl) ?_; (try simp only [Act.put, List.setIfInBounds_toArray, List.set_cons_zero, List.set_cons_succ]))
                                                            | (refine wpUni_value (by rfl) (fun w hS => by (try dsimp only at hS); go_simp; first | done | with_reducible rfl) ?_; (try simp only [Act.put, List.setIfInBounds_toArray, List.set_cons_zero, List.set_cons_succ])))
        refine wpUni_nil fun W3 hS => ?_
        have hbX := hbW.trans hS.1
        clear hS
        obtain ⟨s0, ⟨s1, s2, s3, s4, s5⟩, ⟨f1, f2, f3, f4, f5⟩⟩ := NN1.out.keep hbX
        simp only [nul, Nat.zero_add] at s1 s2 s3 s4 s5
        go_wp2_with fail
        refine bodyPost_ret (by simp [results, Try.results24, go_sem, nul, s1, s2, s3, s4, s5]; try rfl) rfl ⟨rfl, ?_⟩
        have hB' := HB.out
        have hq1 := hb.trans hbX
        (repeat (first | with_reducible exact Bel.refl _ | with_reducible refine Bel.setCell ?_ (by first | exact Nat.le_refl _ | (dsimp only; omega)) _ | with_reducible refine Bel.alloc ?_ _ | with_reducible refine Bel.drew ?_ | with_reducible assumption | with_reducible refine Bel.trans ?_ (by assumption)))
      · have e1 : (u0 == 0) = false := by simp [h1]
        by_cases h2 : u0 = p0
        · subst h2
          have RN := Lib.hid (RN.out.trans (if_neg (by simp [h1])))
          refine wp_region_uni (S := (fun w' => Bel W2 w' ∧ (∀ b o, b < W2.heap.size → w'.cell? ⟨b, o, none⟩ = W2.cell? ⟨b, o, none⟩))) (by kernel_rfl) (by kernel_rfl) keep0 ?_
          repeat (first | (refine wpUni_skip (by rfl) ?_; (try simp only [Act.put, List.setIfInBounds_toArray, List.set_cons_zero, List.set_cons_succ]))
                                                            | (refine wpUni_value (by rfl) (fun w hS => by (try dsimp only at hS); go_simp; first | done | with_reducible rfl) ?_; (try simp only [Act.put, List.setIfInBounds_toArray, List.set_cons_zero, List.set_cons_succ])))
          refine wpUni_nil fun W3 hS => ?_
          have hbX := hbW.trans hS.1
          have M3 := M3.out.keep hS.1
          clear hS m0 m1 m2 m3 m4 m5
          have Y := NN2.out.keep hbX
          have YY := Lib.hid Y
          obtain ⟨y0, ⟨y1, y2, y3, y4, y5⟩, ⟨z1, z2, z3, z4, z5⟩⟩ := Y
          simp only [Nat.zero_add] at y1 y2 y3 y4 y5
          obtain ⟨m0, ⟨m1, m2, m3, m4, m5⟩, _⟩ := M3
          by_cases h3 : cm = -1
          · subst h3
            have RN := Lib.hid (RN.out.trans (by rw [if_pos rfl]))
            go_wp2_with (go_at_call 15; with_reducible refine Calls.mono (C.out _) ?_; rintro e W4 ⟨rfl, hb4⟩; have MM2 := Lib.hid (YY.out.keep hb4); have MM1 := Lib.hid (NN1.out.keep (hbX.trans hb4)); obtain ⟨_, ⟨d1, d2, d3, d4, d5⟩, _⟩ := (show Sl5 W3 wr.heap.size u0 u1 u2 u3 u4 from ⟨m0, ⟨m1, m2, m3, m4, m5⟩, ‹_›⟩).keep hb4; obtain ⟨t0, ⟨t1, t2, t3, t4, t5⟩, ⟨g1, g2, g3, g4, g5⟩⟩ := MM2.out; simp only [Nat.zero_add] at t1 t2 t3 t4 t5)
            go_roundg (r.length - (k + 1))
            case measure => have := hh.out.2.2.2; omega
            case rel =>
              have hB' := HB.out
              refine ⟨k + 1, ⟨u0, u1, u2, u3, u4⟩, by go_num, by omega, ⟨RN.out, MU.out, rfl, rfl⟩, ?_, ?_, slot_put u0 u1 u2 u3 u4 MM2.out⟩
              · have hq1 := hb.trans (hbX.trans hb4)
                (repeat (first | with_reducible exact Bel.refl _ | with_reducible refine Bel.setCell ?_ (by first | exact Nat.le_refl _ | (dsimp only; omega)) _ | with_reducible refine Bel.alloc ?_ _ | with_reducible refine Bel.drew ?_ | with_reducible assumption | with_reducible refine Bel.trans ?_ (by assumption)))
              · have nn : ¬ B = B + 1 := by omega
                exact slot_other (slot_other (slot_other (slot_other (slot_other MM1.out nn) nn) nn) nn) nn
          · have RN := Lib.hid (RN.out.trans (by rw [if_neg h3]))
            have e3 : ¬ cm < 0 := by omega
            go_wp2_with (go_at_call 15; with_reducible refine Calls.mono (C.out _) ?_; rintro e W4 ⟨rfl, hb4⟩; have MM2 := Lib.hid (YY.out.keep hb4); have MM1 := Lib.hid (NN1.out.keep (hbX.trans hb4)))
            go_roundg (r.length - (k + 1))
            case measure => have := hh.out.2.2.2; omega
            case rel => exact ⟨k + 1, ⟨u0, p1, p2, p3, p4⟩, by go_num, by omega, ⟨RN.out, MP.out, rfl, rfl⟩, hb.trans (hbX.trans hb4), MM1.out, MM2.out⟩
        · obtain rfl : R = nul := RN.out.trans (if_pos (.inr h2))
          have e3 : (u0 == p0) = false := by simp [h2]
          have e4 : (u0 != p0) = true := by simp [h2]
          clear RN
          refine wp_region_uni (S := (fun w' => Bel W2 w' ∧ (∀ b o, b < W2.heap.size → w'.cell? ⟨b, o, none⟩ = W2.cell? ⟨b, o, none⟩))) (by kernel_rfl) (by kernel_rfl) keep0 ?_
          repeat (first | (refine wpUni_skip (by rfl) ?_; (try simp only [Act.put, List.setIfInBounds_toArray, List.set_cons_zero, List.set_cons_succ]))
                                                            | (refine wpUni_value (by rfl) (fun w hS => by (try dsimp only at hS); go_simp; first | done | with_reducible rfl) ?_; (try simp only [Act.put, List.setIfInBounds_toArray, List.set_cons_zero, List.set_cons_succ])))
          refine wpUni_nil fun W3 hS => ?_
          have hbX := hbW.trans hS.1
          clear hS
          obtain ⟨s0, ⟨s1, s2, s3, s4, s5⟩, ⟨f1, f2, f3, f4, f5⟩⟩ := NN1.out.keep hbX
          simp only [nul, Nat.zero_add] at s1 s2 s3 s4 s5
          go_wp2_with fail
          refine bodyPost_ret (by simp [results, Try.results24, go_sem, nul, s1, s2, s3, s4, s5]; try rfl) rfl ⟨rfl, ?_⟩
          have hB' := HB.out
          have hq1 := hb.trans hbX
          (repeat (first | with_reducible exact Bel.refl _ | with_reducible refine Bel.setCell ?_ (by first | exact Nat.le_refl _ | (dsimp only; omega)) _ | with_reducible refine Bel.alloc ?_ _ | with_reducible refine Bel.drew ?_ | with_reducible assumption | with_reducible refine Bel.trans ?_ (by assumption)))
    · obtain rfl : k = r.length := by omega
      have h := hh.out.1
      rw [List.drop_length] at h
      obtain rfl : R = p := h
      obtain ⟨p0, p1, p2, p3, p4⟩ := R
      obtain ⟨s0, ⟨s1, s2, s3, s4, s5⟩, ⟨f1, f2, f3, f4, f5⟩⟩ := N1
      obtain ⟨y0, ⟨y1, y2, y3, y4, y5⟩, ⟨z1, z2, z3, z4, z5⟩⟩ := N2
      simp only [nul, Nat.zero_add] at s1 s2 s3 s4 s5 y1 y2 y3 y4 y5
      have nn : ¬ B = B + 1 := by omega
      go_wp2_with fail
      refine bodyPost_ret (by simp [results, Try.results24, go_sem, nul, s1, s2, s3, s4, s5]; try rfl) rfl ⟨rfl, ?_⟩
      have hB' := HB.out
      (repeat (first | with_reducible exact Bel.refl _ | with_reducible refine Bel.setCell ?_ (by first | exact Nat.le_refl _ | (dsimp only; omega)) _ | with_reducible refine Bel.alloc ?_ _ | with_reducible refine Bel.drew ?_ | with_reducible assumption | with_reducible refine Bel.trans ?_ (by assumption)))
set_option maxRecDepth 100000 in
set_option maxHeartbeats 8000000 in
theorem g62_any (r : List Val) (A : Option Addr) (c : Nat) (w : World) (hv : Vals w A r) (h0 : 0 < r.length) (hl : r.length ≤ 9223372036854775807) (ht : ∀ v ∈ r, v.text.size ≤ 9223372036854775807) (hsn : ∀ v ∈ r, vsnd v = true) :
    Calls Try.prog 24 #[.int .i64 62, .slice A r.length c] w fun e w' => e = .returned (extF (1) (hd r) r).val ∧ Bel w w' := by
  have T := Lib.hid ht
  have S := Lib.hid hsn
  clear ht hsn
  have e2 : (0 : Int) < r.length := by omega
  have hli : (r.length : Int) ≤ 9223372036854775807 := by omega
  obtain ⟨b, off, rfl, hlt, ha⟩ := hd_at hv h0
  obtain ⟨R, hR⟩ : ∃ R, R = extF (1) (hd r) r := ⟨_, rfl⟩
  rw [← hR]
  have RR := Lib.hid hR
  have HT := Lib.hid (hd_mem h0)
  have HD := Lib.hid (show ∃ b0, b0 = hd r from ⟨_, rfl⟩)
  obtain ⟨b0, hb0⟩ := HD.out
  rw [← hb0] at ha HT
  have HE := Lib.hid hb0
  clear hR HD hb0
  obtain ⟨q0, q1, q2, q3, q4⟩ := b0
  obtain ⟨a0, a1, a2, a3, a4⟩ := ha
  go_enter Try.func24, Try.ntmps24
  go_wp2_with fail
  refine under_name (w0 := w) (by (repeat (first | with_reducible exact Bel.refl _ | with_reducible refine Bel.setCell ?_ (by first | exact Nat.le_refl _ | (dsimp only; omega)) _ | with_reducible refine Bel.alloc ?_ _ | with_reducible refine Bel.drew ?_ | with_reducible assumption | with_reducible refine Bel.trans ?_ (by assumption)))) fun W hc hf hz hb => ?_
  have n1 : Slot W w.heap.size nul := by simp [Slot, ValAt, FreeAt, nul, hc, hf, hz, go_sem]
  have n2 : Slot W (w.heap.size + 1) ⟨q0, q1, q2, q3, q4⟩ := by simp [Slot, ValAt, FreeAt, hc, hf, hz, go_sem]
  clear hc hf hz
  generalize hB : w.heap.size = B at n1 n2 ⊢
  have HB := Lib.hid (show w.heap.size ≤ B from by omega)
  clear hB
  have RR := Lib.hid (show R = extF (1) ⟨q0, q1, q2, q3, q4⟩ r from by rw [RR.out, HE.out])
  go_loopg [6] r.length (fun g i wr => ∃ (k : Nat) (p : Val), i = .int .i64 k ∧ k ≤ r.length ∧ Hid (R = extF (1) p (r.drop k) ∧ p ∈ r ∧ p.kind = q0 ∧ g = r.length - k) ∧ Bel w wr ∧ Slot wr B nul ∧ Slot wr (B + 1) p)
  case atStart => exact ⟨0, _, rfl, Nat.zero_le _, ⟨RR.out, HT.out, rfl, rfl⟩, hb, n1, n2⟩
  case round =>
    obtain ⟨k, p, rfl, hk, hh, hb, N1, N2⟩ := hrel
    have NN1 := Lib.hid N1
    have NN2 := Lib.hid N2
    by_cases hp : k < r.length
    · obtain ⟨b', off', e, hlt', hat⟩ := hv (by omega)
      cases e
      obtain ⟨u, hvk⟩ : ∃ u, r[k]? = some u := ⟨_, List.getElem?_eq_getElem hp⟩
      have hx := (hat k u hvk).keep hb hlt'
      have lt1 := Nat.lt_of_lt_of_le hlt' hb.size
      have i1 : (k : Int) < r.length := by omega
      have i2 : (0 : Int) ≤ (k : Int) := by omega
      have ne1 : ¬ B = wr.heap.size := by omega
      have ne2 : ¬ B + 1 = wr.heap.size := by omega
      have hdr : r.drop k = u :: r.drop (k + 1) := by rw [List.drop_eq_getElem_cons hp]; simp [List.getElem?_eq_getElem hp] at hvk; rw [hvk]
      have RN := Lib.hid (show R = if u.kind = 0 ∨ u.kind ≠ p.kind then nul else extF (1) (if vcmp u p = 1 then u else p) (r.drop (k + 1)) from by rw [hh.out.1, hdr]; rfl)
      have hmem : u ∈ r := List.mem_of_getElem? hvk
      have MU := Lib.hid hmem
      have MP := Lib.hid hh.out.2.1
      have PK := Lib.hid hh.out.2.2.1
      have cc := fun W => rvcompare_any u p (T.out u hmem) (T.out p hh.out.2.1) W
      rw [show vcmpV u p = .tuple #[.int .i64 (vcmp u p), .int .i64 0] from if_pos ⟨S.out u hmem, S.out p hh.out.2.1⟩] at cc
      have C := Lib.hid cc
      have bd := vcmp_bd u p
      generalize hcm : vcmp u p = cm at C RN bd
      have g0 := (hb.cells _ off hlt).trans a0
      clear cc hcm hmem hat hvk hdr N1 N2
      obtain ⟨u0, u1, u2, u3, u4⟩ := u
      obtain ⟨p0, p1, p2, p3, p4⟩ := p
      obtain ⟨x0, x1, x2, x3, x4⟩ := hx
      obtain rfl : p0 = q0 := PK.out
      go_upto_region 9 with fail
      refine under_name (by (first | exact (Bel.refl wr).alloc _ | ((repeat (first | with_reducible exact Bel.refl _ | with_reducible refine Bel.setCell ?_ (by first | exact Nat.le_refl _ | (dsimp only; omega)) _ | with_reducible refine Bel.alloc ?_ _ | with_reducible refine Bel.drew ?_ | with_reducible assumption | with_reducible refine Bel.trans ?_ (by assumption)))))) fun W2 hc hf hz hbW => ?_
      have m3 : Sl5 W2 wr.heap.size u0 u1 u2 u3 u4 := by simp [Sl5, FreeAt, hc, hf, hz, go_sem]
      have M3 := Lib.hid m3
      rw [← hbW.cells _ _ lt1] at g0
      have lt2 := Nat.lt_of_lt_of_le lt1 hbW.size
      obtain ⟨m0, ⟨m1, m2, m3, m4, m5⟩, _⟩ := m3
      clear hc hf hz x0 x1 x2 x3 x4
      by_cases h1 : u0 = 0
      · subst h1
        obtain rfl : R = nul := RN.out.trans (if_pos (.inl rfl))
        clear RN
        refine wp_region_uni (S := (fun w' => Bel W2 w' ∧ (∀ b o, b < W2.heap.size → w'.cell? ⟨b, o, none⟩ = W2.cell? ⟨b, o, none⟩))) (by kernel_rfl) (by kernel_rfl) keep0 ?_
        repeat (first | (refine wpUni_skip (by rfl) ?_; (try simp only [Act.put, List.setIfInBounds_toArray, List.set_cons_zero, List.set_cons_succ]))
                                                            | (refine wpUni_value (by rfl) (fun w hS => by (try dsimp only at hS); go_simp; first | done | with_reducible rfl) ?_; (try simp only [Act.put, List.setIfInBounds_toArray, List.set_cons_zero, List.set_cons_succ])))
        refine wpUni_nil fun W3 hS => ?_
        have hbX := hbW.trans hS.1
        clear hS
        obtain ⟨s0, ⟨s1, s2, s3, s4, s5⟩, ⟨f1, f2, f3, f4, f5⟩⟩ := NN1.out.keep hbX
        simp only [nul, Nat.zero_add] at s1 s2 s3 s4 s5
        go_wp2_with fail
        refine bodyPost_ret (by simp [results, Try.results24, go_sem, nul, s1, s2, s3, s4, s5]; try rfl) rfl ⟨rfl, ?_⟩
        have hB' := HB.out
        have hq1 := hb.trans hbX
        (repeat (first | with_reducible exact Bel.refl _ | with_reducible refine Bel.setCell ?_ (by first | exact Nat.le_refl _ | (dsimp only; omega)) _ | with_reducible refine Bel.alloc ?_ _ | with_reducible refine Bel.drew ?_ | with_reducible assumption | with_reducible refine Bel.trans ?_ (by assumption)))
      · have e1 : (u0 == 0) = false := by simp [h1]
        by_cases h2 : u0 = p0
        · subst h2
          have RN := Lib.hid (RN.out.trans (if_neg (by simp [h1])))
          refine wp_region_uni (S := (fun w' => Bel W2 w' ∧ (∀ b o, b < W2.heap.size → w'.cell? ⟨b, o, none⟩ = W2.cell? ⟨b, o, none⟩))) (by kernel_rfl) (by kernel_rfl) keep0 ?_
          repeat (first | (refine wpUni_skip (by rfl) ?_; (try simp only [Act.put, List.setIfInBounds_toArray, List.set_cons_zero, List.set_cons_succ]))
                                                            | (refine wpUni_value (by rfl) (fun w hS => by (try dsimp only at hS); go_simp; first | done | with_reducible rfl) ?_; (try simp only [Act.put, List.setIfInBounds_toArray, List.set_cons_zero, List.set_cons_succ])))
          refine wpUni_nil fun W3 hS => ?_
          have hbX := hbW.trans hS.1
          have M3 := M3.out.keep hS.1
          clear hS m0 m1 m2 m3 m4 m5
          have Y := NN2.out.keep hbX
          have YY := Lib.hid Y
          obtain ⟨y0, ⟨y1, y2, y3, y4, y5⟩, ⟨z1, z2, z3, z4, z5⟩⟩ := Y
          simp only [Nat.zero_add] at y1 y2 y3 y4 y5
          obtain ⟨m0, ⟨m1, m2, m3, m4, m5⟩, _⟩ := M3
          by_cases h3 : cm = 1
          · subst h3
            have RN := Lib.hid (RN.out.trans (by rw [if_pos rfl]))
            go_wp2_with (go_at_call 15; with_reducible refine Calls.mono (C.out _) ?_; rintro e W4 ⟨rfl, hb4⟩; have MM2 := Lib.hid (YY.out.keep hb4); have MM1 := Lib.hid (NN1.out.keep (hbX.trans hb4)); obtain ⟨_, ⟨d1, d2, d3, d4, d5⟩, _⟩ := (show Sl5 W3 wr.heap.size u0 u1 u2 u3 u4 from ⟨m0, ⟨m1, m2, m3, m4, m5⟩, ‹_›⟩).keep hb4; obtain ⟨t0, ⟨t1, t2, t3, t4, t5⟩, ⟨g1, g2, g3, g4, g5⟩⟩ := MM2.out; simp only [Nat.zero_add] at t1 t2 t3 t4 t5)
            go_roundg (r.length - (k + 1))
            case measure => have := hh.out.2.2.2; omega
            case rel =>
              have hB' := HB.out
              refine ⟨k + 1, ⟨u0, u1, u2, u3, u4⟩, by go_num, by omega, ⟨RN.out, MU.out, rfl, rfl⟩, ?_, ?_, slot_put u0 u1 u2 u3 u4 MM2.out⟩
              · have hq1 := hb.trans (hbX.trans hb4)
                (repeat (first | with_reducible exact Bel.refl _ | with_reducible refine Bel.setCell ?_ (by first | exact Nat.le_refl _ | (dsimp only; omega)) _ | with_reducible refine Bel.alloc ?_ _ | with_reducible refine Bel.drew ?_ | with_reducible assumption | with_reducible refine Bel.trans ?_ (by assumption)))
              · have nn : ¬ B = B + 1 := by omega
                exact slot_other (slot_other (slot_other (slot_other (slot_other MM1.out nn) nn) nn) nn) nn
          · have RN := Lib.hid (RN.out.trans (by rw [if_neg h3]))
            have e3 : ¬ 0 < cm := by omega
            go_wp2_with (go_at_call 15; with_reducible refine Calls.mono (C.out _) ?_; rintro e W4 ⟨rfl, hb4⟩; have MM2 := Lib.hid (YY.out.keep hb4); have MM1 := Lib.hid (NN1.out.keep (hbX.trans hb4)))
            go_roundg (r.length - (k + 1))
            case measure => have := hh.out.2.2.2; omega
            case rel => exact ⟨k + 1, ⟨u0, p1, p2, p3, p4⟩, by go_num, by omega, ⟨RN.out, MP.out, rfl, rfl⟩, hb.trans (hbX.trans hb4), MM1.out, MM2.out⟩
        · obtain rfl : R = nul := RN.out.trans (if_pos (.inr h2))
          have e3 : (u0 == p0) = false := by simp [h2]
          have e4 : (u0 != p0) = true := by simp [h2]
          clear RN
          refine wp_region_uni (S := (fun w' => Bel W2 w' ∧ (∀ b o, b < W2.heap.size → w'.cell? ⟨b, o, none⟩ = W2.cell? ⟨b, o, none⟩))) (by kernel_rfl) (by kernel_rfl) keep0 ?_
          repeat (first | (refine wpUni_skip (by rfl) ?_; (try simp only [Act.put, List.setIfInBounds_toArray, List.set_cons_zero, List.set_cons_succ]))
                                                            | (refine wpUni_value (by rfl) (fun w hS => by (try dsimp only at hS); go_simp; first | done | with_reducible rfl) ?_; (try simp only [Act.put, List.setIfInBounds_toArray, List.set_cons_zero, List.set_cons_succ])))
          refine wpUni_nil fun W3 hS => ?_
          have hbX := hbW.trans hS.1
          clear hS
          obtain ⟨s0, ⟨s1, s2, s3, s4, s5⟩, ⟨f1, f2, f3, f4, f5⟩⟩ := NN1.out.keep hbX
          simp only [nul, Nat.zero_add] at s1 s2 s3 s4 s5
          go_wp2_with fail
          refine bodyPost_ret (by simp [results, Try.results24, go_sem, nul, s1, s2, s3, s4, s5]; try rfl) rfl ⟨rfl, ?_⟩
          have hB' := HB.out
          have hq1 := hb.trans hbX
          (repeat (first | with_reducible exact Bel.refl _ | with_reducible refine Bel.setCell ?_ (by first | exact Nat.le_refl _ | (dsimp only; omega)) _ | with_reducible refine Bel.alloc ?_ _ | with_reducible refine Bel.drew ?_ | with_reducible assumption | with_reducible refine Bel.trans ?_ (by assumption)))
    · obtain rfl : k = r.length := by omega
      have h := hh.out.1
      rw [List.drop_length] at h
      obtain rfl : R = p := h
      obtain ⟨p0, p1, p2, p3, p4⟩ := R
      obtain ⟨s0, ⟨s1, s2, s3, s4, s5⟩, ⟨f1, f2, f3, f4, f5⟩⟩ := N1
      obtain ⟨y0, ⟨y1, y2, y3, y4, y5⟩, ⟨z1, z2, z3, z4, z5⟩⟩ := N2
      simp only [nul, Nat.zero_add] at s1 s2 s3 s4 s5 y1 y2 y3 y4 y5
      have nn : ¬ B = B + 1 := by omega
      go_wp2_with fail
      refine bodyPost_ret (by simp [results, Try.results24, go_sem, nul, s1, s2, s3, s4, s5]; try rfl) rfl ⟨rfl, ?_⟩
      have hB' := HB.out
      (repeat (first | with_reducible exact Bel.refl _ | with_reducible refine Bel.setCell ?_ (by first | exact Nat.le_refl _ | (dsimp only; omega)) _ | with_reducible refine Bel.alloc ?_ _ | with_reducible refine Bel.drew ?_ | with_reducible assumption | with_reducible refine Bel.trans ?_ (by assumption)))
end Go.Proofs.Yteblpdoljhmcmaa
