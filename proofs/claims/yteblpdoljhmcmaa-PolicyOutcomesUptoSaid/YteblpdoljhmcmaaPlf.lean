import Derived.Test.YteblpdoljhmcmaaPle
namespace Go.Proofs.Yteblpdoljhmcmaa
set_option linter.unusedSimpArgs false
set_option linter.unusedVariables false
open Go.RowKit Go.Lib
attribute [local go_sem ↓] eql_val neq_val

/-! What the methods of results give: sum, outcome. -/
theorem under_ret {P : Program} {f : Func} {Q : Ending → World → Prop} {a : Act} {w0 w : World} {B : Nat} {v : Val} (S : Slot w B v) (hb : Bel w0 w) (h : ∀ X, Slot X B v → Bel w0 X → bodyPost P f Q Exit.ret a X) : bodyPost P f Q Exit.ret a w := h w S hb
set_option maxRecDepth 100000 in
set_option maxHeartbeats 8000000 in
theorem sum_any (r : List Val) (A : Option Addr) (c : Nat) (w : World) (hv : Vals w A r) (h0 : 0 < r.length) (hl : r.length ≤ 9223372036854775807) :
    Calls Try.prog 33 #[.slice A r.length c] w fun e w' => e = .returned (sumF 0 0 r).val ∧ Bel w w' := by
  have hli : (r.length : Int) ≤ 9223372036854775807 := by omega
  obtain ⟨R, hR⟩ : ∃ R, R = sumF 0 0 r := ⟨_, rfl⟩
  rw [← hR]
  have RR := Lib.hid hR
  clear hR
  have BE := Lib.hid (Bel.refl w)
  go_enter Try.func33, Try.ntmps33
  go_wp2_with fail
  refine under_name (w0 := w) (by (repeat (first | with_reducible exact Bel.refl _ | with_reducible refine Bel.setCell ?_ (by first | exact Nat.le_refl _ | (dsimp only; omega)) _ | with_reducible refine Bel.alloc ?_ _ | with_reducible refine Bel.drew ?_ | with_reducible assumption | with_reducible refine Bel.trans ?_ (by assumption)))) fun W hc hf hz hb => ?_
  have n1 : Slot W w.heap.size nul := by simp [Slot, ValAt, FreeAt, nul, hc, hf, hz, go_sem]
  have n2 : Slot W (w.heap.size + 1) ⟨1, 0, 0, ⟨#[]⟩, 0⟩ := by simp [Slot, ValAt, FreeAt, hc, hf, hz, go_sem]
  clear hc hf hz
  generalize hB : w.heap.size = B at n1 n2 ⊢
  have HB := Lib.hid (show w.heap.size ≤ B from by omega)
  clear hB
  go_loopg [11] r.length (fun g i wr => ∃ (k : Nat) (n s : Int), i = .int .i64 k ∧ k ≤ r.length ∧ Hid (R = sumF n s (r.drop k) ∧ g = r.length - k) ∧ Bel w wr ∧ Slot wr B nul ∧ Slot wr (B + 1) ⟨1, n, s, ⟨#[]⟩, 0⟩)
  case atStart => exact ⟨0, 0, 0, rfl, Nat.zero_le _, ⟨RR.out, rfl⟩, hb, n1, n2⟩
  case round =>
    obtain ⟨k, n, s, rfl, hk, hh, hb, N1, N2⟩ := hrel
    have NN1 := Lib.hid N1
    have NN2 := Lib.hid N2
    obtain ⟨s0, ⟨s1, s2, s3, s4, s5⟩, ⟨f1, f2, f3, f4, f5⟩⟩ := N1
    simp only [nul, Nat.zero_add] at s1 s2 s3 s4 s5
    obtain ⟨y0, ⟨y1, y2, y3, y4, y5⟩, ⟨z1, z2, z3, z4, z5⟩⟩ := N2
    simp only [Nat.zero_add] at y1 y2 y3 y4 y5
    by_cases hp : k < r.length
    · obtain ⟨b', off', rfl, hlt', hat⟩ := hv (by omega)
      obtain ⟨u, hvk⟩ : ∃ u, r[k]? = some u := ⟨_, List.getElem?_eq_getElem hp⟩
      have hx := (hat k u hvk).keep hb hlt'
      have lt1 := Nat.lt_of_lt_of_le hlt' hb.size
      have hdr : r.drop k = u :: r.drop (k + 1) := by rw [List.drop_eq_getElem_cons hp]; simp [List.getElem?_eq_getElem hp] at hvk; rw [hvk]
      have RN := Lib.hid (show R = if u.kind = 1 ∧ (addT n s u.n u.scale).2.2 = 0 then sumF (addT n s u.n u.scale).1 (addT n s u.n u.scale).2.1 (r.drop (k + 1)) else nul from by rw [hh.out.1, hdr]; rfl)
      have i1 : (k : Int) < r.length := by omega
      have ne1 : ¬ B = wr.heap.size := by omega
      have ne2 : ¬ B + 1 = wr.heap.size := by omega
      have cc := fun W => add_any n s u.n u.scale W
      rw [addV_T] at cc
      have C := Lib.hid cc
      obtain ⟨u0, u1, u2, u3, u4⟩ := u
      obtain ⟨x0, x1, x2, x3, x4⟩ := hx
      simp only at C RN
      generalize (addT n s u1 u2).1 = n' at C RN
      generalize (addT n s u1 u2).2.1 = s' at C RN
      generalize (addT n s u1 u2).2.2 = er at C RN
      clear cc hat hvk hdr hv
      by_cases h1 : u0 = 1
      · subst h1
        by_cases h2 : er = 0
        · subst h2
          have RN := Lib.hid (RN.out.trans (if_pos ⟨rfl, rfl⟩))
          go_wp2_with (go_at_call 47; with_reducible refine Calls.mono (C.out _) ?_; rintro e W1 ⟨rfl, hb1⟩; have hs1 := hb1.lt1; have hs2 : B < W1.heap.size := (by omega); have hs3 : B + 1 < W1.heap.size := (by omega); have ne3 : ¬ B = W1.heap.size := (by omega); have ne4 : ¬ B + 1 = W1.heap.size := (by omega); have M2 := NN2.out.keep (((Bel.refl wr).alloc _).trans hb1); have MM1 := Lib.hid (NN1.out.keep (((Bel.refl wr).alloc _).trans hb1)); have MM2 := Lib.hid M2; obtain ⟨t0, ⟨t1, t2, t3, t4, t5⟩, ⟨g1, g2, g3, g4, g5⟩⟩ := M2; simp only [Nat.zero_add] at t1 t2 t3 t4 t5)
          go_roundg (r.length - (k + 1))
          case measure => have := hh.out.2; omega
          case rel =>
            have hB' := HB.out
            refine ⟨k + 1, n', s', by go_num, by omega, ⟨RN.out, rfl⟩, ?_, ?_, (slot_dec _ _ MM2.out).keep ((Bel.refl _).alloc _)⟩
            · have hq1 := hb.trans (((Bel.refl wr).alloc _).trans hb1)
              (repeat (first | with_reducible exact Bel.refl _ | with_reducible refine Bel.setCell ?_ (by first | exact Nat.le_refl _ | (dsimp only; omega)) _ | with_reducible refine Bel.alloc ?_ _ | with_reducible refine Bel.drew ?_ | with_reducible assumption | with_reducible refine Bel.trans ?_ (by assumption)))
            · have nn : ¬ B = B + 1 := by omega
              exact (slot_other (slot_other MM1.out nn) nn).keep ((Bel.refl _).alloc _)
        · obtain rfl : R = nul := RN.out.trans (if_neg fun h => h2 h.2)
          have e2 : (er != 0) = true := by simp [h2]
          have e3 : (er == 0) = false := by simp [h2]
          clear RN
          go_wp2_with (go_at_call 47; with_reducible refine Calls.mono (C.out _) ?_; rintro e W1 ⟨rfl, hb1⟩; have hs1 := hb1.lt1; have hs2 : B < W1.heap.size := (by omega); have hs3 : B + 1 < W1.heap.size := (by omega); have ne3 : ¬ B = W1.heap.size := (by omega); have ne4 : ¬ B + 1 = W1.heap.size := (by omega); have M1 := NN1.out.keep (((Bel.refl wr).alloc _).trans hb1); have MM1 := Lib.hid M1; obtain ⟨t0, ⟨t1, t2, t3, t4, t5⟩, ⟨g1, g2, g3, g4, g5⟩⟩ := M1; simp only [nul, Nat.zero_add] at t1 t2 t3 t4 t5)
          have hB' := HB.out
          have hq1 := hb.trans (((Bel.refl wr).alloc _).trans hb1)
          refine under_ret (w0 := w) ((slot_put 0 0 0 ⟨#[]⟩ 0 MM1.out).keep ((Bel.refl _).alloc (.cells #[.int .i64 n', .int .i64 s'] 24))) ?_ fun X SX BX => ?_
          · (repeat (first | with_reducible exact Bel.refl _ | with_reducible refine Bel.setCell ?_ (by first | exact Nat.le_refl _ | (dsimp only; omega)) _ | with_reducible refine Bel.alloc ?_ _ | with_reducible refine Bel.drew ?_ | with_reducible assumption | with_reducible refine Bel.trans ?_ (by assumption)))
          obtain ⟨_, ⟨r1, r2, r3, r4, r5⟩, _⟩ := SX
          simp only [Nat.zero_add] at r1 r2 r3 r4 r5
          exact bodyPost_ret (by simp [results, Try.results33, go_sem, nul, r1, r2, r3, r4, r5]; try rfl) rfl ⟨rfl, BX⟩
      · obtain rfl : R = nul := RN.out.trans (if_neg fun h => h1 h.1)
        have e2 : (u0 != 1) = true := by simp [h1]
        have e3 : (u0 == 1) = false := by simp [h1]
        clear RN
        go_wp2_with fail
        refine bodyPost_ret (by simp [results, Try.results33, go_sem, nul, s1, s2, s3, s4, s5, ne1, s0]; try rfl) rfl ⟨rfl, ?_⟩
        have hB' := HB.out
        (repeat (first | with_reducible exact Bel.refl _ | with_reducible refine Bel.setCell ?_ (by first | exact Nat.le_refl _ | (dsimp only; omega)) _ | with_reducible refine Bel.alloc ?_ _ | with_reducible refine Bel.drew ?_ | with_reducible assumption | with_reducible refine Bel.trans ?_ (by assumption)))
    · obtain rfl : k = r.length := by omega
      have h := hh.out.1
      rw [List.drop_length] at h
      obtain rfl : R = ⟨1, n, s, ⟨#[]⟩, 0⟩ := h
      have nn : ¬ B = B + 1 := by omega
      go_wp2_with fail
      refine bodyPost_ret (by simp [results, Try.results33, go_sem, s1, s2, s3, s4, s5]; try rfl) rfl ⟨rfl, ?_⟩
      have hB' := HB.out
      (repeat (first | with_reducible exact Bel.refl _ | with_reducible refine Bel.setCell ?_ (by first | exact Nat.le_refl _ | (dsimp only; omega)) _ | with_reducible refine Bel.alloc ?_ _ | with_reducible refine Bel.drew ?_ | with_reducible assumption | with_reducible refine Bel.trans ?_ (by assumption)))
end Go.Proofs.Yteblpdoljhmcmaa
