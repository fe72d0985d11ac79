import Derived.Test.YteblpdoljhmcmaaPld
namespace Go.Proofs.Yteblpdoljhmcmaa
set_option linter.unusedSimpArgs false
set_option linter.unusedVariables false
open Go.RowKit Go.Lib
attribute [local go_sem ↓] eql_val neq_val

/-! What the methods of results give: common, extreme, sum. -/
theorem slot_other {w : World} {B T o : Nat} {v : Val} {x : Value} (h : Slot w B v) (hne : ¬ B = T) : Slot (w.setCell ⟨T, o, none⟩ x) B v := by
  obtain ⟨h0, ⟨a0, a1, a2, a3, a4⟩, ⟨f0, f1, f2, f3, f4⟩⟩ := h
  have ne : ¬ T = B := fun e => hne e.symm
  simp only [Nat.zero_add] at a0 a1 a2 a3 a4
  refine ⟨by simpa [World.setCell] using h0, ⟨?_, ?_, ?_, ?_, ?_⟩, ⟨?_, ?_, ?_, ?_, ?_⟩⟩
  all_goals first | (rw [World.cell?_setCell_other w _ _ x (by intro e; cases e; exact hne rfl)]; simp only [Nat.zero_add]; assumption) | (simp [go_sem]; assumption)
theorem slot_put {w : World} {T : Nat} {v : Val} (k n s : Int) (t : ByteArray) (m : Int) (h : Slot w T v) : Slot (((((w.setCell ⟨T, 0, none⟩ (.int .i64 k)).setCell ⟨T, 1, none⟩ (.int .i64 n)).setCell ⟨T, 2, none⟩ (.int .i64 s)).setCell ⟨T, 3, none⟩ (.string t)).setCell ⟨T, 4, none⟩ (.int .i64 m)) T ⟨k, n, s, t, m⟩ := by
  obtain ⟨h0, ⟨a0, a1, a2, a3, a4⟩, ⟨f0, f1, f2, f3, f4⟩⟩ := h
  simp only [Nat.zero_add] at a0 a1 a2 a3 a4
  refine ⟨by simpa [World.setCell] using h0, ⟨?_, ?_, ?_, ?_, ?_⟩, ⟨?_, ?_, ?_, ?_, ?_⟩⟩
  all_goals simp [go_sem, a0, a1, a2, a3, a4, f0, f1, f2, f3, f4]
theorem slot_dec {w : World} {T : Nat} {k n' s' : Int} {t : ByteArray} {m : Int} (n s : Int) (h : Slot w T ⟨k, n', s', t, m⟩) : Slot ((w.setCell ⟨T, 1, none⟩ (.int .i64 n)).setCell ⟨T, 2, none⟩ (.int .i64 s)) T ⟨k, n, s, t, m⟩ := by
  obtain ⟨h0, ⟨a0, a1, a2, a3, a4⟩, ⟨f0, f1, f2, f3, f4⟩⟩ := h
  simp only [Nat.zero_add] at a0 a1 a2 a3 a4
  refine ⟨by simpa [World.setCell] using h0, ⟨?_, ?_, ?_, ?_, ?_⟩, ⟨?_, ?_, ?_, ?_, ?_⟩⟩
  all_goals simp [go_sem, a0, a1, a2, a3, a4, f0, f1, f2, f3, f4]
theorem com1_any (v : Val) (r : List Val) (b off c rb : Nat) (w : World) (hc : w.cell? ⟨rb, 0, none⟩ = some (.slice (some ⟨b, off, none⟩) r.length c)) (hrb : rb < w.heap.size) (hlt : b < w.heap.size) (h0 : 0 < r.length) (ha : ValAt w b off (hd r)) :
    Calls Try.prog 45 #[v.val, .pointer (some ⟨rb, 0, none⟩)] w fun e w' => e = .returned (.bool (!veq v (hd r))) ∧ Bel w w' := by
  have e2 : (0 : Int) < r.length := by omega
  have H := Lib.hid (show hd r = ⟨(hd r).kind, (hd r).n, (hd r).scale, (hd r).text, (hd r).num⟩ from rfl)
  rw [H.out]
  obtain ⟨a0, a1, a2, a3, a4⟩ := ha
  generalize (hd r).kind = h0 at a0
  generalize (hd r).n = h1 at a1
  generalize (hd r).scale = h2 at a2
  generalize (hd r).text = h3 at a3
  generalize (hd r).num = h4 at a4
  obtain ⟨v0, v1, v2, v3, v4⟩ := v
  clear H
  go_enter Try.func45, Try.ntmps45
  go_wp2_with fail
  refine under_name ((Bel.refl w).alloc _) fun W hc' hf hz hb => ?_
  have n3 : ValAt W w.heap.size 0 ⟨v0, v1, v2, v3, v4⟩ := by simp [ValAt, hc', go_sem]
  have z0 : w.heap.size < W.heap.size := by simp [hz]
  rw [← hb.cells _ _ hlt] at a0 a1 a2 a3 a4
  rw [← hb.cells _ _ hrb] at hc
  have lt1 := Nat.lt_of_lt_of_le hlt hb.size
  have lt2 := Nat.lt_of_lt_of_le hrb hb.size
  obtain ⟨b0, b1, b2, b3, b4⟩ := n3
  simp only [Nat.zero_add] at b0 b1 b2 b3 b4
  clear hc' hf hz
  refine wp_region_uni (S := (fun w' => Bel W w' ∧ (∀ b o, b < W.heap.size → w'.cell? ⟨b, o, none⟩ = W.cell? ⟨b, o, none⟩))) (by kernel_rfl) (by kernel_rfl) keep0 ?_
  repeat (first | (refine wpUni_skip (by rfl) ?_; (try simp only [Act.put, List.setIfInBounds_toArray, List.set_cons_zero, List.set_cons_succ]))
                                                            | (refine wpUni_value (by rfl) (fun w hS => by (try dsimp only at hS); go_simp; first | done | with_reducible rfl) ?_; (try simp only [Act.put, List.setIfInBounds_toArray, List.set_cons_zero, List.set_cons_succ])))
  refine wpUni_nil fun W1 hS => ?_
  have hb1 := hb.trans hS.1
  clear hS
  go_wp2_with fail
  go_ret
  exact ⟨rfl, hb1⟩
instance : Inhabited Val := ⟨nul⟩
def encV (v : Val) : List Value := [.int .i64 v.kind, .int .i64 v.n, .int .i64 v.scale, .string v.text, .int .i64 v.num]
theorem contR_any (r : List Val) (b off c rb : Nat) (w : World) (hs : Vals w (some ⟨b, off, none⟩) r) (hb : b < w.heap.size) (hl : r.length ≤ 9223372036854775807) (h0 : 0 < r.length) (hc : w.cell? ⟨rb, 0, none⟩ = some (.slice (some ⟨b, off, none⟩) r.length c)) (hrb : rb < w.heap.size) :
    Calls Try.prog 44 #[.slice (some ⟨b, off, none⟩) r.length c, .func (.func 45) #[] #[.pointer (some ⟨rb, 0, none⟩)]] w fun e w' => e = .returned (.bool (r.any fun v => !veq v (hd r))) ∧ Bel w w' := by
  have eg : ∀ args w, (callFunc 45 args).run Try.prog w = .ok (.enter 45 args) w := enters_of Try.func45 (by kernel_rfl) rfl
  obtain ⟨b1, off1, e, hlt, ha⟩ := hd_at hs h0
  cases e
  have k := AnyQ.slices_ContainsFunc Try.contR 5 Try.isAgg26 Try.sizeOf26 encV (fun _ => rfl) (fun v => !veq v (hd r)) 45 #[.pointer (some ⟨rb, 0, none⟩)] eg b off r.length c r w
    (fun W x hW => (com1_any x r b off c rb W (by rw [Bel.cells hW _ _ hrb]; exact hc) (Nat.lt_of_lt_of_le hrb (Bel.size hW)) (Nat.lt_of_lt_of_le hlt (Bel.size hW)) h0 (ha.keep hW hlt)).mono fun e w' ⟨he, hb'⟩ => ⟨he, Bel.trans hW hb'⟩)
    (by omega) (by omega) hb (fun j hj i v hv => by
      obtain ⟨b', off', e, _, hat⟩ := hs (by omega)
      cases e
      obtain ⟨a0, a1, a2, a3, a4⟩ := hat j r[j]! (by rw [getElem!_pos r j hj]; exact List.getElem?_eq_getElem hj)
      generalize r[j]! = t at a0 a1 a2 a3 a4 hv
      match i, hv with
      | 0, hv => simp only [encV, List.getElem?_cons_zero, Option.some.injEq] at hv; subst hv; exact a0
      | 1, hv => simp only [encV, List.getElem?_cons_succ, List.getElem?_cons_zero, Option.some.injEq] at hv; subst hv; exact a1
      | 2, hv => simp only [encV, List.getElem?_cons_succ, List.getElem?_cons_zero, Option.some.injEq] at hv; subst hv; exact a2
      | 3, hv => simp only [encV, List.getElem?_cons_succ, List.getElem?_cons_zero, Option.some.injEq] at hv; subst hv; exact a3
      | 4, hv => simp only [encV, List.getElem?_cons_succ, List.getElem?_cons_zero, Option.some.injEq] at hv; subst hv; exact a4)
  rw [List.take_length] at k
  exact k
set_option maxRecDepth 100000 in
set_option maxHeartbeats 4000000 in
theorem comm_any (r : List Val) (A : Option Addr) (c : Nat) (w : World) (hv : Vals w A r) (h0 : 0 < r.length) (hl : r.length ≤ 9223372036854775807) :
    Calls Try.prog 31 #[.slice A r.length c] w fun e w' => e = .returned (comm r).val ∧ Bel w w' := by
  have e2 : (0 : Int) < r.length := by omega
  obtain ⟨b, off, rfl, hlt, ha⟩ := hd_at hv h0
  have CC := Lib.hid fun W rb (hW : Bel w W) hc hrb => contR_any r b off c rb W (hv.keep hW) (Nat.lt_of_lt_of_le hlt hW.size) hl h0 hc hrb
  have CM := Lib.hid (show comm r = if (r.any fun v => !veq v (hd r)) = true then nul else hd r from rfl)
  have H := Lib.hid (show hd r = ⟨(hd r).kind, (hd r).n, (hd r).scale, (hd r).text, (hd r).num⟩ from rfl)
  obtain ⟨q, hq⟩ : ∃ q, q = r.any fun v => !veq v (hd r) := ⟨_, rfl⟩
  rw [← hq] at CC CM
  generalize comm r = R at CM ⊢
  have CM := Lib.hid (show R = if q = true then nul else ⟨(hd r).kind, (hd r).n, (hd r).scale, (hd r).text, (hd r).num⟩ from by rw [CM.out])
  obtain ⟨a0, a1, a2, a3, a4⟩ := ha
  clear hq H
  generalize (hd r).kind = h0 at a0 CM
  generalize (hd r).n = h1 at a1 CM
  generalize (hd r).scale = h2 at a2 CM
  generalize (hd r).text = h3 at a3 CM
  generalize (hd r).num = h4 at a4 CM
  clear hv
  go_enter Try.func31, Try.ntmps31
  go_upto_region 1 with fail
  refine under_name (((Bel.refl w).alloc _).alloc _) fun W hc hf hz hb => ?_
  have n0 : W.cell? ⟨w.heap.size, 0, none⟩ = some (.slice (some ⟨b, off, none⟩) r.length c) := by simp [hc, go_sem]
  have n3 : Slot W (w.heap.size + 1) nul := by simp [Slot, ValAt, FreeAt, nul, hc, hf, hz, go_sem]
  have z0 : w.heap.size < W.heap.size := by simp [hz] <;> omega
  rw [← hb.cells _ _ hlt] at a0 a1 a2 a3 a4
  have lt1 := Nat.lt_of_lt_of_le hlt hb.size
  clear hc hf hz
  have HB := Lib.hid (show w.heap.size ≤ w.heap.size + 1 from Nat.le_succ _)
  have C := Lib.hid (CC.out W w.heap.size hb n0 z0)
  cases q with
  | true =>
    obtain rfl : R = nul := CM.out.trans (if_pos rfl)
    go_wp2_with (go_at_call 44; refine C.out.mono ?_; rintro e W1 ⟨rfl, hb1⟩; have hc1 := hb1.cells; have hs1 := Nat.lt_of_lt_of_le z0 hb1.size; obtain ⟨s0, ⟨t1, t2, t3, t4, t5⟩, ⟨g1, g2, g3, g4, g5⟩⟩ := n3.keep hb1; simp only [nul, Nat.zero_add] at t1 t2 t3 t4 t5)
    refine bodyPost_ret (by simp [results, Try.results31, go_sem, nul, t1, t2, t3, t4, t5]; try rfl) rfl ⟨rfl, ?_⟩
    have hq1 := hb.trans hb1
    (repeat (first | with_reducible exact Bel.refl _ | with_reducible refine Bel.setCell ?_ (by first | exact Nat.le_refl _ | (dsimp only; omega)) _ | with_reducible refine Bel.alloc ?_ _ | with_reducible refine Bel.drew ?_ | with_reducible assumption | with_reducible refine Bel.trans ?_ (by assumption)))
  | false =>
    obtain rfl : R = ⟨h0, h1, h2, h3, h4⟩ := CM.out.trans (if_neg (by simp))
    go_wp2_with (go_at_call 44; refine C.out.mono ?_; rintro e W1 ⟨rfl, hb1⟩; have hc1 := hb1.cells; have hs1 := Nat.lt_of_lt_of_le z0 hb1.size; obtain ⟨s0, ⟨t1, t2, t3, t4, t5⟩, ⟨g1, g2, g3, g4, g5⟩⟩ := n3.keep hb1; simp only [nul, Nat.zero_add] at t1 t2 t3 t4 t5; have lt2 := Nat.lt_of_lt_of_le lt1 hb1.size)
    refine bodyPost_ret (by simp [results, Try.results31, go_sem, t1, t2, t3, t4, t5]; try rfl) rfl ⟨rfl, ?_⟩
    have hq1 := hb.trans hb1
    (repeat (first | with_reducible exact Bel.refl _ | with_reducible refine Bel.setCell ?_ (by first | exact Nat.le_refl _ | (dsimp only; omega)) _ | with_reducible refine Bel.alloc ?_ _ | with_reducible refine Bel.drew ?_ | with_reducible assumption | with_reducible refine Bel.trans ?_ (by assumption)))
set_option maxRecDepth 100000 in
set_option maxHeartbeats 8000000 in
theorem ext_any (way : Int) (r : List Val) (A : Option Addr) (c : Nat) (w : World) (hv : Vals w A r) (h0 : 0 < r.length) (hl : r.length ≤ 9223372036854775807) (ht : ∀ v ∈ r, v.text.size ≤ 9223372036854775807) (hsn : ∀ v ∈ r, vsnd v = true) :
    Calls Try.prog 34 #[.slice A r.length c, .int .i64 way] w fun e w' => e = .returned (extF way (hd r) r).val ∧ Bel w w' := by
  have e2 : (0 : Int) < r.length := by omega
  have hli : (r.length : Int) ≤ 9223372036854775807 := by omega
  obtain ⟨b, off, rfl, hlt, ha⟩ := hd_at hv h0
  obtain ⟨R, hR⟩ : ∃ R, R = extF way (hd r) r := ⟨_, rfl⟩
  rw [← hR]
  have RR := Lib.hid hR
  have HT := Lib.hid (show hd r ∈ r from by cases r with
    | nil => simp at h0
    | cons v l => exact List.mem_cons_self ..)
  have T := Lib.hid ht
  have S := Lib.hid hsn
  have HD := Lib.hid (show ∃ b0, b0 = hd r from ⟨_, rfl⟩)
  obtain ⟨b0, hb0⟩ := HD.out
  rw [← hb0] at ha RR HT
  clear hR ht hsn HD hb0
  have BE := Lib.hid (Bel.refl w)
  obtain ⟨q0, q1, q2, q3, q4⟩ := b0
  obtain ⟨a0, a1, a2, a3, a4⟩ := ha
  go_enter Try.func34, Try.ntmps34
  go_wp2_with fail
  refine under_name (w0 := w) (by (repeat (first | with_reducible exact Bel.refl _ | with_reducible refine Bel.setCell ?_ (by first | exact Nat.le_refl _ | (dsimp only; omega)) _ | with_reducible refine Bel.alloc ?_ _ | with_reducible refine Bel.drew ?_ | with_reducible assumption | with_reducible refine Bel.trans ?_ (by assumption)))) fun W hc hf hz hb => ?_
  have n1 : Slot W w.heap.size nul := by simp [Slot, ValAt, FreeAt, nul, hc, hf, hz, go_sem]
  have n2 : Slot W (w.heap.size + 1) ⟨q0, q1, q2, q3, q4⟩ := by simp [Slot, ValAt, FreeAt, hc, hf, hz, go_sem]
  clear hc hf hz a0 a1 a2 a3 a4
  generalize hB : w.heap.size = B at n1 n2 ⊢
  have HB := Lib.hid (show w.heap.size ≤ B from by omega)
  clear hB
  go_loopg [15] r.length (fun g i wr => ∃ (k : Nat) (p : Val), i = .int .i64 k ∧ k ≤ r.length ∧ Hid (R = extF way p (r.drop k) ∧ p ∈ r ∧ g = r.length - k) ∧ Bel w wr ∧ Slot wr B nul ∧ Slot wr (B + 1) p)
  case atStart => exact ⟨0, _, rfl, Nat.zero_le _, ⟨RR.out, HT.out, rfl⟩, hb, n1, n2⟩
  case round =>
    obtain ⟨k, p, rfl, hk, hh, hb, N1, N2⟩ := hrel
    have NN1 := Lib.hid N1
    have NN2 := Lib.hid N2
    obtain ⟨s0, ⟨s1, s2, s3, s4, s5⟩, ⟨f1, f2, f3, f4, f5⟩⟩ := N1
    simp only [nul, Nat.zero_add] at s1 s2 s3 s4 s5
    obtain ⟨y0, ⟨y1, y2, y3, y4, y5⟩, ⟨z1, z2, z3, z4, z5⟩⟩ := N2
    simp only [Nat.zero_add] at y1 y2 y3 y4 y5
    by_cases hp : k < r.length
    · obtain ⟨b', off', e, hlt', hat⟩ := hv (by omega)
      cases e
      obtain ⟨u, hvk⟩ : ∃ u, r[k]? = some u := ⟨_, List.getElem?_eq_getElem hp⟩
      have hx := (hat k u hvk).keep hb hlt'
      have lt1 := Nat.lt_of_lt_of_le hlt' hb.size
      have hdr : r.drop k = u :: r.drop (k + 1) := by rw [List.drop_eq_getElem_cons hp]; simp [List.getElem?_eq_getElem hp] at hvk; rw [hvk]
      have RN := Lib.hid (show R = if u.kind = 0 ∨ u.kind ≠ p.kind then nul else extF way (if vcmp u p = way then u else p) (r.drop (k + 1)) from by rw [hh.out.1, hdr]; rfl)
      have hmem : u ∈ r := List.mem_of_getElem? hvk
      have MU := Lib.hid hmem
      have MP := Lib.hid hh.out.2.1
      have i1 : (k : Int) < r.length := by omega
      have ne1 : ¬ B = wr.heap.size := by omega
      have ne2 : ¬ B + 1 = wr.heap.size := by omega
      have cc := fun W => vcompare_any u p (T.out u hmem) (T.out p hh.out.2.1) W
      rw [show vcmpV u p = .tuple #[.int .i64 (vcmp u p), .int .i64 0] from if_pos ⟨S.out u hmem, S.out p hh.out.2.1⟩] at cc
      have C := Lib.hid cc
      generalize hcm : vcmp u p = cm at C RN
      clear cc hcm hmem hat hvk hdr
      obtain ⟨u0, u1, u2, u3, u4⟩ := u
      obtain ⟨p0, p1, p2, p3, p4⟩ := p
      obtain ⟨x0, x1, x2, x3, x4⟩ := hx
      simp only at y1 y2 y3 y4 y5
      by_cases h1 : u0 = 0
      · subst h1
        obtain rfl : R = nul := RN.out.trans (if_pos (.inl rfl))
        clear RN
        go_wp2_with fail
        refine bodyPost_ret (by simp [results, Try.results34, go_sem, nul, s1, s2, s3, s4, s5, ne1, s0]; try rfl) rfl ⟨rfl, ?_⟩
        have hB' := HB.out
        (repeat (first | with_reducible exact Bel.refl _ | with_reducible refine Bel.setCell ?_ (by first | exact Nat.le_refl _ | (dsimp only; omega)) _ | with_reducible refine Bel.alloc ?_ _ | with_reducible refine Bel.drew ?_ | with_reducible assumption | with_reducible refine Bel.trans ?_ (by assumption)))
      · have e1 : (u0 == 0) = false := by simp [h1]
        by_cases h2 : u0 = p0
        · subst h2
          have RN := Lib.hid (RN.out.trans (if_neg (by simp [h1])))
          by_cases h3 : cm = way
          · subst h3
            have RN := Lib.hid (RN.out.trans (by rw [if_pos rfl]))
            go_wp2_with (go_at_call 48; with_reducible refine Calls.mono (C.out _) ?_; rintro e W1 ⟨rfl, hb1⟩; have hs1 := hb1.lt1; have M2 := NN2.out.keep (((Bel.refl wr).alloc _).trans hb1); have MM1 := Lib.hid (NN1.out.keep (((Bel.refl wr).alloc _).trans hb1)); have MM2 := Lib.hid M2; obtain ⟨t0, ⟨t1, t2, t3, t4, t5⟩, ⟨g1, g2, g3, g4, g5⟩⟩ := M2; simp only [Nat.zero_add] at t1 t2 t3 t4 t5; obtain ⟨_, ⟨d1, d2, d3, d4, d5⟩, _⟩ := (slot_new wr ⟨u0, u1, u2, u3, u4⟩).keep hb1; simp only [Nat.zero_add] at d1 d2 d3 d4 d5)
            go_roundg (r.length - (k + 1))
            case measure => have := hh.out.2.2; omega
            case rel =>
              have hB' := HB.out
              refine ⟨k + 1, ⟨u0, u1, u2, u3, u4⟩, by go_num, by omega, ⟨RN.out, MU.out, rfl⟩, ?_, ?_, slot_put u0 u1 u2 u3 u4 MM2.out⟩
              · have hq1 := hb.trans (((Bel.refl wr).alloc _).trans hb1)
                (repeat (first | with_reducible exact Bel.refl _ | with_reducible refine Bel.setCell ?_ (by first | exact Nat.le_refl _ | (dsimp only; omega)) _ | with_reducible refine Bel.alloc ?_ _ | with_reducible refine Bel.drew ?_ | with_reducible assumption | with_reducible refine Bel.trans ?_ (by assumption)))
              · have nn : ¬ B = B + 1 := by omega
                exact slot_other (slot_other (slot_other (slot_other (slot_other MM1.out nn) nn) nn) nn) nn
          · have RN := Lib.hid (RN.out.trans (by rw [if_neg h3]))
            have e3 : (cm == way) = false := by simp [h3]
            go_wp2_with (go_at_call 48; with_reducible refine Calls.mono (C.out _) ?_; rintro e W1 ⟨rfl, hb1⟩; have hc1 := hb1.cells; have hs1 := hb1.lt1; have MM1 := Lib.hid (NN1.out.keep (((Bel.refl wr).alloc _).trans hb1)); have MM2 := Lib.hid (NN2.out.keep (((Bel.refl wr).alloc _).trans hb1)))
            go_roundg (r.length - (k + 1))
            case measure => have := hh.out.2.2; omega
            case rel =>
              exact ⟨k + 1, ⟨u0, p1, p2, p3, p4⟩, by go_num, by omega, ⟨RN.out, MP.out, rfl⟩, hb.trans (((Bel.refl wr).alloc _).trans hb1), MM1.out, MM2.out⟩
        · obtain rfl : R = nul := RN.out.trans (if_pos (.inr h2))
          have e3 : (u0 == p0) = false := by simp [h2]
          have e4 : (u0 != p0) = true := by simp [h2]
          clear RN
          go_wp2_with fail
          refine bodyPost_ret (by simp [results, Try.results34, go_sem, nul, s1, s2, s3, s4, s5, ne1, s0]; try rfl) rfl ⟨rfl, ?_⟩
          have hB' := HB.out
          (repeat (first | with_reducible exact Bel.refl _ | with_reducible refine Bel.setCell ?_ (by first | exact Nat.le_refl _ | (dsimp only; omega)) _ | with_reducible refine Bel.alloc ?_ _ | with_reducible refine Bel.drew ?_ | with_reducible assumption | with_reducible refine Bel.trans ?_ (by assumption)))
    · obtain rfl : k = r.length := by omega
      have h := hh.out.1
      rw [List.drop_length] at h
      obtain rfl : R = p := h
      obtain ⟨p0, p1, p2, p3, p4⟩ := R
      simp only at y1 y2 y3 y4 y5
      have nn : ¬ B = B + 1 := by omega
      go_wp2_with fail
      refine bodyPost_ret (by simp [results, Try.results34, go_sem, s1, s2, s3, s4, s5]; try rfl) rfl ⟨rfl, ?_⟩
      have hB' := HB.out
      (repeat (first | with_reducible exact Bel.refl _ | with_reducible refine Bel.setCell ?_ (by first | exact Nat.le_refl _ | (dsimp only; omega)) _ | with_reducible refine Bel.alloc ?_ _ | with_reducible refine Bel.drew ?_ | with_reducible assumption | with_reducible refine Bel.trans ?_ (by assumption)))
end Go.Proofs.Yteblpdoljhmcmaa
