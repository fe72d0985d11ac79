import Derived.Test.YteblpdoljhmcmaaPlj
namespace Go.Proofs.Yteblpdoljhmcmaa
set_option linter.unusedSimpArgs false
set_option linter.unusedVariables false
open Go.RowKit Go.Lib
attribute [local go_sem ↓] eql_val neq_val

/-! Outcome. -/
theorem risF_mem {c : Int} : ∀ {l : List Int} {nx : Int}, risF c nx l = true → ∀ i ∈ l, nx ≤ i ∧ i < c
  | [], _, _ => by simp
  | a :: l, nx, h => by
    simp only [risF, Bool.and_eq_true, Bool.not_eq_true', Bool.or_eq_false_iff, decide_eq_false_iff_not] at h
    intro i hi
    rcases List.mem_cons.1 hi with rfl | hi
    · omega
    · have := risF_mem h.2 i hi
      omega
abbrev Sl5 (w : World) (b : Nat) (k n s : Int) (t : ByteArray) (m : Int) : Prop :=
  b < w.heap.size ∧ (w.cell? ⟨b, 0, none⟩ = some (.int .i64 k) ∧ w.cell? ⟨b, 1, none⟩ = some (.int .i64 n) ∧ w.cell? ⟨b, 2, none⟩ = some (.int .i64 s) ∧ w.cell? ⟨b, 3, none⟩ = some (.string t) ∧ w.cell? ⟨b, 4, none⟩ = some (.int .i64 m)) ∧ FreeAt w b
theorem Sl5.keep {w w' : World} {b : Nat} {k n s m : Int} {t : ByteArray} (h : Sl5 w b k n s t m) (hb : Bel w w') : Sl5 w' b k n s t m := by
  simp only [Sl5, FreeAt, hb.cells _ _ h.1, hb.frozens _ _ h.1]
  exact ⟨Nat.lt_of_lt_of_le h.1 hb.size, h.2⟩
theorem makeV_nat (n : Nat) (h : n ≤ 999999999999) : makeV n 0 = .tuple #[decA n 0, .int .i64 0] := by
  unfold makeV
  rw [if_pos ⟨by omega, by omega, by unfold small; omega⟩]
  have e1 : ((0 : Int)).toNat = 0 := rfl
  have e2 : ((n : Int)).natAbs = n := by omega
  have e3 : decide ((n : Int) < 0) = false := decide_eq_false (by omega)
  rw [e1, e2, e3]
  unfold decV
  simp only [trim, Bool.false_eq_true, if_false]
  rw [if_neg (by omega)]
  rfl
set_option maxRecDepth 100000 in
theorem number_any (n s : Int) (w : World) : Calls Try.prog 18 #[decA n s, .int .i64 0] w fun e w' => e = .returned (.tuple #[(⟨1, n, s, ⟨#[]⟩, 0⟩ : Val).val, .int .i64 0]) ∧ Bel w w' := by
  go_enter Try.func18, Try.ntmps18
  go_wp2_with fail
  refine bodyPost_ret (by simp [results, Try.results18, go_sem]; try rfl) rfl ⟨rfl, ?_⟩
  (repeat (first | with_reducible exact Bel.refl _ | with_reducible refine Bel.setCell ?_ (by first | exact Nat.le_refl _ | (dsimp only; omega)) _ | with_reducible refine Bel.alloc ?_ _ | with_reducible refine Bel.drew ?_ | with_reducible assumption | with_reducible refine Bel.trans ?_ (by assumption)))
def outR (p : Int) (outs order : List Val) (d : Val) (fired : List Int) : Value := .tuple #[(outV p outs order d fired).1.val, .int .i64 (outV p outs order d fired).2]
theorem picks_mem {outs : List Val} {fired : List Int} (h : risF outs.length 0 fired = true) {P : Val → Prop} (hP : ∀ v ∈ outs, P v) : ∀ v ∈ picks outs fired, P v := by
  intro v hv
  unfold picks at hv
  rw [List.mem_map] at hv
  obtain ⟨i, hi, rfl⟩ := hv
  have := risF_mem h i hi
  have hlt : i.toNat < outs.length := by omega
  rw [List.getD_eq_getElem?_getD, List.getElem?_eq_getElem hlt]
  exact hP _ (List.getElem_mem hlt)
set_option maxRecDepth 100000 in
set_option maxHeartbeats 8000000 in
theorem out_any (p : Int) (outs : List Val) (A : Option Addr) (c : Nat) (order : List Val) (B : Option Addr) (d : Nat) (v : Val) (fired : List Int) (F : Option Addr) (f : Nat) (w : World)
    (hA : Vals w A outs) (hB : Vals w B order) (hF : Ints w F fired) (lA : outs.length ≤ 9223372036854775807) (lB : order.length ≤ 9223372036854775807) (lF : fired.length ≤ 2097151)
    (tA : ∀ v ∈ outs, v.text.size ≤ 9223372036854775807) (tB : ∀ v ∈ order, v.text.size ≤ 9223372036854775807) (tv : v.text.size ≤ 9223372036854775807) (iF : ∀ i ∈ fired, -9223372036854775808 ≤ i ∧ i ≤ 9223372036854775807) :
    Calls Try.prog 9 #[.int .i64 p, .slice A outs.length c, .slice B order.length d, v.val, .slice F fired.length f] w fun e w' => e = .returned (outR p outs order v fired) ∧ Bel w w' := by
  have C1 := Lib.hid fun W => known_any p W
  have C2 := Lib.hid fun W (hW : Bel w W) => rising_any outs.length fired F f W (hF.keep hW) (by omega) iF (by omega)
  have C3 := Lib.hid fun W (hW : Bel w W) => psound_any outs A c W (hA.keep hW) (by omega) tA
  have C4 := Lib.hid fun W (hW : Bel w W) => psound_any order B d W (hB.keep hW) (by omega) tB
  have C5 := Lib.hid (show ∀ (W : World) (n : Nat), n = W.heap.size → Calls Try.prog 17 #[.slice (some ⟨n, 0, none⟩) 1 1] (W.alloc (.cells #[.int .i64 v.kind, .int .i64 v.n, .int .i64 v.scale, .string v.text, .int .i64 v.num] 26)) fun e w' => e = .returned (.bool (vsnd v)) ∧ Bel W w' from fun W n hn => by
    have k := psound_any [v] (some ⟨n, 0, none⟩) 1 _ (vals_one W v hn) (by simp) (fun u hu => by simp at hu; subst hu; exact tv)
    have e : [v].all vsnd = vsnd v := by simp
    rw [e] at k
    exact k.mono fun e w' ⟨he, hb⟩ => ⟨he, (Bel.alloc (Bel.refl W) _).trans hb⟩)
  obtain ⟨R, hR⟩ : ∃ R, R = outV p outs order v fired := ⟨_, rfl⟩
  have OR := Lib.hid (show outR p outs order v fired = .tuple #[R.1.val, .int .i64 R.2] from by rw [hR]; rfl)
  generalize outR p outs order v fired = X at OR ⊢
  have RR := Lib.hid (show R = if (known p && risF outs.length 0 fired) = false then (nul, 1)
    else if (outs.all vsnd && (order.all vsnd && vsnd v)) = false then (nul, 2)
    else if p = 35 then (⟨1, fired.length, 0, ⟨#[]⟩, 0⟩, 0)
    else if fired.length = 0 then (v, 0)
    else (outF p (picks outs fired) order, 0) from hR)
  obtain ⟨b1, hb1⟩ : ∃ b, b = known p := ⟨_, rfl⟩
  obtain ⟨b2, hb2⟩ : ∃ b, b = risF outs.length 0 fired := ⟨_, rfl⟩
  obtain ⟨b3, hb3⟩ : ∃ b, b = outs.all vsnd := ⟨_, rfl⟩
  obtain ⟨b4, hb4⟩ : ∃ b, b = order.all vsnd := ⟨_, rfl⟩
  obtain ⟨b5, hb5⟩ : ∃ b, b = vsnd v := ⟨_, rfl⟩
  rw [← hb1, ← hb2, ← hb3, ← hb4, ← hb5] at RR
  rw [← hb1] at C1
  rw [← hb2] at C2
  rw [← hb3] at C3
  rw [← hb4] at C4
  rw [← hb5] at C5
  have H2 := Lib.hid hb2
  have H3 := Lib.hid hb3
  clear hR hb1 hb2 hb3 hb4 hb5
  have HA := Lib.hid hA
  have HB := Lib.hid hB
  have HF := Lib.hid hF
  have TA := Lib.hid tA
  clear hA hB hF tA tB tv iF
  obtain ⟨v0, v1, v2, v3, v4⟩ := v
  simp only [Val.val] at C5 OR RR
  by_cases g1 : b1 = true ∧ b2 = true
  · obtain ⟨rfl, rfl⟩ := g1
    have RR := Lib.hid (RR.out.trans (if_neg (by simp)))
    by_cases g2 : b3 = true ∧ b4 = true ∧ b5 = true
    · obtain ⟨rfl, rfl, rfl⟩ := g2
      have RR := Lib.hid (RR.out.trans (if_neg (by simp)))
      by_cases h35 : p = 35
      · subst h35
        obtain rfl : R = (⟨1, fired.length, 0, ⟨#[]⟩, 0⟩, 0) := RR.out.trans (if_pos rfl)
        obtain rfl := OR.out
        have cm := fun W => make_any fired.length 0 W
        rw [makeV_nat _ (by omega)] at cm
        have CM := Lib.hid cm
        have CN := Lib.hid fun W => number_any fired.length 0 W
        simp only [Val.val] at CN
        clear RR OR cm H2 H3
        go_enter Try.func9, Try.ntmps9
        go_upto_region 1 with fail
        refine under_name (((Bel.refl w).alloc _).alloc _) fun W hc hf hz hb => ?_
        have hD : Sl5 W w.heap.size v0 v1 v2 v3 v4 := by simp [Sl5, FreeAt, hc, hf, hz, go_sem] <;> omega
        have hR : Sl5 W (w.heap.size + 1) 0 0 0 ⟨#[]⟩ 0 := by simp [Sl5, FreeAt, hc, hf, hz, go_sem] <;> omega
        clear hc hf hz
        have HQ := Lib.hid (show w.heap.size ≤ w.heap.size + 1 from Nat.le_succ _)
        generalize hBB : w.heap.size + 1 = BR at hR HQ ⊢
        generalize hBD : w.heap.size = BD at hD hBB ⊢
        have HBR := Lib.hid (show w.heap.size ≤ BR from by omega)
        have HBD := Lib.hid (show BD + 1 = BR from hBB)
        clear HQ hBB hBD
        have tA : True := trivial
        have tB : True := trivial
        go_wp2_with (first
          | (go_at_call 12; with_reducible refine Calls.mono (C1.out _) ?_; rintro e W1 ⟨rfl, hb1⟩; replace hD := hD.keep hb1; replace hR := hR.keep hb1; replace hb := hb.trans hb1; clear hb1)
          | (go_at_call 16; with_reducible refine Calls.mono (C2.out _ hb) ?_; rintro e W2 ⟨rfl, hb2⟩; replace hD := hD.keep hb2; replace hR := hR.keep hb2; replace hb := hb.trans hb2; clear hb2)
          | (go_at_call 17; have _u := tA; with_reducible refine Calls.mono (C3.out _ hb) ?_; rintro e W3 ⟨rfl, hb3⟩; replace hD := hD.keep hb3; replace hR := hR.keep hb3; replace hb := hb.trans hb3; clear hb3 _u tA)
          | (go_at_call 17; have _u := tB; with_reducible refine Calls.mono (C4.out _ hb) ?_; rintro e W4 ⟨rfl, hb4⟩; replace hD := hD.keep hb4; replace hR := hR.keep hb4; replace hb := hb.trans hb4; clear hb4 _u tB)
          | (go_at_call 17; refine Calls.mono (C5.out _ _ (by simp)) ?_; rintro e W5 ⟨rfl, hb5⟩; replace hD := hD.keep hb5; replace hR := hR.keep hb5; replace hb := hb.trans hb5; clear hb5)
          | (go_at_call 19; with_reducible refine Calls.mono (CM.out _) ?_; rintro e W6 ⟨rfl, hb6⟩; replace hD := hD.keep hb6; replace hR := hR.keep hb6; replace hb := hb.trans hb6; clear hb6)
          | (go_at_call 18; with_reducible refine Calls.mono (CN.out _) ?_; rintro e W7 ⟨rfl, hb7⟩; replace hD := hD.keep hb7; replace hR := hR.keep hb7; replace hb := hb.trans hb7; clear hb7))
        refine bodyPost_ret (by simp [results, Try.results9, go_sem, nul, hR]; try rfl) rfl ⟨rfl, ?_⟩
        have hq := HBR.out
        (repeat (first | with_reducible exact Bel.refl _ | with_reducible refine Bel.setCell ?_ (by first | exact Nat.le_refl _ | (dsimp only; omega)) _ | with_reducible refine Bel.alloc ?_ _ | with_reducible refine Bel.drew ?_ | with_reducible assumption | with_reducible refine Bel.trans ?_ (by assumption)))
      · have RR := Lib.hid (RR.out.trans (if_neg h35))
        have e35 : (p == 35) = false := beq_eq_false_iff_ne.2 h35
        by_cases hl0 : fired.length = 0
        · rw [hl0] at C2 ⊢
          obtain rfl : R = (⟨v0, v1, v2, v3, v4⟩, 0) := RR.out.trans (if_pos hl0)
          obtain rfl := OR.out
          clear RR OR H2 H3
          go_enter Try.func9, Try.ntmps9
          go_upto_region 1 with fail
          refine under_name (((Bel.refl w).alloc _).alloc _) fun W hc hf hz hb => ?_
          have hD : Sl5 W w.heap.size v0 v1 v2 v3 v4 := by simp [Sl5, FreeAt, hc, hf, hz, go_sem] <;> omega
          have hR : Sl5 W (w.heap.size + 1) 0 0 0 ⟨#[]⟩ 0 := by simp [Sl5, FreeAt, hc, hf, hz, go_sem] <;> omega
          clear hc hf hz
          have HQ := Lib.hid (show w.heap.size ≤ w.heap.size + 1 from Nat.le_succ _)
          generalize hBB : w.heap.size + 1 = BR at hR HQ ⊢
          generalize hBD : w.heap.size = BD at hD hBB ⊢
          have HBR := Lib.hid (show w.heap.size ≤ BR from by omega)
          have HBD := Lib.hid (show BD + 1 = BR from hBB)
          clear HQ hBB hBD
          have tA : True := trivial
          have tB : True := trivial
          go_wp2_with (first
            | (go_at_call 12; with_reducible refine Calls.mono (C1.out _) ?_; rintro e W1 ⟨rfl, hb1⟩; replace hD := hD.keep hb1; replace hR := hR.keep hb1; replace hb := hb.trans hb1; clear hb1)
            | (go_at_call 16; with_reducible refine Calls.mono (C2.out _ hb) ?_; rintro e W2 ⟨rfl, hb2⟩; replace hD := hD.keep hb2; replace hR := hR.keep hb2; replace hb := hb.trans hb2; clear hb2)
            | (go_at_call 17; have _u := tA; with_reducible refine Calls.mono (C3.out _ hb) ?_; rintro e W3 ⟨rfl, hb3⟩; replace hD := hD.keep hb3; replace hR := hR.keep hb3; replace hb := hb.trans hb3; clear hb3 _u tA)
            | (go_at_call 17; have _u := tB; with_reducible refine Calls.mono (C4.out _ hb) ?_; rintro e W4 ⟨rfl, hb4⟩; replace hD := hD.keep hb4; replace hR := hR.keep hb4; replace hb := hb.trans hb4; clear hb4 _u tB)
            | (go_at_call 17; refine Calls.mono (C5.out _ _ (by simp)) ?_; rintro e W5 ⟨rfl, hb5⟩; replace hD := hD.keep hb5; replace hR := hR.keep hb5; replace hb := hb.trans hb5; clear hb5))
          refine bodyPost_ret (by simp [results, Try.results9, go_sem, nul, hR]; try rfl) rfl ⟨rfl, ?_⟩
          have hq := HBR.out
          (repeat (first | with_reducible exact Bel.refl _ | with_reducible refine Bel.setCell ?_ (by first | exact Nat.le_refl _ | (dsimp only; omega)) _ | with_reducible refine Bel.alloc ?_ _ | with_reducible refine Bel.drew ?_ | with_reducible assumption | with_reducible refine Bel.trans ?_ (by assumption)))
        · have el0 : ((fired.length : Int) == 0) = false := beq_eq_false_iff_ne.2 (by omega)
          obtain rfl : R = (outF p (picks outs fired) order, 0) := RR.out.trans (if_neg hl0)
          obtain rfl := OR.out
          obtain ⟨R0, hR0⟩ : ∃ R0, R0 = outF p (picks outs fired) order := ⟨_, rfl⟩
          rw [← hR0]
          obtain ⟨r0, r1, r2, r3, r4⟩ := R0
          simp only [Val.val]
          have CO := Lib.hid (show ∀ (r : List Val) (rA : Option Addr) (rc : Nat), r = picks outs fired → ∀ W, Vals W rA r → Bel w W → Calls Try.prog 20 #[.slice rA r.length rc, .int .i64 p, .slice B order.length d] W fun e w' => e = .returned (.agg #[.int .i64 r0, .int .i64 r1, .int .i64 r2, .string r3, .int .i64 r4]) ∧ Bel W w' from fun r rA rc hr W hv hW => by
            have k := outc_any p r rA rc order B d W hv (by rw [hr]; unfold picks; rw [List.length_map]; omega) (by rw [hr]; unfold picks; rw [List.length_map]; omega) (HB.out.keep hW) lB (by rw [hr]; exact picks_mem H2.out.symm TA.out) (by rw [hr]; exact picks_mem H2.out.symm (List.all_eq_true.1 H3.out.symm))
            rw [hr, ← hR0] at k
            rw [hr]
            exact k)
          clear hR0
          clear RR OR
          go_enter Try.func9, Try.ntmps9
          go_upto_region 1 with fail
          refine under_name (((Bel.refl w).alloc _).alloc _) fun W hc hf hz hb => ?_
          have hD : Sl5 W w.heap.size v0 v1 v2 v3 v4 := by simp [Sl5, FreeAt, hc, hf, hz, go_sem] <;> omega
          have hR : Sl5 W (w.heap.size + 1) 0 0 0 ⟨#[]⟩ 0 := by simp [Sl5, FreeAt, hc, hf, hz, go_sem] <;> omega
          clear hc hf hz
          have HQ := Lib.hid (show w.heap.size ≤ w.heap.size + 1 from Nat.le_succ _)
          generalize hBB : w.heap.size + 1 = BR at hR HQ ⊢
          generalize hBD : w.heap.size = BD at hD hBB ⊢
          have HBR := Lib.hid (show w.heap.size ≤ BR from by omega)
          have HBD := Lib.hid (show BD + 1 = BR from hBB)
          clear HQ hBB hBD
          have tA : True := trivial
          have tB : True := trivial
          go_wp2_with (first
            | (go_at_call 12; with_reducible refine Calls.mono (C1.out _) ?_; rintro e W1 ⟨rfl, hb1⟩; replace hD := hD.keep hb1; replace hR := hR.keep hb1; replace hb := hb.trans hb1; clear hb1)
            | (go_at_call 16; with_reducible refine Calls.mono (C2.out _ hb) ?_; rintro e W2 ⟨rfl, hb2⟩; replace hD := hD.keep hb2; replace hR := hR.keep hb2; replace hb := hb.trans hb2; clear hb2)
            | (go_at_call 17; have _u := tA; with_reducible refine Calls.mono (C3.out _ hb) ?_; rintro e W3 ⟨rfl, hb3⟩; replace hD := hD.keep hb3; replace hR := hR.keep hb3; replace hb := hb.trans hb3; clear hb3 _u tA)
            | (go_at_call 17; have _u := tB; with_reducible refine Calls.mono (C4.out _ hb) ?_; rintro e W4 ⟨rfl, hb4⟩; replace hD := hD.keep hb4; replace hR := hR.keep hb4; replace hb := hb.trans hb4; clear hb4 _u tB)
            | (go_at_call 17; refine Calls.mono (C5.out _ _ (by simp)) ?_; rintro e W5 ⟨rfl, hb5⟩; replace hD := hD.keep hb5; replace hR := hR.keep hb5; replace hb := hb.trans hb5; clear hb5))
          have HR := Lib.hid hR
          have hb0 := hb
          have BS := Lib.hid (show BR < W5.heap.size from hR.1)
          go_loopg [12, 57] fired.length (fun g o i wr => ∃ k : Nat, i = .int .i64 k ∧ k ≤ fired.length ∧ Hid (g = fired.length - k) ∧ Bel W5 wr ∧ OwnV wr W5.heap.size o (picks outs (fired.take k)))
          case atStart => exact ⟨0, rfl, Nat.zero_le _, rfl, Bel.refl _, OwnV.nil _ _⟩
          case round =>
            obtain ⟨k, rfl, hk, hh, hbr, hown⟩ := hrel
            have OW := Lib.hid hown
            clear hown hD hR
            by_cases hp : k < fired.length
            · have hln : 0 < (nums fired).length := by rw [show (nums fired).length = fired.length by simp [nums]]; omega
              obtain ⟨fb, fo, rfl, flt, fat⟩ := HF.out hln
              obtain ⟨i, hik⟩ : ∃ i, fired[k]? = some i := ⟨_, List.getElem?_eq_getElem hp⟩
              have hfa := ((hb.trans hbr).cells _ _ flt).trans (fat k _ (show (nums fired)[k]? = some (.int .i64 i) by simp [nums, hik]))
              have him := risF_mem H2.out.symm i (List.mem_of_getElem? hik)
              obtain ⟨m, rfl⟩ : ∃ m : Nat, i = m := ⟨i.toNat, by omega⟩
              have hml : m < outs.length := by omega
              obtain ⟨ab, ao, rfl, alt, aat⟩ := HA.out (by omega)
              obtain ⟨u, huk⟩ : ∃ u, outs[m]? = some u := ⟨_, List.getElem?_eq_getElem hml⟩
              have hua := (aat m u huk).keep (hb.trans hbr) alt
              have lt1 := Nat.lt_of_lt_of_le flt (hb.trans hbr).size
              have lt2 := Nat.lt_of_lt_of_le alt (hb.trans hbr).size
              have PK := Lib.hid (show picks outs (fired.take k) ++ [u] = picks outs (fired.take (k + 1)) from by
                unfold picks
                rw [List.take_add_one, hik, List.map_append]
                simp [huk])
              have PL := Lib.hid (show (picks outs (fired.take k)).length + 1 ≤ 2097152 from by unfold picks; rw [List.length_map, List.length_take]; omega)
              have i1 : (k : Int) < fired.length := by omega
              have i2 : (m : Int) < outs.length := by omega
              obtain ⟨u0, u1, u2, u3, u4⟩ := u
              obtain ⟨a0, a1, a2, a3, a4⟩ := hua
              clear fat aat hik huk him
              go_wp2_with (at_builtin; refine wpList_app rfl (.tmp 61) (.tmp 66) _ rfl (app_res (w0 := W5) (ys := [⟨u0, u1, u2, u3, u4⟩]) (hbr.alloc _) (OW.out.keep ((Bel.refl _).alloc _)) (vals_one wr ⟨u0, u1, u2, u3, u4⟩ rfl) rfl (fun h => by cases h) PL.out _) ?_; rintro v' w' ⟨o', b'⟩)
              go_roundg (fired.length - (k + 1))
              case measure => have := hh.out; omega
              case rel => exact ⟨k + 1, by go_num, by omega, rfl, b', PK.out ▸ o'⟩
            · obtain rfl : k = fired.length := by omega
              have OW2 := OW.out
              rw [List.take_length] at OW2
              obtain ⟨rA, rc, rfl, hvr, _, _⟩ := OW2.vals
              have CO := Lib.hid (CO.out _ rA rc rfl wr hvr (hb.trans hbr))
              have hR := HR.out.keep hbr
              clear hvr
              have hbx := hb.trans hbr
              clear OW OW2
              go_wp2_with (go_at_call 20; with_reducible refine Calls.mono CO.out ?_; rintro e W8 ⟨rfl, hb8⟩; replace hR := hR.keep hb8; replace hbx := hbx.trans hb8; clear hb8)
              refine bodyPost_ret (by simp [results, Try.results9, go_sem, nul, hR]; try rfl) rfl ⟨rfl, ?_⟩
              have hq := HBR.out
              (repeat (first | with_reducible exact Bel.refl _ | with_reducible refine Bel.setCell ?_ (by first | exact Nat.le_refl _ | (dsimp only; omega)) _ | with_reducible refine Bel.alloc ?_ _ | with_reducible refine Bel.drew ?_ | with_reducible assumption | with_reducible refine Bel.trans ?_ (by assumption)))
    · obtain rfl : R = (nul, 2) := RR.out.trans (if_pos (by cases b3 <;> cases b4 <;> cases b5 <;> simp_all))
      obtain rfl := OR.out
      clear RR OR H2 H3
      cases b3 with
      | false =>
        go_enter Try.func9, Try.ntmps9
        go_upto_region 1 with fail
        refine under_name (((Bel.refl w).alloc _).alloc _) fun W hc hf hz hb => ?_
        have hD : Sl5 W w.heap.size v0 v1 v2 v3 v4 := by simp [Sl5, FreeAt, hc, hf, hz, go_sem] <;> omega
        have hR : Sl5 W (w.heap.size + 1) 0 0 0 ⟨#[]⟩ 0 := by simp [Sl5, FreeAt, hc, hf, hz, go_sem] <;> omega
        clear hc hf hz
        have HQ := Lib.hid (show w.heap.size ≤ w.heap.size + 1 from Nat.le_succ _)
        generalize hBB : w.heap.size + 1 = BR at hR HQ ⊢
        generalize hBD : w.heap.size = BD at hD hBB ⊢
        have HBR := Lib.hid (show w.heap.size ≤ BR from by omega)
        have HBD := Lib.hid (show BD + 1 = BR from hBB)
        clear HQ hBB hBD
        have tA : True := trivial
        have tB : True := trivial
        go_wp2_with (first
          | (go_at_call 12; with_reducible refine Calls.mono (C1.out _) ?_; rintro e W1 ⟨rfl, hb1⟩; replace hD := hD.keep hb1; replace hR := hR.keep hb1; replace hb := hb.trans hb1; clear hb1)
          | (go_at_call 16; with_reducible refine Calls.mono (C2.out _ hb) ?_; rintro e W2 ⟨rfl, hb2⟩; replace hD := hD.keep hb2; replace hR := hR.keep hb2; replace hb := hb.trans hb2; clear hb2)
          | (go_at_call 17; have _u := tA; with_reducible refine Calls.mono (C3.out _ hb) ?_; rintro e W3 ⟨rfl, hb3⟩; replace hD := hD.keep hb3; replace hR := hR.keep hb3; replace hb := hb.trans hb3; clear hb3 _u tA))
        refine bodyPost_ret (by simp [results, Try.results9, go_sem, nul, hR]; try rfl) rfl ⟨rfl, ?_⟩
        have hq := HBR.out
        (repeat (first | with_reducible exact Bel.refl _ | with_reducible refine Bel.setCell ?_ (by first | exact Nat.le_refl _ | (dsimp only; omega)) _ | with_reducible refine Bel.alloc ?_ _ | with_reducible refine Bel.drew ?_ | with_reducible assumption | with_reducible refine Bel.trans ?_ (by assumption)))
      | true =>
        cases b4 with
        | false =>
          go_enter Try.func9, Try.ntmps9
          go_upto_region 1 with fail
          refine under_name (((Bel.refl w).alloc _).alloc _) fun W hc hf hz hb => ?_
          have hD : Sl5 W w.heap.size v0 v1 v2 v3 v4 := by simp [Sl5, FreeAt, hc, hf, hz, go_sem] <;> omega
          have hR : Sl5 W (w.heap.size + 1) 0 0 0 ⟨#[]⟩ 0 := by simp [Sl5, FreeAt, hc, hf, hz, go_sem] <;> omega
          clear hc hf hz
          have HQ := Lib.hid (show w.heap.size ≤ w.heap.size + 1 from Nat.le_succ _)
          generalize hBB : w.heap.size + 1 = BR at hR HQ ⊢
          generalize hBD : w.heap.size = BD at hD hBB ⊢
          have HBR := Lib.hid (show w.heap.size ≤ BR from by omega)
          have HBD := Lib.hid (show BD + 1 = BR from hBB)
          clear HQ hBB hBD
          have tA : True := trivial
          have tB : True := trivial
          go_wp2_with (first
            | (go_at_call 12; with_reducible refine Calls.mono (C1.out _) ?_; rintro e W1 ⟨rfl, hb1⟩; replace hD := hD.keep hb1; replace hR := hR.keep hb1; replace hb := hb.trans hb1; clear hb1)
            | (go_at_call 16; with_reducible refine Calls.mono (C2.out _ hb) ?_; rintro e W2 ⟨rfl, hb2⟩; replace hD := hD.keep hb2; replace hR := hR.keep hb2; replace hb := hb.trans hb2; clear hb2)
            | (go_at_call 17; have _u := tA; with_reducible refine Calls.mono (C3.out _ hb) ?_; rintro e W3 ⟨rfl, hb3⟩; replace hD := hD.keep hb3; replace hR := hR.keep hb3; replace hb := hb.trans hb3; clear hb3 _u tA)
            | (go_at_call 17; have _u := tB; with_reducible refine Calls.mono (C4.out _ hb) ?_; rintro e W4 ⟨rfl, hb4⟩; replace hD := hD.keep hb4; replace hR := hR.keep hb4; replace hb := hb.trans hb4; clear hb4 _u tB))
          refine bodyPost_ret (by simp [results, Try.results9, go_sem, nul, hR]; try rfl) rfl ⟨rfl, ?_⟩
          have hq := HBR.out
          (repeat (first | with_reducible exact Bel.refl _ | with_reducible refine Bel.setCell ?_ (by first | exact Nat.le_refl _ | (dsimp only; omega)) _ | with_reducible refine Bel.alloc ?_ _ | with_reducible refine Bel.drew ?_ | with_reducible assumption | with_reducible refine Bel.trans ?_ (by assumption)))
        | true =>
          obtain rfl : b5 = false := by cases b5 <;> simp_all
          clear g2
          go_enter Try.func9, Try.ntmps9
          go_upto_region 1 with fail
          refine under_name (((Bel.refl w).alloc _).alloc _) fun W hc hf hz hb => ?_
          have hD : Sl5 W w.heap.size v0 v1 v2 v3 v4 := by simp [Sl5, FreeAt, hc, hf, hz, go_sem] <;> omega
          have hR : Sl5 W (w.heap.size + 1) 0 0 0 ⟨#[]⟩ 0 := by simp [Sl5, FreeAt, hc, hf, hz, go_sem] <;> omega
          clear hc hf hz
          have HQ := Lib.hid (show w.heap.size ≤ w.heap.size + 1 from Nat.le_succ _)
          generalize hBB : w.heap.size + 1 = BR at hR HQ ⊢
          generalize hBD : w.heap.size = BD at hD hBB ⊢
          have HBR := Lib.hid (show w.heap.size ≤ BR from by omega)
          have HBD := Lib.hid (show BD + 1 = BR from hBB)
          clear HQ hBB hBD
          have tA : True := trivial
          have tB : True := trivial
          go_wp2_with (first
            | (go_at_call 12; with_reducible refine Calls.mono (C1.out _) ?_; rintro e W1 ⟨rfl, hb1⟩; replace hD := hD.keep hb1; replace hR := hR.keep hb1; replace hb := hb.trans hb1; clear hb1)
            | (go_at_call 16; with_reducible refine Calls.mono (C2.out _ hb) ?_; rintro e W2 ⟨rfl, hb2⟩; replace hD := hD.keep hb2; replace hR := hR.keep hb2; replace hb := hb.trans hb2; clear hb2)
            | (go_at_call 17; have _u := tA; with_reducible refine Calls.mono (C3.out _ hb) ?_; rintro e W3 ⟨rfl, hb3⟩; replace hD := hD.keep hb3; replace hR := hR.keep hb3; replace hb := hb.trans hb3; clear hb3 _u tA)
            | (go_at_call 17; have _u := tB; with_reducible refine Calls.mono (C4.out _ hb) ?_; rintro e W4 ⟨rfl, hb4⟩; replace hD := hD.keep hb4; replace hR := hR.keep hb4; replace hb := hb.trans hb4; clear hb4 _u tB)
            | (go_at_call 17; refine Calls.mono (C5.out _ _ (by simp)) ?_; rintro e W5 ⟨rfl, hb5⟩; replace hD := hD.keep hb5; replace hR := hR.keep hb5; replace hb := hb.trans hb5; clear hb5))
          refine bodyPost_ret (by simp [results, Try.results9, go_sem, nul, hR]; try rfl) rfl ⟨rfl, ?_⟩
          have hq := HBR.out
          (repeat (first | with_reducible exact Bel.refl _ | with_reducible refine Bel.setCell ?_ (by first | exact Nat.le_refl _ | (dsimp only; omega)) _ | with_reducible refine Bel.alloc ?_ _ | with_reducible refine Bel.drew ?_ | with_reducible assumption | with_reducible refine Bel.trans ?_ (by assumption)))
  · obtain rfl : R = (nul, 1) := RR.out.trans (if_pos (by cases b1 <;> cases b2 <;> simp_all))
    obtain rfl := OR.out
    clear RR OR C3 C4 C5 H2 H3
    cases b1 with
    | false =>
      go_enter Try.func9, Try.ntmps9
      go_upto_region 1 with fail
      refine under_name (((Bel.refl w).alloc _).alloc _) fun W hc hf hz hb => ?_
      have hD : Sl5 W w.heap.size v0 v1 v2 v3 v4 := by simp [Sl5, FreeAt, hc, hf, hz, go_sem] <;> omega
      have hR : Sl5 W (w.heap.size + 1) 0 0 0 ⟨#[]⟩ 0 := by simp [Sl5, FreeAt, hc, hf, hz, go_sem] <;> omega
      clear hc hf hz
      have HQ := Lib.hid (show w.heap.size ≤ w.heap.size + 1 from Nat.le_succ _)
      generalize hBB : w.heap.size + 1 = BR at hR HQ ⊢
      generalize hBD : w.heap.size = BD at hD hBB ⊢
      have HBR := Lib.hid (show w.heap.size ≤ BR from by omega)
      have HBD := Lib.hid (show BD + 1 = BR from hBB)
      clear HQ hBB hBD
      go_wp2_with (first
        | (go_at_call 12; with_reducible refine Calls.mono (C1.out _) ?_; rintro e W1 ⟨rfl, hb1⟩; replace hD := hD.keep hb1; replace hR := hR.keep hb1; replace hb := hb.trans hb1; clear hb1))
      refine bodyPost_ret (by simp [results, Try.results9, go_sem, nul, hR]; try rfl) rfl ⟨rfl, ?_⟩
      have hq := HBR.out
      (repeat (first | with_reducible exact Bel.refl _ | with_reducible refine Bel.setCell ?_ (by first | exact Nat.le_refl _ | (dsimp only; omega)) _ | with_reducible refine Bel.alloc ?_ _ | with_reducible refine Bel.drew ?_ | with_reducible assumption | with_reducible refine Bel.trans ?_ (by assumption)))
    | true =>
      obtain rfl : b2 = false := by cases b2 <;> simp_all
      clear g1
      go_enter Try.func9, Try.ntmps9
      go_upto_region 1 with fail
      refine under_name (((Bel.refl w).alloc _).alloc _) fun W hc hf hz hb => ?_
      have hD : Sl5 W w.heap.size v0 v1 v2 v3 v4 := by simp [Sl5, FreeAt, hc, hf, hz, go_sem] <;> omega
      have hR : Sl5 W (w.heap.size + 1) 0 0 0 ⟨#[]⟩ 0 := by simp [Sl5, FreeAt, hc, hf, hz, go_sem] <;> omega
      clear hc hf hz
      have HQ := Lib.hid (show w.heap.size ≤ w.heap.size + 1 from Nat.le_succ _)
      generalize hBB : w.heap.size + 1 = BR at hR HQ ⊢
      generalize hBD : w.heap.size = BD at hD hBB ⊢
      have HBR := Lib.hid (show w.heap.size ≤ BR from by omega)
      have HBD := Lib.hid (show BD + 1 = BR from hBB)
      clear HQ hBB hBD
      go_wp2_with (first
        | (go_at_call 12; with_reducible refine Calls.mono (C1.out _) ?_; rintro e W1 ⟨rfl, hb1⟩; replace hD := hD.keep hb1; replace hR := hR.keep hb1; replace hb := hb.trans hb1; clear hb1)
        | (go_at_call 16; with_reducible refine Calls.mono (C2.out _ hb) ?_; rintro e W2 ⟨rfl, hb2⟩; replace hD := hD.keep hb2; replace hR := hR.keep hb2; replace hb := hb.trans hb2; clear hb2))
      refine bodyPost_ret (by simp [results, Try.results9, go_sem, nul, hR]; try rfl) rfl ⟨rfl, ?_⟩
      have hq := HBR.out
      (repeat (first | with_reducible exact Bel.refl _ | with_reducible refine Bel.setCell ?_ (by first | exact Nat.le_refl _ | (dsimp only; omega)) _ | with_reducible refine Bel.alloc ?_ _ | with_reducible refine Bel.drew ?_ | with_reducible assumption | with_reducible refine Bel.trans ?_ (by assumption)))
end Go.Proofs.Yteblpdoljhmcmaa
