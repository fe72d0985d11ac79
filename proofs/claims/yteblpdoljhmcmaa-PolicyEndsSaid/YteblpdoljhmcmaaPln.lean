import Derived.Test.YteblpdoljhmcmaaPlm
import Derived.Test.YteblpdoljhmcmaaPlv
namespace Go.Proofs.Yteblpdoljhmcmaa
set_option linter.unusedSimpArgs false
set_option linter.unusedVariables false
open Go.RowKit Go.Lib
attribute [local go_sem ↓] eql_val neq_val

/-! The least and the greatest. -/
/-- All are of one kind, and it is not null's. -/
def Alike (k : Int) (r : List Val) : Prop := ∀ v ∈ r, v.kind = k ∧ k ≠ 0
theorem ext_bad {way k : Int} : ∀ (r : List Val) (b : Val), b.kind = k → ¬ Alike k r → extF way b r = nul
  | [], b, _, h => absurd (fun v hv => by cases hv) h
  | v :: r, b, hb, h => by
    unfold extF
    by_cases e : v.kind = 0 ∨ v.kind ≠ b.kind
    · rw [if_pos e]
    · rw [if_neg e]
      refine ext_bad (k := k) r _ ?_ (fun h2 => h fun u hu => ?_)
      · split
        · rw [← hb]; omega
        · exact hb
      · rcases List.mem_cons.1 hu with rfl | hu
        · exact ⟨by omega, by omega⟩
        · exact h2 u hu
theorem vcmp_self {v : Val} (h : vsnd v = true) : vcmp v v = 0 := (vcmp_zero h h).2 rfl
/-- What a walk for the least gives. -/
theorem ext_low {k : Int} {R : List Val} (hR : ∀ v ∈ R, vsnd v = true) : ∀ (r : List Val) (b : Val), b ∈ R → (∀ v ∈ r, v ∈ R) → b.kind = k → Alike k r → extF (-1) b r ∈ R ∧ (extF (-1) b r).kind = k ∧ vcmp (extF (-1) b r) b ≤ 0 ∧ ∀ v ∈ r, vcmp (extF (-1) b r) v ≤ 0
  | [], b, hb, _, hk, _ => ⟨hb, hk, by rw [extF, vcmp_self (hR b hb)]; exact Int.le_refl _, by simp⟩
  | v :: r, b, hb, h2, hk, ha => by
    have hv := ha v (List.mem_cons_self ..)
    have e : ¬ (v.kind = 0 ∨ v.kind ≠ b.kind) := by omega
    have ex : extF (-1) b (v :: r) = extF (-1) (if vcmp v b = -1 then v else b) r := by rw [extF, if_neg e]
    rw [ex]
    have hvR := h2 v (List.mem_cons_self ..)
    have bd := vcmp_bd v b
    have an := vcmp_anti v b
    obtain ⟨i1, i2, i3, i4⟩ := ext_low hR r (if vcmp v b = -1 then v else b) (by split; exact hvR; exact hb) (fun u hu => h2 u (List.mem_cons_of_mem _ hu)) (by split; exact hv.1; exact hk) (fun u hu => ha u (List.mem_cons_of_mem _ hu))
    have both : vcmp (if vcmp v b = -1 then v else b) v ≤ 0 ∧ vcmp (if vcmp v b = -1 then v else b) b ≤ 0 := by
      by_cases h : vcmp v b = -1
      · rw [if_pos h, vcmp_self (hR v hvR)]; omega
      · rw [if_neg h, vcmp_self (hR b hb)]; omega
    refine ⟨i1, i2, vcmp_trans i3 both.2, fun u hu => ?_⟩
    rcases List.mem_cons.1 hu with rfl | hu
    · exact vcmp_trans i3 both.1
    · exact i4 u hu
theorem ext_high {k : Int} {R : List Val} (hR : ∀ v ∈ R, vsnd v = true) : ∀ (r : List Val) (b : Val), b ∈ R → (∀ v ∈ r, v ∈ R) → b.kind = k → Alike k r → extF 1 b r ∈ R ∧ (extF 1 b r).kind = k ∧ vcmp b (extF 1 b r) ≤ 0 ∧ ∀ v ∈ r, vcmp v (extF 1 b r) ≤ 0
  | [], b, hb, _, hk, _ => ⟨hb, hk, by rw [extF, vcmp_self (hR b hb)]; exact Int.le_refl _, by simp⟩
  | v :: r, b, hb, h2, hk, ha => by
    have hv := ha v (List.mem_cons_self ..)
    have e : ¬ (v.kind = 0 ∨ v.kind ≠ b.kind) := by omega
    have ex : extF 1 b (v :: r) = extF 1 (if vcmp v b = 1 then v else b) r := by rw [extF, if_neg e]
    rw [ex]
    have hvR := h2 v (List.mem_cons_self ..)
    have bd := vcmp_bd v b
    have an := vcmp_anti v b
    obtain ⟨i1, i2, i3, i4⟩ := ext_high hR r (if vcmp v b = 1 then v else b) (by split; exact hvR; exact hb) (fun u hu => h2 u (List.mem_cons_of_mem _ hu)) (by split; exact hv.1; exact hk) (fun u hu => ha u (List.mem_cons_of_mem _ hu))
    have both : vcmp v (if vcmp v b = 1 then v else b) ≤ 0 ∧ vcmp b (if vcmp v b = 1 then v else b) ≤ 0 := by
      by_cases h : vcmp v b = 1
      · rw [if_pos h, vcmp_self (hR v hvR)]; omega
      · rw [if_neg h, vcmp_self (hR b hb)]; omega
    refine ⟨i1, i2, vcmp_trans both.2 i3, fun u hu => ?_⟩
    rcases List.mem_cons.1 hu with rfl | hu
    · exact vcmp_trans both.1 i3
    · exact i4 u hu
/-- What the law asks of both ends. -/
theorem ends_ok {r : List Val} (hs : ∀ v ∈ r, vsnd v = true) (h0 : 0 < r.length) :
    (extF (-1) (hd r) r = nul ∧ extF 1 (hd r) r = nul) ∨
    ((extF (-1) (hd r) r).kind ≠ 0 ∧ (extF 1 (hd r) r).kind ≠ 0 ∧ vsnd (extF (-1) (hd r) r) = true ∧ vsnd (extF 1 (hd r) r) = true ∧ ∀ v ∈ r, vcmp (extF (-1) (hd r) r) v ≤ 0 ∧ 0 ≤ vcmp (extF 1 (hd r) r) v) := by
  by_cases ha : Alike (hd r).kind r
  · right
    obtain ⟨a1, a2, a3, a4⟩ := ext_low hs r (hd r) (hd_mem h0) (fun _ h => h) rfl ha
    obtain ⟨b1, b2, b3, b4⟩ := ext_high hs r (hd r) (hd_mem h0) (fun _ h => h) rfl ha
    have k := (ha (hd r) (hd_mem h0)).2
    refine ⟨by rw [a2]; exact k, by rw [b2]; exact k, hs _ a1, hs _ b1, fun v hv => ⟨a4 v hv, ?_⟩⟩
    have := b4 v hv
    have an := vcmp_anti v (extF 1 (hd r) r)
    omega
  · exact .inl ⟨ext_bad r _ rfl ha, ext_bad r _ rfl ha⟩
set_option maxRecDepth 100000 in
set_option maxHeartbeats 16000000 in
theorem law_Ends (outs : List Val) (A : Option Addr) (c : Nat) (m : Int) (w : World) (hA : Vals w A outs) (lA : outs.length ≤ 9223372036854775807) (tA : ∀ v ∈ outs, v.text.size ≤ 9223372036854775807) (hm : 0 ≤ m ∧ m ≤ 65535) :
    Calls Try.prog 6 #[.slice A outs.length c, .int .u16 m] w fun e w' => e = .returned (.bool true) ∧ Bel w w' := by
  have C1 := Lib.hid fun W => fired_any outs.length m W (by omega) hm
  have CO := Lib.hid fun (p : Int) (l : List Int) F f W (hr : risF outs.length 0 l = true) (hl : l.length ≤ 16) (hF : Ints W F l) (hW : Bel w W) => out_any p outs A c [] none 0 nul l F f W (hA.keep hW) vals_nil hF lA (by simp) (by omega) tA (by simp) (Nat.zero_le _) (fun i hi => by have := risF_mem hr i hi; omega)
  have C5 := Lib.hid fun W => awake_any W
  have HA := Lib.hid hA
  have TA := Lib.hid tA
  clear hA tA
  go_enter Try.func6, Try.ntmps6
  go_upto_region 2 with (go_at_call 14; refine Calls.mono (C1.out _) ?_; rintro e W1 ⟨vl, l, rfl, hl, hr, hn, hb1⟩)
  obtain ⟨F, f, rfl, hF, _⟩ := hl.ints
  have HF := Lib.hid hF
  have HR := Lib.hid hr
  have K60 := Lib.hid (fun W F f (hF : Ints W F l) hW => CO.out 60 l F f W hr hn hF hW)
  have K62 := Lib.hid (fun W F f (hF : Ints W F l) hW => CO.out 62 l F f W hr hn hF hW)
  rw [outR_among (p := 60) (by simp [amongP]) _ _ _ _ hr] at K60
  rw [outR_among (p := 62) (by simp [amongP]) _ _ _ _ hr] at K62
  obtain ⟨q, hq⟩ : ∃ q, q = (outs.all vsnd && (([] : List Val).all vsnd && vsnd nul)) := ⟨_, rfl⟩
  rw [← hq] at K60 K62
  have HQ := Lib.hid hq
  have hli : (l.length : Int) ≤ 16 := by omega
  clear hl hF hr hq CO
  cases q with
  | false =>
    simp only [Bool.false_eq_true, if_false, Val.val, nul] at K60 K62
    have tk : True := trivial
    go_wp2_with (first
      | (go_at_call 9; with_reducible refine Calls.mono (K60.out _ F f HF.out hb1) ?_; rintro e W2 ⟨rfl, hb2⟩)
      | (go_at_call 9; with_reducible refine Calls.mono (K62.out _ F f (HF.out.keep (hb2.alloc _)) (hb1.trans (hb2.alloc _))) ?_; rintro e W3 ⟨rfl, hb3⟩; have S1 := (sl5_new W2 0 0 0 ⟨#[]⟩ 0).keep hb3; replace hb3 := (hb2.alloc _).trans hb3)
      | (go_at_call 11; have _u := tk; clear _u tk; with_reducible refine Calls.mono (C5.out _) ?_; rintro e W4 ⟨rfl, hb4⟩; have S2 := (sl5_new W3 0 0 0 ⟨#[]⟩ 0).keep hb4; replace S1 := S1.keep (((Bel.refl W3).alloc _).trans hb4); replace hb4 := (hb3.alloc _).trans hb4)
      | (go_at_call 11; with_reducible refine Calls.mono (C5.out _) ?_; rintro e W5 ⟨rfl, hb5⟩; replace hb4 := hb4.trans hb5))
    go_ret
    exact ⟨by simp, hb1.trans hb4⟩
  | true =>
    by_cases hl0 : l.length = 0
    · rw [hl0] at K60 K62 ⊢
      simp only [if_true, Val.val, nul] at K60 K62
      have tk : True := trivial
      go_wp2_with (first
        | (go_at_call 9; with_reducible refine Calls.mono (K60.out _ F f HF.out hb1) ?_; rintro e W2 ⟨rfl, hb2⟩)
        | (go_at_call 9; with_reducible refine Calls.mono (K62.out _ F f (HF.out.keep (hb2.alloc _)) (hb1.trans (hb2.alloc _))) ?_; rintro e W3 ⟨rfl, hb3⟩; have S1 := (sl5_new W2 0 0 0 ⟨#[]⟩ 0).keep hb3; replace hb3 := (hb2.alloc _).trans hb3)
        | (go_at_call 11; have _u := tk; clear _u tk; with_reducible refine Calls.mono (C5.out _) ?_; rintro e W4 ⟨rfl, hb4⟩; have S2 := (sl5_new W3 0 0 0 ⟨#[]⟩ 0).keep hb4; replace S1 := S1.keep (((Bel.refl W3).alloc _).trans hb4); replace hb4 := (hb3.alloc _).trans hb4)
        | (go_at_call 11; with_reducible refine Calls.mono (C5.out _) ?_; rintro e W5 ⟨rfl, hb5⟩; replace hb4 := hb4.trans hb5))
      go_ret
      exact ⟨by simp, hb1.trans hb4⟩
    · have el0 : ((l.length : Int) == 0) = false := beq_eq_false_iff_ne.2 (by omega)
      have PLN := Lib.hid (show (picks outs l).length = l.length from by unfold picks; rw [List.length_map])
      have TR := Lib.hid (picks_mem HR.out TA.out)
      have SR := Lib.hid (show ∀ v ∈ picks outs l, vsnd v = true from picks_mem HR.out (List.all_eq_true.1 (by have := HQ.out; simp at this; exact List.all_eq_true.2 this.1)))
      have PIK := Lib.hid (show ∀ (k : Nat) (i : Int), l[k]? = some i → (picks outs l)[k]? = some (outs.getD i.toNat nul) ∧ 0 ≤ i ∧ i < outs.length from fun k i h => ⟨picks_at h, (risF_mem HR.out i (List.mem_of_getElem? h))⟩)
      simp only [if_true, if_neg hl0, Val.val, nul] at K60 K62
      have XM := Lib.hid (show (extF (-1) (hd (picks outs l)) (picks outs l)).text.size ≤ 9223372036854775807 ∧ (extF 1 (hd (picks outs l)) (picks outs l)).text.size ≤ 9223372036854775807 from by
        have g : ∀ x : Val, (x = nul ∨ x ∈ picks outs l) → x.text.size ≤ 9223372036854775807 := fun x hx => by
          rcases hx with rfl | hx
          · exact Nat.zero_le _
          · exact TR.out x hx
        have h0 : 0 < (picks outs l).length := by rw [PLN.out]; omega
        exact ⟨g _ (ext_in _ _ (hd_mem h0) (fun _ h => h)), g _ (ext_in _ _ (hd_mem h0) (fun _ h => h))⟩)
      have EN := Lib.hid (ends_ok SR.out (by rw [PLN.out]; omega))
      rw [show outF 60 (picks outs l) [] = extF (-1) (hd (picks outs l)) (picks outs l) from rfl] at K60
      rw [show outF 62 (picks outs l) [] = extF 1 (hd (picks outs l)) (picks outs l) from rfl] at K62
      generalize extF (-1) (hd (picks outs l)) (picks outs l) = X at *
      generalize extF 1 (hd (picks outs l)) (picks outs l) = Y at *
      generalize picks outs l = r at *
      rcases EN.out with ⟨rfl, rfl⟩ | ⟨x1, y1, x2, y2, xy⟩
      · simp only [nul] at K60 K62
        go_wp2_with (first
          | (go_at_call 9; with_reducible refine Calls.mono (K60.out _ F f HF.out hb1) ?_; rintro e W2 ⟨rfl, hb2⟩)
          | (go_at_call 9; with_reducible refine Calls.mono (K62.out _ F f (HF.out.keep (hb2.alloc _)) (hb1.trans (hb2.alloc _))) ?_; rintro e W3 ⟨rfl, hb3⟩; have S1 := (sl5_new W2 0 0 0 ⟨#[]⟩ 0).keep hb3; replace hb3 := (hb2.alloc _).trans hb3)
          | (go_at_call 11; with_reducible refine Calls.mono (C5.out _) ?_; rintro e W4 ⟨rfl, hb4⟩; have S2 := (sl5_new W3 0 0 0 ⟨#[]⟩ 0).keep hb4; replace S1 := S1.keep (((Bel.refl W3).alloc _).trans hb4); replace hb4 := (hb3.alloc _).trans hb4))
        obtain ⟨s10, ⟨s11, s12, s13, s14, s15⟩, _⟩ := S1
        have z1 := s10
        go_loopg [10] 0 (fun g s10 wr => s10 = .int .i64 0 ∧ wr = W4)
        case atStart => exact ⟨rfl, rfl⟩
        case round =>
          obtain ⟨rfl, rfl⟩ := hrel
          go_wp2_with fail
          go_ret
          exact ⟨rfl, hb1.trans hb4⟩
      · have ek : (X.kind == 0) = false := beq_eq_false_iff_ne.2 x1
        have ek2 : (Y.kind == 0) = false := beq_eq_false_iff_ne.2 y1
        have en : (X.kind != 0) = true := bne_iff_ne.2 x1
        have XY := Lib.hid xy
        have CX := Lib.hid (show ∀ u ∈ r, ∀ W, Calls Try.prog 15 #[X.val, u.val] W fun e w' => e = .returned (.tuple #[.int .i64 (vcmp X u), .int .i64 0]) ∧ Bel W w' from fun u hu W => by
          have k := rvcompare_any X u XM.out.1 (TR.out u hu) W
          rw [show vcmpV X u = .tuple #[.int .i64 (vcmp X u), .int .i64 0] from if_pos ⟨x2, SR.out u hu⟩] at k
          exact k)
        have CY := Lib.hid (show ∀ u ∈ r, ∀ W, Calls Try.prog 15 #[Y.val, u.val] W fun e w' => e = .returned (.tuple #[.int .i64 (vcmp Y u), .int .i64 0]) ∧ Bel W w' from fun u hu W => by
          have k := rvcompare_any Y u XM.out.2 (TR.out u hu) W
          rw [show vcmpV Y u = .tuple #[.int .i64 (vcmp Y u), .int .i64 0] from if_pos ⟨y2, SR.out u hu⟩] at k
          exact k)
        clear EN XM x2 y2 xy
        obtain ⟨x0, x1', x2, x3, x4⟩ := X
        obtain ⟨y0, y1', y2, y3, y4⟩ := Y
        simp only at K60 K62 ek ek2 en x1 y1
        go_wp2_with (first
          | (go_at_call 9; with_reducible refine Calls.mono (K60.out _ F f HF.out hb1) ?_; rintro e W2 ⟨rfl, hb2⟩)
          | (go_at_call 9; with_reducible refine Calls.mono (K62.out _ F f (HF.out.keep (hb2.alloc _)) (hb1.trans (hb2.alloc _))) ?_; rintro e W3 ⟨rfl, hb3⟩; have S1 := (sl5_new W2 x0 x1' x2 x3 x4).keep hb3; replace hb3 := (hb2.alloc _).trans hb3)
          | (go_at_call 11; with_reducible refine Calls.mono (C5.out _) ?_; rintro e W4 ⟨rfl, hb4⟩; have S2 := (sl5_new W3 y0 y1' y2 y3 y4).keep hb4; replace S1 := S1.keep (((Bel.refl W3).alloc _).trans hb4); replace hb4 := (hb3.alloc _).trans hb4))
        have SS1 := Lib.hid (show ∀ wr, Bel W4 wr → W2.heap.size < wr.heap.size ∧ wr.cell? ⟨W2.heap.size, 0, none⟩ = some (.int .i64 x0) ∧ wr.cell? ⟨W2.heap.size, 1, none⟩ = some (.int .i64 x1') ∧ wr.cell? ⟨W2.heap.size, 2, none⟩ = some (.int .i64 x2) ∧ wr.cell? ⟨W2.heap.size, 3, none⟩ = some (.string x3) ∧ wr.cell? ⟨W2.heap.size, 4, none⟩ = some (.int .i64 x4) from fun wr hW => ⟨Nat.lt_of_lt_of_le S1.1 hW.size, (hW.cells _ _ S1.1).trans S1.2.1.1, (hW.cells _ _ S1.1).trans S1.2.1.2.1, (hW.cells _ _ S1.1).trans S1.2.1.2.2.1, (hW.cells _ _ S1.1).trans S1.2.1.2.2.2.1, (hW.cells _ _ S1.1).trans S1.2.1.2.2.2.2⟩)
        have SS2 := Lib.hid (show ∀ wr, Bel W4 wr → W3.heap.size < wr.heap.size ∧ wr.cell? ⟨W3.heap.size, 0, none⟩ = some (.int .i64 y0) ∧ wr.cell? ⟨W3.heap.size, 1, none⟩ = some (.int .i64 y1') ∧ wr.cell? ⟨W3.heap.size, 2, none⟩ = some (.int .i64 y2) ∧ wr.cell? ⟨W3.heap.size, 3, none⟩ = some (.string y3) ∧ wr.cell? ⟨W3.heap.size, 4, none⟩ = some (.int .i64 y4) from fun wr hW => ⟨Nat.lt_of_lt_of_le S2.1 hW.size, (hW.cells _ _ S2.1).trans S2.2.1.1, (hW.cells _ _ S2.1).trans S2.2.1.2.1, (hW.cells _ _ S2.1).trans S2.2.1.2.2.1, (hW.cells _ _ S2.1).trans S2.2.1.2.2.2.1, (hW.cells _ _ S2.1).trans S2.2.1.2.2.2.2⟩)
        clear S1 S2
        go_loopg [10] l.length (fun g s10 wr => ∃ k : Nat, s10 = .int .i64 k ∧ k ≤ l.length ∧ Hid (g = l.length - k) ∧ Bel W4 wr)
        case atStart => exact ⟨0, rfl, Nat.zero_le _, rfl, Bel.refl _⟩
        case round =>
          obtain ⟨k, rfl, hk, hh, hb⟩ := hrel
          have hbx := hb4.trans hb
          have hbw := hb1.trans hbx
          obtain ⟨p0, p1, p2, p3, p4, p5⟩ := SS1.out wr hb
          by_cases hkp : k < l.length
          · obtain ⟨ab, ao, rfl, alt, aat⟩ := HA.out (by
              obtain ⟨n, hik⟩ : ∃ n, l[k]? = some n := ⟨_, List.getElem?_eq_getElem hkp⟩
              have := (PIK.out k n hik).2
              omega)
            have hln : 0 < (nums l).length := by rw [show (nums l).length = l.length by simp [nums]]; omega
            obtain ⟨fb, fo, rfl, flt, fat⟩ := HF.out hln
            obtain ⟨n, hik⟩ : ∃ n, l[k]? = some n := ⟨_, List.getElem?_eq_getElem hkp⟩
            have hfa := (hbx.cells _ _ flt).trans (fat k _ (show (nums l)[k]? = some (.int .i64 n) by simp [nums, hik]))
            obtain ⟨hrk, n0, n1⟩ := PIK.out k n hik
            obtain ⟨m', rfl⟩ : ∃ m' : Nat, n = m' := ⟨n.toNat, by omega⟩
            have hml : m' < outs.length := by omega
            obtain ⟨u, huk⟩ : ∃ u, outs[m']? = some u := ⟨_, List.getElem?_eq_getElem hml⟩
            have hru : r[k]? = some u := by rw [hrk]; simp [huk]
            have hmu := List.mem_of_getElem? hru
            have hua := (aat m' u huk).keep hbw alt
            have AT := Lib.hid hua
            have cx := CX.out u hmu
            have cy := CY.out u hmu
            have hxy := XY.out u hmu
            have bx := vcmp_bd ⟨x0, x1', x2, x3, x4⟩ u
            generalize vcmp ⟨x0, x1', x2, x3, x4⟩ u = cu at cx hxy bx
            generalize vcmp ⟨y0, y1', y2, y3, y4⟩ u = cv at cy hxy
            have CU := Lib.hid cx
            have CV := Lib.hid cy
            have lt1 := Nat.lt_of_lt_of_le flt hbx.size
            have lt2 := Nat.lt_of_lt_of_le alt hbw.size
            have k1 : (k : Int) < l.length := by omega
            have k0 : (0 : Int) ≤ (k : Int) := by omega
            have m1 : (m' : Int) < outs.length := by omega
            have m0 : (0 : Int) ≤ (m' : Int) := by omega
            have g1 : ¬ (0 : Int) < cu := by omega
            have g2 : ¬ cv < (0 : Int) := by omega
            clear fat hik hrk n0 n1 huk hru hmu cx cy hxy bx
            obtain ⟨u0, u1, u2, u3, u4⟩ := u
            obtain ⟨a0, a1, a2, a3, a4⟩ := hua
            go_wp2_with fail
            go_region_held3 (fun w' => Bel wr w' ∧ (∀ b o, b < wr.heap.size → w'.cell? ⟨b, o, none⟩ = wr.cell? ⟨b, o, none⟩)) (first | exact keep0 | exact keep1 ‹_› ‹_›) ((go_at_call 15; refine (CU.out _).mono ?_; rintro e X1 ⟨rfl, hb4'⟩))
            rename_i hH
            have hS := hH
            clear hH
            have lt1' := Nat.lt_of_lt_of_le lt1 hS.1.size
            have lt2' := Nat.lt_of_lt_of_le lt2 hS.1.size
            rw [← hS.2 _ _ lt2] at a0 a1 a2 a3 a4
            rw [← hS.2 _ _ lt1] at hfa
            replace hb := hb.trans hS.1
            obtain ⟨q0, q1, q2, q3, q4, q5⟩ := SS2.out X1 hb
            clear hS p0 p1 p2 p3 p4 p5
            go_wp2_with fail
            go_region_held3 (fun w' => Bel X1 w' ∧ (∀ b o, b < X1.heap.size → w'.cell? ⟨b, o, none⟩ = X1.cell? ⟨b, o, none⟩)) (first | exact keep0 | exact keep1 ‹_› ‹_›) ((go_at_call 15; refine (CV.out _).mono ?_; rintro e X2 ⟨rfl, hb4'⟩))
            rename_i hH
            have hS := hH
            clear hH
            replace hb := hb.trans hS.1
            clear hS
            go_wp2_with fail
            go_roundg (l.length - (k + 1))
            case measure => have := hh.out; omega
            case rel => exact ⟨k + 1, by go_num, by omega, rfl, hb⟩
          · obtain rfl : k = l.length := by omega
            go_wp2_with fail
            go_ret
            exact ⟨rfl, hbw⟩
end Go.Proofs.Yteblpdoljhmcmaa
