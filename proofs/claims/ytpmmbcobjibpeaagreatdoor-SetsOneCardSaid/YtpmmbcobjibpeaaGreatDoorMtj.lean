
import Derived.Test.YtpmmbcobjibpeaaGreatDoorMth
namespace Go.Proofs.YtpmmbcobjibpeaaGreatDoor
set_option linter.unusedSimpArgs false
set_option linter.unusedVariables false
open Go.RowKit Go.Lib
attribute [local go_sem ↓] eql_val neq_val eql_tst neq_tst

/-! The document's Holds, All, May. -/
set_option maxRecDepth 100000 in
set_option maxHeartbeats 8000000 in
theorem holds_any (t : Tst) (v : Val) (ht : TOk t) (hv : v.text.size ≤ 9223372036854775807) (hs : tsnd t = true) (hvs : vsnd v = true) (w : World) : Calls Tryz.prog 44 #[t.val, v.val] w fun e w' => e = .returned (.bool (mone t v)) ∧ Bel w w' := by
  have c1 := fun w => rvcompare_any v t.low hv ht.1 w
  have c2 := fun w => rvcompare_any v t.high hv ht.2 w
  have e1 : vcmpV v t.low = .tuple #[.int .i64 (vcmp v t.low), .int .i64 0] := if_pos ⟨hvs, tsnd_low hs⟩
  have e2 : vcmpV v t.high = .tuple #[.int .i64 (vcmp v t.high), .int .i64 0] := if_pos ⟨hvs, tsnd_high hs⟩
  have bc := vcmp_bd v t.low
  have bd := vcmp_bd v t.high
  have hk := tsnd_kind hs
  have MV := Lib.hid (show t.kind = 1 → mone t v = veq t.low v from fun h1 => by
    unfold mone
    by_cases h0 : v.kind = t.low.kind
    · rw [if_neg (by simp [h0]), if_neg (by omega), if_neg (by omega), if_neg (by omega), if_neg (by omega), if_neg (by omega), Bool.eq_iff_iff, decide_eq_true_iff, veq_iff, vcmp_zero hvs (tsnd_low hs)]
      exact ⟨fun h => h.symm, fun h => h.symm⟩
    · rw [if_pos h0]
      cases hq : veq t.low v with
      | false => rfl
      | true => exact absurd (by rw [(veq_iff _ _).1 hq]) h0)
  have MO := Lib.hid (show mone t v = if v.kind ≠ t.low.kind then false
    else if t.kind = 2 then decide (vcmp v t.low < 0)
    else if t.kind = 3 then decide (vcmp v t.low ≤ 0)
    else if t.kind = 4 then decide (0 < vcmp v t.low)
    else if t.kind = 5 then decide (0 ≤ vcmp v t.low)
    else if t.kind = 6 then mbet t (vcmp v t.low) (vcmp v t.high)
    else decide (vcmp v t.low = 0) from rfl)
  simp only [e1] at c1
  simp only [e2] at c2
  generalize mone t v = R at MO MV ⊢
  generalize vcmp v t.low = c at c1 bc MO
  generalize vcmp v t.high = d at c2 bd MO
  have C1 := Lib.hid c1
  have C2 := Lib.hid c2
  have MB := Lib.hid (show mbet t c d = ((decide (0 < c) || (decide (c = 0) && !t.ol)) && (decide (d < 0) || (decide (d = 0) && !t.oh))) from rfl)
  generalize mbet t c d = mb at MO MB
  clear c1 c2 e1 e2 ht hv hs hvs
  obtain ⟨k, ⟨a0, a1, a2, a3, a4⟩, ⟨b0, b1, b2, b3, b4⟩, x, y⟩ := t
  obtain ⟨v0, v1, v2, v3, v4⟩ := v
  simp only at hk MO MB MV
  have bc3 : c = -1 ∨ c = 0 ∨ c = 1 := by omega
  have bd3 : d = -1 ∨ d = 0 ∨ d = 1 := by omega
  by_cases h1 : k = 1
  · subst h1
    generalize hq : veq ⟨a0, a1, a2, a3, a4⟩ ⟨v0, v1, v2, v3, v4⟩ = q at MV
    obtain rfl : R = q := MV.out rfl
    clear MO MB MV
    go_enter Tryz.func44, Tryz.ntmps44
    go_wp2_with (first
              | (go_at_call 67; with_reducible refine Calls.mono (C1.out _) ?_; rintro e W1 ⟨rfl, hb1⟩; have hc1 := hb1.cells; have hz1 := hb1.lt2)
              | (go_at_call 67; with_reducible refine Calls.mono (C2.out _) ?_; rintro e W2 ⟨rfl, hb2⟩; have hc2 := hb2.cells; have hz2 := hb2.size))
    go_ret
    refine ⟨rfl, ?_⟩
    (repeat (first | with_reducible exact Bel.refl _ | with_reducible refine Bel.setCell ?_ (by first | exact Nat.le_refl _ | (dsimp only; omega)) _ | with_reducible refine Bel.alloc ?_ _ | with_reducible refine Bel.drew ?_ | with_reducible assumption | with_reducible refine Bel.trans ?_ (by assumption)))
  by_cases h0 : v0 = a0
  · subst h0
    have MO := Lib.hid (MO.out.trans (if_neg (by simp)))
    have k6 : k = 2 ∨ k = 3 ∨ k = 4 ∨ k = 5 ∨ k = 6 := by omega
    clear hk h1 MV
    rcases k6 with rfl | rfl | rfl | rfl | rfl
    · have hR : R = decide (c < 0) := MO.out.trans (by simp)
      subst hR
      clear MO
      rcases bc3 with rfl | rfl | rfl
      all_goals
        go_enter Tryz.func44, Tryz.ntmps44
        go_wp2_with (first
                  | (go_at_call 67; with_reducible refine Calls.mono (C1.out _) ?_; rintro e W1 ⟨rfl, hb1⟩; have hc1 := hb1.cells; have hz1 := hb1.lt2)
                  | (go_at_call 67; with_reducible refine Calls.mono (C2.out _) ?_; rintro e W2 ⟨rfl, hb2⟩; have hc2 := hb2.cells; have hz2 := hb2.size))
        go_ret
        refine ⟨rfl, ?_⟩
        (repeat (first | with_reducible exact Bel.refl _ | with_reducible refine Bel.setCell ?_ (by first | exact Nat.le_refl _ | (dsimp only; omega)) _ | with_reducible refine Bel.alloc ?_ _ | with_reducible refine Bel.drew ?_ | with_reducible assumption | with_reducible refine Bel.trans ?_ (by assumption)))
    · have hR : R = decide (c ≤ 0) := MO.out.trans (by simp)
      subst hR
      clear MO
      rcases bc3 with rfl | rfl | rfl
      all_goals
        go_enter Tryz.func44, Tryz.ntmps44
        go_wp2_with (first
                  | (go_at_call 67; with_reducible refine Calls.mono (C1.out _) ?_; rintro e W1 ⟨rfl, hb1⟩; have hc1 := hb1.cells; have hz1 := hb1.lt2)
                  | (go_at_call 67; with_reducible refine Calls.mono (C2.out _) ?_; rintro e W2 ⟨rfl, hb2⟩; have hc2 := hb2.cells; have hz2 := hb2.size))
        go_ret
        refine ⟨rfl, ?_⟩
        (repeat (first | with_reducible exact Bel.refl _ | with_reducible refine Bel.setCell ?_ (by first | exact Nat.le_refl _ | (dsimp only; omega)) _ | with_reducible refine Bel.alloc ?_ _ | with_reducible refine Bel.drew ?_ | with_reducible assumption | with_reducible refine Bel.trans ?_ (by assumption)))
    · have hR : R = decide (0 < c) := MO.out.trans (by simp)
      subst hR
      clear MO
      rcases bc3 with rfl | rfl | rfl
      all_goals
        go_enter Tryz.func44, Tryz.ntmps44
        go_wp2_with (first
                  | (go_at_call 67; with_reducible refine Calls.mono (C1.out _) ?_; rintro e W1 ⟨rfl, hb1⟩; have hc1 := hb1.cells; have hz1 := hb1.lt2)
                  | (go_at_call 67; with_reducible refine Calls.mono (C2.out _) ?_; rintro e W2 ⟨rfl, hb2⟩; have hc2 := hb2.cells; have hz2 := hb2.size))
        go_ret
        refine ⟨rfl, ?_⟩
        (repeat (first | with_reducible exact Bel.refl _ | with_reducible refine Bel.setCell ?_ (by first | exact Nat.le_refl _ | (dsimp only; omega)) _ | with_reducible refine Bel.alloc ?_ _ | with_reducible refine Bel.drew ?_ | with_reducible assumption | with_reducible refine Bel.trans ?_ (by assumption)))
    · have hR : R = decide (0 ≤ c) := MO.out.trans (by simp)
      subst hR
      clear MO
      rcases bc3 with rfl | rfl | rfl
      all_goals
        go_enter Tryz.func44, Tryz.ntmps44
        go_wp2_with (first
                  | (go_at_call 67; with_reducible refine Calls.mono (C1.out _) ?_; rintro e W1 ⟨rfl, hb1⟩; have hc1 := hb1.cells; have hz1 := hb1.lt2)
                  | (go_at_call 67; with_reducible refine Calls.mono (C2.out _) ?_; rintro e W2 ⟨rfl, hb2⟩; have hc2 := hb2.cells; have hz2 := hb2.size))
        go_ret
        refine ⟨rfl, ?_⟩
        (repeat (first | with_reducible exact Bel.refl _ | with_reducible refine Bel.setCell ?_ (by first | exact Nat.le_refl _ | (dsimp only; omega)) _ | with_reducible refine Bel.alloc ?_ _ | with_reducible refine Bel.drew ?_ | with_reducible assumption | with_reducible refine Bel.trans ?_ (by assumption)))
    · have hR : R = mb := MO.out.trans (by simp)
      subst hR
      clear MO
      rcases bc3 with rfl | rfl | rfl <;> rcases bd3 with rfl | rfl | rfl <;> cases x <;> cases y
      all_goals
        obtain rfl := MB.out
        go_enter Tryz.func44, Tryz.ntmps44
        go_wp2_with (first
                  | (go_at_call 67; with_reducible refine Calls.mono (C1.out _) ?_; rintro e W1 ⟨rfl, hb1⟩; have hc1 := hb1.cells; have hz1 := hb1.lt2)
                  | (go_at_call 67; with_reducible refine Calls.mono (C2.out _) ?_; rintro e W2 ⟨rfl, hb2⟩; have hc2 := hb2.cells; have hz2 := hb2.size))
        go_ret
        refine ⟨rfl, ?_⟩
        (repeat (first | with_reducible exact Bel.refl _ | with_reducible refine Bel.setCell ?_ (by first | exact Nat.le_refl _ | (dsimp only; omega)) _ | with_reducible refine Bel.alloc ?_ _ | with_reducible refine Bel.drew ?_ | with_reducible assumption | with_reducible refine Bel.trans ?_ (by assumption)))
  · have hR : R = false := MO.out.trans (if_pos h0)
    subst hR
    have e0 : (v0 == a0) = false := by simp [h0]
    have e1 : (k == 1) = false := by simp [h1]
    clear MO MV
    go_enter Tryz.func44, Tryz.ntmps44
    go_wp2_with (first
              | (go_at_call 67; with_reducible refine Calls.mono (C1.out _) ?_; rintro e W1 ⟨rfl, hb1⟩; have hc1 := hb1.cells; have hz1 := hb1.lt2)
              | (go_at_call 67; with_reducible refine Calls.mono (C2.out _) ?_; rintro e W2 ⟨rfl, hb2⟩; have hc2 := hb2.cells; have hz2 := hb2.size))
    go_ret
    refine ⟨rfl, ?_⟩
    (repeat (first | with_reducible exact Bel.refl _ | with_reducible refine Bel.setCell ?_ (by first | exact Nat.le_refl _ | (dsimp only; omega)) _ | with_reducible refine Bel.alloc ?_ _ | with_reducible refine Bel.drew ?_ | with_reducible assumption | with_reducible refine Bel.trans ?_ (by assumption)))
set_option maxRecDepth 100000 in
set_option maxHeartbeats 8000000 in
theorem rall_any (any not : Bool) (l : List Tst) (A : Option Addr) (c : Nat) (v : Val) (w : World) (hs : Tsts w A l) (ht : ∀ t ∈ l, TOk t) (hu : usnd any not l = true) (hv : v.text.size ≤ 9223372036854775807) (hvs : vsnd v = true) :
    Calls Tryz.prog 21 #[tsv any not (.slice A l.length c), v.val] w fun e w' => e = .returned (.bool (mall any not l v)) ∧ Bel w w' := by
  have MA := Lib.hid (show mall any not l v = if any then true else not != l.any fun t => mone t v from rfl)
  generalize mall any not l v = R at MA ⊢
  cases any with
  | true =>
    obtain rfl : R = true := MA.out.trans (if_pos rfl)
    obtain ⟨v0, v1, v2, v3, v4⟩ := v
    clear hs ht hu hv hvs
    go_enter Tryz.func21, Tryz.ntmps21
    go_wp2_with fail
    go_ret
    refine ⟨rfl, ?_⟩
    (repeat (first | with_reducible exact Bel.refl _ | with_reducible refine Bel.setCell ?_ (by first | exact Nat.le_refl _ | (dsimp only; omega)) _ | with_reducible refine Bel.alloc ?_ _ | with_reducible refine Bel.drew ?_ | with_reducible assumption | with_reducible refine Bel.trans ?_ (by assumption)))
  | false =>
    obtain ⟨h0, h8, hsn⟩ := usnd_list hu
    obtain ⟨b, off, rfl, hlt, hat⟩ := hs h0
    have C := Lib.hid fun t (h : t ∈ l) W => holds_any t v (ht t h) hv (hsn t h) hvs W
    have MB := Lib.hid (MA.out.trans (if_neg (by simp)))
    clear MA
    have HA := Lib.hid (show ∃ g : Tst → Bool, g = fun t => mone t v from ⟨_, rfl⟩)
    obtain ⟨g, hg⟩ := HA.out
    have C := Lib.hid (show ∀ t, t ∈ l → ∀ W, Calls Tryz.prog 44 #[t.val, v.val] W fun e w' => e = .returned (.bool (g t)) ∧ Bel W w' from by rw [hg]; exact C.out)
    rw [← hg] at MB
    clear HA hg
    obtain ⟨v0, v1, v2, v3, v4⟩ := v
    clear hs ht hu hv hvs hsn
    go_enter Tryz.func21, Tryz.ntmps21
    go_wp2_with fail
    refine under_name (((Bel.refl w).alloc _).alloc _) fun W hc hf hz hbW => ?_
    have n1 : W.cell? ⟨w.heap.size, 1, none⟩ = some (.bool not) := by simp [hc, go_sem]
    have n2 : W.cell? ⟨w.heap.size, 2, none⟩ = some (.slice (some ⟨b, off, none⟩) l.length c) := by simp [hc, go_sem]
    have n3 : ValAt W (w.heap.size + 1) 0 ⟨v0, v1, v2, v3, v4⟩ := by simp [ValAt, hc, go_sem]
    have z1 : w.heap.size < W.heap.size := by simp [hz] <;> omega
    have z2 : w.heap.size + 1 < W.heap.size := by simp [hz] <;> omega
    have N := Lib.hid (show (∀ wr, Bel W wr → wr.cell? ⟨w.heap.size, 1, none⟩ = some (.bool not)) ∧ (∀ wr, Bel W wr → wr.cell? ⟨w.heap.size, 2, none⟩ = some (.slice (some ⟨b, off, none⟩) l.length c)) ∧ (∀ wr, Bel W wr → ValAt wr (w.heap.size + 1) 0 ⟨v0, v1, v2, v3, v4⟩) from
      ⟨fun wr h => (h.cells _ _ z1).trans n1, fun wr h => (h.cells _ _ z1).trans n2, fun wr h => n3.keep h z2⟩)
    clear hc hf hz n1 n2 n3
    go_loopg [5, 6] l.length (fun gg s5 s6 wr => ∃ k : Nat, s6 = .int .i64 k ∧ s5 = .bool ((l.take k).any g) ∧ k ≤ l.length ∧ Hid (gg = l.length - k) ∧ Bel W wr)
    case atStart => exact ⟨0, rfl, by simp, Nat.zero_le _, rfl, Bel.refl _⟩
    case round =>
      obtain ⟨k, rfl, rfl, hk, hh, hb⟩ := hrel
      have g2 := N.out.2.1 wr hb
      have zr1 := Nat.lt_of_lt_of_le z1 hb.size
      by_cases hp : k < l.length
      · obtain ⟨t, htk⟩ : ∃ t, l[k]? = some t := ⟨_, List.getElem?_eq_getElem hp⟩
        have ha := (hat k t htk).keep (hbW.trans hb) hlt
        have hlb := Nat.lt_of_lt_of_le hlt (hbW.trans hb).size
        have i1 : (k : Int) < l.length := by omega
        have i2 : (0 : Int) ≤ (k : Int) := by omega
        have C1 := Lib.hid (C.out t (List.mem_of_getElem? htk))
        have p5 : ((l.take (k + 1)).any g) = ((l.take k).any g || g t) := by rw [List.take_add_one, htk, List.any_append]; simp
        have P5 := Lib.hid p5
        obtain ⟨q, hq⟩ : ∃ q, q = (l.take k).any g := ⟨_, rfl⟩
        rw [← hq]
        have P5 := Lib.hid (show ((l.take (k + 1)).any g) = (q || g t) from by rw [hq]; exact p5)
        generalize g t = r at C1 P5
        obtain ⟨k', ⟨a0, a1, a2, a3, a4⟩, ⟨b0, b1, b2, b3, b4⟩, x, y⟩ := t
        obtain ⟨s0, s1, s2, s3, s4, s5, s6, s7, s8, s9, s10, s11, s12⟩ := ha
        simp only at s0 s1 s2 s3 s4 s5 s6 s7 s8 s9 s10 s11 s12
        have zr2 := Nat.lt_of_lt_of_le z2 hb.size
        have VV := N.out.2.2 wr hb
        obtain ⟨p0, p1, p2, p3, p4⟩ := VV
        simp only [Nat.zero_add] at p0 p1 p2 p3 p4
        clear hat htk p5 hq
        have hlt0 := hlt
        generalize w.heap.size = B at *
        cases q with
        | true =>
          go_wp2_with fail
          refine wp_region_uni (S := (fun w' => Bel wr w' ∧ (∀ b o, b < wr.heap.size → w'.cell? ⟨b, o, none⟩ = wr.cell? ⟨b, o, none⟩))) (by kernel_rfl) (by kernel_rfl) keep0 ?_
          repeat (first | (refine wpUni_skip (by rfl) ?_; (try simp only [Act.put, List.setIfInBounds_toArray, List.set_cons_zero, List.set_cons_succ]))
                                                            | (refine wpUni_value (by rfl) (fun w hS => by (try dsimp only at hS); go_simp; first | done | with_reducible rfl) ?_; (try simp only [Act.put, List.setIfInBounds_toArray, List.set_cons_zero, List.set_cons_succ])))
          refine wpUni_nil fun W1 hS => ?_
          have hb1 := hb.trans hS.1
          clear hS
          go_wp2_with fail
          go_roundg (l.length - (k + 1))
          case measure => have := hh.out; omega
          case rel =>
            refine ⟨k + 1, by go_num, ?_, by omega, rfl, hb1⟩
            rw [P5.out]; rfl
        | false =>
          go_wp2_with fail
          refine wp_region_uni (S := (fun w' => Bel wr w' ∧ (∀ b o, b < wr.heap.size → w'.cell? ⟨b, o, none⟩ = wr.cell? ⟨b, o, none⟩))) (by kernel_rfl) (by kernel_rfl) keep0 ?_
          repeat (first | (refine wpUni_skip (by rfl) ?_; (try simp only [Act.put, List.setIfInBounds_toArray, List.set_cons_zero, List.set_cons_succ]))
                                                            | (refine wpUni_value (by rfl) (fun w hS => by (try dsimp only at hS); go_simp; first | done | with_reducible rfl) ?_; (try simp only [Act.put, List.setIfInBounds_toArray, List.set_cons_zero, List.set_cons_succ]))
                                                            | (refine wpUni_call (f := 44) (by rfl) (fun w => by go_simp; first | done | with_reducible rfl) (fun w hS => (C1.out w).mono fun e w' ⟨he, hb⟩ => ⟨he, keep1 hS hb⟩) ?_; (try simp only [Act.put, List.setIfInBounds_toArray, List.set_cons_zero, List.set_cons_succ])))
          refine wpUni_nil fun W1 hS => ?_
          have hb1 := hb.trans hS.1
          clear hS
          go_wp2_with fail
          go_roundg (l.length - (k + 1))
          case measure => have := hh.out; omega
          case rel =>
            refine ⟨k + 1, by go_num, ?_, by omega, rfl, hb1⟩
            rw [P5.out]; rfl
      · obtain rfl : k = l.length := by omega
        have g1 := N.out.1 wr hb
        rw [List.take_length] 
        have MA := Lib.hid MB.out
        generalize l.any g = q at MA ⊢
        have hR : R = !(q == not) := by rw [MA.out]; cases q <;> cases not <;> rfl
        subst hR
        go_wp2_with fail
        go_ret
        exact ⟨rfl, hbW.trans hb⟩
end Go.Proofs.YtpmmbcobjibpeaaGreatDoor
