import Derived.Test.YtlheahcljnjogaaLga
namespace Go.Proofs.Ytlheahcljnjogaa
set_option linter.unusedSimpArgs false
set_option linter.unusedVariables false
open Go.RowKit
attribute [local go_sem ↓] eql_val neq_val
def zero : Val := ⟨0, 0, 0, ⟨#[]⟩, 0⟩
def allAre (d : Bool) (vs : List Val) : Bool := vs.all fun v => veq v (tv d)
def noneIs (d : Bool) (vs : List Val) : Bool := vs.all fun v => !veq v (tv d)
def jr (d : Bool) (vs : List Val) : Val := if allAre (!d) vs then tv (!d) else zero
def jn (d : Bool) (vs : List Val) : Val := if noneIs d vs then jr d vs else tv d
theorem take_snoc {α : Type} (l : List α) (k : Nat) (v : α) (h : l[k]? = some v) : l.take (k + 1) = l.take k ++ [v] := by
  rw [List.take_add_one, h]; rfl
theorem noneIs_snoc (d : Bool) (vs : List Val) (k : Nat) (v : Val) (h : vs[k]? = some v) : noneIs d (vs.take (k + 1)) = (noneIs d (vs.take k) && !veq v (tv d)) := by
  rw [take_snoc vs k v h]; simp [noneIs]
theorem allAre_snoc (d : Bool) (vs : List Val) (k : Nat) (v : Val) (h : vs[k]? = some v) : allAre d (vs.take (k + 1)) = (allAre d (vs.take k) && veq v (tv d)) := by
  rw [take_snoc vs k v h]; simp [allAre]
theorem three' (v : Val) : (veq v (tv false) = true ∧ veq v (tv true) = false) ∨ (veq v (tv false) = false ∧ veq v (tv true) = true) ∨ (veq v (tv false) = false ∧ veq v (tv true) = false) := by
  rcases three v with ⟨a, b⟩ | ⟨a, b⟩ | ⟨a, b⟩ <;> simp [a, b]
theorem jn_hit (d : Bool) (vs : List Val) (k : Nat) (v : Val) (h : vs[k]? = some v) (hv : veq v (tv d) = true) : jn d vs = tv d := by
  unfold jn
  rw [if_neg]
  intro hn
  unfold noneIs at hn
  rw [List.all_eq_true] at hn
  have := hn v (List.mem_of_getElem? h)
  simp [hv] at this
set_option maxHeartbeats 1000000 in
theorem joined_f (vs : List Val) (A : Option Addr) (c : Nat) (w : World) (hv : Vals w A vs) (hl : vs.length ≤ maxLen) :
    Calls Try.prog 17 #[.bool false, .slice A vs.length c] w fun e w' => e = .returned (jn false vs).val ∧ Bel w w' := by
  unfold maxLen at hl
  go_enter Try.func17, Try.ntmps17
  go_wp2_with (go_at_call 16; refine (truth_t _).mono ?_; rintro e w1 ⟨rfl, hb1⟩)
  have hv0 : ValAt w1 w.heap.size 0 zero := ValAt.keep (w := w.alloc _) (v := zero) (by simp [ValAt, go_sem, zero]) hb1 (by simp)
  have hf0 : FreeAt w1 w.heap.size := FreeAt.keep (w := w.alloc _) (by simp [FreeAt, go_sem]) hb1 (by simp)
  have hs1 : w.heap.size < w1.heap.size := by have := hb1.size; simp at this; omega
  replace hb1 : Bel w w1 := ((Bel.refl w).alloc _).trans hb1
  go_loopw [13] (fun i wr => ∃ k : Nat, k ≤ vs.length ∧ i = .int .i64 k ∧ noneIs false (vs.take k) = true ∧ Bel w wr ∧ w1.heap.size < wr.heap.size ∧ ValAt wr w1.heap.size 0 (jr false (vs.take k)) ∧ FreeAt wr w1.heap.size ∧ ValAt wr w.heap.size 0 zero ∧ FreeAt wr w.heap.size)
    (fun i _ => vs.length - (intOf i).toNat)
  case atStart => exact ⟨0, by omega, rfl, rfl, hb1.alloc _, by simp, by simp [ValAt, go_sem, jr, allAre, tv], by simp [FreeAt, go_sem], hv0.keep ((Bel.refl _).alloc _) hs1, hf0.keep ((Bel.refl _).alloc _) hs1⟩
  case round =>
    obtain ⟨k, hk, rfl, hnone, hb, hsz, hr, hfr, h4, hf4⟩ := hrel
    by_cases hlt : k < vs.length
    · obtain ⟨b, off, rfl, hbl, hcell⟩ := hv (by omega)
      obtain ⟨⟨k0, n0, s0, t0, m0⟩, hv0⟩ : ∃ v, vs[k]? = some v := ⟨_, List.getElem?_eq_getElem hlt⟩
      have hbw := Nat.lt_of_lt_of_le hbl hb.size
      have hV := (hcell k _ hv0).keep hb hbl
      clear hcell
      have Hn := Lib.hid hnone
      clear hnone
      have H3 := three ⟨k0, n0, s0, t0, m0⟩
      have Hv := Lib.hid hv0
      clear hv0
      rcases H3 with ⟨e1, e2⟩ | ⟨e1, e2⟩ | ⟨e1, e2⟩
      all_goals
        have E1 := Lib.hid e1
        have E2 := Lib.hid e2
        simp only [tv, if_true, Bool.false_eq_true, if_false] at e1 e2
        go_wp2_with fail
        refine under_name ((Bel.refl wr).alloc _) fun W hc hf hz hbW => ?_
        go_region_held3 (fun w' => Bel W w' ∧ (∀ b o, b < W.heap.size → w'.cell? ⟨b, o, none⟩ = W.cell? ⟨b, o, none⟩)) (first | exact keep0 | exact keep1 ‹_› ‹_›) ((go_at_call 16; refine (truth_f _).mono ?_; rintro e w2 ⟨rfl, hb2⟩))
        rename_i hH
        have hbw2 : Bel wr w2 := hbW.trans hH.1
        have hF0 := (hf4.keep hbw2 (by omega))
        have hF5 := (hfr.keep hbw2 hsz)
        have hV0 := (h4.keep hbw2 (by omega))
        have hV5 := (hr.keep hbw2 hsz)
        have hV7 : ValAt w2 wr.heap.size 0 ⟨k0, n0, s0, t0, m0⟩ := ValAt.keep (w := W) (by simp [ValAt, hc, go_sem]) hH.1 (by simp [hz])
        have hs2 : wr.heap.size < w2.heap.size := by have := hH.1.size; simp [hz] at this; omega
        have hs5 : w1.heap.size < w2.heap.size := by omega
        have hs4 : w.heap.size < w2.heap.size := by omega
        clear hH hc hf hz h4 hr hf4 hfr hbW hV
      · go_wp2_with fail
        go_region_held3 (fun w' => Bel w2 w' ∧ (∀ b o, b < w2.heap.size → w'.cell? ⟨b, o, none⟩ = w2.cell? ⟨b, o, none⟩)) (first | exact keep0 | exact keep1 ‹_› ‹_›) ((go_at_call 16; refine (truth_t _).mono ?_; rintro e w3 ⟨rfl, hb3⟩))
        rename_i hH
        have hbw3 := hbw2.trans hH.1
        have K1 := hF0.keep hH.1 hs4
        have K2 := hF5.keep hH.1 hs5
        have K3 := hV0.keep hH.1 hs4
        have K4 := hV5.keep hH.1 hs5
        have hs6 := Nat.lt_of_lt_of_le hs5 hH.1.size
        clear hH hF0 hF5 hV0 hV5 hV7
        have Hr : Hid (jr false (vs.take (k + 1)) = jr false (vs.take k)) := by
          unfold Hid jr; rw [allAre_snoc _ _ _ _ Hv.out]; simp [E1.out]
        have Hn' : Hid (noneIs false (vs.take (k + 1)) = true) := by
          unfold Hid; rw [noneIs_snoc _ _ _ _ Hv.out, Hn.out, E2.out]; rfl
        go_wp2_with fail
        go_roundw
        case rel => exact ⟨k + 1, by omega, by go_num, Hn'.out, hb.trans hbw3, hs6, by rw [Hr.out]; exact K4, K2, K3, K1⟩
        case measure => simp [intOf]; omega
      · have Hj : Hid (jn false vs = tv false) := jn_hit _ _ _ _ Hv.out E2.out
        go_wp2_with fail
        refine bodyPost_ret (by simp [results, Try.results17, go_sem, hV0]; rfl) rfl ⟨?_, ?_⟩
        · rw [Hj.out, ← (veq_iff _ _).1 E2.out]
        · repeat (first | exact hb.trans hbw2 | refine Bel.setCell ?_ (Nat.le_refl _) _)
      · go_wp2_with fail
        go_region_held3 (fun w' => Bel w2 w' ∧ (∀ b o, b < w2.heap.size → w'.cell? ⟨b, o, none⟩ = w2.cell? ⟨b, o, none⟩)) (first | exact keep0 | exact keep1 ‹_› ‹_›) ((go_at_call 16; refine (truth_t _).mono ?_; rintro e w3 ⟨rfl, hb3⟩))
        rename_i hH
        have hbw3 := hbw2.trans hH.1
        have K1 := hF0.keep hH.1 hs4
        have K2 := hF5.keep hH.1 hs5
        have K3 := hV0.keep hH.1 hs4
        have K4 := hV5.keep hH.1 hs5
        have hs6 := Nat.lt_of_lt_of_le hs5 hH.1.size
        clear hH hF0 hF5 hV0 hV5 hV7
        have Hr : Hid (jr false (vs.take (k + 1)) = zero) := by
          unfold Hid jr; rw [allAre_snoc _ _ _ _ Hv.out]; simp [E1.out]
        have Hn' : Hid (noneIs false (vs.take (k + 1)) = true) := by
          unfold Hid; rw [noneIs_snoc _ _ _ _ Hv.out, Hn.out, E2.out]; rfl
        go_wp2_with fail
        go_roundw
        case rel =>
          have hne : w.heap.size ≠ w1.heap.size := by omega
          refine ⟨k + 1, by omega, by go_num, Hn'.out, ?_, by simpa [go_sem] using hs6, by rw [Hr.out]; simp [ValAt, zero, go_sem, K4], by simp [FreeAt, K2], by simp [ValAt, K3, go_sem, hne, hne.symm], by simp [FreeAt, K1]⟩
          repeat (first | exact hb.trans hbw3 | refine Bel.setCell ?_ (Nat.le_of_lt hs1) _)
        case measure => simp [intOf]; omega
    · go_wp2_with fail
      obtain rfl : k = vs.length := by omega
      refine bodyPost_ret (by simp [results, Try.results17, go_sem, h4]; rfl) rfl ⟨?_, ?_⟩
      · simp at hnone ⊢
        simp [jn, hnone]
      · repeat (first | exact hb | refine Bel.setCell ?_ (Nat.le_refl _) _)

set_option maxHeartbeats 1000000 in
theorem joined_t (vs : List Val) (A : Option Addr) (c : Nat) (w : World) (hv : Vals w A vs) (hl : vs.length ≤ maxLen) :
    Calls Try.prog 17 #[.bool true, .slice A vs.length c] w fun e w' => e = .returned (jn true vs).val ∧ Bel w w' := by
  unfold maxLen at hl
  go_enter Try.func17, Try.ntmps17
  go_wp2_with (go_at_call 16; refine (truth_f _).mono ?_; rintro e w1 ⟨rfl, hb1⟩)
  have hv0 : ValAt w1 w.heap.size 0 zero := ValAt.keep (w := w.alloc _) (v := zero) (by simp [ValAt, go_sem, zero]) hb1 (by simp)
  have hf0 : FreeAt w1 w.heap.size := FreeAt.keep (w := w.alloc _) (by simp [FreeAt, go_sem]) hb1 (by simp)
  have hs1 : w.heap.size < w1.heap.size := by have := hb1.size; simp at this; omega
  replace hb1 : Bel w w1 := ((Bel.refl w).alloc _).trans hb1
  go_loopw [13] (fun i wr => ∃ k : Nat, k ≤ vs.length ∧ i = .int .i64 k ∧ noneIs true (vs.take k) = true ∧ Bel w wr ∧ w1.heap.size < wr.heap.size ∧ ValAt wr w1.heap.size 0 (jr true (vs.take k)) ∧ FreeAt wr w1.heap.size ∧ ValAt wr w.heap.size 0 zero ∧ FreeAt wr w.heap.size)
    (fun i _ => vs.length - (intOf i).toNat)
  case atStart => exact ⟨0, by omega, rfl, rfl, hb1.alloc _, by simp, by simp [ValAt, go_sem, jr, allAre, tv], by simp [FreeAt, go_sem], hv0.keep ((Bel.refl _).alloc _) hs1, hf0.keep ((Bel.refl _).alloc _) hs1⟩
  case round =>
    obtain ⟨k, hk, rfl, hnone, hb, hsz, hr, hfr, h4, hf4⟩ := hrel
    by_cases hlt : k < vs.length
    · obtain ⟨b, off, rfl, hbl, hcell⟩ := hv (by omega)
      obtain ⟨⟨k0, n0, s0, t0, m0⟩, hv0⟩ : ∃ v, vs[k]? = some v := ⟨_, List.getElem?_eq_getElem hlt⟩
      have hbw := Nat.lt_of_lt_of_le hbl hb.size
      have hV := (hcell k _ hv0).keep hb hbl
      clear hcell
      have Hn := Lib.hid hnone
      clear hnone
      have H3 := three' ⟨k0, n0, s0, t0, m0⟩
      have Hv := Lib.hid hv0
      clear hv0
      rcases H3 with ⟨e1, e2⟩ | ⟨e1, e2⟩ | ⟨e1, e2⟩
      all_goals
        have E1 := Lib.hid e1
        have E2 := Lib.hid e2
        simp only [tv, if_true, Bool.false_eq_true, if_false] at e1 e2
        go_wp2_with fail
        refine under_name ((Bel.refl wr).alloc _) fun W hc hf hz hbW => ?_
        go_region_held3 (fun w' => Bel W w' ∧ (∀ b o, b < W.heap.size → w'.cell? ⟨b, o, none⟩ = W.cell? ⟨b, o, none⟩)) (first | exact keep0 | exact keep1 ‹_› ‹_›) ((go_at_call 16; refine (truth_t _).mono ?_; rintro e w2 ⟨rfl, hb2⟩))
        rename_i hH
        have hbw2 : Bel wr w2 := hbW.trans hH.1
        have hF0 := (hf4.keep hbw2 (by omega))
        have hF5 := (hfr.keep hbw2 hsz)
        have hV0 := (h4.keep hbw2 (by omega))
        have hV5 := (hr.keep hbw2 hsz)
        have hV7 : ValAt w2 wr.heap.size 0 ⟨k0, n0, s0, t0, m0⟩ := ValAt.keep (w := W) (by simp [ValAt, hc, go_sem]) hH.1 (by simp [hz])
        have hs2 : wr.heap.size < w2.heap.size := by have := hH.1.size; simp [hz] at this; omega
        have hs5 : w1.heap.size < w2.heap.size := by omega
        have hs4 : w.heap.size < w2.heap.size := by omega
        clear hH hc hf hz h4 hr hf4 hfr hbW hV
      · go_wp2_with fail
        go_region_held3 (fun w' => Bel w2 w' ∧ (∀ b o, b < w2.heap.size → w'.cell? ⟨b, o, none⟩ = w2.cell? ⟨b, o, none⟩)) (first | exact keep0 | exact keep1 ‹_› ‹_›) ((go_at_call 16; refine (truth_f _).mono ?_; rintro e w3 ⟨rfl, hb3⟩))
        rename_i hH
        have hbw3 := hbw2.trans hH.1
        have K1 := hF0.keep hH.1 hs4
        have K2 := hF5.keep hH.1 hs5
        have K3 := hV0.keep hH.1 hs4
        have K4 := hV5.keep hH.1 hs5
        have hs6 := Nat.lt_of_lt_of_le hs5 hH.1.size
        clear hH hF0 hF5 hV0 hV5 hV7
        have Hr : Hid (jr true (vs.take (k + 1)) = jr true (vs.take k)) := by
          unfold Hid jr; rw [allAre_snoc _ _ _ _ Hv.out]; simp [E1.out]
        have Hn' : Hid (noneIs true (vs.take (k + 1)) = true) := by
          unfold Hid; rw [noneIs_snoc _ _ _ _ Hv.out, Hn.out, E2.out]; rfl
        go_wp2_with fail
        go_roundw
        case rel => exact ⟨k + 1, by omega, by go_num, Hn'.out, hb.trans hbw3, hs6, by rw [Hr.out]; exact K4, K2, K3, K1⟩
        case measure => simp [intOf]; omega
      · have Hj : Hid (jn true vs = tv true) := jn_hit _ _ _ _ Hv.out E2.out
        go_wp2_with fail
        refine bodyPost_ret (by simp [results, Try.results17, go_sem, hV0]; rfl) rfl ⟨?_, ?_⟩
        · rw [Hj.out, ← (veq_iff _ _).1 E2.out]
        · repeat (first | exact hb.trans hbw2 | refine Bel.setCell ?_ (Nat.le_refl _) _)
      · go_wp2_with fail
        go_region_held3 (fun w' => Bel w2 w' ∧ (∀ b o, b < w2.heap.size → w'.cell? ⟨b, o, none⟩ = w2.cell? ⟨b, o, none⟩)) (first | exact keep0 | exact keep1 ‹_› ‹_›) ((go_at_call 16; refine (truth_f _).mono ?_; rintro e w3 ⟨rfl, hb3⟩))
        rename_i hH
        have hbw3 := hbw2.trans hH.1
        have K1 := hF0.keep hH.1 hs4
        have K2 := hF5.keep hH.1 hs5
        have K3 := hV0.keep hH.1 hs4
        have K4 := hV5.keep hH.1 hs5
        have hs6 := Nat.lt_of_lt_of_le hs5 hH.1.size
        clear hH hF0 hF5 hV0 hV5 hV7
        have Hr : Hid (jr true (vs.take (k + 1)) = zero) := by
          unfold Hid jr; rw [allAre_snoc _ _ _ _ Hv.out]; simp [E1.out]
        have Hn' : Hid (noneIs true (vs.take (k + 1)) = true) := by
          unfold Hid; rw [noneIs_snoc _ _ _ _ Hv.out, Hn.out, E2.out]; rfl
        go_wp2_with fail
        go_roundw
        case rel =>
          have hne : w.heap.size ≠ w1.heap.size := by omega
          refine ⟨k + 1, by omega, by go_num, Hn'.out, ?_, by simpa [go_sem] using hs6, by rw [Hr.out]; simp [ValAt, zero, go_sem, K4], by simp [FreeAt, K2], by simp [ValAt, K3, go_sem, hne, hne.symm], by simp [FreeAt, K1]⟩
          repeat (first | exact hb.trans hbw3 | refine Bel.setCell ?_ (Nat.le_of_lt hs1) _)
        case measure => simp [intOf]; omega
    · go_wp2_with fail
      obtain rfl : k = vs.length := by omega
      refine bodyPost_ret (by simp [results, Try.results17, go_sem, h4]; rfl) rfl ⟨?_, ?_⟩
      · simp at hnone ⊢
        simp [jn, hnone]
      · repeat (first | exact hb | refine Bel.setCell ?_ (Nat.le_refl _) _)

end Go.Proofs.Ytlheahcljnjogaa
