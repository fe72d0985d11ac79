import Derived.Test.YtobdokeklcdpoaaDoorMlb
namespace Go.Proofs.YtobdokeklcdpoaaDoor
set_option linter.unusedSimpArgs false
set_option linter.unusedVariables false
open Go.RowKit

/-! Is a mark sound? -/
def Sml (m : Mk) : Prop := m.name.length ≤ 1048576 ∧ m.text.length ≤ 1048576 ∧ m.attrs.length ≤ 1048576 ∧ ∀ a ∈ m.attrs, AtSml a
def mkV (m : Mk) (A : Option Addr) (c : Nat) : Value := .agg #[.int .i64 m.kind, .int .i64 m.pos, .string (bytesOf m.name), .slice A m.attrs.length c, .string (bytesOf m.text)]
theorem empty_of {l : List UInt8} (h : l = []) : (bytesOf l).toList.isEmpty = true := by
  subst h
  rw [ByteArray.toList_eq]
  rfl
theorem empty_no {l : List UInt8} (h : ¬ l = []) : (bytesOf l).toList.isEmpty = false := by
  rw [ByteArray.toList_eq]
  cases l with
  | nil => exact absurd rfl h
  | cons c t => rfl
set_option maxRecDepth 100000 in
set_option maxHeartbeats 4000000 in
theorem sound_any (m : Mk) (A : Option Addr) (c : Nat) (w : World) (hR : Row w A (atsCells m.attrs)) (hs : Sml m) :
    Calls Tryd.prog 14 #[mkV m A c] w fun e w' => e = .returned (.bool (sndM m)) ∧ Bel w w' := by
  obtain ⟨k, ps, nm, al, tx⟩ := m
  unfold Sml at hs
  simp only at hs hR
  have hali : (al.length : Int) ≤ 1048576 := by omega
  have CN := Lib.hid fun W => name_any (bytesOf nm) (by rw [bytesOf_size]; omega) W
  have CG := Lib.hid fun W => good_any (bytesOf tx) (by rw [bytesOf_size]; omega) W
  have CS := Lib.hid fun W (hW : Bel w W) => soundAttrs_any al A c W (hR.keep hW) hs.2.2.1 hs.2.2.2
  obtain ⟨RES, hRES⟩ : ∃ RES, RES = sndM ⟨k, ps, nm, al, tx⟩ := ⟨_, rfl⟩
  rw [← hRES]
  unfold sndM at hRES
  simp only at hRES
  unfold mkV
  simp only
  clear hs hR
  by_cases k3 : k = 3
  · subst k3
    rw [if_pos rfl] at hRES
    by_cases h1 : nm = []
    · have E1 := empty_of h1
      by_cases h2 : al = []
      · subst h2
        have RS := Lib.hid (show RES = goodB (bytesOf tx) from by rw [hRES, h1]; rfl)
        clear hRES h1
        go_enter Tryd.func14, Tryd.ntmps14
        go_upto_region 1 with fail
        refine under_name (w0 := w) (by (repeat (first | with_reducible exact Bel.refl _ | with_reducible refine Bel.setCell ?_ (by first | exact Nat.le_refl _ | (dsimp only; omega)) _ | with_reducible refine Bel.alloc ?_ _ | with_reducible refine Bel.drew ?_ | with_reducible assumption | with_reducible refine Bel.trans ?_ (by assumption)))) fun W hc hf hz hb => ?_
        have n0 : W.cell? ⟨w.heap.size, 0, none⟩ = some (.int .i64 3) := by simp [hc, go_sem]
        have n2 : W.cell? ⟨w.heap.size, 2, none⟩ = some (.string (bytesOf nm)) := by simp [hc, go_sem]
        have n3 : W.cell? ⟨w.heap.size, 3, none⟩ = some (.slice A ([] : List (List UInt8 × List UInt8)).length c) := by simp [hc, go_sem]
        have n4 : W.cell? ⟨w.heap.size, 4, none⟩ = some (.string (bytesOf tx)) := by simp [hc, go_sem]
        have z0 : w.heap.size < W.heap.size := by simp [hz]
        clear hc hf hz
        generalize w.heap.size = N at n0 n2 n3 n4 z0 ⊢
        go_wp2_with (first
          | (go_at_call 22; refine (CG.out _).mono ?_; rintro e W2 ⟨rfl, hb2⟩))
        go_ret
        exact ⟨by rw [RS.out] <;> rfl, hb.trans hb2⟩
      · have RS := Lib.hid (show RES = false from by rw [hRES]; cases al with | nil => exact absurd rfl h2 | cons a t => simp)
        have e2 : ((al.length : Int) == 0) = false := by
          have := List.length_pos_iff.2 h2
          rw [beq_eq_false_iff_ne]; omega
        clear hRES h1 h2
        go_enter Tryd.func14, Tryd.ntmps14
        go_upto_region 1 with fail
        refine under_name (w0 := w) (by (repeat (first | with_reducible exact Bel.refl _ | with_reducible refine Bel.setCell ?_ (by first | exact Nat.le_refl _ | (dsimp only; omega)) _ | with_reducible refine Bel.alloc ?_ _ | with_reducible refine Bel.drew ?_ | with_reducible assumption | with_reducible refine Bel.trans ?_ (by assumption)))) fun W hc hf hz hb => ?_
        have n0 : W.cell? ⟨w.heap.size, 0, none⟩ = some (.int .i64 3) := by simp [hc, go_sem]
        have n2 : W.cell? ⟨w.heap.size, 2, none⟩ = some (.string (bytesOf nm)) := by simp [hc, go_sem]
        have n3 : W.cell? ⟨w.heap.size, 3, none⟩ = some (.slice A al.length c) := by simp [hc, go_sem]
        have n4 : W.cell? ⟨w.heap.size, 4, none⟩ = some (.string (bytesOf tx)) := by simp [hc, go_sem]
        have z0 : w.heap.size < W.heap.size := by simp [hz]
        clear hc hf hz
        generalize w.heap.size = N at n0 n2 n3 n4 z0 ⊢
        go_wp2_with fail
        go_ret
        exact ⟨by rw [RS.out] <;> rfl, hb⟩
    · have E1 := empty_no h1
      have RS := Lib.hid (show RES = false from by rw [hRES]; cases nm with | nil => exact absurd rfl h1 | cons a t => simp)
      clear hRES h1
      go_enter Tryd.func14, Tryd.ntmps14
      go_upto_region 1 with fail
      refine under_name (w0 := w) (by (repeat (first | with_reducible exact Bel.refl _ | with_reducible refine Bel.setCell ?_ (by first | exact Nat.le_refl _ | (dsimp only; omega)) _ | with_reducible refine Bel.alloc ?_ _ | with_reducible refine Bel.drew ?_ | with_reducible assumption | with_reducible refine Bel.trans ?_ (by assumption)))) fun W hc hf hz hb => ?_
      have n0 : W.cell? ⟨w.heap.size, 0, none⟩ = some (.int .i64 3) := by simp [hc, go_sem]
      have n2 : W.cell? ⟨w.heap.size, 2, none⟩ = some (.string (bytesOf nm)) := by simp [hc, go_sem]
      have n3 : W.cell? ⟨w.heap.size, 3, none⟩ = some (.slice A al.length c) := by simp [hc, go_sem]
      have n4 : W.cell? ⟨w.heap.size, 4, none⟩ = some (.string (bytesOf tx)) := by simp [hc, go_sem]
      have z0 : w.heap.size < W.heap.size := by simp [hz]
      clear hc hf hz
      generalize w.heap.size = N at n0 n2 n3 n4 z0 ⊢
      go_wp2_with fail
      go_ret
      exact ⟨by rw [RS.out] <;> rfl, hb⟩
  rw [if_neg k3] at hRES
  have e3 : (k == 3) = false := by simpa using k3
  by_cases k2 : k = 2
  · subst k2
    rw [if_pos rfl] at hRES
    clear k3 e3
    by_cases h1 : tx = []
    · have E1 := empty_of h1
      cases hn : nmOk nm with
      | false =>
        have hn' : nameB (bytesOf nm) = false := hn
        rw [hn'] at CN
        have RS := Lib.hid (show RES = false from by rw [hRES, hn]; simp)
        clear hRES h1 hn hn'
        go_enter Tryd.func14, Tryd.ntmps14
        go_upto_region 1 with fail
        refine under_name (w0 := w) (by (repeat (first | with_reducible exact Bel.refl _ | with_reducible refine Bel.setCell ?_ (by first | exact Nat.le_refl _ | (dsimp only; omega)) _ | with_reducible refine Bel.alloc ?_ _ | with_reducible refine Bel.drew ?_ | with_reducible assumption | with_reducible refine Bel.trans ?_ (by assumption)))) fun W hc hf hz hb => ?_
        have n0 : W.cell? ⟨w.heap.size, 0, none⟩ = some (.int .i64 2) := by simp [hc, go_sem]
        have n2 : W.cell? ⟨w.heap.size, 2, none⟩ = some (.string (bytesOf nm)) := by simp [hc, go_sem]
        have n3 : W.cell? ⟨w.heap.size, 3, none⟩ = some (.slice A al.length c) := by simp [hc, go_sem]
        have n4 : W.cell? ⟨w.heap.size, 4, none⟩ = some (.string (bytesOf tx)) := by simp [hc, go_sem]
        have z0 : w.heap.size < W.heap.size := by simp [hz]
        clear hc hf hz
        generalize w.heap.size = N at n0 n2 n3 n4 z0 ⊢
        go_wp2_with (first
          | (go_at_call 23; refine (CN.out _).mono ?_; rintro e W2 ⟨rfl, hb2⟩; replace n3 := (hb2.cells _ _ z0).trans n3))
        go_ret
        exact ⟨by rw [RS.out] <;> rfl, hb.trans hb2⟩
      | true =>
        have hn' : nameB (bytesOf nm) = true := hn
        rw [hn'] at CN
        by_cases h2 : al = []
        · subst h2
          have RS := Lib.hid (show RES = true from by rw [hRES, hn, h1]; rfl)
          clear hRES h1 hn hn'
          go_enter Tryd.func14, Tryd.ntmps14
          go_upto_region 1 with fail
          refine under_name (w0 := w) (by (repeat (first | with_reducible exact Bel.refl _ | with_reducible refine Bel.setCell ?_ (by first | exact Nat.le_refl _ | (dsimp only; omega)) _ | with_reducible refine Bel.alloc ?_ _ | with_reducible refine Bel.drew ?_ | with_reducible assumption | with_reducible refine Bel.trans ?_ (by assumption)))) fun W hc hf hz hb => ?_
          have n0 : W.cell? ⟨w.heap.size, 0, none⟩ = some (.int .i64 2) := by simp [hc, go_sem]
          have n2 : W.cell? ⟨w.heap.size, 2, none⟩ = some (.string (bytesOf nm)) := by simp [hc, go_sem]
          have n3 : W.cell? ⟨w.heap.size, 3, none⟩ = some (.slice A ([] : List (List UInt8 × List UInt8)).length c) := by simp [hc, go_sem]
          have n4 : W.cell? ⟨w.heap.size, 4, none⟩ = some (.string (bytesOf tx)) := by simp [hc, go_sem]
          have z0 : w.heap.size < W.heap.size := by simp [hz]
          clear hc hf hz
          generalize w.heap.size = N at n0 n2 n3 n4 z0 ⊢
          go_wp2_with (first
            | (go_at_call 23; refine (CN.out _).mono ?_; rintro e W2 ⟨rfl, hb2⟩; replace n3 := (hb2.cells _ _ z0).trans n3))
          go_ret
          exact ⟨by rw [RS.out] <;> rfl, hb.trans hb2⟩
        · have RS := Lib.hid (show RES = false from by rw [hRES]; cases al with | nil => exact absurd rfl h2 | cons a t => simp)
          have e2 : ((al.length : Int) == 0) = false := by
            have := List.length_pos_iff.2 h2
            rw [beq_eq_false_iff_ne]; omega
          clear hRES h1 h2 hn hn'
          go_enter Tryd.func14, Tryd.ntmps14
          go_upto_region 1 with fail
          refine under_name (w0 := w) (by (repeat (first | with_reducible exact Bel.refl _ | with_reducible refine Bel.setCell ?_ (by first | exact Nat.le_refl _ | (dsimp only; omega)) _ | with_reducible refine Bel.alloc ?_ _ | with_reducible refine Bel.drew ?_ | with_reducible assumption | with_reducible refine Bel.trans ?_ (by assumption)))) fun W hc hf hz hb => ?_
          have n0 : W.cell? ⟨w.heap.size, 0, none⟩ = some (.int .i64 2) := by simp [hc, go_sem]
          have n2 : W.cell? ⟨w.heap.size, 2, none⟩ = some (.string (bytesOf nm)) := by simp [hc, go_sem]
          have n3 : W.cell? ⟨w.heap.size, 3, none⟩ = some (.slice A al.length c) := by simp [hc, go_sem]
          have n4 : W.cell? ⟨w.heap.size, 4, none⟩ = some (.string (bytesOf tx)) := by simp [hc, go_sem]
          have z0 : w.heap.size < W.heap.size := by simp [hz]
          clear hc hf hz
          generalize w.heap.size = N at n0 n2 n3 n4 z0 ⊢
          go_wp2_with (first
            | (go_at_call 23; refine (CN.out _).mono ?_; rintro e W2 ⟨rfl, hb2⟩; replace n3 := (hb2.cells _ _ z0).trans n3))
          go_ret
          exact ⟨by rw [RS.out] <;> rfl, hb.trans hb2⟩
    · have E1 := empty_no h1
      have RS := Lib.hid (show RES = false from by rw [hRES]; cases tx with | nil => exact absurd rfl h1 | cons a t => simp)
      clear hRES h1
      go_enter Tryd.func14, Tryd.ntmps14
      go_upto_region 1 with fail
      refine under_name (w0 := w) (by (repeat (first | with_reducible exact Bel.refl _ | with_reducible refine Bel.setCell ?_ (by first | exact Nat.le_refl _ | (dsimp only; omega)) _ | with_reducible refine Bel.alloc ?_ _ | with_reducible refine Bel.drew ?_ | with_reducible assumption | with_reducible refine Bel.trans ?_ (by assumption)))) fun W hc hf hz hb => ?_
      have n0 : W.cell? ⟨w.heap.size, 0, none⟩ = some (.int .i64 2) := by simp [hc, go_sem]
      have n2 : W.cell? ⟨w.heap.size, 2, none⟩ = some (.string (bytesOf nm)) := by simp [hc, go_sem]
      have n3 : W.cell? ⟨w.heap.size, 3, none⟩ = some (.slice A al.length c) := by simp [hc, go_sem]
      have n4 : W.cell? ⟨w.heap.size, 4, none⟩ = some (.string (bytesOf tx)) := by simp [hc, go_sem]
      have z0 : w.heap.size < W.heap.size := by simp [hz]
      clear hc hf hz
      generalize w.heap.size = N at n0 n2 n3 n4 z0 ⊢
      go_wp2_with fail
      go_ret
      exact ⟨by rw [RS.out] <;> rfl, hb⟩
  rw [if_neg k2] at hRES
  have e2 : (k == 2) = false := by simpa using k2
  by_cases k14 : k = 1 ∨ k = 4
  · rw [if_pos k14] at hRES
    have E14 : (k == 1) = true ∨ ((k == 1) = false ∧ (k == 4) = true) := by
      rcases k14 with rfl | rfl
      · exact .inl rfl
      · exact .inr ⟨rfl, rfl⟩
    clear k14 k3 k2
    by_cases h1 : tx = []
    · have E1 := empty_of h1
      cases hn : nmOk nm with
      | false =>
        have hn' : nameB (bytesOf nm) = false := hn
        rw [hn'] at CN
        have RS := Lib.hid (show RES = false from by rw [hRES, hn]; simp)
        clear hRES h1 hn hn'
        rcases E14 with q1 | ⟨q1, q4⟩
        · skip
          go_enter Tryd.func14, Tryd.ntmps14
          go_upto_region 1 with fail
          refine under_name (w0 := w) (by (repeat (first | with_reducible exact Bel.refl _ | with_reducible refine Bel.setCell ?_ (by first | exact Nat.le_refl _ | (dsimp only; omega)) _ | with_reducible refine Bel.alloc ?_ _ | with_reducible refine Bel.drew ?_ | with_reducible assumption | with_reducible refine Bel.trans ?_ (by assumption)))) fun W hc hf hz hb => ?_
          have n0 : W.cell? ⟨w.heap.size, 0, none⟩ = some (.int .i64 k) := by simp [hc, go_sem]
          have n2 : W.cell? ⟨w.heap.size, 2, none⟩ = some (.string (bytesOf nm)) := by simp [hc, go_sem]
          have n3 : W.cell? ⟨w.heap.size, 3, none⟩ = some (.slice A al.length c) := by simp [hc, go_sem]
          have n4 : W.cell? ⟨w.heap.size, 4, none⟩ = some (.string (bytesOf tx)) := by simp [hc, go_sem]
          have z0 : w.heap.size < W.heap.size := by simp [hz]
          clear hc hf hz
          generalize w.heap.size = N at n0 n2 n3 n4 z0 ⊢
          go_wp2_with (first
            | (go_at_call 23; refine (CN.out _).mono ?_; rintro e W2 ⟨rfl, hb2⟩; replace n3 := (hb2.cells _ _ z0).trans n3))
          go_ret
          exact ⟨by rw [RS.out] <;> rfl, hb.trans hb2⟩
        · skip
          go_enter Tryd.func14, Tryd.ntmps14
          go_upto_region 1 with fail
          refine under_name (w0 := w) (by (repeat (first | with_reducible exact Bel.refl _ | with_reducible refine Bel.setCell ?_ (by first | exact Nat.le_refl _ | (dsimp only; omega)) _ | with_reducible refine Bel.alloc ?_ _ | with_reducible refine Bel.drew ?_ | with_reducible assumption | with_reducible refine Bel.trans ?_ (by assumption)))) fun W hc hf hz hb => ?_
          have n0 : W.cell? ⟨w.heap.size, 0, none⟩ = some (.int .i64 k) := by simp [hc, go_sem]
          have n2 : W.cell? ⟨w.heap.size, 2, none⟩ = some (.string (bytesOf nm)) := by simp [hc, go_sem]
          have n3 : W.cell? ⟨w.heap.size, 3, none⟩ = some (.slice A al.length c) := by simp [hc, go_sem]
          have n4 : W.cell? ⟨w.heap.size, 4, none⟩ = some (.string (bytesOf tx)) := by simp [hc, go_sem]
          have z0 : w.heap.size < W.heap.size := by simp [hz]
          clear hc hf hz
          generalize w.heap.size = N at n0 n2 n3 n4 z0 ⊢
          go_wp2_with (first
            | (go_at_call 23; refine (CN.out _).mono ?_; rintro e W2 ⟨rfl, hb2⟩; replace n3 := (hb2.cells _ _ z0).trans n3))
          go_ret
          exact ⟨by rw [RS.out] <;> rfl, hb.trans hb2⟩
      | true =>
        have hn' : nameB (bytesOf nm) = true := hn
        rw [hn'] at CN
        have RS := Lib.hid (show RES = attsOk [] al from by rw [hRES, hn, h1]; rfl)
        clear hRES h1 hn hn'
        rcases E14 with q1 | ⟨q1, q4⟩
        · skip
          go_enter Tryd.func14, Tryd.ntmps14
          go_upto_region 1 with fail
          refine under_name (w0 := w) (by (repeat (first | with_reducible exact Bel.refl _ | with_reducible refine Bel.setCell ?_ (by first | exact Nat.le_refl _ | (dsimp only; omega)) _ | with_reducible refine Bel.alloc ?_ _ | with_reducible refine Bel.drew ?_ | with_reducible assumption | with_reducible refine Bel.trans ?_ (by assumption)))) fun W hc hf hz hb => ?_
          have n0 : W.cell? ⟨w.heap.size, 0, none⟩ = some (.int .i64 k) := by simp [hc, go_sem]
          have n2 : W.cell? ⟨w.heap.size, 2, none⟩ = some (.string (bytesOf nm)) := by simp [hc, go_sem]
          have n3 : W.cell? ⟨w.heap.size, 3, none⟩ = some (.slice A al.length c) := by simp [hc, go_sem]
          have n4 : W.cell? ⟨w.heap.size, 4, none⟩ = some (.string (bytesOf tx)) := by simp [hc, go_sem]
          have z0 : w.heap.size < W.heap.size := by simp [hz]
          clear hc hf hz
          generalize w.heap.size = N at n0 n2 n3 n4 z0 ⊢
          go_wp2_with (first
            | (go_at_call 24; refine (CS.out _ (hb.trans hb2)).mono ?_; rintro e W3 ⟨rfl, hb3⟩)
            | (go_at_call 23; refine (CN.out _).mono ?_; rintro e W2 ⟨rfl, hb2⟩; replace n3 := (hb2.cells _ _ z0).trans n3))
          go_ret
          exact ⟨by rw [RS.out] <;> rfl, (hb.trans hb2).trans hb3⟩
        · skip
          go_enter Tryd.func14, Tryd.ntmps14
          go_upto_region 1 with fail
          refine under_name (w0 := w) (by (repeat (first | with_reducible exact Bel.refl _ | with_reducible refine Bel.setCell ?_ (by first | exact Nat.le_refl _ | (dsimp only; omega)) _ | with_reducible refine Bel.alloc ?_ _ | with_reducible refine Bel.drew ?_ | with_reducible assumption | with_reducible refine Bel.trans ?_ (by assumption)))) fun W hc hf hz hb => ?_
          have n0 : W.cell? ⟨w.heap.size, 0, none⟩ = some (.int .i64 k) := by simp [hc, go_sem]
          have n2 : W.cell? ⟨w.heap.size, 2, none⟩ = some (.string (bytesOf nm)) := by simp [hc, go_sem]
          have n3 : W.cell? ⟨w.heap.size, 3, none⟩ = some (.slice A al.length c) := by simp [hc, go_sem]
          have n4 : W.cell? ⟨w.heap.size, 4, none⟩ = some (.string (bytesOf tx)) := by simp [hc, go_sem]
          have z0 : w.heap.size < W.heap.size := by simp [hz]
          clear hc hf hz
          generalize w.heap.size = N at n0 n2 n3 n4 z0 ⊢
          go_wp2_with (first
            | (go_at_call 24; refine (CS.out _ (hb.trans hb2)).mono ?_; rintro e W3 ⟨rfl, hb3⟩)
            | (go_at_call 23; refine (CN.out _).mono ?_; rintro e W2 ⟨rfl, hb2⟩; replace n3 := (hb2.cells _ _ z0).trans n3))
          go_ret
          exact ⟨by rw [RS.out] <;> rfl, (hb.trans hb2).trans hb3⟩
    · have E1 := empty_no h1
      have RS := Lib.hid (show RES = false from by rw [hRES]; cases tx with | nil => exact absurd rfl h1 | cons a t => simp)
      clear hRES h1
      rcases E14 with q1 | ⟨q1, q4⟩
      · skip
        go_enter Tryd.func14, Tryd.ntmps14
        go_upto_region 1 with fail
        refine under_name (w0 := w) (by (repeat (first | with_reducible exact Bel.refl _ | with_reducible refine Bel.setCell ?_ (by first | exact Nat.le_refl _ | (dsimp only; omega)) _ | with_reducible refine Bel.alloc ?_ _ | with_reducible refine Bel.drew ?_ | with_reducible assumption | with_reducible refine Bel.trans ?_ (by assumption)))) fun W hc hf hz hb => ?_
        have n0 : W.cell? ⟨w.heap.size, 0, none⟩ = some (.int .i64 k) := by simp [hc, go_sem]
        have n2 : W.cell? ⟨w.heap.size, 2, none⟩ = some (.string (bytesOf nm)) := by simp [hc, go_sem]
        have n3 : W.cell? ⟨w.heap.size, 3, none⟩ = some (.slice A al.length c) := by simp [hc, go_sem]
        have n4 : W.cell? ⟨w.heap.size, 4, none⟩ = some (.string (bytesOf tx)) := by simp [hc, go_sem]
        have z0 : w.heap.size < W.heap.size := by simp [hz]
        clear hc hf hz
        generalize w.heap.size = N at n0 n2 n3 n4 z0 ⊢
        go_wp2_with fail
        go_ret
        exact ⟨by rw [RS.out] <;> rfl, hb⟩
      · skip
        go_enter Tryd.func14, Tryd.ntmps14
        go_upto_region 1 with fail
        refine under_name (w0 := w) (by (repeat (first | with_reducible exact Bel.refl _ | with_reducible refine Bel.setCell ?_ (by first | exact Nat.le_refl _ | (dsimp only; omega)) _ | with_reducible refine Bel.alloc ?_ _ | with_reducible refine Bel.drew ?_ | with_reducible assumption | with_reducible refine Bel.trans ?_ (by assumption)))) fun W hc hf hz hb => ?_
        have n0 : W.cell? ⟨w.heap.size, 0, none⟩ = some (.int .i64 k) := by simp [hc, go_sem]
        have n2 : W.cell? ⟨w.heap.size, 2, none⟩ = some (.string (bytesOf nm)) := by simp [hc, go_sem]
        have n3 : W.cell? ⟨w.heap.size, 3, none⟩ = some (.slice A al.length c) := by simp [hc, go_sem]
        have n4 : W.cell? ⟨w.heap.size, 4, none⟩ = some (.string (bytesOf tx)) := by simp [hc, go_sem]
        have z0 : w.heap.size < W.heap.size := by simp [hz]
        clear hc hf hz
        generalize w.heap.size = N at n0 n2 n3 n4 z0 ⊢
        go_wp2_with fail
        go_ret
        exact ⟨by rw [RS.out] <;> rfl, hb⟩
  · rw [if_neg k14] at hRES
    have q1 : (k == 1) = false := by simpa using fun h => k14 (.inl h)
    have q4 : (k == 4) = false := by simpa using fun h => k14 (.inr h)
    have RS := Lib.hid hRES
    clear hRES k14 k3 k2
    go_enter Tryd.func14, Tryd.ntmps14
    go_upto_region 1 with fail
    refine under_name (w0 := w) (by (repeat (first | with_reducible exact Bel.refl _ | with_reducible refine Bel.setCell ?_ (by first | exact Nat.le_refl _ | (dsimp only; omega)) _ | with_reducible refine Bel.alloc ?_ _ | with_reducible refine Bel.drew ?_ | with_reducible assumption | with_reducible refine Bel.trans ?_ (by assumption)))) fun W hc hf hz hb => ?_
    have n0 : W.cell? ⟨w.heap.size, 0, none⟩ = some (.int .i64 k) := by simp [hc, go_sem]
    have n2 : W.cell? ⟨w.heap.size, 2, none⟩ = some (.string (bytesOf nm)) := by simp [hc, go_sem]
    have n3 : W.cell? ⟨w.heap.size, 3, none⟩ = some (.slice A al.length c) := by simp [hc, go_sem]
    have n4 : W.cell? ⟨w.heap.size, 4, none⟩ = some (.string (bytesOf tx)) := by simp [hc, go_sem]
    have z0 : w.heap.size < W.heap.size := by simp [hz]
    clear hc hf hz
    generalize w.heap.size = N at n0 n2 n3 n4 z0 ⊢
    go_wp2_with fail
    go_ret
    exact ⟨by rw [RS.out] <;> rfl, hb⟩
theorem text1_any (m : Mk) (A : Option Addr) (c : Nat) (w : World) (hR : Row w A (atsCells m.attrs)) (hs : Sml m) :
    Calls Tryd.prog 13 #[mkV m A c] w fun e w' => e = .returned (.bool (!sndM m)) ∧ Bel w w' := by
  have C := Lib.hid fun W (hW : Bel w W) => sound_any m A c W (hR.keep hW) hs
  unfold mkV at C ⊢
  generalize sndM m = RES at C ⊢
  clear hR hs
  go_enter Tryd.func13, Tryd.ntmps13
  go_upto_region 1 with fail
  refine under_name (w0 := w) (by (repeat (first | with_reducible exact Bel.refl _ | with_reducible refine Bel.setCell ?_ (by first | exact Nat.le_refl _ | (dsimp only; omega)) _ | with_reducible refine Bel.alloc ?_ _ | with_reducible refine Bel.drew ?_ | with_reducible assumption | with_reducible refine Bel.trans ?_ (by assumption)))) fun W hc hf hz hb => ?_
  have n0 : W.cell? ⟨w.heap.size, 0, none⟩ = some (.int .i64 m.kind) := by simp [hc, go_sem]
  have n1 : W.cell? ⟨w.heap.size, 1, none⟩ = some (.int .i64 m.pos) := by simp [hc, go_sem]
  have n2 : W.cell? ⟨w.heap.size, 2, none⟩ = some (.string (bytesOf m.name)) := by simp [hc, go_sem]
  have n3 : W.cell? ⟨w.heap.size, 3, none⟩ = some (.slice A m.attrs.length c) := by simp [hc, go_sem]
  have n4 : W.cell? ⟨w.heap.size, 4, none⟩ = some (.string (bytesOf m.text)) := by simp [hc, go_sem]
  clear hc hf hz
  go_wp2_with (go_at_call 14; refine (C.out _ hb).mono ?_; rintro e W2 ⟨rfl, hb2⟩)
  go_ret
  exact ⟨rfl, hb.trans hb2⟩
end Go.Proofs.YtobdokeklcdpoaaDoor
