import Derived.Test.YteblpdoljhmcmaaPlf
namespace Go.Proofs.Yteblpdoljhmcmaa
set_option linter.unusedSimpArgs false
set_option linter.unusedVariables false
open Go.RowKit Go.Lib
attribute [local go_sem ↓] eql_val neq_val

/-! What the methods of results give: outcome. -/
set_option maxRecDepth 100000 in
set_option maxHeartbeats 8000000 in
theorem outc_any (p : Int) (r : List Val) (A : Option Addr) (c : Nat) (o : List Val) (B : Option Addr) (d : Nat) (w : World) (hv : Vals w A r) (h0 : 0 < r.length) (hl : r.length ≤ 9223372036854775807) (ho : Vals w B o) (hol : o.length ≤ 9223372036854775807)
    (ht : ∀ v ∈ r, v.text.size ≤ 9223372036854775807) (hsn : ∀ v ∈ r, vsnd v = true) :
    Calls Try.prog 20 #[.slice A r.length c, .int .i64 p, .slice B o.length d] w fun e w' => e = .returned (outF p r o).val ∧ Bel w w' := by
  have SL := Lib.hid (show Slot (w.alloc (.cells #[.int .i64 0, .int .i64 0, .int .i64 0, .string ⟨#[]⟩, .int .i64 0] 26)) w.heap.size ⟨0, 0, 0, ⟨#[]⟩, 0⟩ from slot_new w ⟨0, 0, 0, ⟨#[]⟩, 0⟩)
  have OF := Lib.hid (show outF p r o = if p = 85 then uniq r else if p = 65 then comm r else if p = 80 then prio r o else if p = 43 then sumF 0 0 r else if p = 60 then extF (-1) (hd r) r else if p = 62 then extF 1 (hd r) r else hd r from rfl)
  by_cases k85 : p = 85
  · subst k85
    have C := Lib.hid fun W (hW : Bel w W) => uniq_any r A c W (hv.keep hW) h0 hl
    have OF := Lib.hid (show outF 85 r o = uniq r from rfl)
    generalize outF 85 r o = R at OF ⊢
    rw [← OF.out] at C
    obtain ⟨R0, R1, R2, R3, R4⟩ := R
    simp only [Val.val] at C
    clear OF hv ho ht hsn
    go_enter Try.func20, Try.ntmps20
    go_wp2_with (go_at_call 30; with_reducible refine Calls.mono (C.out _ ((Bel.refl w).alloc _)) ?_; rintro e W1 ⟨rfl, hb1⟩; obtain ⟨s0, ⟨t1, t2, t3, t4, t5⟩, ⟨g1, g2, g3, g4, g5⟩⟩ := SL.out.keep hb1; simp only [Nat.zero_add] at t1 t2 t3 t4 t5)
    refine bodyPost_ret (by simp [results, Try.results20, go_sem, t1, t2, t3, t4, t5]; try rfl) rfl ⟨rfl, ?_⟩
    have hq1 := ((Bel.refl w).alloc _).trans hb1
    (repeat (first | with_reducible exact Bel.refl _ | with_reducible refine Bel.setCell ?_ (by first | exact Nat.le_refl _ | (dsimp only; omega)) _ | with_reducible refine Bel.alloc ?_ _ | with_reducible refine Bel.drew ?_ | with_reducible assumption | with_reducible refine Bel.trans ?_ (by assumption)))
  by_cases k65 : p = 65
  · subst k65
    have C := Lib.hid fun W (hW : Bel w W) => comm_any r A c W (hv.keep hW) h0 hl
    have OF := Lib.hid (show outF 65 r o = comm r from rfl)
    generalize outF 65 r o = R at OF ⊢
    rw [← OF.out] at C
    obtain ⟨R0, R1, R2, R3, R4⟩ := R
    simp only [Val.val] at C
    clear OF hv ho ht hsn
    go_enter Try.func20, Try.ntmps20
    go_wp2_with (go_at_call 31; with_reducible refine Calls.mono (C.out _ ((Bel.refl w).alloc _)) ?_; rintro e W1 ⟨rfl, hb1⟩; obtain ⟨s0, ⟨t1, t2, t3, t4, t5⟩, ⟨g1, g2, g3, g4, g5⟩⟩ := SL.out.keep hb1; simp only [Nat.zero_add] at t1 t2 t3 t4 t5)
    refine bodyPost_ret (by simp [results, Try.results20, go_sem, t1, t2, t3, t4, t5]; try rfl) rfl ⟨rfl, ?_⟩
    have hq1 := ((Bel.refl w).alloc _).trans hb1
    (repeat (first | with_reducible exact Bel.refl _ | with_reducible refine Bel.setCell ?_ (by first | exact Nat.le_refl _ | (dsimp only; omega)) _ | with_reducible refine Bel.alloc ?_ _ | with_reducible refine Bel.drew ?_ | with_reducible assumption | with_reducible refine Bel.trans ?_ (by assumption)))
  by_cases k80 : p = 80
  · subst k80
    have C := Lib.hid fun W (hW : Bel w W) => prio_any r A c o B d W (hv.keep hW) h0 hl (ho.keep hW) hol
    have OF := Lib.hid (show outF 80 r o = prio r o from rfl)
    generalize outF 80 r o = R at OF ⊢
    rw [← OF.out] at C
    obtain ⟨R0, R1, R2, R3, R4⟩ := R
    simp only [Val.val] at C
    clear OF hv ho ht hsn
    go_enter Try.func20, Try.ntmps20
    go_wp2_with (go_at_call 32; with_reducible refine Calls.mono (C.out _ ((Bel.refl w).alloc _)) ?_; rintro e W1 ⟨rfl, hb1⟩; obtain ⟨s0, ⟨t1, t2, t3, t4, t5⟩, ⟨g1, g2, g3, g4, g5⟩⟩ := SL.out.keep hb1; simp only [Nat.zero_add] at t1 t2 t3 t4 t5)
    refine bodyPost_ret (by simp [results, Try.results20, go_sem, t1, t2, t3, t4, t5]; try rfl) rfl ⟨rfl, ?_⟩
    have hq1 := ((Bel.refl w).alloc _).trans hb1
    (repeat (first | with_reducible exact Bel.refl _ | with_reducible refine Bel.setCell ?_ (by first | exact Nat.le_refl _ | (dsimp only; omega)) _ | with_reducible refine Bel.alloc ?_ _ | with_reducible refine Bel.drew ?_ | with_reducible assumption | with_reducible refine Bel.trans ?_ (by assumption)))
  by_cases k43 : p = 43
  · subst k43
    have C := Lib.hid fun W (hW : Bel w W) => sum_any r A c W (hv.keep hW) h0 hl
    have OF := Lib.hid (show outF 43 r o = sumF 0 0 r from rfl)
    generalize outF 43 r o = R at OF ⊢
    rw [← OF.out] at C
    obtain ⟨R0, R1, R2, R3, R4⟩ := R
    simp only [Val.val] at C
    clear OF hv ho ht hsn
    go_enter Try.func20, Try.ntmps20
    go_wp2_with (go_at_call 33; with_reducible refine Calls.mono (C.out _ ((Bel.refl w).alloc _)) ?_; rintro e W1 ⟨rfl, hb1⟩; obtain ⟨s0, ⟨t1, t2, t3, t4, t5⟩, ⟨g1, g2, g3, g4, g5⟩⟩ := SL.out.keep hb1; simp only [Nat.zero_add] at t1 t2 t3 t4 t5)
    refine bodyPost_ret (by simp [results, Try.results20, go_sem, t1, t2, t3, t4, t5]; try rfl) rfl ⟨rfl, ?_⟩
    have hq1 := ((Bel.refl w).alloc _).trans hb1
    (repeat (first | with_reducible exact Bel.refl _ | with_reducible refine Bel.setCell ?_ (by first | exact Nat.le_refl _ | (dsimp only; omega)) _ | with_reducible refine Bel.alloc ?_ _ | with_reducible refine Bel.drew ?_ | with_reducible assumption | with_reducible refine Bel.trans ?_ (by assumption)))
  by_cases k60 : p = 60
  · subst k60
    have C := Lib.hid fun W (hW : Bel w W) => ext_any (-1) r A c W (hv.keep hW) h0 hl ht hsn
    have OF := Lib.hid (show outF 60 r o = extF (-1) (hd r) r from rfl)
    generalize outF 60 r o = R at OF ⊢
    rw [← OF.out] at C
    obtain ⟨R0, R1, R2, R3, R4⟩ := R
    simp only [Val.val] at C
    clear OF hv ho ht hsn
    go_enter Try.func20, Try.ntmps20
    go_wp2_with (go_at_call 34; with_reducible refine Calls.mono (C.out _ ((Bel.refl w).alloc _)) ?_; rintro e W1 ⟨rfl, hb1⟩; obtain ⟨s0, ⟨t1, t2, t3, t4, t5⟩, ⟨g1, g2, g3, g4, g5⟩⟩ := SL.out.keep hb1; simp only [Nat.zero_add] at t1 t2 t3 t4 t5)
    refine bodyPost_ret (by simp [results, Try.results20, go_sem, t1, t2, t3, t4, t5]; try rfl) rfl ⟨rfl, ?_⟩
    have hq1 := ((Bel.refl w).alloc _).trans hb1
    (repeat (first | with_reducible exact Bel.refl _ | with_reducible refine Bel.setCell ?_ (by first | exact Nat.le_refl _ | (dsimp only; omega)) _ | with_reducible refine Bel.alloc ?_ _ | with_reducible refine Bel.drew ?_ | with_reducible assumption | with_reducible refine Bel.trans ?_ (by assumption)))
  by_cases k62 : p = 62
  · subst k62
    have C := Lib.hid fun W (hW : Bel w W) => ext_any 1 r A c W (hv.keep hW) h0 hl ht hsn
    have OF := Lib.hid (show outF 62 r o = extF 1 (hd r) r from rfl)
    generalize outF 62 r o = R at OF ⊢
    rw [← OF.out] at C
    obtain ⟨R0, R1, R2, R3, R4⟩ := R
    simp only [Val.val] at C
    clear OF hv ho ht hsn
    go_enter Try.func20, Try.ntmps20
    go_wp2_with (go_at_call 34; with_reducible refine Calls.mono (C.out _ ((Bel.refl w).alloc _)) ?_; rintro e W1 ⟨rfl, hb1⟩; obtain ⟨s0, ⟨t1, t2, t3, t4, t5⟩, ⟨g1, g2, g3, g4, g5⟩⟩ := SL.out.keep hb1; simp only [Nat.zero_add] at t1 t2 t3 t4 t5)
    refine bodyPost_ret (by simp [results, Try.results20, go_sem, t1, t2, t3, t4, t5]; try rfl) rfl ⟨rfl, ?_⟩
    have hq1 := ((Bel.refl w).alloc _).trans hb1
    (repeat (first | with_reducible exact Bel.refl _ | with_reducible refine Bel.setCell ?_ (by first | exact Nat.le_refl _ | (dsimp only; omega)) _ | with_reducible refine Bel.alloc ?_ _ | with_reducible refine Bel.drew ?_ | with_reducible assumption | with_reducible refine Bel.trans ?_ (by assumption)))
  have OF := Lib.hid (show outF p r o = hd r from by rw [OF.out, if_neg k85, if_neg k65, if_neg k80, if_neg k43, if_neg k60, if_neg k62])
  obtain ⟨b, off, rfl, hlt, ha⟩ := hd_at hv h0
  rw [← OF.out] at ha
  generalize outF p r o = R at OF ha ⊢
  have e85 : (p == 85) = false := beq_eq_false_iff_ne.2 k85
  have e65 : (p == 65) = false := beq_eq_false_iff_ne.2 k65
  have e80 : (p == 80) = false := beq_eq_false_iff_ne.2 k80
  have e43 : (p == 43) = false := beq_eq_false_iff_ne.2 k43
  have e60 : (p == 60) = false := beq_eq_false_iff_ne.2 k60
  have e62 : (p == 62) = false := beq_eq_false_iff_ne.2 k62
  have e2 : (0 : Int) < r.length := by omega
  obtain ⟨R0, R1, R2, R3, R4⟩ := R
  obtain ⟨a0, a1, a2, a3, a4⟩ := ha
  clear OF hv ho ht hsn k85 k65 k80 k43 k60 k62
  go_enter Try.func20, Try.ntmps20
  go_wp2_with fail
  refine bodyPost_ret (by simp [results, Try.results20, go_sem]; try rfl) rfl ⟨rfl, ?_⟩
  (repeat (first | with_reducible exact Bel.refl _ | with_reducible refine Bel.setCell ?_ (by first | exact Nat.le_refl _ | (dsimp only; omega)) _ | with_reducible refine Bel.alloc ?_ _ | with_reducible refine Bel.drew ?_ | with_reducible assumption | with_reducible refine Bel.trans ?_ (by assumption)))
end Go.Proofs.Yteblpdoljhmcmaa
