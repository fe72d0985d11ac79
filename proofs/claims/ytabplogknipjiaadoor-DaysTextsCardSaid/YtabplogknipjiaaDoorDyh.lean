import Derived.Test.YtabplogknipjiaaDoorDyg
namespace Go.Proofs.YtabplogknipjiaaDoor
set_option linter.unusedSimpArgs false
set_option linter.unusedVariables false
open Go.RowKit

theorem padded_4 (z : Int) (h0 : 0 ≤ z) (h1 : z < 10000) (w : World) (ht : Tab w) : Calls Tryd.prog 24 #[.int .i64 z, .int .i64 4] w fun e w' =>
    e = .returned (.string ⟨#[dgt z.toNat 1000, dgt z.toNat 100, dgt z.toNat 10, dgt z.toNat 1]⟩) ∧ Bel w w' := by
  obtain ⟨n, rfl⟩ : ∃ n : Nat, z = n := ⟨z.toNat, by omega⟩
  have := dec_len n (by omega)
  refine (padded_t n 4 (by omega) this.2.1 (by omega) w ht).mono fun e w' ⟨he, hb⟩ => ⟨?_, hb⟩
  rw [he, padL_4 n (by omega)]; rfl
theorem padded_2 (z : Int) (h0 : 0 ≤ z) (h1 : z < 100) (w : World) (ht : Tab w) : Calls Tryd.prog 24 #[.int .i64 z, .int .i64 2] w fun e w' =>
    e = .returned (.string ⟨#[dgt z.toNat 10, dgt z.toNat 1]⟩) ∧ Bel w w' := by
  obtain ⟨n, rfl⟩ : ∃ n : Nat, z = n := ⟨z.toNat, by omega⟩
  have := dec_len n (by omega)
  refine (padded_t n 2 (by omega) (this.2.2 (by omega)) (by omega) w ht).mono fun e w' ⟨he, hb⟩ => ⟨?_, hb⟩
  rw [he, padL_2 n (by omega)]; rfl
/-- The text of a date. -/
def txt (y m d : Nat) : ByteArray := ⟨#[dgt y 1000, dgt y 100, dgt y 10, dgt y 1, 45, dgt m 10, dgt m 1, 45, dgt d 10, dgt d 1]⟩
theorem txt_eq (y m d : Nat) : (⟨#[dgt y 1000, dgt y 100, dgt y 10, dgt y 1]⟩ : ByteArray) ++ ⟨#[45]⟩ ++ ⟨#[dgt m 10, dgt m 1]⟩ ++ ⟨#[45]⟩ ++ ⟨#[dgt d 10, dgt d 1]⟩ = txt y m d :=
  ByteArray.ext (by simp [ByteArray.data_append, txt])
noncomputable def dtx (n : Int) : ByteArray := txt (dY n).toNat (dM n).toNat (dD n).toNat
noncomputable def textV (n : Int) : Value := if 0 ≤ n ∧ n ≤ 3652058 then .tuple #[.string (dtx n), .int .i64 0] else .tuple #[.string ⟨#[]⟩, .int .i64 3]
set_option maxHeartbeats 2000000 in
theorem text_any (n : Int) (w : World) (ht : Tab w) : Calls Tryd.prog 13 #[.int .i64 n] w fun e w' => e = .returned (textV n) ∧ Bel w w' := by
  by_cases h : 0 ≤ n ∧ n ≤ 3652058
  · rw [show textV n = _ from if_pos h]
    obtain ⟨h1, h2⟩ := h
    have hl : Hid (txt (dY n).toNat (dM n).toNat (dD n).toNat = dtx n) := rfl
    obtain ⟨⟨s1, s2, s3, s4, s5, s6⟩, -⟩ := date_spec n h1 h2
    have s7 := lenM_bd (dY n) (dM n)
    have k1 : decide (n < 0) = false := by simp; omega
    have k2 : decide (3652058 < n) = false := by simp; omega
    go_enter Tryd.func13, Tryd.ntmps13
    go_wp2_with (go_at_call 23; refine (dateOf_t n h1 h2 _).mono ?_; rintro e W1 ⟨rfl, hb1⟩)
    replace ht := ht.keep hb1
    generalize hy : dY n = y at *
    generalize hm : dM n = m at *
    generalize hd : dD n = d at *
    clear hy hm hd
    refine under_name ((Bel.refl W1).alloc _) fun W hc hf hz hb => ?_
    have hw : Arr3 W W1.heap.size y m d := by simp [Arr3, hz, hc, go_sem]
    have htW : Tab W := ht.keep hb
    replace hb := hb1.trans hb
    clear hc hf hz
    refine wp_region_uni (S := (fun w' => Bel W w' ∧ (∀ b o, b < W.heap.size → w'.cell? ⟨b, o, none⟩ = W.cell? ⟨b, o, none⟩))) (by kernel_rfl) (by kernel_rfl) keep0 ?_
    repeat (first | (refine wpUni_skip (by rfl) ?_; (try simp only [Act.put, List.setIfInBounds_toArray, List.set_cons_zero, List.set_cons_succ]))
                                                            | (refine wpUni_value (by rfl) (fun w hS => by (try dsimp only at hS); go_simp; first | done | with_reducible rfl) ?_; (try simp only [Act.put, List.setIfInBounds_toArray, List.set_cons_zero, List.set_cons_succ]))
                                                            | (refine wpUni_call (f := 24) (by rfl) (fun w => by go_simp; first | done | with_reducible rfl) (fun w hS => (padded_4 y (by omega) (by omega) w (htW.keep hS.1)).mono fun e w' ⟨he, hb⟩ => ⟨he, keep1 hS hb⟩) ?_; (try simp only [Act.put, List.setIfInBounds_toArray, List.set_cons_zero, List.set_cons_succ]))
                                                            | (refine wpUni_call (f := 24) (by rfl) (fun w => by go_simp; first | done | with_reducible rfl) (fun w hS => (padded_2 m (by omega) (by omega) w (htW.keep hS.1)).mono fun e w' ⟨he, hb⟩ => ⟨he, keep1 hS hb⟩) ?_; (try simp only [Act.put, List.setIfInBounds_toArray, List.set_cons_zero, List.set_cons_succ]))
                                                            | (refine wpUni_call (f := 24) (by rfl) (fun w => by go_simp; first | done | with_reducible rfl) (fun w hS => (padded_2 d (by omega) (by omega) w (htW.keep hS.1)).mono fun e w' ⟨he, hb⟩ => ⟨he, keep1 hS hb⟩) ?_; (try simp only [Act.put, List.setIfInBounds_toArray, List.set_cons_zero, List.set_cons_succ])))
    refine wpUni_nil fun W2 hS => ?_
    have hb2 := hb.trans hS.1
    clear hS
    go_wp2
    go_ret2
    exact ⟨by rw [txt_eq, hl.out]; rfl, hb2⟩
  · rw [show textV n = _ from if_neg h]
    by_cases h1 : 0 ≤ n
    · have k1 : decide (n < 0) = false := by simp; omega
      have k2 : decide (3652058 < n) = true := by simp; omega
      clear h
      go_enter Tryd.func13, Tryd.ntmps13
      go_wp2
      go_ret2
      exact ⟨rfl, Bel.refl _⟩
    · have k1 : decide (n < 0) = true := by simp; omega
      clear h
      go_enter Tryd.func13, Tryd.ntmps13
      go_wp2
      go_ret2
      exact ⟨rfl, Bel.refl _⟩
end Go.Proofs.YtabplogknipjiaaDoor
