import Derived.Test.YtcknjhgolajclaaDoorDga
import Derived.Test.YtcknjhgolajclaaDoorDes
namespace Go.Proofs.YtcknjhgolajclaaDoor
set_option linter.unusedSimpArgs false
set_option linter.unusedVariables false
open Go.RowKit

theorem txt_len (neg : Bool) (x s : Nat) (hx : x ≤ 999999999999) (hs : s ≤ 6) : (txtL neg x s).length ≤ 30 := by
  have h1 := dec_len_le 11 (x / P10 s) (Nat.lt_of_le_of_lt (Nat.div_le_self _ _) (by omega))
  unfold txtL
  by_cases h : s = 0
  · rw [if_pos h]
    cases neg <;> simp <;> omega
  · rw [if_neg h]
    have h2 := pad_len s (x % P10 s) (Nat.mod_lt _ (P10_pos s)) (by omega)
    cases neg <;> simp <;> omega
set_option maxRecDepth 100000 in
set_option maxHeartbeats 4000000 in
/-- A number that is written is read as it was; a sum less one of two is the other. -/
theorem law_Back (n s m t : Int) (w : World) (ht : Tab w) : Calls Tryd.prog 8 #[decA n s, decA m t] w fun e w' => e = .returned (.bool true) ∧ Bel w w' := by
  by_cases h : SndD n s
  · have hx := fun w => text_any n s w
    rw [show textV n s = _ from if_pos h] at hx
    have hlen := txt_len (decide (n < 0)) n.natAbs s.toNat (by have := h.2.2.1.1; have := h.2.2.1.2; omega) (by have := h.2.1; omega)
    have hp := fun w => parse_any ⟨(txtL (decide (n < 0)) n.natAbs s.toNat).toArray⟩ (by show (txtL (decide (n < 0)) n.natAbs s.toNat).toArray.size ≤ _; simp; omega) w
    rw [show (⟨(txtL (decide (n < 0)) n.natAbs s.toNat).toArray⟩ : ByteArray).data.toList = txtL (decide (n < 0)) n.natAbs s.toNat from rfl, parse_text n s h] at hp
    clear hlen
    generalize (⟨(txtL (decide (n < 0)) n.natAbs s.toNat).toArray⟩ : ByteArray) = T at hx hp
    have HX := Lib.hid hx
    have HP := Lib.hid hp
    have ha := fun w => add_any n s m t w
    clear hx hp h
    have herr : ∀ k, (k = 2 ∨ k = 3) → Hid (∀ w, Calls Tryd.prog 25 #[decA n s, decA m t] w fun e w' => e = .returned (errV k) ∧ Bel w w') →
        Calls Tryd.prog 8 #[decA n s, decA m t] w fun e w' => e = .returned (.bool true) ∧ Bel w w' := by
      intro k hk HA
      rcases hk with rfl | rfl
      all_goals
        go_enter Tryd.func8, Tryd.ntmps8
        go_wp2_with fail
        refine under_call (((Bel.refl w).alloc _).alloc _) fun W hc hf hz hb => ?_
        have hA : Arr2 W w.heap.size n s := by simp [Arr2, hz, hc, hf, go_sem]
        have hB : Arr2 W (w.heap.size + 1) m t := by simp [Arr2, hz, hc, hf, go_sem]
        have htW : Tab W := ht.keep hb
        clear hc hf hz
        go_wp2_with (first
          | (go_at_call 19; refine (HX.out _ htW).mono ?_; rintro e W1 ⟨rfl, hb1⟩; replace hA := hA.keep hb1; replace hB := hB.keep hb1; replace htW := htW.keep hb1; replace hb := hb.trans hb1; clear hb1)
          | (go_at_call 12; refine (awake_any _ htW).mono ?_; rintro e W2 ⟨rfl, hb1⟩; replace hA := hA.keep hb1; replace hB := hB.keep hb1; replace htW := htW.keep hb1; replace hb := hb.trans hb1; clear hb1)
          | (go_at_call 21; refine (HP.out _).mono ?_; rintro e W3 ⟨rfl, hb1⟩; replace hA := hA.keep hb1; replace hB := hB.keep hb1; replace htW := htW.keep hb1; replace hb := hb.trans hb1; have hltA := hA.1; have hltB := hB.1; clear hb1)
          | (go_at_call 25; refine (HA.out _).mono ?_; rintro e W4 ⟨rfl, hb1⟩
             have hX : Arr2 W4 W3.heap.size n s := Arr2.keep (w := W3.alloc (.cells #[.int .i64 n, .int .i64 s] 23)) (by simp [Arr2, go_sem]) hb1
             replace hA := (hA.keep ((Bel.refl W3).alloc _)).keep hb1; replace hb := (hb.alloc _).trans hb1; clear hB htW; have hltA4 := hA.1; have hltX4 := hX.1; clear hb1))
        go_ret
        exact ⟨rfl, hb.alloc _⟩
    rcases addV_cases n s m t with hv | hv | ⟨a, b, hv⟩
    · rw [hv] at ha
      exact herr 3 (.inr rfl) (Lib.hid ha)
    · rw [hv] at ha
      exact herr 2 (.inl rfl) (Lib.hid ha)
    · obtain ⟨hn, hbk⟩ := back_add hv
      rw [hv] at ha
      have hng := fun w => neg_any m t w
      rw [hn] at hng
      have hbb := fun w => add_any a b (-m) t w
      rw [hbk] at hbb
      have HA := Lib.hid ha
      have HN := Lib.hid hng
      have HB := Lib.hid hbb
      clear ha hng hbb hn hbk hv herr
      go_enter Tryd.func8, Tryd.ntmps8
      go_wp2_with fail
      refine under_call (((Bel.refl w).alloc _).alloc _) fun W hc hf hz hb => ?_
      have hA : Arr2 W w.heap.size n s := by simp [Arr2, hz, hc, hf, go_sem]
      have hB : Arr2 W (w.heap.size + 1) m t := by simp [Arr2, hz, hc, hf, go_sem]
      have htW : Tab W := ht.keep hb
      clear hc hf hz
      go_wp2_with (first
        | (go_at_call 19; refine (HX.out _ htW).mono ?_; rintro e W1 ⟨rfl, hb1⟩; replace hA := hA.keep hb1; replace hB := hB.keep hb1; replace htW := htW.keep hb1; replace hb := hb.trans hb1; clear hb1)
        | (go_at_call 12; refine (awake_any _ htW).mono ?_; rintro e W2 ⟨rfl, hb1⟩; replace hA := hA.keep hb1; replace hB := hB.keep hb1; replace htW := htW.keep hb1; replace hb := hb.trans hb1; clear hb1)
        | (go_at_call 21; refine (HP.out _).mono ?_; rintro e W3 ⟨rfl, hb1⟩; replace hA := hA.keep hb1; replace hB := hB.keep hb1; replace hb := hb.trans hb1; have hltA := hA.1; have hltB := hB.1; clear hb1)
        | (go_at_call 25; with_reducible refine (HA.out _).mono ?_; rintro e W4 ⟨rfl, hb1⟩
           have hX : Arr2 W4 W3.heap.size n s := Arr2.keep (w := W3.alloc (.cells #[.int .i64 n, .int .i64 s] 23)) (by simp [Arr2, go_sem]) hb1
           replace hA := (hA.keep ((Bel.refl W3).alloc _)).keep hb1; replace hB := (hB.keep ((Bel.refl W3).alloc _)).keep hb1; replace hb := (hb.alloc _).trans hb1; have hltA4 := hA.1; have hltB4 := hB.1; have hltX4 := hX.1; clear hb1)
        | (go_at_call 26; refine (HN.out _).mono ?_; rintro e W5 ⟨rfl, hb1⟩
           have hS : Arr2 W5 W4.heap.size a b := Arr2.keep (w := W4.alloc (.cells #[.int .i64 a, .int .i64 b] 23)) (by simp [Arr2, go_sem]) hb1
           replace hA := (hA.keep ((Bel.refl W4).alloc _)).keep hb1; replace hb := (hb.alloc _).trans hb1; have hltA5 := hA.1; have hltS5 := hS.1; clear hX hB hb1)
        | (go_at_call 25; with_reducible refine (HB.out _).mono ?_; rintro e W6 ⟨rfl, hb1⟩
           replace hA := (hA.keep ((Bel.refl W5).alloc _)).keep hb1; replace hb := (hb.alloc _).trans hb1; have hltA6 := hA.1; clear hS hb1))
      go_ret
      exact ⟨rfl, hb.alloc _⟩
  · have hx := fun w => text_any n s w
    rw [show textV n s = _ from if_neg h] at hx
    have HX := Lib.hid hx
    clear hx h
    go_enter Tryd.func8, Tryd.ntmps8
    go_wp2_with fail
    refine under_call (((Bel.refl w).alloc _).alloc _) fun W hc hf hz hb => ?_
    have hA : Arr2 W w.heap.size n s := by simp [Arr2, hz, hc, hf, go_sem]
    have htW : Tab W := ht.keep hb
    clear hc hf hz
    go_wp2_with (first
      | (go_at_call 19; refine (HX.out _ htW).mono ?_; rintro e W1 ⟨rfl, hb1⟩; replace htW := htW.keep hb1; replace hb := hb.trans hb1; clear hA hb1)
      | (go_at_call 12; refine (awake_any _ htW).mono ?_; rintro e W2 ⟨rfl, hb1⟩; replace htW := htW.keep hb1; replace hb := hb.trans hb1; clear hb1))
    go_ret
    exact ⟨rfl, hb⟩
end Go.Proofs.YtcknjhgolajclaaDoor
