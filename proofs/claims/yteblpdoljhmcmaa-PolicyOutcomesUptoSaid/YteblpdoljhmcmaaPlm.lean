import Derived.Test.YteblpdoljhmcmaaPll
namespace Go.Proofs.Yteblpdoljhmcmaa
set_option linter.unusedSimpArgs false
set_option linter.unusedVariables false
open Go.RowKit Go.Lib
attribute [local go_sem ↓] eql_val neq_val

/-! The laws of policy: Among. -/
theorem prio_in {r : List Val} (h : 0 < r.length) : ∀ o : List Val, prio r o ∈ r
  | [] => hd_mem h
  | v :: o => by
    unfold prio
    by_cases e : memV r v = true
    · rw [if_pos e]; exact memV_iff.1 e
    · rw [if_neg e]; exact prio_in h o
theorem ext_in {way : Int} {R : List Val} : ∀ (r : List Val) (b : Val), b ∈ R → (∀ v ∈ r, v ∈ R) → extF way b r = nul ∨ extF way b r ∈ R
  | [], b, h, _ => .inr h
  | v :: r, b, h, h2 => by
    unfold extF
    by_cases e : v.kind = 0 ∨ v.kind ≠ b.kind
    · rw [if_pos e]; exact .inl rfl
    · rw [if_neg e]
      refine ext_in r _ ?_ (fun u hu => h2 u (List.mem_cons_of_mem _ hu))
      split
      · exact h2 v (List.mem_cons_self ..)
      · exact h
theorem snd_null {v : Val} (h : vsnd v = true) (hk : v.kind = 0) : v = nul := by
  unfold vsnd at h
  rw [if_pos hk] at h
  exact (veq_iff _ _).1 h
def amongP (p : Int) : Prop := p = 85 ∨ p = 65 ∨ p = 80 ∨ p = 70 ∨ p = 60 ∨ p = 62
theorem outF_among {p : Int} (hp : amongP p) {r order : List Val} (h : 0 < r.length) (hs : ∀ v ∈ r, vsnd v = true) : (outF p r order = nul ∨ outF p r order ∈ r) ∧ (r.length ≤ 1 → outF p r order = hd r) := by
  have one : r.length ≤ 1 → ∃ x, r = [x] := fun h1 => by
    match r, h, h1 with
    | [x], _, _ => exact ⟨x, rfl⟩
  rcases hp with rfl | rfl | rfl | rfl | rfl | rfl
  · show (uniq r = nul ∨ uniq r ∈ r) ∧ (r.length ≤ 1 → uniq r = hd r)
    unfold uniq
    by_cases h1 : 1 < r.length
    · rw [if_pos h1]; exact ⟨.inl rfl, fun h2 => by omega⟩
    · rw [if_neg h1]; exact ⟨.inr (hd_mem h), fun _ => rfl⟩
  · show (comm r = nul ∨ comm r ∈ r) ∧ (r.length ≤ 1 → comm r = hd r)
    unfold comm
    by_cases h1 : (r.any fun v => !veq v (hd r)) = true
    · rw [if_pos h1]
      refine ⟨.inl rfl, fun h2 => ?_⟩
      obtain ⟨x, rfl⟩ := one h2
      simp [hd, q_same] at h1
    · rw [if_neg h1]; exact ⟨.inr (hd_mem h), fun _ => rfl⟩
  · show (prio r order = nul ∨ prio r order ∈ r) ∧ (r.length ≤ 1 → prio r order = hd r)
    refine ⟨.inr (prio_in h order), fun h2 => ?_⟩
    obtain ⟨x, rfl⟩ := one h2
    have := prio_in h order
    rw [List.mem_singleton] at this
    rw [this]; rfl
  · exact ⟨.inr (hd_mem h), fun _ => rfl⟩
  · show (extF (-1) (hd r) r = nul ∨ extF (-1) (hd r) r ∈ r) ∧ (r.length ≤ 1 → extF (-1) (hd r) r = hd r)
    refine ⟨ext_in r _ (hd_mem h) (fun _ h => h), fun h2 => ?_⟩
    obtain ⟨x, rfl⟩ := one h2
    show (if x.kind = 0 ∨ x.kind ≠ x.kind then nul else (if vcmp x x = -1 then x else x)) = x
    by_cases hk : x.kind = 0
    · rw [if_pos (.inl hk), snd_null (hs x (List.mem_cons_self ..)) hk]
    · rw [if_neg (by simp [hk])]; split <;> rfl
  · show (extF 1 (hd r) r = nul ∨ extF 1 (hd r) r ∈ r) ∧ (r.length ≤ 1 → extF 1 (hd r) r = hd r)
    refine ⟨ext_in r _ (hd_mem h) (fun _ h => h), fun h2 => ?_⟩
    obtain ⟨x, rfl⟩ := one h2
    show (if x.kind = 0 ∨ x.kind ≠ x.kind then nul else (if vcmp x x = 1 then x else x)) = x
    by_cases hk : x.kind = 0
    · rw [if_pos (.inl hk), snd_null (hs x (List.mem_cons_self ..)) hk]
    · rw [if_neg (by simp [hk])]; split <;> rfl
theorem outR_among {p : Int} (hp : amongP p) (outs order : List Val) (v : Val) (l : List Int) (hr : risF outs.length 0 l = true) : outR p outs order v l = if (outs.all vsnd && (order.all vsnd && vsnd v)) = true then (if l.length = 0 then .tuple #[v.val, .int .i64 0] else .tuple #[(outF p (picks outs l) order).val, .int .i64 0]) else .tuple #[nul.val, .int .i64 2] := by
  have hk : known p = true := by rcases hp with rfl | rfl | rfl | rfl | rfl | rfl <;> rfl
  have h35 : ¬ p = 35 := by rcases hp with rfl | rfl | rfl | rfl | rfl | rfl <;> decide
  unfold outR outV
  rw [hr, hk]
  by_cases h : (outs.all vsnd && (order.all vsnd && vsnd v)) = true
  · rw [if_pos h, h]
    simp only [Bool.and_self, Bool.true_eq_false, if_false, h35]
    by_cases h0 : l.length = 0
    · rw [if_pos h0, if_pos h0]
    · rw [if_neg h0, if_neg h0]
  · rw [if_neg h]
    rw [Bool.not_eq_true] at h
    rw [h]; rfl
set_option maxRecDepth 100000 in
set_option maxHeartbeats 16000000 in
theorem law_Among (kk : Int) (outs : List Val) (A : Option Addr) (c : Nat) (order : List Val) (B : Option Addr) (d : Nat) (m : Int) (w : World) (hA : Vals w A outs) (lA : outs.length ≤ 9223372036854775807) (tA : ∀ v ∈ outs, v.text.size ≤ 9223372036854775807) (hB : Vals w B order) (lB : order.length ≤ 9223372036854775807) (tB : ∀ v ∈ order, v.text.size ≤ 9223372036854775807) (hk : 0 ≤ kk ∧ kk ≤ 255) (hm : 0 ≤ m ∧ m ≤ 65535) :
    Calls Try.prog 4 #[.int .u8 kk, .slice A outs.length c, .slice B order.length d, .int .u16 m] w fun e w' => e = .returned (.bool true) ∧ Bel w w' := by
  have C1 := Lib.hid fun W => fired_any outs.length m W (by omega) hm
  have CO := Lib.hid fun (p : Int) (l : List Int) F f W (hr : risF outs.length 0 l = true) (hl : l.length ≤ 16) (hF : Ints W F l) (hW : Bel w W) => out_any p outs A c order B d ⟨3, 0, 0, ⟨#[]⟩, 0⟩ l F f W (hA.keep hW) (hB.keep hW) hF lA lB (by omega) tA tB (Nat.zero_le _) (fun i hi => by have := risF_mem hr i hi; omega)
  have C5 := Lib.hid fun W => awake_any W
  have HA := Lib.hid hA
  clear hA tA hB tB
  have k6 : kk % 6 = 0 ∨ kk % 6 = 1 ∨ kk % 6 = 2 ∨ kk % 6 = 3 ∨ kk % 6 = 4 ∨ kk % 6 = 5 := by omega
  have kt : kk.tmod 6 = kk % 6 := Int.tmod_eq_emod_of_nonneg hk.1
  rcases k6 with k6 | k6 | k6 | k6 | k6 | k6
  · rw [k6] at kt
    go_enter Try.func4, Try.ntmps4
    go_upto_region 3 with (go_at_call 14; refine Calls.mono (C1.out _) ?_; rintro e W1 ⟨vl, l, rfl, hl, hr, hn, hb1⟩)
    generalize hg : wrap64 (((⟨#[85, 65, 80, 70, 60, 62]⟩ : ByteArray)[0].toNat : Nat) : Int) = P
    have hP : amongP P := by
      have e : P = 85 := hg.symm.trans (by decide +kernel)
      rw [e]; simp [amongP]
    obtain ⟨F, f, rfl, hF, _⟩ := hl.ints
    have HF := Lib.hid hF
    have HP := Lib.hid hP
    have HR := Lib.hid hr
    have KO := Lib.hid (fun W F f (hF : Ints W F l) hW => CO.out P l F f W hr hn hF hW)
    rw [outR_among hP _ _ _ _ hr] at KO
    obtain ⟨q, hq⟩ : ∃ q, q = (outs.all vsnd && (order.all vsnd && vsnd ⟨3, 0, 0, ⟨#[]⟩, 0⟩)) := ⟨_, rfl⟩
    rw [← hq] at KO
    have HQ := Lib.hid hq
    have hli : (l.length : Int) ≤ 16 := by omega
    clear hg hP hl hF hr hq CO
    have tk : True := trivial
    cases q with
    | false =>
      simp only [Bool.false_eq_true, if_false, Val.val, nul] at KO
      go_wp2_with (first
        | (go_at_call 9; with_reducible refine Calls.mono (KO.out _ F f HF.out hb1) ?_; rintro e W2 ⟨rfl, hb2⟩)
        | (go_at_call 11; have _u := tk; clear _u tk; with_reducible refine Calls.mono (C5.out _) ?_; rintro e W3 ⟨rfl, hb3⟩; have S1 := (sl5_new W2 0 0 0 ⟨#[]⟩ 0).keep hb3; replace hb3 := (hb2.alloc _).trans hb3)
        | (go_at_call 11; with_reducible refine Calls.mono (C5.out _) ?_; rintro e W4 ⟨rfl, hb4⟩; replace S1 := S1.keep hb4; replace hb3 := hb3.trans hb4))
      go_ret
      exact ⟨by simp, hb1.trans hb3⟩
    | true =>
      by_cases hl0 : l.length = 0
      · rw [hl0] at KO ⊢
        simp only [if_true, Val.val] at KO
        have q1 : veq ⟨3, 0, 0, ⟨#[]⟩, 0⟩ ⟨3, 0, 0, ⟨#[]⟩, 0⟩ = true := q_same _
        go_wp2_with (first
          | (go_at_call 9; with_reducible refine Calls.mono (KO.out _ F f HF.out hb1) ?_; rintro e W2 ⟨rfl, hb2⟩)
          | (go_at_call 11; have _u := tk; clear _u tk; with_reducible refine Calls.mono (C5.out _) ?_; rintro e W3 ⟨rfl, hb3⟩; have S1 := (sl5_new W2 3 0 0 ⟨#[]⟩ 0).keep hb3; replace hb3 := (hb2.alloc _).trans hb3)
          | (go_at_call 11; with_reducible refine Calls.mono (C5.out _) ?_; rintro e W4 ⟨rfl, hb4⟩; replace S1 := S1.keep hb4; replace hb3 := hb3.trans hb4))
        go_ret
        exact ⟨by simp [q1], hb1.trans hb3⟩
      · have el0 : ((l.length : Int) == 0) = false := beq_eq_false_iff_ne.2 (by omega)
        simp only [if_true, if_neg hl0, Val.val] at KO
        have PLN := Lib.hid (show (picks outs l).length = l.length from by unfold picks; rw [List.length_map])
        have AM := Lib.hid (outF_among HP.out (r := picks outs l) (order := order) (by rw [PLN.out]; omega) (picks_mem HR.out (List.all_eq_true.1 (by have := HQ.out; simp at this; exact List.all_eq_true.2 this.1))))
        have PIK := Lib.hid (show ∀ (k : Nat) (i : Int), l[k]? = some i → (picks outs l)[k]? = some (outs.getD i.toNat nul) ∧ 0 ≤ i ∧ i < outs.length from fun k i h => ⟨picks_at h, (risF_mem HR.out i (List.mem_of_getElem? h))⟩)
        generalize outF P (picks outs l) order = X at KO AM
        generalize picks outs l = r at *
        obtain ⟨v0, v1, v2, v3, v4⟩ := X
        simp only at KO
        go_wp2_with (first
          | (go_at_call 9; with_reducible refine Calls.mono (KO.out _ F f HF.out hb1) ?_; rintro e W2 ⟨rfl, hb2⟩)
          | (go_at_call 11; have _u := tk; clear _u tk; with_reducible refine Calls.mono (C5.out _) ?_; rintro e W3 ⟨rfl, hb3⟩; have S1 := (sl5_new W2 v0 v1 v2 v3 v4).keep hb3; replace hb3 := (hb2.alloc _).trans hb3))
        obtain ⟨s10, ⟨s11, s12, s13, s14, s15⟩, _⟩ := S1
        have SS := Lib.hid (show ∀ wr, Bel W3 wr → W2.heap.size < wr.heap.size ∧ wr.cell? ⟨W2.heap.size, 0, none⟩ = some (.int .i64 v0) ∧ wr.cell? ⟨W2.heap.size, 1, none⟩ = some (.int .i64 v1) ∧ wr.cell? ⟨W2.heap.size, 2, none⟩ = some (.int .i64 v2) ∧ wr.cell? ⟨W2.heap.size, 3, none⟩ = some (.string v3) ∧ wr.cell? ⟨W2.heap.size, 4, none⟩ = some (.int .i64 v4) from fun wr hW => ⟨Nat.lt_of_lt_of_le s10 hW.size, (hW.cells _ _ s10).trans s11, (hW.cells _ _ s10).trans s12, (hW.cells _ _ s10).trans s13, (hW.cells _ _ s10).trans s14, (hW.cells _ _ s10).trans s15⟩)
        clear s11 s12 s13 s14 s15
        go_loopg [13, 14] l.length (fun g s13 s14 wr => ∃ k : Nat, s14 = .int .i64 k ∧ s13 = .bool (veq ⟨v0, v1, v2, v3, v4⟩ ⟨0, 0, 0, ⟨#[]⟩, 0⟩ || (r.take k).any fun u => veq u ⟨v0, v1, v2, v3, v4⟩) ∧ k ≤ l.length ∧ Hid (g = l.length - k) ∧ Bel W3 wr)
        case atStart => exact ⟨0, rfl, by simp, Nat.zero_le _, rfl, Bel.refl _⟩
        case round =>
          obtain ⟨k, rfl, rfl, hk, hh, hb⟩ := hrel
          have hbx := hb3.trans hb
          have hbw := hb1.trans hbx
          obtain ⟨t0, t1, t2, t3, t4, t5⟩ := SS.out wr hb
          by_cases hkp : k < l.length
          · obtain ⟨ab, ao, rfl, alt, aat⟩ := HA.out (by
              obtain ⟨n, hik⟩ : ∃ n, l[k]? = some n := ⟨_, List.getElem?_eq_getElem hkp⟩
              have := (PIK.out k n hik).2
              omega)
            have hln : 0 < (nums l).length := by rw [show (nums l).length = l.length by simp [nums]]; omega
            obtain ⟨fb, fo, rfl, flt, fat⟩ := HF.out hln
            obtain ⟨n, hik⟩ : ∃ n, l[k]? = some n := ⟨_, List.getElem?_eq_getElem hkp⟩
            have hfa := (hbx.cells _ _ flt).trans (fat k _ (show (nums l)[k]? = some (.int .i64 n) by simp [nums, hik]))
            obtain ⟨hrk, n0, n1⟩ := PIK.out k n hik
            obtain ⟨m', rfl⟩ : ∃ m' : Nat, n = m' := ⟨n.toNat, by omega⟩
            have hml : m' < outs.length := by omega
            obtain ⟨u, huk⟩ : ∃ u, outs[m']? = some u := ⟨_, List.getElem?_eq_getElem hml⟩
            have hru : r[k]? = some u := by rw [hrk]; simp [huk]
            have hua := (aat m' u huk).keep hbw alt
            have lt1 := Nat.lt_of_lt_of_le flt hbx.size
            have lt2 := Nat.lt_of_lt_of_le alt hbw.size
            have k1 : (k : Int) < l.length := by omega
            have k0 : (0 : Int) ≤ (k : Int) := by omega
            have m1 : (m' : Int) < outs.length := by omega
            have m0 : (0 : Int) ≤ (m' : Int) := by omega
            have GN := Lib.hid (show (veq ⟨v0, v1, v2, v3, v4⟩ ⟨0, 0, 0, ⟨#[]⟩, 0⟩ || (r.take (k + 1)).any fun u => veq u ⟨v0, v1, v2, v3, v4⟩) = ((veq ⟨v0, v1, v2, v3, v4⟩ ⟨0, 0, 0, ⟨#[]⟩, 0⟩ || (r.take k).any fun u => veq u ⟨v0, v1, v2, v3, v4⟩) || veq u ⟨v0, v1, v2, v3, v4⟩) from by
              rw [List.take_add_one, hru, List.any_append, Bool.or_assoc]; simp)
            generalize hqa : (veq ⟨v0, v1, v2, v3, v4⟩ ⟨0, 0, 0, ⟨#[]⟩, 0⟩ || (r.take k).any fun u => veq u ⟨v0, v1, v2, v3, v4⟩) = qa at GN ⊢
            obtain ⟨u0, u1, u2, u3, u4⟩ := u
            obtain ⟨a0, a1, a2, a3, a4⟩ := hua
            generalize hqb : veq ⟨u0, u1, u2, u3, u4⟩ ⟨v0, v1, v2, v3, v4⟩ = qb at GN
            clear fat hik hrk n0 n1 huk hru hqa
            cases qa with
            | true =>
              clear hqb
              go_wp2_with fail
              refine wp_region_uni (S := (fun w' => Bel wr w' ∧ (∀ b o, b < wr.heap.size → w'.cell? ⟨b, o, none⟩ = wr.cell? ⟨b, o, none⟩))) (by kernel_rfl) (by kernel_rfl) keep0 ?_
              repeat (first | (refine wpUni_skip (by rfl) ?_; (try simp only [Act.put, List.setIfInBounds_toArray, List.set_cons_zero, List.set_cons_succ]))
                                                            | (refine wpUni_value (by rfl) (fun w hS => by (try dsimp only at hS); go_simp; first | done | with_reducible rfl) ?_; (try simp only [Act.put, List.setIfInBounds_toArray, List.set_cons_zero, List.set_cons_succ])))
              refine wpUni_nil fun X1 hS => ?_
              replace hb := hb.trans hS.1
              clear hS
              go_wp2_with fail
              go_roundg (l.length - (k + 1))
              case measure => have := hh.out; omega
              case rel => exact ⟨k + 1, by go_num, by rw [GN.out]; rfl, by omega, rfl, hb⟩
            | false =>
              go_wp2_with fail
              refine wp_region_uni (S := (fun w' => Bel wr w' ∧ (∀ b o, b < wr.heap.size → w'.cell? ⟨b, o, none⟩ = wr.cell? ⟨b, o, none⟩))) (by kernel_rfl) (by kernel_rfl) keep0 ?_
              repeat (first | (refine wpUni_skip (by rfl) ?_; (try simp only [Act.put, List.setIfInBounds_toArray, List.set_cons_zero, List.set_cons_succ]))
                                                            | (refine wpUni_value (by rfl) (fun w hS => by (try dsimp only at hS); go_simp; first | done | with_reducible rfl) ?_; (try simp only [Act.put, List.setIfInBounds_toArray, List.set_cons_zero, List.set_cons_succ])))
              refine wpUni_nil fun X1 hS => ?_
              replace hb := hb.trans hS.1
              clear hS
              go_wp2_with fail
              go_roundg (l.length - (k + 1))
              case measure => have := hh.out; omega
              case rel => exact ⟨k + 1, by go_num, by rw [GN.out]; rfl, by omega, rfl, hb⟩
          · obtain rfl : k = l.length := by omega
            have ET := Lib.hid (show (veq ⟨v0, v1, v2, v3, v4⟩ ⟨0, 0, 0, ⟨#[]⟩, 0⟩ || (r.take l.length).any fun u => veq u ⟨v0, v1, v2, v3, v4⟩) = true from by
              rcases AM.out.1 with h | h
              · rw [h]; rw [show veq nul ⟨0, 0, 0, ⟨#[]⟩, 0⟩ = true from q_same _]; rfl
              · rw [List.take_of_length_le (by rw [PLN.out]; exact Nat.le_refl _), Bool.or_eq_true]
                refine .inr (List.any_eq_true.2 ⟨_, h, q_same _⟩))
            rw [ET.out]
            obtain ⟨n, hik⟩ : ∃ n, l[0]? = some n := ⟨_, List.getElem?_eq_getElem (by omega)⟩
            obtain ⟨hrk, n0, n1⟩ := PIK.out 0 n hik
            obtain ⟨ab, ao, rfl, alt, aat⟩ := HA.out (by omega)
            have hln : 0 < (nums l).length := by rw [show (nums l).length = l.length by simp [nums]]; omega
            obtain ⟨fb, fo, rfl, flt, fat⟩ := HF.out hln
            have hfa := (hbx.cells _ _ flt).trans (fat 0 _ (show (nums l)[0]? = some (.int .i64 n) by simp [nums, hik]))
            rw [Nat.add_zero] at hfa
            obtain ⟨m', rfl⟩ : ∃ m' : Nat, n = m' := ⟨n.toNat, by omega⟩
            have hml : m' < outs.length := by omega
            obtain ⟨u, huk⟩ : ∃ u, outs[m']? = some u := ⟨_, List.getElem?_eq_getElem hml⟩
            have hru : r[0]? = some u := by rw [hrk]; simp [huk]
            have hua := (aat m' u huk).keep hbw alt
            have lt1 := Nat.lt_of_lt_of_le flt hbx.size
            have lt2 := Nat.lt_of_lt_of_le alt hbw.size
            have m1 : (m' : Int) < outs.length := by omega
            have m0 : (0 : Int) ≤ (m' : Int) := by omega
            have k1 : (0 : Int) < l.length := by omega
            have EV := Lib.hid (show l.length ≤ 1 → veq ⟨v0, v1, v2, v3, v4⟩ u = true from fun h => by
              rw [AM.out.2 (by rw [PLN.out]; exact h), veq_iff]
              cases r with
              | nil => simp at hru
              | cons y ys => simp only [List.getElem?_cons_zero, Option.some.injEq] at hru; exact hru)
            obtain ⟨u0, u1, u2, u3, u4⟩ := u
            obtain ⟨a0, a1, a2, a3, a4⟩ := hua
            clear fat hik hrk n0 n1 huk hru
            by_cases h1 : 1 < l.length
            · have e1 : (1 : Int) < l.length := by omega
              have e2 : decide ((1 : Int) < l.length) = true := decide_eq_true e1
              go_wp2_with fail
              refine wp_region_uni (S := (fun w' => Bel wr w' ∧ (∀ b o, b < wr.heap.size → w'.cell? ⟨b, o, none⟩ = wr.cell? ⟨b, o, none⟩))) (by kernel_rfl) (by kernel_rfl) keep0 ?_
              repeat (first | (refine wpUni_skip (by rfl) ?_; (try simp only [Act.put, List.setIfInBounds_toArray, List.set_cons_zero, List.set_cons_succ]))
                                                            | (refine wpUni_value (by rfl) (fun w hS => by (try dsimp only at hS); go_simp; first | done | with_reducible rfl) ?_; (try simp only [Act.put, List.setIfInBounds_toArray, List.set_cons_zero, List.set_cons_succ])))
              refine wpUni_nil fun X1 hS => ?_
              replace hbw := hbw.trans hS.1
              clear hS
              go_wp2_with fail
              go_ret
              exact ⟨by simp, hbw⟩
            · have q5 := EV.out (by omega)
              have hl1 : l.length = 1 := by omega
              rw [hl1]
              go_wp2_with fail
              refine wp_region_uni (S := (fun w' => Bel wr w' ∧ (∀ b o, b < wr.heap.size → w'.cell? ⟨b, o, none⟩ = wr.cell? ⟨b, o, none⟩))) (by kernel_rfl) (by kernel_rfl) keep0 ?_
              repeat (first | (refine wpUni_skip (by rfl) ?_; (try simp only [Act.put, List.setIfInBounds_toArray, List.set_cons_zero, List.set_cons_succ]))
                                                            | (refine wpUni_value (by rfl) (fun w hS => by (try dsimp only at hS); go_simp; first | done | with_reducible rfl) ?_; (try simp only [Act.put, List.setIfInBounds_toArray, List.set_cons_zero, List.set_cons_succ])))
              refine wpUni_nil fun X1 hS => ?_
              replace hbw := hbw.trans hS.1
              clear hS
              go_wp2_with fail
              go_ret
              exact ⟨by simp [q5], hbw⟩
  · rw [k6] at kt
    go_enter Try.func4, Try.ntmps4
    go_upto_region 3 with (go_at_call 14; refine Calls.mono (C1.out _) ?_; rintro e W1 ⟨vl, l, rfl, hl, hr, hn, hb1⟩)
    generalize hg : wrap64 (((⟨#[85, 65, 80, 70, 60, 62]⟩ : ByteArray)[1].toNat : Nat) : Int) = P
    have hP : amongP P := by
      have e : P = 65 := hg.symm.trans (by decide +kernel)
      rw [e]; simp [amongP]
    obtain ⟨F, f, rfl, hF, _⟩ := hl.ints
    have HF := Lib.hid hF
    have HP := Lib.hid hP
    have HR := Lib.hid hr
    have KO := Lib.hid (fun W F f (hF : Ints W F l) hW => CO.out P l F f W hr hn hF hW)
    rw [outR_among hP _ _ _ _ hr] at KO
    obtain ⟨q, hq⟩ : ∃ q, q = (outs.all vsnd && (order.all vsnd && vsnd ⟨3, 0, 0, ⟨#[]⟩, 0⟩)) := ⟨_, rfl⟩
    rw [← hq] at KO
    have HQ := Lib.hid hq
    have hli : (l.length : Int) ≤ 16 := by omega
    clear hg hP hl hF hr hq CO
    have tk : True := trivial
    cases q with
    | false =>
      simp only [Bool.false_eq_true, if_false, Val.val, nul] at KO
      go_wp2_with (first
        | (go_at_call 9; with_reducible refine Calls.mono (KO.out _ F f HF.out hb1) ?_; rintro e W2 ⟨rfl, hb2⟩)
        | (go_at_call 11; have _u := tk; clear _u tk; with_reducible refine Calls.mono (C5.out _) ?_; rintro e W3 ⟨rfl, hb3⟩; have S1 := (sl5_new W2 0 0 0 ⟨#[]⟩ 0).keep hb3; replace hb3 := (hb2.alloc _).trans hb3)
        | (go_at_call 11; with_reducible refine Calls.mono (C5.out _) ?_; rintro e W4 ⟨rfl, hb4⟩; replace S1 := S1.keep hb4; replace hb3 := hb3.trans hb4))
      go_ret
      exact ⟨by simp, hb1.trans hb3⟩
    | true =>
      by_cases hl0 : l.length = 0
      · rw [hl0] at KO ⊢
        simp only [if_true, Val.val] at KO
        have q1 : veq ⟨3, 0, 0, ⟨#[]⟩, 0⟩ ⟨3, 0, 0, ⟨#[]⟩, 0⟩ = true := q_same _
        go_wp2_with (first
          | (go_at_call 9; with_reducible refine Calls.mono (KO.out _ F f HF.out hb1) ?_; rintro e W2 ⟨rfl, hb2⟩)
          | (go_at_call 11; have _u := tk; clear _u tk; with_reducible refine Calls.mono (C5.out _) ?_; rintro e W3 ⟨rfl, hb3⟩; have S1 := (sl5_new W2 3 0 0 ⟨#[]⟩ 0).keep hb3; replace hb3 := (hb2.alloc _).trans hb3)
          | (go_at_call 11; with_reducible refine Calls.mono (C5.out _) ?_; rintro e W4 ⟨rfl, hb4⟩; replace S1 := S1.keep hb4; replace hb3 := hb3.trans hb4))
        go_ret
        exact ⟨by simp [q1], hb1.trans hb3⟩
      · have el0 : ((l.length : Int) == 0) = false := beq_eq_false_iff_ne.2 (by omega)
        simp only [if_true, if_neg hl0, Val.val] at KO
        have PLN := Lib.hid (show (picks outs l).length = l.length from by unfold picks; rw [List.length_map])
        have AM := Lib.hid (outF_among HP.out (r := picks outs l) (order := order) (by rw [PLN.out]; omega) (picks_mem HR.out (List.all_eq_true.1 (by have := HQ.out; simp at this; exact List.all_eq_true.2 this.1))))
        have PIK := Lib.hid (show ∀ (k : Nat) (i : Int), l[k]? = some i → (picks outs l)[k]? = some (outs.getD i.toNat nul) ∧ 0 ≤ i ∧ i < outs.length from fun k i h => ⟨picks_at h, (risF_mem HR.out i (List.mem_of_getElem? h))⟩)
        generalize outF P (picks outs l) order = X at KO AM
        generalize picks outs l = r at *
        obtain ⟨v0, v1, v2, v3, v4⟩ := X
        simp only at KO
        go_wp2_with (first
          | (go_at_call 9; with_reducible refine Calls.mono (KO.out _ F f HF.out hb1) ?_; rintro e W2 ⟨rfl, hb2⟩)
          | (go_at_call 11; have _u := tk; clear _u tk; with_reducible refine Calls.mono (C5.out _) ?_; rintro e W3 ⟨rfl, hb3⟩; have S1 := (sl5_new W2 v0 v1 v2 v3 v4).keep hb3; replace hb3 := (hb2.alloc _).trans hb3))
        obtain ⟨s10, ⟨s11, s12, s13, s14, s15⟩, _⟩ := S1
        have SS := Lib.hid (show ∀ wr, Bel W3 wr → W2.heap.size < wr.heap.size ∧ wr.cell? ⟨W2.heap.size, 0, none⟩ = some (.int .i64 v0) ∧ wr.cell? ⟨W2.heap.size, 1, none⟩ = some (.int .i64 v1) ∧ wr.cell? ⟨W2.heap.size, 2, none⟩ = some (.int .i64 v2) ∧ wr.cell? ⟨W2.heap.size, 3, none⟩ = some (.string v3) ∧ wr.cell? ⟨W2.heap.size, 4, none⟩ = some (.int .i64 v4) from fun wr hW => ⟨Nat.lt_of_lt_of_le s10 hW.size, (hW.cells _ _ s10).trans s11, (hW.cells _ _ s10).trans s12, (hW.cells _ _ s10).trans s13, (hW.cells _ _ s10).trans s14, (hW.cells _ _ s10).trans s15⟩)
        clear s11 s12 s13 s14 s15
        go_loopg [13, 14] l.length (fun g s13 s14 wr => ∃ k : Nat, s14 = .int .i64 k ∧ s13 = .bool (veq ⟨v0, v1, v2, v3, v4⟩ ⟨0, 0, 0, ⟨#[]⟩, 0⟩ || (r.take k).any fun u => veq u ⟨v0, v1, v2, v3, v4⟩) ∧ k ≤ l.length ∧ Hid (g = l.length - k) ∧ Bel W3 wr)
        case atStart => exact ⟨0, rfl, by simp, Nat.zero_le _, rfl, Bel.refl _⟩
        case round =>
          obtain ⟨k, rfl, rfl, hk, hh, hb⟩ := hrel
          have hbx := hb3.trans hb
          have hbw := hb1.trans hbx
          obtain ⟨t0, t1, t2, t3, t4, t5⟩ := SS.out wr hb
          by_cases hkp : k < l.length
          · obtain ⟨ab, ao, rfl, alt, aat⟩ := HA.out (by
              obtain ⟨n, hik⟩ : ∃ n, l[k]? = some n := ⟨_, List.getElem?_eq_getElem hkp⟩
              have := (PIK.out k n hik).2
              omega)
            have hln : 0 < (nums l).length := by rw [show (nums l).length = l.length by simp [nums]]; omega
            obtain ⟨fb, fo, rfl, flt, fat⟩ := HF.out hln
            obtain ⟨n, hik⟩ : ∃ n, l[k]? = some n := ⟨_, List.getElem?_eq_getElem hkp⟩
            have hfa := (hbx.cells _ _ flt).trans (fat k _ (show (nums l)[k]? = some (.int .i64 n) by simp [nums, hik]))
            obtain ⟨hrk, n0, n1⟩ := PIK.out k n hik
            obtain ⟨m', rfl⟩ : ∃ m' : Nat, n = m' := ⟨n.toNat, by omega⟩
            have hml : m' < outs.length := by omega
            obtain ⟨u, huk⟩ : ∃ u, outs[m']? = some u := ⟨_, List.getElem?_eq_getElem hml⟩
            have hru : r[k]? = some u := by rw [hrk]; simp [huk]
            have hua := (aat m' u huk).keep hbw alt
            have lt1 := Nat.lt_of_lt_of_le flt hbx.size
            have lt2 := Nat.lt_of_lt_of_le alt hbw.size
            have k1 : (k : Int) < l.length := by omega
            have k0 : (0 : Int) ≤ (k : Int) := by omega
            have m1 : (m' : Int) < outs.length := by omega
            have m0 : (0 : Int) ≤ (m' : Int) := by omega
            have GN := Lib.hid (show (veq ⟨v0, v1, v2, v3, v4⟩ ⟨0, 0, 0, ⟨#[]⟩, 0⟩ || (r.take (k + 1)).any fun u => veq u ⟨v0, v1, v2, v3, v4⟩) = ((veq ⟨v0, v1, v2, v3, v4⟩ ⟨0, 0, 0, ⟨#[]⟩, 0⟩ || (r.take k).any fun u => veq u ⟨v0, v1, v2, v3, v4⟩) || veq u ⟨v0, v1, v2, v3, v4⟩) from by
              rw [List.take_add_one, hru, List.any_append, Bool.or_assoc]; simp)
            generalize hqa : (veq ⟨v0, v1, v2, v3, v4⟩ ⟨0, 0, 0, ⟨#[]⟩, 0⟩ || (r.take k).any fun u => veq u ⟨v0, v1, v2, v3, v4⟩) = qa at GN ⊢
            obtain ⟨u0, u1, u2, u3, u4⟩ := u
            obtain ⟨a0, a1, a2, a3, a4⟩ := hua
            generalize hqb : veq ⟨u0, u1, u2, u3, u4⟩ ⟨v0, v1, v2, v3, v4⟩ = qb at GN
            clear fat hik hrk n0 n1 huk hru hqa
            cases qa with
            | true =>
              clear hqb
              go_wp2_with fail
              refine wp_region_uni (S := (fun w' => Bel wr w' ∧ (∀ b o, b < wr.heap.size → w'.cell? ⟨b, o, none⟩ = wr.cell? ⟨b, o, none⟩))) (by kernel_rfl) (by kernel_rfl) keep0 ?_
              repeat (first | (refine wpUni_skip (by rfl) ?_; (try simp only [Act.put, List.setIfInBounds_toArray, List.set_cons_zero, List.set_cons_succ]))
                                                            | (refine wpUni_value (by rfl) (fun w hS => by (try dsimp only at hS); go_simp; first | done | with_reducible rfl) ?_; (try simp only [Act.put, List.setIfInBounds_toArray, List.set_cons_zero, List.set_cons_succ])))
              refine wpUni_nil fun X1 hS => ?_
              replace hb := hb.trans hS.1
              clear hS
              go_wp2_with fail
              go_roundg (l.length - (k + 1))
              case measure => have := hh.out; omega
              case rel => exact ⟨k + 1, by go_num, by rw [GN.out]; rfl, by omega, rfl, hb⟩
            | false =>
              go_wp2_with fail
              refine wp_region_uni (S := (fun w' => Bel wr w' ∧ (∀ b o, b < wr.heap.size → w'.cell? ⟨b, o, none⟩ = wr.cell? ⟨b, o, none⟩))) (by kernel_rfl) (by kernel_rfl) keep0 ?_
              repeat (first | (refine wpUni_skip (by rfl) ?_; (try simp only [Act.put, List.setIfInBounds_toArray, List.set_cons_zero, List.set_cons_succ]))
                                                            | (refine wpUni_value (by rfl) (fun w hS => by (try dsimp only at hS); go_simp; first | done | with_reducible rfl) ?_; (try simp only [Act.put, List.setIfInBounds_toArray, List.set_cons_zero, List.set_cons_succ])))
              refine wpUni_nil fun X1 hS => ?_
              replace hb := hb.trans hS.1
              clear hS
              go_wp2_with fail
              go_roundg (l.length - (k + 1))
              case measure => have := hh.out; omega
              case rel => exact ⟨k + 1, by go_num, by rw [GN.out]; rfl, by omega, rfl, hb⟩
          · obtain rfl : k = l.length := by omega
            have ET := Lib.hid (show (veq ⟨v0, v1, v2, v3, v4⟩ ⟨0, 0, 0, ⟨#[]⟩, 0⟩ || (r.take l.length).any fun u => veq u ⟨v0, v1, v2, v3, v4⟩) = true from by
              rcases AM.out.1 with h | h
              · rw [h]; rw [show veq nul ⟨0, 0, 0, ⟨#[]⟩, 0⟩ = true from q_same _]; rfl
              · rw [List.take_of_length_le (by rw [PLN.out]; exact Nat.le_refl _), Bool.or_eq_true]
                refine .inr (List.any_eq_true.2 ⟨_, h, q_same _⟩))
            rw [ET.out]
            obtain ⟨n, hik⟩ : ∃ n, l[0]? = some n := ⟨_, List.getElem?_eq_getElem (by omega)⟩
            obtain ⟨hrk, n0, n1⟩ := PIK.out 0 n hik
            obtain ⟨ab, ao, rfl, alt, aat⟩ := HA.out (by omega)
            have hln : 0 < (nums l).length := by rw [show (nums l).length = l.length by simp [nums]]; omega
            obtain ⟨fb, fo, rfl, flt, fat⟩ := HF.out hln
            have hfa := (hbx.cells _ _ flt).trans (fat 0 _ (show (nums l)[0]? = some (.int .i64 n) by simp [nums, hik]))
            rw [Nat.add_zero] at hfa
            obtain ⟨m', rfl⟩ : ∃ m' : Nat, n = m' := ⟨n.toNat, by omega⟩
            have hml : m' < outs.length := by omega
            obtain ⟨u, huk⟩ : ∃ u, outs[m']? = some u := ⟨_, List.getElem?_eq_getElem hml⟩
            have hru : r[0]? = some u := by rw [hrk]; simp [huk]
            have hua := (aat m' u huk).keep hbw alt
            have lt1 := Nat.lt_of_lt_of_le flt hbx.size
            have lt2 := Nat.lt_of_lt_of_le alt hbw.size
            have m1 : (m' : Int) < outs.length := by omega
            have m0 : (0 : Int) ≤ (m' : Int) := by omega
            have k1 : (0 : Int) < l.length := by omega
            have EV := Lib.hid (show l.length ≤ 1 → veq ⟨v0, v1, v2, v3, v4⟩ u = true from fun h => by
              rw [AM.out.2 (by rw [PLN.out]; exact h), veq_iff]
              cases r with
              | nil => simp at hru
              | cons y ys => simp only [List.getElem?_cons_zero, Option.some.injEq] at hru; exact hru)
            obtain ⟨u0, u1, u2, u3, u4⟩ := u
            obtain ⟨a0, a1, a2, a3, a4⟩ := hua
            clear fat hik hrk n0 n1 huk hru
            by_cases h1 : 1 < l.length
            · have e1 : (1 : Int) < l.length := by omega
              have e2 : decide ((1 : Int) < l.length) = true := decide_eq_true e1
              go_wp2_with fail
              refine wp_region_uni (S := (fun w' => Bel wr w' ∧ (∀ b o, b < wr.heap.size → w'.cell? ⟨b, o, none⟩ = wr.cell? ⟨b, o, none⟩))) (by kernel_rfl) (by kernel_rfl) keep0 ?_
              repeat (first | (refine wpUni_skip (by rfl) ?_; (try simp only [Act.put, List.setIfInBounds_toArray, List.set_cons_zero, List.set_cons_succ]))
                                                            | (refine wpUni_value (by rfl) (fun w hS => by (try dsimp only at hS); go_simp; first | done | with_reducible rfl) ?_; (try simp only [Act.put, List.setIfInBounds_toArray, List.set_cons_zero, List.set_cons_succ])))
              refine wpUni_nil fun X1 hS => ?_
              replace hbw := hbw.trans hS.1
              clear hS
              go_wp2_with fail
              go_ret
              exact ⟨by simp, hbw⟩
            · have q5 := EV.out (by omega)
              have hl1 : l.length = 1 := by omega
              rw [hl1]
              go_wp2_with fail
              refine wp_region_uni (S := (fun w' => Bel wr w' ∧ (∀ b o, b < wr.heap.size → w'.cell? ⟨b, o, none⟩ = wr.cell? ⟨b, o, none⟩))) (by kernel_rfl) (by kernel_rfl) keep0 ?_
              repeat (first | (refine wpUni_skip (by rfl) ?_; (try simp only [Act.put, List.setIfInBounds_toArray, List.set_cons_zero, List.set_cons_succ]))
                                                            | (refine wpUni_value (by rfl) (fun w hS => by (try dsimp only at hS); go_simp; first | done | with_reducible rfl) ?_; (try simp only [Act.put, List.setIfInBounds_toArray, List.set_cons_zero, List.set_cons_succ])))
              refine wpUni_nil fun X1 hS => ?_
              replace hbw := hbw.trans hS.1
              clear hS
              go_wp2_with fail
              go_ret
              exact ⟨by simp [q5], hbw⟩
  · rw [k6] at kt
    go_enter Try.func4, Try.ntmps4
    go_upto_region 3 with (go_at_call 14; refine Calls.mono (C1.out _) ?_; rintro e W1 ⟨vl, l, rfl, hl, hr, hn, hb1⟩)
    generalize hg : wrap64 (((⟨#[85, 65, 80, 70, 60, 62]⟩ : ByteArray)[2].toNat : Nat) : Int) = P
    have hP : amongP P := by
      have e : P = 80 := hg.symm.trans (by decide +kernel)
      rw [e]; simp [amongP]
    obtain ⟨F, f, rfl, hF, _⟩ := hl.ints
    have HF := Lib.hid hF
    have HP := Lib.hid hP
    have HR := Lib.hid hr
    have KO := Lib.hid (fun W F f (hF : Ints W F l) hW => CO.out P l F f W hr hn hF hW)
    rw [outR_among hP _ _ _ _ hr] at KO
    obtain ⟨q, hq⟩ : ∃ q, q = (outs.all vsnd && (order.all vsnd && vsnd ⟨3, 0, 0, ⟨#[]⟩, 0⟩)) := ⟨_, rfl⟩
    rw [← hq] at KO
    have HQ := Lib.hid hq
    have hli : (l.length : Int) ≤ 16 := by omega
    clear hg hP hl hF hr hq CO
    have tk : True := trivial
    cases q with
    | false =>
      simp only [Bool.false_eq_true, if_false, Val.val, nul] at KO
      go_wp2_with (first
        | (go_at_call 9; with_reducible refine Calls.mono (KO.out _ F f HF.out hb1) ?_; rintro e W2 ⟨rfl, hb2⟩)
        | (go_at_call 11; have _u := tk; clear _u tk; with_reducible refine Calls.mono (C5.out _) ?_; rintro e W3 ⟨rfl, hb3⟩; have S1 := (sl5_new W2 0 0 0 ⟨#[]⟩ 0).keep hb3; replace hb3 := (hb2.alloc _).trans hb3)
        | (go_at_call 11; with_reducible refine Calls.mono (C5.out _) ?_; rintro e W4 ⟨rfl, hb4⟩; replace S1 := S1.keep hb4; replace hb3 := hb3.trans hb4))
      go_ret
      exact ⟨by simp, hb1.trans hb3⟩
    | true =>
      by_cases hl0 : l.length = 0
      · rw [hl0] at KO ⊢
        simp only [if_true, Val.val] at KO
        have q1 : veq ⟨3, 0, 0, ⟨#[]⟩, 0⟩ ⟨3, 0, 0, ⟨#[]⟩, 0⟩ = true := q_same _
        go_wp2_with (first
          | (go_at_call 9; with_reducible refine Calls.mono (KO.out _ F f HF.out hb1) ?_; rintro e W2 ⟨rfl, hb2⟩)
          | (go_at_call 11; have _u := tk; clear _u tk; with_reducible refine Calls.mono (C5.out _) ?_; rintro e W3 ⟨rfl, hb3⟩; have S1 := (sl5_new W2 3 0 0 ⟨#[]⟩ 0).keep hb3; replace hb3 := (hb2.alloc _).trans hb3)
          | (go_at_call 11; with_reducible refine Calls.mono (C5.out _) ?_; rintro e W4 ⟨rfl, hb4⟩; replace S1 := S1.keep hb4; replace hb3 := hb3.trans hb4))
        go_ret
        exact ⟨by simp [q1], hb1.trans hb3⟩
      · have el0 : ((l.length : Int) == 0) = false := beq_eq_false_iff_ne.2 (by omega)
        simp only [if_true, if_neg hl0, Val.val] at KO
        have PLN := Lib.hid (show (picks outs l).length = l.length from by unfold picks; rw [List.length_map])
        have AM := Lib.hid (outF_among HP.out (r := picks outs l) (order := order) (by rw [PLN.out]; omega) (picks_mem HR.out (List.all_eq_true.1 (by have := HQ.out; simp at this; exact List.all_eq_true.2 this.1))))
        have PIK := Lib.hid (show ∀ (k : Nat) (i : Int), l[k]? = some i → (picks outs l)[k]? = some (outs.getD i.toNat nul) ∧ 0 ≤ i ∧ i < outs.length from fun k i h => ⟨picks_at h, (risF_mem HR.out i (List.mem_of_getElem? h))⟩)
        generalize outF P (picks outs l) order = X at KO AM
        generalize picks outs l = r at *
        obtain ⟨v0, v1, v2, v3, v4⟩ := X
        simp only at KO
        go_wp2_with (first
          | (go_at_call 9; with_reducible refine Calls.mono (KO.out _ F f HF.out hb1) ?_; rintro e W2 ⟨rfl, hb2⟩)
          | (go_at_call 11; have _u := tk; clear _u tk; with_reducible refine Calls.mono (C5.out _) ?_; rintro e W3 ⟨rfl, hb3⟩; have S1 := (sl5_new W2 v0 v1 v2 v3 v4).keep hb3; replace hb3 := (hb2.alloc _).trans hb3))
        obtain ⟨s10, ⟨s11, s12, s13, s14, s15⟩, _⟩ := S1
        have SS := Lib.hid (show ∀ wr, Bel W3 wr → W2.heap.size < wr.heap.size ∧ wr.cell? ⟨W2.heap.size, 0, none⟩ = some (.int .i64 v0) ∧ wr.cell? ⟨W2.heap.size, 1, none⟩ = some (.int .i64 v1) ∧ wr.cell? ⟨W2.heap.size, 2, none⟩ = some (.int .i64 v2) ∧ wr.cell? ⟨W2.heap.size, 3, none⟩ = some (.string v3) ∧ wr.cell? ⟨W2.heap.size, 4, none⟩ = some (.int .i64 v4) from fun wr hW => ⟨Nat.lt_of_lt_of_le s10 hW.size, (hW.cells _ _ s10).trans s11, (hW.cells _ _ s10).trans s12, (hW.cells _ _ s10).trans s13, (hW.cells _ _ s10).trans s14, (hW.cells _ _ s10).trans s15⟩)
        clear s11 s12 s13 s14 s15
        go_loopg [13, 14] l.length (fun g s13 s14 wr => ∃ k : Nat, s14 = .int .i64 k ∧ s13 = .bool (veq ⟨v0, v1, v2, v3, v4⟩ ⟨0, 0, 0, ⟨#[]⟩, 0⟩ || (r.take k).any fun u => veq u ⟨v0, v1, v2, v3, v4⟩) ∧ k ≤ l.length ∧ Hid (g = l.length - k) ∧ Bel W3 wr)
        case atStart => exact ⟨0, rfl, by simp, Nat.zero_le _, rfl, Bel.refl _⟩
        case round =>
          obtain ⟨k, rfl, rfl, hk, hh, hb⟩ := hrel
          have hbx := hb3.trans hb
          have hbw := hb1.trans hbx
          obtain ⟨t0, t1, t2, t3, t4, t5⟩ := SS.out wr hb
          by_cases hkp : k < l.length
          · obtain ⟨ab, ao, rfl, alt, aat⟩ := HA.out (by
              obtain ⟨n, hik⟩ : ∃ n, l[k]? = some n := ⟨_, List.getElem?_eq_getElem hkp⟩
              have := (PIK.out k n hik).2
              omega)
            have hln : 0 < (nums l).length := by rw [show (nums l).length = l.length by simp [nums]]; omega
            obtain ⟨fb, fo, rfl, flt, fat⟩ := HF.out hln
            obtain ⟨n, hik⟩ : ∃ n, l[k]? = some n := ⟨_, List.getElem?_eq_getElem hkp⟩
            have hfa := (hbx.cells _ _ flt).trans (fat k _ (show (nums l)[k]? = some (.int .i64 n) by simp [nums, hik]))
            obtain ⟨hrk, n0, n1⟩ := PIK.out k n hik
            obtain ⟨m', rfl⟩ : ∃ m' : Nat, n = m' := ⟨n.toNat, by omega⟩
            have hml : m' < outs.length := by omega
            obtain ⟨u, huk⟩ : ∃ u, outs[m']? = some u := ⟨_, List.getElem?_eq_getElem hml⟩
            have hru : r[k]? = some u := by rw [hrk]; simp [huk]
            have hua := (aat m' u huk).keep hbw alt
            have lt1 := Nat.lt_of_lt_of_le flt hbx.size
            have lt2 := Nat.lt_of_lt_of_le alt hbw.size
            have k1 : (k : Int) < l.length := by omega
            have k0 : (0 : Int) ≤ (k : Int) := by omega
            have m1 : (m' : Int) < outs.length := by omega
            have m0 : (0 : Int) ≤ (m' : Int) := by omega
            have GN := Lib.hid (show (veq ⟨v0, v1, v2, v3, v4⟩ ⟨0, 0, 0, ⟨#[]⟩, 0⟩ || (r.take (k + 1)).any fun u => veq u ⟨v0, v1, v2, v3, v4⟩) = ((veq ⟨v0, v1, v2, v3, v4⟩ ⟨0, 0, 0, ⟨#[]⟩, 0⟩ || (r.take k).any fun u => veq u ⟨v0, v1, v2, v3, v4⟩) || veq u ⟨v0, v1, v2, v3, v4⟩) from by
              rw [List.take_add_one, hru, List.any_append, Bool.or_assoc]; simp)
            generalize hqa : (veq ⟨v0, v1, v2, v3, v4⟩ ⟨0, 0, 0, ⟨#[]⟩, 0⟩ || (r.take k).any fun u => veq u ⟨v0, v1, v2, v3, v4⟩) = qa at GN ⊢
            obtain ⟨u0, u1, u2, u3, u4⟩ := u
            obtain ⟨a0, a1, a2, a3, a4⟩ := hua
            generalize hqb : veq ⟨u0, u1, u2, u3, u4⟩ ⟨v0, v1, v2, v3, v4⟩ = qb at GN
            clear fat hik hrk n0 n1 huk hru hqa
            cases qa with
            | true =>
              clear hqb
              go_wp2_with fail
              refine wp_region_uni (S := (fun w' => Bel wr w' ∧ (∀ b o, b < wr.heap.size → w'.cell? ⟨b, o, none⟩ = wr.cell? ⟨b, o, none⟩))) (by kernel_rfl) (by kernel_rfl) keep0 ?_
              repeat (first | (refine wpUni_skip (by rfl) ?_; (try simp only [Act.put, List.setIfInBounds_toArray, List.set_cons_zero, List.set_cons_succ]))
                                                            | (refine wpUni_value (by rfl) (fun w hS => by (try dsimp only at hS); go_simp; first | done | with_reducible rfl) ?_; (try simp only [Act.put, List.setIfInBounds_toArray, List.set_cons_zero, List.set_cons_succ])))
              refine wpUni_nil fun X1 hS => ?_
              replace hb := hb.trans hS.1
              clear hS
              go_wp2_with fail
              go_roundg (l.length - (k + 1))
              case measure => have := hh.out; omega
              case rel => exact ⟨k + 1, by go_num, by rw [GN.out]; rfl, by omega, rfl, hb⟩
            | false =>
              go_wp2_with fail
              refine wp_region_uni (S := (fun w' => Bel wr w' ∧ (∀ b o, b < wr.heap.size → w'.cell? ⟨b, o, none⟩ = wr.cell? ⟨b, o, none⟩))) (by kernel_rfl) (by kernel_rfl) keep0 ?_
              repeat (first | (refine wpUni_skip (by rfl) ?_; (try simp only [Act.put, List.setIfInBounds_toArray, List.set_cons_zero, List.set_cons_succ]))
                                                            | (refine wpUni_value (by rfl) (fun w hS => by (try dsimp only at hS); go_simp; first | done | with_reducible rfl) ?_; (try simp only [Act.put, List.setIfInBounds_toArray, List.set_cons_zero, List.set_cons_succ])))
              refine wpUni_nil fun X1 hS => ?_
              replace hb := hb.trans hS.1
              clear hS
              go_wp2_with fail
              go_roundg (l.length - (k + 1))
              case measure => have := hh.out; omega
              case rel => exact ⟨k + 1, by go_num, by rw [GN.out]; rfl, by omega, rfl, hb⟩
          · obtain rfl : k = l.length := by omega
            have ET := Lib.hid (show (veq ⟨v0, v1, v2, v3, v4⟩ ⟨0, 0, 0, ⟨#[]⟩, 0⟩ || (r.take l.length).any fun u => veq u ⟨v0, v1, v2, v3, v4⟩) = true from by
              rcases AM.out.1 with h | h
              · rw [h]; rw [show veq nul ⟨0, 0, 0, ⟨#[]⟩, 0⟩ = true from q_same _]; rfl
              · rw [List.take_of_length_le (by rw [PLN.out]; exact Nat.le_refl _), Bool.or_eq_true]
                refine .inr (List.any_eq_true.2 ⟨_, h, q_same _⟩))
            rw [ET.out]
            obtain ⟨n, hik⟩ : ∃ n, l[0]? = some n := ⟨_, List.getElem?_eq_getElem (by omega)⟩
            obtain ⟨hrk, n0, n1⟩ := PIK.out 0 n hik
            obtain ⟨ab, ao, rfl, alt, aat⟩ := HA.out (by omega)
            have hln : 0 < (nums l).length := by rw [show (nums l).length = l.length by simp [nums]]; omega
            obtain ⟨fb, fo, rfl, flt, fat⟩ := HF.out hln
            have hfa := (hbx.cells _ _ flt).trans (fat 0 _ (show (nums l)[0]? = some (.int .i64 n) by simp [nums, hik]))
            rw [Nat.add_zero] at hfa
            obtain ⟨m', rfl⟩ : ∃ m' : Nat, n = m' := ⟨n.toNat, by omega⟩
            have hml : m' < outs.length := by omega
            obtain ⟨u, huk⟩ : ∃ u, outs[m']? = some u := ⟨_, List.getElem?_eq_getElem hml⟩
            have hru : r[0]? = some u := by rw [hrk]; simp [huk]
            have hua := (aat m' u huk).keep hbw alt
            have lt1 := Nat.lt_of_lt_of_le flt hbx.size
            have lt2 := Nat.lt_of_lt_of_le alt hbw.size
            have m1 : (m' : Int) < outs.length := by omega
            have m0 : (0 : Int) ≤ (m' : Int) := by omega
            have k1 : (0 : Int) < l.length := by omega
            have EV := Lib.hid (show l.length ≤ 1 → veq ⟨v0, v1, v2, v3, v4⟩ u = true from fun h => by
              rw [AM.out.2 (by rw [PLN.out]; exact h), veq_iff]
              cases r with
              | nil => simp at hru
              | cons y ys => simp only [List.getElem?_cons_zero, Option.some.injEq] at hru; exact hru)
            obtain ⟨u0, u1, u2, u3, u4⟩ := u
            obtain ⟨a0, a1, a2, a3, a4⟩ := hua
            clear fat hik hrk n0 n1 huk hru
            by_cases h1 : 1 < l.length
            · have e1 : (1 : Int) < l.length := by omega
              have e2 : decide ((1 : Int) < l.length) = true := decide_eq_true e1
              go_wp2_with fail
              refine wp_region_uni (S := (fun w' => Bel wr w' ∧ (∀ b o, b < wr.heap.size → w'.cell? ⟨b, o, none⟩ = wr.cell? ⟨b, o, none⟩))) (by kernel_rfl) (by kernel_rfl) keep0 ?_
              repeat (first | (refine wpUni_skip (by rfl) ?_; (try simp only [Act.put, List.setIfInBounds_toArray, List.set_cons_zero, List.set_cons_succ]))
                                                            | (refine wpUni_value (by rfl) (fun w hS => by (try dsimp only at hS); go_simp; first | done | with_reducible rfl) ?_; (try simp only [Act.put, List.setIfInBounds_toArray, List.set_cons_zero, List.set_cons_succ])))
              refine wpUni_nil fun X1 hS => ?_
              replace hbw := hbw.trans hS.1
              clear hS
              go_wp2_with fail
              go_ret
              exact ⟨by simp, hbw⟩
            · have q5 := EV.out (by omega)
              have hl1 : l.length = 1 := by omega
              rw [hl1]
              go_wp2_with fail
              refine wp_region_uni (S := (fun w' => Bel wr w' ∧ (∀ b o, b < wr.heap.size → w'.cell? ⟨b, o, none⟩ = wr.cell? ⟨b, o, none⟩))) (by kernel_rfl) (by kernel_rfl) keep0 ?_
              repeat (first | (refine wpUni_skip (by rfl) ?_; (try simp only [Act.put, List.setIfInBounds_toArray, List.set_cons_zero, List.set_cons_succ]))
                                                            | (refine wpUni_value (by rfl) (fun w hS => by (try dsimp only at hS); go_simp; first | done | with_reducible rfl) ?_; (try simp only [Act.put, List.setIfInBounds_toArray, List.set_cons_zero, List.set_cons_succ])))
              refine wpUni_nil fun X1 hS => ?_
              replace hbw := hbw.trans hS.1
              clear hS
              go_wp2_with fail
              go_ret
              exact ⟨by simp [q5], hbw⟩
  · rw [k6] at kt
    go_enter Try.func4, Try.ntmps4
    go_upto_region 3 with (go_at_call 14; refine Calls.mono (C1.out _) ?_; rintro e W1 ⟨vl, l, rfl, hl, hr, hn, hb1⟩)
    generalize hg : wrap64 (((⟨#[85, 65, 80, 70, 60, 62]⟩ : ByteArray)[3].toNat : Nat) : Int) = P
    have hP : amongP P := by
      have e : P = 70 := hg.symm.trans (by decide +kernel)
      rw [e]; simp [amongP]
    obtain ⟨F, f, rfl, hF, _⟩ := hl.ints
    have HF := Lib.hid hF
    have HP := Lib.hid hP
    have HR := Lib.hid hr
    have KO := Lib.hid (fun W F f (hF : Ints W F l) hW => CO.out P l F f W hr hn hF hW)
    rw [outR_among hP _ _ _ _ hr] at KO
    obtain ⟨q, hq⟩ : ∃ q, q = (outs.all vsnd && (order.all vsnd && vsnd ⟨3, 0, 0, ⟨#[]⟩, 0⟩)) := ⟨_, rfl⟩
    rw [← hq] at KO
    have HQ := Lib.hid hq
    have hli : (l.length : Int) ≤ 16 := by omega
    clear hg hP hl hF hr hq CO
    have tk : True := trivial
    cases q with
    | false =>
      simp only [Bool.false_eq_true, if_false, Val.val, nul] at KO
      go_wp2_with (first
        | (go_at_call 9; with_reducible refine Calls.mono (KO.out _ F f HF.out hb1) ?_; rintro e W2 ⟨rfl, hb2⟩)
        | (go_at_call 11; have _u := tk; clear _u tk; with_reducible refine Calls.mono (C5.out _) ?_; rintro e W3 ⟨rfl, hb3⟩; have S1 := (sl5_new W2 0 0 0 ⟨#[]⟩ 0).keep hb3; replace hb3 := (hb2.alloc _).trans hb3)
        | (go_at_call 11; with_reducible refine Calls.mono (C5.out _) ?_; rintro e W4 ⟨rfl, hb4⟩; replace S1 := S1.keep hb4; replace hb3 := hb3.trans hb4))
      go_ret
      exact ⟨by simp, hb1.trans hb3⟩
    | true =>
      by_cases hl0 : l.length = 0
      · rw [hl0] at KO ⊢
        simp only [if_true, Val.val] at KO
        have q1 : veq ⟨3, 0, 0, ⟨#[]⟩, 0⟩ ⟨3, 0, 0, ⟨#[]⟩, 0⟩ = true := q_same _
        go_wp2_with (first
          | (go_at_call 9; with_reducible refine Calls.mono (KO.out _ F f HF.out hb1) ?_; rintro e W2 ⟨rfl, hb2⟩)
          | (go_at_call 11; have _u := tk; clear _u tk; with_reducible refine Calls.mono (C5.out _) ?_; rintro e W3 ⟨rfl, hb3⟩; have S1 := (sl5_new W2 3 0 0 ⟨#[]⟩ 0).keep hb3; replace hb3 := (hb2.alloc _).trans hb3)
          | (go_at_call 11; with_reducible refine Calls.mono (C5.out _) ?_; rintro e W4 ⟨rfl, hb4⟩; replace S1 := S1.keep hb4; replace hb3 := hb3.trans hb4))
        go_ret
        exact ⟨by simp [q1], hb1.trans hb3⟩
      · have el0 : ((l.length : Int) == 0) = false := beq_eq_false_iff_ne.2 (by omega)
        simp only [if_true, if_neg hl0, Val.val] at KO
        have PLN := Lib.hid (show (picks outs l).length = l.length from by unfold picks; rw [List.length_map])
        have AM := Lib.hid (outF_among HP.out (r := picks outs l) (order := order) (by rw [PLN.out]; omega) (picks_mem HR.out (List.all_eq_true.1 (by have := HQ.out; simp at this; exact List.all_eq_true.2 this.1))))
        have PIK := Lib.hid (show ∀ (k : Nat) (i : Int), l[k]? = some i → (picks outs l)[k]? = some (outs.getD i.toNat nul) ∧ 0 ≤ i ∧ i < outs.length from fun k i h => ⟨picks_at h, (risF_mem HR.out i (List.mem_of_getElem? h))⟩)
        generalize outF P (picks outs l) order = X at KO AM
        generalize picks outs l = r at *
        obtain ⟨v0, v1, v2, v3, v4⟩ := X
        simp only at KO
        go_wp2_with (first
          | (go_at_call 9; with_reducible refine Calls.mono (KO.out _ F f HF.out hb1) ?_; rintro e W2 ⟨rfl, hb2⟩)
          | (go_at_call 11; have _u := tk; clear _u tk; with_reducible refine Calls.mono (C5.out _) ?_; rintro e W3 ⟨rfl, hb3⟩; have S1 := (sl5_new W2 v0 v1 v2 v3 v4).keep hb3; replace hb3 := (hb2.alloc _).trans hb3))
        obtain ⟨s10, ⟨s11, s12, s13, s14, s15⟩, _⟩ := S1
        have SS := Lib.hid (show ∀ wr, Bel W3 wr → W2.heap.size < wr.heap.size ∧ wr.cell? ⟨W2.heap.size, 0, none⟩ = some (.int .i64 v0) ∧ wr.cell? ⟨W2.heap.size, 1, none⟩ = some (.int .i64 v1) ∧ wr.cell? ⟨W2.heap.size, 2, none⟩ = some (.int .i64 v2) ∧ wr.cell? ⟨W2.heap.size, 3, none⟩ = some (.string v3) ∧ wr.cell? ⟨W2.heap.size, 4, none⟩ = some (.int .i64 v4) from fun wr hW => ⟨Nat.lt_of_lt_of_le s10 hW.size, (hW.cells _ _ s10).trans s11, (hW.cells _ _ s10).trans s12, (hW.cells _ _ s10).trans s13, (hW.cells _ _ s10).trans s14, (hW.cells _ _ s10).trans s15⟩)
        clear s11 s12 s13 s14 s15
        go_loopg [13, 14] l.length (fun g s13 s14 wr => ∃ k : Nat, s14 = .int .i64 k ∧ s13 = .bool (veq ⟨v0, v1, v2, v3, v4⟩ ⟨0, 0, 0, ⟨#[]⟩, 0⟩ || (r.take k).any fun u => veq u ⟨v0, v1, v2, v3, v4⟩) ∧ k ≤ l.length ∧ Hid (g = l.length - k) ∧ Bel W3 wr)
        case atStart => exact ⟨0, rfl, by simp, Nat.zero_le _, rfl, Bel.refl _⟩
        case round =>
          obtain ⟨k, rfl, rfl, hk, hh, hb⟩ := hrel
          have hbx := hb3.trans hb
          have hbw := hb1.trans hbx
          obtain ⟨t0, t1, t2, t3, t4, t5⟩ := SS.out wr hb
          by_cases hkp : k < l.length
          · obtain ⟨ab, ao, rfl, alt, aat⟩ := HA.out (by
              obtain ⟨n, hik⟩ : ∃ n, l[k]? = some n := ⟨_, List.getElem?_eq_getElem hkp⟩
              have := (PIK.out k n hik).2
              omega)
            have hln : 0 < (nums l).length := by rw [show (nums l).length = l.length by simp [nums]]; omega
            obtain ⟨fb, fo, rfl, flt, fat⟩ := HF.out hln
            obtain ⟨n, hik⟩ : ∃ n, l[k]? = some n := ⟨_, List.getElem?_eq_getElem hkp⟩
            have hfa := (hbx.cells _ _ flt).trans (fat k _ (show (nums l)[k]? = some (.int .i64 n) by simp [nums, hik]))
            obtain ⟨hrk, n0, n1⟩ := PIK.out k n hik
            obtain ⟨m', rfl⟩ : ∃ m' : Nat, n = m' := ⟨n.toNat, by omega⟩
            have hml : m' < outs.length := by omega
            obtain ⟨u, huk⟩ : ∃ u, outs[m']? = some u := ⟨_, List.getElem?_eq_getElem hml⟩
            have hru : r[k]? = some u := by rw [hrk]; simp [huk]
            have hua := (aat m' u huk).keep hbw alt
            have lt1 := Nat.lt_of_lt_of_le flt hbx.size
            have lt2 := Nat.lt_of_lt_of_le alt hbw.size
            have k1 : (k : Int) < l.length := by omega
            have k0 : (0 : Int) ≤ (k : Int) := by omega
            have m1 : (m' : Int) < outs.length := by omega
            have m0 : (0 : Int) ≤ (m' : Int) := by omega
            have GN := Lib.hid (show (veq ⟨v0, v1, v2, v3, v4⟩ ⟨0, 0, 0, ⟨#[]⟩, 0⟩ || (r.take (k + 1)).any fun u => veq u ⟨v0, v1, v2, v3, v4⟩) = ((veq ⟨v0, v1, v2, v3, v4⟩ ⟨0, 0, 0, ⟨#[]⟩, 0⟩ || (r.take k).any fun u => veq u ⟨v0, v1, v2, v3, v4⟩) || veq u ⟨v0, v1, v2, v3, v4⟩) from by
              rw [List.take_add_one, hru, List.any_append, Bool.or_assoc]; simp)
            generalize hqa : (veq ⟨v0, v1, v2, v3, v4⟩ ⟨0, 0, 0, ⟨#[]⟩, 0⟩ || (r.take k).any fun u => veq u ⟨v0, v1, v2, v3, v4⟩) = qa at GN ⊢
            obtain ⟨u0, u1, u2, u3, u4⟩ := u
            obtain ⟨a0, a1, a2, a3, a4⟩ := hua
            generalize hqb : veq ⟨u0, u1, u2, u3, u4⟩ ⟨v0, v1, v2, v3, v4⟩ = qb at GN
            clear fat hik hrk n0 n1 huk hru hqa
            cases qa with
            | true =>
              clear hqb
              go_wp2_with fail
              refine wp_region_uni (S := (fun w' => Bel wr w' ∧ (∀ b o, b < wr.heap.size → w'.cell? ⟨b, o, none⟩ = wr.cell? ⟨b, o, none⟩))) (by kernel_rfl) (by kernel_rfl) keep0 ?_
              repeat (first | (refine wpUni_skip (by rfl) ?_; (try simp only [Act.put, List.setIfInBounds_toArray, List.set_cons_zero, List.set_cons_succ]))
                                                            | (refine wpUni_value (by rfl) (fun w hS => by (try dsimp only at hS); go_simp; first | done | with_reducible rfl) ?_; (try simp only [Act.put, List.setIfInBounds_toArray, List.set_cons_zero, List.set_cons_succ])))
              refine wpUni_nil fun X1 hS => ?_
              replace hb := hb.trans hS.1
              clear hS
              go_wp2_with fail
              go_roundg (l.length - (k + 1))
              case measure => have := hh.out; omega
              case rel => exact ⟨k + 1, by go_num, by rw [GN.out]; rfl, by omega, rfl, hb⟩
            | false =>
              go_wp2_with fail
              refine wp_region_uni (S := (fun w' => Bel wr w' ∧ (∀ b o, b < wr.heap.size → w'.cell? ⟨b, o, none⟩ = wr.cell? ⟨b, o, none⟩))) (by kernel_rfl) (by kernel_rfl) keep0 ?_
              repeat (first | (refine wpUni_skip (by rfl) ?_; (try simp only [Act.put, List.setIfInBounds_toArray, List.set_cons_zero, List.set_cons_succ]))
                                                            | (refine wpUni_value (by rfl) (fun w hS => by (try dsimp only at hS); go_simp; first | done | with_reducible rfl) ?_; (try simp only [Act.put, List.setIfInBounds_toArray, List.set_cons_zero, List.set_cons_succ])))
              refine wpUni_nil fun X1 hS => ?_
              replace hb := hb.trans hS.1
              clear hS
              go_wp2_with fail
              go_roundg (l.length - (k + 1))
              case measure => have := hh.out; omega
              case rel => exact ⟨k + 1, by go_num, by rw [GN.out]; rfl, by omega, rfl, hb⟩
          · obtain rfl : k = l.length := by omega
            have ET := Lib.hid (show (veq ⟨v0, v1, v2, v3, v4⟩ ⟨0, 0, 0, ⟨#[]⟩, 0⟩ || (r.take l.length).any fun u => veq u ⟨v0, v1, v2, v3, v4⟩) = true from by
              rcases AM.out.1 with h | h
              · rw [h]; rw [show veq nul ⟨0, 0, 0, ⟨#[]⟩, 0⟩ = true from q_same _]; rfl
              · rw [List.take_of_length_le (by rw [PLN.out]; exact Nat.le_refl _), Bool.or_eq_true]
                refine .inr (List.any_eq_true.2 ⟨_, h, q_same _⟩))
            rw [ET.out]
            obtain ⟨n, hik⟩ : ∃ n, l[0]? = some n := ⟨_, List.getElem?_eq_getElem (by omega)⟩
            obtain ⟨hrk, n0, n1⟩ := PIK.out 0 n hik
            obtain ⟨ab, ao, rfl, alt, aat⟩ := HA.out (by omega)
            have hln : 0 < (nums l).length := by rw [show (nums l).length = l.length by simp [nums]]; omega
            obtain ⟨fb, fo, rfl, flt, fat⟩ := HF.out hln
            have hfa := (hbx.cells _ _ flt).trans (fat 0 _ (show (nums l)[0]? = some (.int .i64 n) by simp [nums, hik]))
            rw [Nat.add_zero] at hfa
            obtain ⟨m', rfl⟩ : ∃ m' : Nat, n = m' := ⟨n.toNat, by omega⟩
            have hml : m' < outs.length := by omega
            obtain ⟨u, huk⟩ : ∃ u, outs[m']? = some u := ⟨_, List.getElem?_eq_getElem hml⟩
            have hru : r[0]? = some u := by rw [hrk]; simp [huk]
            have hua := (aat m' u huk).keep hbw alt
            have lt1 := Nat.lt_of_lt_of_le flt hbx.size
            have lt2 := Nat.lt_of_lt_of_le alt hbw.size
            have m1 : (m' : Int) < outs.length := by omega
            have m0 : (0 : Int) ≤ (m' : Int) := by omega
            have k1 : (0 : Int) < l.length := by omega
            have EV := Lib.hid (show l.length ≤ 1 → veq ⟨v0, v1, v2, v3, v4⟩ u = true from fun h => by
              rw [AM.out.2 (by rw [PLN.out]; exact h), veq_iff]
              cases r with
              | nil => simp at hru
              | cons y ys => simp only [List.getElem?_cons_zero, Option.some.injEq] at hru; exact hru)
            obtain ⟨u0, u1, u2, u3, u4⟩ := u
            obtain ⟨a0, a1, a2, a3, a4⟩ := hua
            clear fat hik hrk n0 n1 huk hru
            by_cases h1 : 1 < l.length
            · have e1 : (1 : Int) < l.length := by omega
              have e2 : decide ((1 : Int) < l.length) = true := decide_eq_true e1
              go_wp2_with fail
              refine wp_region_uni (S := (fun w' => Bel wr w' ∧ (∀ b o, b < wr.heap.size → w'.cell? ⟨b, o, none⟩ = wr.cell? ⟨b, o, none⟩))) (by kernel_rfl) (by kernel_rfl) keep0 ?_
              repeat (first | (refine wpUni_skip (by rfl) ?_; (try simp only [Act.put, List.setIfInBounds_toArray, List.set_cons_zero, List.set_cons_succ]))
                                                            | (refine wpUni_value (by rfl) (fun w hS => by (try dsimp only at hS); go_simp; first | done | with_reducible rfl) ?_; (try simp only [Act.put, List.setIfInBounds_toArray, List.set_cons_zero, List.set_cons_succ])))
              refine wpUni_nil fun X1 hS => ?_
              replace hbw := hbw.trans hS.1
              clear hS
              go_wp2_with fail
              go_ret
              exact ⟨by simp, hbw⟩
            · have q5 := EV.out (by omega)
              have hl1 : l.length = 1 := by omega
              rw [hl1]
              go_wp2_with fail
              refine wp_region_uni (S := (fun w' => Bel wr w' ∧ (∀ b o, b < wr.heap.size → w'.cell? ⟨b, o, none⟩ = wr.cell? ⟨b, o, none⟩))) (by kernel_rfl) (by kernel_rfl) keep0 ?_
              repeat (first | (refine wpUni_skip (by rfl) ?_; (try simp only [Act.put, List.setIfInBounds_toArray, List.set_cons_zero, List.set_cons_succ]))
                                                            | (refine wpUni_value (by rfl) (fun w hS => by (try dsimp only at hS); go_simp; first | done | with_reducible rfl) ?_; (try simp only [Act.put, List.setIfInBounds_toArray, List.set_cons_zero, List.set_cons_succ])))
              refine wpUni_nil fun X1 hS => ?_
              replace hbw := hbw.trans hS.1
              clear hS
              go_wp2_with fail
              go_ret
              exact ⟨by simp [q5], hbw⟩
  · rw [k6] at kt
    go_enter Try.func4, Try.ntmps4
    go_upto_region 3 with (go_at_call 14; refine Calls.mono (C1.out _) ?_; rintro e W1 ⟨vl, l, rfl, hl, hr, hn, hb1⟩)
    generalize hg : wrap64 (((⟨#[85, 65, 80, 70, 60, 62]⟩ : ByteArray)[4].toNat : Nat) : Int) = P
    have hP : amongP P := by
      have e : P = 60 := hg.symm.trans (by decide +kernel)
      rw [e]; simp [amongP]
    obtain ⟨F, f, rfl, hF, _⟩ := hl.ints
    have HF := Lib.hid hF
    have HP := Lib.hid hP
    have HR := Lib.hid hr
    have KO := Lib.hid (fun W F f (hF : Ints W F l) hW => CO.out P l F f W hr hn hF hW)
    rw [outR_among hP _ _ _ _ hr] at KO
    obtain ⟨q, hq⟩ : ∃ q, q = (outs.all vsnd && (order.all vsnd && vsnd ⟨3, 0, 0, ⟨#[]⟩, 0⟩)) := ⟨_, rfl⟩
    rw [← hq] at KO
    have HQ := Lib.hid hq
    have hli : (l.length : Int) ≤ 16 := by omega
    clear hg hP hl hF hr hq CO
    have tk : True := trivial
    cases q with
    | false =>
      simp only [Bool.false_eq_true, if_false, Val.val, nul] at KO
      go_wp2_with (first
        | (go_at_call 9; with_reducible refine Calls.mono (KO.out _ F f HF.out hb1) ?_; rintro e W2 ⟨rfl, hb2⟩)
        | (go_at_call 11; have _u := tk; clear _u tk; with_reducible refine Calls.mono (C5.out _) ?_; rintro e W3 ⟨rfl, hb3⟩; have S1 := (sl5_new W2 0 0 0 ⟨#[]⟩ 0).keep hb3; replace hb3 := (hb2.alloc _).trans hb3)
        | (go_at_call 11; with_reducible refine Calls.mono (C5.out _) ?_; rintro e W4 ⟨rfl, hb4⟩; replace S1 := S1.keep hb4; replace hb3 := hb3.trans hb4))
      go_ret
      exact ⟨by simp, hb1.trans hb3⟩
    | true =>
      by_cases hl0 : l.length = 0
      · rw [hl0] at KO ⊢
        simp only [if_true, Val.val] at KO
        have q1 : veq ⟨3, 0, 0, ⟨#[]⟩, 0⟩ ⟨3, 0, 0, ⟨#[]⟩, 0⟩ = true := q_same _
        go_wp2_with (first
          | (go_at_call 9; with_reducible refine Calls.mono (KO.out _ F f HF.out hb1) ?_; rintro e W2 ⟨rfl, hb2⟩)
          | (go_at_call 11; have _u := tk; clear _u tk; with_reducible refine Calls.mono (C5.out _) ?_; rintro e W3 ⟨rfl, hb3⟩; have S1 := (sl5_new W2 3 0 0 ⟨#[]⟩ 0).keep hb3; replace hb3 := (hb2.alloc _).trans hb3)
          | (go_at_call 11; with_reducible refine Calls.mono (C5.out _) ?_; rintro e W4 ⟨rfl, hb4⟩; replace S1 := S1.keep hb4; replace hb3 := hb3.trans hb4))
        go_ret
        exact ⟨by simp [q1], hb1.trans hb3⟩
      · have el0 : ((l.length : Int) == 0) = false := beq_eq_false_iff_ne.2 (by omega)
        simp only [if_true, if_neg hl0, Val.val] at KO
        have PLN := Lib.hid (show (picks outs l).length = l.length from by unfold picks; rw [List.length_map])
        have AM := Lib.hid (outF_among HP.out (r := picks outs l) (order := order) (by rw [PLN.out]; omega) (picks_mem HR.out (List.all_eq_true.1 (by have := HQ.out; simp at this; exact List.all_eq_true.2 this.1))))
        have PIK := Lib.hid (show ∀ (k : Nat) (i : Int), l[k]? = some i → (picks outs l)[k]? = some (outs.getD i.toNat nul) ∧ 0 ≤ i ∧ i < outs.length from fun k i h => ⟨picks_at h, (risF_mem HR.out i (List.mem_of_getElem? h))⟩)
        generalize outF P (picks outs l) order = X at KO AM
        generalize picks outs l = r at *
        obtain ⟨v0, v1, v2, v3, v4⟩ := X
        simp only at KO
        go_wp2_with (first
          | (go_at_call 9; with_reducible refine Calls.mono (KO.out _ F f HF.out hb1) ?_; rintro e W2 ⟨rfl, hb2⟩)
          | (go_at_call 11; have _u := tk; clear _u tk; with_reducible refine Calls.mono (C5.out _) ?_; rintro e W3 ⟨rfl, hb3⟩; have S1 := (sl5_new W2 v0 v1 v2 v3 v4).keep hb3; replace hb3 := (hb2.alloc _).trans hb3))
        obtain ⟨s10, ⟨s11, s12, s13, s14, s15⟩, _⟩ := S1
        have SS := Lib.hid (show ∀ wr, Bel W3 wr → W2.heap.size < wr.heap.size ∧ wr.cell? ⟨W2.heap.size, 0, none⟩ = some (.int .i64 v0) ∧ wr.cell? ⟨W2.heap.size, 1, none⟩ = some (.int .i64 v1) ∧ wr.cell? ⟨W2.heap.size, 2, none⟩ = some (.int .i64 v2) ∧ wr.cell? ⟨W2.heap.size, 3, none⟩ = some (.string v3) ∧ wr.cell? ⟨W2.heap.size, 4, none⟩ = some (.int .i64 v4) from fun wr hW => ⟨Nat.lt_of_lt_of_le s10 hW.size, (hW.cells _ _ s10).trans s11, (hW.cells _ _ s10).trans s12, (hW.cells _ _ s10).trans s13, (hW.cells _ _ s10).trans s14, (hW.cells _ _ s10).trans s15⟩)
        clear s11 s12 s13 s14 s15
        go_loopg [13, 14] l.length (fun g s13 s14 wr => ∃ k : Nat, s14 = .int .i64 k ∧ s13 = .bool (veq ⟨v0, v1, v2, v3, v4⟩ ⟨0, 0, 0, ⟨#[]⟩, 0⟩ || (r.take k).any fun u => veq u ⟨v0, v1, v2, v3, v4⟩) ∧ k ≤ l.length ∧ Hid (g = l.length - k) ∧ Bel W3 wr)
        case atStart => exact ⟨0, rfl, by simp, Nat.zero_le _, rfl, Bel.refl _⟩
        case round =>
          obtain ⟨k, rfl, rfl, hk, hh, hb⟩ := hrel
          have hbx := hb3.trans hb
          have hbw := hb1.trans hbx
          obtain ⟨t0, t1, t2, t3, t4, t5⟩ := SS.out wr hb
          by_cases hkp : k < l.length
          · obtain ⟨ab, ao, rfl, alt, aat⟩ := HA.out (by
              obtain ⟨n, hik⟩ : ∃ n, l[k]? = some n := ⟨_, List.getElem?_eq_getElem hkp⟩
              have := (PIK.out k n hik).2
              omega)
            have hln : 0 < (nums l).length := by rw [show (nums l).length = l.length by simp [nums]]; omega
            obtain ⟨fb, fo, rfl, flt, fat⟩ := HF.out hln
            obtain ⟨n, hik⟩ : ∃ n, l[k]? = some n := ⟨_, List.getElem?_eq_getElem hkp⟩
            have hfa := (hbx.cells _ _ flt).trans (fat k _ (show (nums l)[k]? = some (.int .i64 n) by simp [nums, hik]))
            obtain ⟨hrk, n0, n1⟩ := PIK.out k n hik
            obtain ⟨m', rfl⟩ : ∃ m' : Nat, n = m' := ⟨n.toNat, by omega⟩
            have hml : m' < outs.length := by omega
            obtain ⟨u, huk⟩ : ∃ u, outs[m']? = some u := ⟨_, List.getElem?_eq_getElem hml⟩
            have hru : r[k]? = some u := by rw [hrk]; simp [huk]
            have hua := (aat m' u huk).keep hbw alt
            have lt1 := Nat.lt_of_lt_of_le flt hbx.size
            have lt2 := Nat.lt_of_lt_of_le alt hbw.size
            have k1 : (k : Int) < l.length := by omega
            have k0 : (0 : Int) ≤ (k : Int) := by omega
            have m1 : (m' : Int) < outs.length := by omega
            have m0 : (0 : Int) ≤ (m' : Int) := by omega
            have GN := Lib.hid (show (veq ⟨v0, v1, v2, v3, v4⟩ ⟨0, 0, 0, ⟨#[]⟩, 0⟩ || (r.take (k + 1)).any fun u => veq u ⟨v0, v1, v2, v3, v4⟩) = ((veq ⟨v0, v1, v2, v3, v4⟩ ⟨0, 0, 0, ⟨#[]⟩, 0⟩ || (r.take k).any fun u => veq u ⟨v0, v1, v2, v3, v4⟩) || veq u ⟨v0, v1, v2, v3, v4⟩) from by
              rw [List.take_add_one, hru, List.any_append, Bool.or_assoc]; simp)
            generalize hqa : (veq ⟨v0, v1, v2, v3, v4⟩ ⟨0, 0, 0, ⟨#[]⟩, 0⟩ || (r.take k).any fun u => veq u ⟨v0, v1, v2, v3, v4⟩) = qa at GN ⊢
            obtain ⟨u0, u1, u2, u3, u4⟩ := u
            obtain ⟨a0, a1, a2, a3, a4⟩ := hua
            generalize hqb : veq ⟨u0, u1, u2, u3, u4⟩ ⟨v0, v1, v2, v3, v4⟩ = qb at GN
            clear fat hik hrk n0 n1 huk hru hqa
            cases qa with
            | true =>
              clear hqb
              go_wp2_with fail
              refine wp_region_uni (S := (fun w' => Bel wr w' ∧ (∀ b o, b < wr.heap.size → w'.cell? ⟨b, o, none⟩ = wr.cell? ⟨b, o, none⟩))) (by kernel_rfl) (by kernel_rfl) keep0 ?_
              repeat (first | (refine wpUni_skip (by rfl) ?_; (try simp only [Act.put, List.setIfInBounds_toArray, List.set_cons_zero, List.set_cons_succ]))
                                                            | (refine wpUni_value (by rfl) (fun w hS => by (try dsimp only at hS); go_simp; first | done | with_reducible rfl) ?_; (try simp only [Act.put, List.setIfInBounds_toArray, List.set_cons_zero, List.set_cons_succ])))
              refine wpUni_nil fun X1 hS => ?_
              replace hb := hb.trans hS.1
              clear hS
              go_wp2_with fail
              go_roundg (l.length - (k + 1))
              case measure => have := hh.out; omega
              case rel => exact ⟨k + 1, by go_num, by rw [GN.out]; rfl, by omega, rfl, hb⟩
            | false =>
              go_wp2_with fail
              refine wp_region_uni (S := (fun w' => Bel wr w' ∧ (∀ b o, b < wr.heap.size → w'.cell? ⟨b, o, none⟩ = wr.cell? ⟨b, o, none⟩))) (by kernel_rfl) (by kernel_rfl) keep0 ?_
              repeat (first | (refine wpUni_skip (by rfl) ?_; (try simp only [Act.put, List.setIfInBounds_toArray, List.set_cons_zero, List.set_cons_succ]))
                                                            | (refine wpUni_value (by rfl) (fun w hS => by (try dsimp only at hS); go_simp; first | done | with_reducible rfl) ?_; (try simp only [Act.put, List.setIfInBounds_toArray, List.set_cons_zero, List.set_cons_succ])))
              refine wpUni_nil fun X1 hS => ?_
              replace hb := hb.trans hS.1
              clear hS
              go_wp2_with fail
              go_roundg (l.length - (k + 1))
              case measure => have := hh.out; omega
              case rel => exact ⟨k + 1, by go_num, by rw [GN.out]; rfl, by omega, rfl, hb⟩
          · obtain rfl : k = l.length := by omega
            have ET := Lib.hid (show (veq ⟨v0, v1, v2, v3, v4⟩ ⟨0, 0, 0, ⟨#[]⟩, 0⟩ || (r.take l.length).any fun u => veq u ⟨v0, v1, v2, v3, v4⟩) = true from by
              rcases AM.out.1 with h | h
              · rw [h]; rw [show veq nul ⟨0, 0, 0, ⟨#[]⟩, 0⟩ = true from q_same _]; rfl
              · rw [List.take_of_length_le (by rw [PLN.out]; exact Nat.le_refl _), Bool.or_eq_true]
                refine .inr (List.any_eq_true.2 ⟨_, h, q_same _⟩))
            rw [ET.out]
            obtain ⟨n, hik⟩ : ∃ n, l[0]? = some n := ⟨_, List.getElem?_eq_getElem (by omega)⟩
            obtain ⟨hrk, n0, n1⟩ := PIK.out 0 n hik
            obtain ⟨ab, ao, rfl, alt, aat⟩ := HA.out (by omega)
            have hln : 0 < (nums l).length := by rw [show (nums l).length = l.length by simp [nums]]; omega
            obtain ⟨fb, fo, rfl, flt, fat⟩ := HF.out hln
            have hfa := (hbx.cells _ _ flt).trans (fat 0 _ (show (nums l)[0]? = some (.int .i64 n) by simp [nums, hik]))
            rw [Nat.add_zero] at hfa
            obtain ⟨m', rfl⟩ : ∃ m' : Nat, n = m' := ⟨n.toNat, by omega⟩
            have hml : m' < outs.length := by omega
            obtain ⟨u, huk⟩ : ∃ u, outs[m']? = some u := ⟨_, List.getElem?_eq_getElem hml⟩
            have hru : r[0]? = some u := by rw [hrk]; simp [huk]
            have hua := (aat m' u huk).keep hbw alt
            have lt1 := Nat.lt_of_lt_of_le flt hbx.size
            have lt2 := Nat.lt_of_lt_of_le alt hbw.size
            have m1 : (m' : Int) < outs.length := by omega
            have m0 : (0 : Int) ≤ (m' : Int) := by omega
            have k1 : (0 : Int) < l.length := by omega
            have EV := Lib.hid (show l.length ≤ 1 → veq ⟨v0, v1, v2, v3, v4⟩ u = true from fun h => by
              rw [AM.out.2 (by rw [PLN.out]; exact h), veq_iff]
              cases r with
              | nil => simp at hru
              | cons y ys => simp only [List.getElem?_cons_zero, Option.some.injEq] at hru; exact hru)
            obtain ⟨u0, u1, u2, u3, u4⟩ := u
            obtain ⟨a0, a1, a2, a3, a4⟩ := hua
            clear fat hik hrk n0 n1 huk hru
            by_cases h1 : 1 < l.length
            · have e1 : (1 : Int) < l.length := by omega
              have e2 : decide ((1 : Int) < l.length) = true := decide_eq_true e1
              go_wp2_with fail
              refine wp_region_uni (S := (fun w' => Bel wr w' ∧ (∀ b o, b < wr.heap.size → w'.cell? ⟨b, o, none⟩ = wr.cell? ⟨b, o, none⟩))) (by kernel_rfl) (by kernel_rfl) keep0 ?_
              repeat (first | (refine wpUni_skip (by rfl) ?_; (try simp only [Act.put, List.setIfInBounds_toArray, List.set_cons_zero, List.set_cons_succ]))
                                                            | (refine wpUni_value (by rfl) (fun w hS => by (try dsimp only at hS); go_simp; first | done | with_reducible rfl) ?_; (try simp only [Act.put, List.setIfInBounds_toArray, List.set_cons_zero, List.set_cons_succ])))
              refine wpUni_nil fun X1 hS => ?_
              replace hbw := hbw.trans hS.1
              clear hS
              go_wp2_with fail
              go_ret
              exact ⟨by simp, hbw⟩
            · have q5 := EV.out (by omega)
              have hl1 : l.length = 1 := by omega
              rw [hl1]
              go_wp2_with fail
              refine wp_region_uni (S := (fun w' => Bel wr w' ∧ (∀ b o, b < wr.heap.size → w'.cell? ⟨b, o, none⟩ = wr.cell? ⟨b, o, none⟩))) (by kernel_rfl) (by kernel_rfl) keep0 ?_
              repeat (first | (refine wpUni_skip (by rfl) ?_; (try simp only [Act.put, List.setIfInBounds_toArray, List.set_cons_zero, List.set_cons_succ]))
                                                            | (refine wpUni_value (by rfl) (fun w hS => by (try dsimp only at hS); go_simp; first | done | with_reducible rfl) ?_; (try simp only [Act.put, List.setIfInBounds_toArray, List.set_cons_zero, List.set_cons_succ])))
              refine wpUni_nil fun X1 hS => ?_
              replace hbw := hbw.trans hS.1
              clear hS
              go_wp2_with fail
              go_ret
              exact ⟨by simp [q5], hbw⟩
  · rw [k6] at kt
    go_enter Try.func4, Try.ntmps4
    go_upto_region 3 with (go_at_call 14; refine Calls.mono (C1.out _) ?_; rintro e W1 ⟨vl, l, rfl, hl, hr, hn, hb1⟩)
    generalize hg : wrap64 (((⟨#[85, 65, 80, 70, 60, 62]⟩ : ByteArray)[5].toNat : Nat) : Int) = P
    have hP : amongP P := by
      have e : P = 62 := hg.symm.trans (by decide +kernel)
      rw [e]; simp [amongP]
    obtain ⟨F, f, rfl, hF, _⟩ := hl.ints
    have HF := Lib.hid hF
    have HP := Lib.hid hP
    have HR := Lib.hid hr
    have KO := Lib.hid (fun W F f (hF : Ints W F l) hW => CO.out P l F f W hr hn hF hW)
    rw [outR_among hP _ _ _ _ hr] at KO
    obtain ⟨q, hq⟩ : ∃ q, q = (outs.all vsnd && (order.all vsnd && vsnd ⟨3, 0, 0, ⟨#[]⟩, 0⟩)) := ⟨_, rfl⟩
    rw [← hq] at KO
    have HQ := Lib.hid hq
    have hli : (l.length : Int) ≤ 16 := by omega
    clear hg hP hl hF hr hq CO
    have tk : True := trivial
    cases q with
    | false =>
      simp only [Bool.false_eq_true, if_false, Val.val, nul] at KO
      go_wp2_with (first
        | (go_at_call 9; with_reducible refine Calls.mono (KO.out _ F f HF.out hb1) ?_; rintro e W2 ⟨rfl, hb2⟩)
        | (go_at_call 11; have _u := tk; clear _u tk; with_reducible refine Calls.mono (C5.out _) ?_; rintro e W3 ⟨rfl, hb3⟩; have S1 := (sl5_new W2 0 0 0 ⟨#[]⟩ 0).keep hb3; replace hb3 := (hb2.alloc _).trans hb3)
        | (go_at_call 11; with_reducible refine Calls.mono (C5.out _) ?_; rintro e W4 ⟨rfl, hb4⟩; replace S1 := S1.keep hb4; replace hb3 := hb3.trans hb4))
      go_ret
      exact ⟨by simp, hb1.trans hb3⟩
    | true =>
      by_cases hl0 : l.length = 0
      · rw [hl0] at KO ⊢
        simp only [if_true, Val.val] at KO
        have q1 : veq ⟨3, 0, 0, ⟨#[]⟩, 0⟩ ⟨3, 0, 0, ⟨#[]⟩, 0⟩ = true := q_same _
        go_wp2_with (first
          | (go_at_call 9; with_reducible refine Calls.mono (KO.out _ F f HF.out hb1) ?_; rintro e W2 ⟨rfl, hb2⟩)
          | (go_at_call 11; have _u := tk; clear _u tk; with_reducible refine Calls.mono (C5.out _) ?_; rintro e W3 ⟨rfl, hb3⟩; have S1 := (sl5_new W2 3 0 0 ⟨#[]⟩ 0).keep hb3; replace hb3 := (hb2.alloc _).trans hb3)
          | (go_at_call 11; with_reducible refine Calls.mono (C5.out _) ?_; rintro e W4 ⟨rfl, hb4⟩; replace S1 := S1.keep hb4; replace hb3 := hb3.trans hb4))
        go_ret
        exact ⟨by simp [q1], hb1.trans hb3⟩
      · have el0 : ((l.length : Int) == 0) = false := beq_eq_false_iff_ne.2 (by omega)
        simp only [if_true, if_neg hl0, Val.val] at KO
        have PLN := Lib.hid (show (picks outs l).length = l.length from by unfold picks; rw [List.length_map])
        have AM := Lib.hid (outF_among HP.out (r := picks outs l) (order := order) (by rw [PLN.out]; omega) (picks_mem HR.out (List.all_eq_true.1 (by have := HQ.out; simp at this; exact List.all_eq_true.2 this.1))))
        have PIK := Lib.hid (show ∀ (k : Nat) (i : Int), l[k]? = some i → (picks outs l)[k]? = some (outs.getD i.toNat nul) ∧ 0 ≤ i ∧ i < outs.length from fun k i h => ⟨picks_at h, (risF_mem HR.out i (List.mem_of_getElem? h))⟩)
        generalize outF P (picks outs l) order = X at KO AM
        generalize picks outs l = r at *
        obtain ⟨v0, v1, v2, v3, v4⟩ := X
        simp only at KO
        go_wp2_with (first
          | (go_at_call 9; with_reducible refine Calls.mono (KO.out _ F f HF.out hb1) ?_; rintro e W2 ⟨rfl, hb2⟩)
          | (go_at_call 11; have _u := tk; clear _u tk; with_reducible refine Calls.mono (C5.out _) ?_; rintro e W3 ⟨rfl, hb3⟩; have S1 := (sl5_new W2 v0 v1 v2 v3 v4).keep hb3; replace hb3 := (hb2.alloc _).trans hb3))
        obtain ⟨s10, ⟨s11, s12, s13, s14, s15⟩, _⟩ := S1
        have SS := Lib.hid (show ∀ wr, Bel W3 wr → W2.heap.size < wr.heap.size ∧ wr.cell? ⟨W2.heap.size, 0, none⟩ = some (.int .i64 v0) ∧ wr.cell? ⟨W2.heap.size, 1, none⟩ = some (.int .i64 v1) ∧ wr.cell? ⟨W2.heap.size, 2, none⟩ = some (.int .i64 v2) ∧ wr.cell? ⟨W2.heap.size, 3, none⟩ = some (.string v3) ∧ wr.cell? ⟨W2.heap.size, 4, none⟩ = some (.int .i64 v4) from fun wr hW => ⟨Nat.lt_of_lt_of_le s10 hW.size, (hW.cells _ _ s10).trans s11, (hW.cells _ _ s10).trans s12, (hW.cells _ _ s10).trans s13, (hW.cells _ _ s10).trans s14, (hW.cells _ _ s10).trans s15⟩)
        clear s11 s12 s13 s14 s15
        go_loopg [13, 14] l.length (fun g s13 s14 wr => ∃ k : Nat, s14 = .int .i64 k ∧ s13 = .bool (veq ⟨v0, v1, v2, v3, v4⟩ ⟨0, 0, 0, ⟨#[]⟩, 0⟩ || (r.take k).any fun u => veq u ⟨v0, v1, v2, v3, v4⟩) ∧ k ≤ l.length ∧ Hid (g = l.length - k) ∧ Bel W3 wr)
        case atStart => exact ⟨0, rfl, by simp, Nat.zero_le _, rfl, Bel.refl _⟩
        case round =>
          obtain ⟨k, rfl, rfl, hk, hh, hb⟩ := hrel
          have hbx := hb3.trans hb
          have hbw := hb1.trans hbx
          obtain ⟨t0, t1, t2, t3, t4, t5⟩ := SS.out wr hb
          by_cases hkp : k < l.length
          · obtain ⟨ab, ao, rfl, alt, aat⟩ := HA.out (by
              obtain ⟨n, hik⟩ : ∃ n, l[k]? = some n := ⟨_, List.getElem?_eq_getElem hkp⟩
              have := (PIK.out k n hik).2
              omega)
            have hln : 0 < (nums l).length := by rw [show (nums l).length = l.length by simp [nums]]; omega
            obtain ⟨fb, fo, rfl, flt, fat⟩ := HF.out hln
            obtain ⟨n, hik⟩ : ∃ n, l[k]? = some n := ⟨_, List.getElem?_eq_getElem hkp⟩
            have hfa := (hbx.cells _ _ flt).trans (fat k _ (show (nums l)[k]? = some (.int .i64 n) by simp [nums, hik]))
            obtain ⟨hrk, n0, n1⟩ := PIK.out k n hik
            obtain ⟨m', rfl⟩ : ∃ m' : Nat, n = m' := ⟨n.toNat, by omega⟩
            have hml : m' < outs.length := by omega
            obtain ⟨u, huk⟩ : ∃ u, outs[m']? = some u := ⟨_, List.getElem?_eq_getElem hml⟩
            have hru : r[k]? = some u := by rw [hrk]; simp [huk]
            have hua := (aat m' u huk).keep hbw alt
            have lt1 := Nat.lt_of_lt_of_le flt hbx.size
            have lt2 := Nat.lt_of_lt_of_le alt hbw.size
            have k1 : (k : Int) < l.length := by omega
            have k0 : (0 : Int) ≤ (k : Int) := by omega
            have m1 : (m' : Int) < outs.length := by omega
            have m0 : (0 : Int) ≤ (m' : Int) := by omega
            have GN := Lib.hid (show (veq ⟨v0, v1, v2, v3, v4⟩ ⟨0, 0, 0, ⟨#[]⟩, 0⟩ || (r.take (k + 1)).any fun u => veq u ⟨v0, v1, v2, v3, v4⟩) = ((veq ⟨v0, v1, v2, v3, v4⟩ ⟨0, 0, 0, ⟨#[]⟩, 0⟩ || (r.take k).any fun u => veq u ⟨v0, v1, v2, v3, v4⟩) || veq u ⟨v0, v1, v2, v3, v4⟩) from by
              rw [List.take_add_one, hru, List.any_append, Bool.or_assoc]; simp)
            generalize hqa : (veq ⟨v0, v1, v2, v3, v4⟩ ⟨0, 0, 0, ⟨#[]⟩, 0⟩ || (r.take k).any fun u => veq u ⟨v0, v1, v2, v3, v4⟩) = qa at GN ⊢
            obtain ⟨u0, u1, u2, u3, u4⟩ := u
            obtain ⟨a0, a1, a2, a3, a4⟩ := hua
            generalize hqb : veq ⟨u0, u1, u2, u3, u4⟩ ⟨v0, v1, v2, v3, v4⟩ = qb at GN
            clear fat hik hrk n0 n1 huk hru hqa
            cases qa with
            | true =>
              clear hqb
              go_wp2_with fail
              refine wp_region_uni (S := (fun w' => Bel wr w' ∧ (∀ b o, b < wr.heap.size → w'.cell? ⟨b, o, none⟩ = wr.cell? ⟨b, o, none⟩))) (by kernel_rfl) (by kernel_rfl) keep0 ?_
              repeat (first | (refine wpUni_skip (by rfl) ?_; (try simp only [Act.put, List.setIfInBounds_toArray, List.set_cons_zero, List.set_cons_succ]))
                                                            | (refine wpUni_value (by rfl) (fun w hS => by (try dsimp only at hS); go_simp; first | done | with_reducible rfl) ?_; (try simp only [Act.put, List.setIfInBounds_toArray, List.set_cons_zero, List.set_cons_succ])))
              refine wpUni_nil fun X1 hS => ?_
              replace hb := hb.trans hS.1
              clear hS
              go_wp2_with fail
              go_roundg (l.length - (k + 1))
              case measure => have := hh.out; omega
              case rel => exact ⟨k + 1, by go_num, by rw [GN.out]; rfl, by omega, rfl, hb⟩
            | false =>
              go_wp2_with fail
              refine wp_region_uni (S := (fun w' => Bel wr w' ∧ (∀ b o, b < wr.heap.size → w'.cell? ⟨b, o, none⟩ = wr.cell? ⟨b, o, none⟩))) (by kernel_rfl) (by kernel_rfl) keep0 ?_
              repeat (first | (refine wpUni_skip (by rfl) ?_; (try simp only [Act.put, List.setIfInBounds_toArray, List.set_cons_zero, List.set_cons_succ]))
                                                            | (refine wpUni_value (by rfl) (fun w hS => by (try dsimp only at hS); go_simp; first | done | with_reducible rfl) ?_; (try simp only [Act.put, List.setIfInBounds_toArray, List.set_cons_zero, List.set_cons_succ])))
              refine wpUni_nil fun X1 hS => ?_
              replace hb := hb.trans hS.1
              clear hS
              go_wp2_with fail
              go_roundg (l.length - (k + 1))
              case measure => have := hh.out; omega
              case rel => exact ⟨k + 1, by go_num, by rw [GN.out]; rfl, by omega, rfl, hb⟩
          · obtain rfl : k = l.length := by omega
            have ET := Lib.hid (show (veq ⟨v0, v1, v2, v3, v4⟩ ⟨0, 0, 0, ⟨#[]⟩, 0⟩ || (r.take l.length).any fun u => veq u ⟨v0, v1, v2, v3, v4⟩) = true from by
              rcases AM.out.1 with h | h
              · rw [h]; rw [show veq nul ⟨0, 0, 0, ⟨#[]⟩, 0⟩ = true from q_same _]; rfl
              · rw [List.take_of_length_le (by rw [PLN.out]; exact Nat.le_refl _), Bool.or_eq_true]
                refine .inr (List.any_eq_true.2 ⟨_, h, q_same _⟩))
            rw [ET.out]
            obtain ⟨n, hik⟩ : ∃ n, l[0]? = some n := ⟨_, List.getElem?_eq_getElem (by omega)⟩
            obtain ⟨hrk, n0, n1⟩ := PIK.out 0 n hik
            obtain ⟨ab, ao, rfl, alt, aat⟩ := HA.out (by omega)
            have hln : 0 < (nums l).length := by rw [show (nums l).length = l.length by simp [nums]]; omega
            obtain ⟨fb, fo, rfl, flt, fat⟩ := HF.out hln
            have hfa := (hbx.cells _ _ flt).trans (fat 0 _ (show (nums l)[0]? = some (.int .i64 n) by simp [nums, hik]))
            rw [Nat.add_zero] at hfa
            obtain ⟨m', rfl⟩ : ∃ m' : Nat, n = m' := ⟨n.toNat, by omega⟩
            have hml : m' < outs.length := by omega
            obtain ⟨u, huk⟩ : ∃ u, outs[m']? = some u := ⟨_, List.getElem?_eq_getElem hml⟩
            have hru : r[0]? = some u := by rw [hrk]; simp [huk]
            have hua := (aat m' u huk).keep hbw alt
            have lt1 := Nat.lt_of_lt_of_le flt hbx.size
            have lt2 := Nat.lt_of_lt_of_le alt hbw.size
            have m1 : (m' : Int) < outs.length := by omega
            have m0 : (0 : Int) ≤ (m' : Int) := by omega
            have k1 : (0 : Int) < l.length := by omega
            have EV := Lib.hid (show l.length ≤ 1 → veq ⟨v0, v1, v2, v3, v4⟩ u = true from fun h => by
              rw [AM.out.2 (by rw [PLN.out]; exact h), veq_iff]
              cases r with
              | nil => simp at hru
              | cons y ys => simp only [List.getElem?_cons_zero, Option.some.injEq] at hru; exact hru)
            obtain ⟨u0, u1, u2, u3, u4⟩ := u
            obtain ⟨a0, a1, a2, a3, a4⟩ := hua
            clear fat hik hrk n0 n1 huk hru
            by_cases h1 : 1 < l.length
            · have e1 : (1 : Int) < l.length := by omega
              have e2 : decide ((1 : Int) < l.length) = true := decide_eq_true e1
              go_wp2_with fail
              refine wp_region_uni (S := (fun w' => Bel wr w' ∧ (∀ b o, b < wr.heap.size → w'.cell? ⟨b, o, none⟩ = wr.cell? ⟨b, o, none⟩))) (by kernel_rfl) (by kernel_rfl) keep0 ?_
              repeat (first | (refine wpUni_skip (by rfl) ?_; (try simp only [Act.put, List.setIfInBounds_toArray, List.set_cons_zero, List.set_cons_succ]))
                                                            | (refine wpUni_value (by rfl) (fun w hS => by (try dsimp only at hS); go_simp; first | done | with_reducible rfl) ?_; (try simp only [Act.put, List.setIfInBounds_toArray, List.set_cons_zero, List.set_cons_succ])))
              refine wpUni_nil fun X1 hS => ?_
              replace hbw := hbw.trans hS.1
              clear hS
              go_wp2_with fail
              go_ret
              exact ⟨by simp, hbw⟩
            · have q5 := EV.out (by omega)
              have hl1 : l.length = 1 := by omega
              rw [hl1]
              go_wp2_with fail
              refine wp_region_uni (S := (fun w' => Bel wr w' ∧ (∀ b o, b < wr.heap.size → w'.cell? ⟨b, o, none⟩ = wr.cell? ⟨b, o, none⟩))) (by kernel_rfl) (by kernel_rfl) keep0 ?_
              repeat (first | (refine wpUni_skip (by rfl) ?_; (try simp only [Act.put, List.setIfInBounds_toArray, List.set_cons_zero, List.set_cons_succ]))
                                                            | (refine wpUni_value (by rfl) (fun w hS => by (try dsimp only at hS); go_simp; first | done | with_reducible rfl) ?_; (try simp only [Act.put, List.setIfInBounds_toArray, List.set_cons_zero, List.set_cons_succ])))
              refine wpUni_nil fun X1 hS => ?_
              replace hbw := hbw.trans hS.1
              clear hS
              go_wp2_with fail
              go_ret
              exact ⟨by simp [q5], hbw⟩
end Go.Proofs.Yteblpdoljhmcmaa
