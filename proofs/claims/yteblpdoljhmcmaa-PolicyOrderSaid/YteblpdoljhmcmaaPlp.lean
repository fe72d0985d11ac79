import Derived.Test.YteblpdoljhmcmaaPlo
namespace Go.Proofs.Yteblpdoljhmcmaa
set_option linter.unusedSimpArgs false
set_option linter.unusedVariables false
open Go.RowKit Go.Lib Go.Deep Go.ChangeShapes Go.WideShapes Go.ChangeAt
attribute [local go_sem ↓] eql_val neq_val

/-! The laws of policy: Order. -/
theorem app_vs {w0 w : World} {v : Value} {xs ys : List Val} {A : Option Addr} {m c : Nat} (hb : Bel w0 w) (h : OwnV w w0.heap.size v xs) (hy : Vals w A ys) (hm : ys.length = m) (hA : A = none → c = 0) (hn : xs.length + ys.length ≤ 2097152) (ty : TypeId) :
    ∃ v' w', (Builtin.append_ #[22, 22] ty #[v, .slice A m c]).run Try.prog w = .ok v' w' ∧ (OwnV w' w0.heap.size v' (xs ++ ys) ∧ Bel w0 w') := by
  subst hm
  obtain ⟨i0, hi, hz0, hz1, hz2⟩ := infoV'
  obtain ⟨v', w', hr, h1, h2, h3⟩ := run_app (P := Try.prog) w w0.heap.size 22 ty 26 i0 _ 5 48 Try.underlying22 hi hz0 hz1 hz2 rfl (by omega) h (m := ys.length) (c := c) hy.row (flat_length ys) hA (flat_one ys) (by simp only [maxLen]; omega) (by omega) hb.size
  exact ⟨v', w', hr, by unfold OwnV; rw [List.length_append, flat_append]; exact h1, h2.bel hb fun k hk => (h.lt k hk).1⟩
theorem app_is {w0 w : World} {v : Value} {xs ys : List Int} {A : Option Addr} {m c : Nat} (hb : Bel w0 w) (h : OwnI w w0.heap.size v xs) (hy : Ints w A ys) (hm : ys.length = m) (hA : A = none → c = 0) (hn : xs.length + ys.length ≤ 2097152) (ty : TypeId) :
    ∃ v' w', (Builtin.append_ #[27, 27] ty #[v, .slice A m c]).run Try.prog w = .ok v' w' ∧ (OwnI w' w0.heap.size v' (xs ++ ys) ∧ Bel w0 w') := by
  obtain ⟨v', w', hr, h1, h2, _⟩ := app_ints hb (Bel.refl _) h hy hm hA hn ty
  exact ⟨v', w', hr, h1, h2⟩
theorem vals_cap {H : Type} {enc : TypeId × Value → H} {w : World} {spare : Nat → Bool} {held : Bool} {A : Option Addr} {n c : Nat} {d : DataW H} {p : List MemPlace} (h : DataW.Trod enc Try.prog w 0 spare held 22 (.slice A n c) d p) : n ≤ c := by
  obtain ⟨k, hn⟩ := h
  rcases open_slice Try.underlying22 hn with ⟨hcs, _⟩ | ⟨ad, len', cap', m, n', D, Pl, hcs, _, hl, _⟩
  · simp [Value.cells] at hcs
    omega
  · simp only [Value.cells, List.cons.injEq, Value.slice.injEq, and_true] at hcs
    obtain ⟨_, rfl, rfl⟩ := hcs
    exact hl
theorem OwnI.nil (w : World) (B : Nat) : OwnI w B (.slice none 0 0) [] := ⟨rfl, .inl ⟨rfl, rfl⟩⟩
set_option maxRecDepth 100000 in
set_option maxHeartbeats 16000000 in
theorem law_Order (kk : Int) (outs : List Val) (A : Option Addr) (c : Nat) (m : Int) (w : World) (hA0 : Vals w A outs) (lA0 : outs.length ≤ 9223372036854775807) (tA0 : ∀ v ∈ outs, v.text.size ≤ 9223372036854775807) (hk : 0 ≤ kk ∧ kk ≤ 255) (hm : 0 ≤ m ∧ m ≤ 65535) (hcap : outs.length ≤ c) :
    Calls Try.prog 5 #[.int .u8 kk, .slice A outs.length c, .int .u16 m] w fun e w' => e = .returned (.bool true) ∧ Bel w w' := by
  obtain ⟨o, ho⟩ : ∃ o, o = outs.take 16 := ⟨_, rfl⟩
  have hA : Vals w A o := by rw [ho]; exact hA0.take 16
  have lA : o.length ≤ 16 := by rw [ho, List.length_take]; omega
  have tA : ∀ v ∈ o, v.text.size ≤ 9223372036854775807 := fun v hv => tA0 v (by rw [ho] at hv; exact List.mem_of_mem_take hv)
  have C1 := Lib.hid fun W => fired_any o.length m W (by omega) hm
  have CO := Lib.hid fun (p : Int) (l : List Int) F f W (hr : risF o.length 0 l = true) (hl : l.length ≤ 16) (hF : Ints W F l) (hW : Bel w W) => out_any p o A c [] none 0 nul l F f W (hA.keep hW) vals_nil hF (by omega) (by simp) (by omega) tA (by simp) (Nat.zero_le _) (fun i hi => by have := risF_mem hr i hi; omega)
  have CR := Lib.hid fun (p : Int) (l : List Int) T tc F f W (hr : risF (o.reverse.length : Nat) 0 l = true) (hl : l.length ≤ 16) (hT : Vals W T o.reverse) (hF : Ints W F l) => out_any p o.reverse T tc [] none 0 nul l F f W hT vals_nil hF (by rw [List.length_reverse]; omega) (by simp) (by omega) (fun v hv => tA v (List.mem_reverse.1 hv)) (by simp) (Nat.zero_le _) (fun i hi => by have := risF_mem hr i hi; rw [List.length_reverse] at this; omega)
  have C5 := Lib.hid fun W => awake_any W
  have HA := Lib.hid hA
  have k5 : kk % 5 = 0 ∨ kk % 5 = 1 ∨ kk % 5 = 2 ∨ kk % 5 = 3 ∨ kk % 5 = 4 := by omega
  have kt : kk.tmod 5 = kk % 5 := Int.tmod_eq_emod_of_nonneg hk.1
  have OL := Lib.hid (show outs.length ≤ 16 → o.length = outs.length from fun h => by rw [ho, List.length_take]; omega)
  have OG := Lib.hid (show 16 < outs.length → o.length = 16 from fun h => by rw [ho, List.length_take]; omega)
  have AS := Lib.hid (show 0 < outs.length → ∃ b off, A = some ⟨b, off, none⟩ from fun h => by obtain ⟨b, off, e, _⟩ := hA0 h; exact ⟨b, off, e⟩)
  clear hA0 tA0 hA tA ho
  go_enter Try.func5, Try.ntmps5
  go_upto_if 20 with (fail)
  go_cut [1] (fun v wx => v = .slice A o.length c ∧ w = wx)
  case first =>
    by_cases h : 16 < outs.length
    · obtain ⟨b, off, rfl⟩ := AS.out (by omega)
      have e1 : (16 : Int) < outs.length := by omega
      have e2 : (16 : Int) ≤ c := by omega
      have e3 : 16 ≤ c := by omega
      have eo := Lib.hid (OG.out h)
      go_wp2
      go_meet
      exact ⟨by rw [eo.out], rfl⟩
    · have eo := Lib.hid (OL.out (by omega))
      have e1 : ¬ (16 : Int) < outs.length := by omega
      go_wp2
      go_meet
      exact ⟨by rw [eo.out], rfl⟩
  case rest =>
    obtain ⟨rfl, rfl⟩ := hcut
    have lai : (o.length : Int) ≤ 16 := by omega
    clear OL OG AS hcap
    rcases k5 with k5 | k5 | k5 | k5 | k5
    · rw [k5] at kt
      go_upto_region 4 with (fail)
      generalize hg : wrap64 (((⟨#[65, 43, 35, 60, 62]⟩ : ByteArray)[0].toNat : Nat) : Int) = P
      have hP : orderP P := by
        have e : P = 65 := hg.symm.trans (by decide +kernel)
        rw [e]; simp [orderP]
      have HP := Lib.hid hP
      clear hg hP
      go_wp2_with fail
      go_loopg [9, 10] o.length (fun g s9 s10 wr => ∃ j : Nat, s10 = .int .i64 ((o.length : Int) - 1 - j) ∧ j ≤ o.length ∧ Hid (g = o.length - j) ∧ Bel w wr ∧ OwnV wr w.heap.size s9 (o.reverse.take j))
      case atStart => exact ⟨0, by simp, Nat.zero_le _, rfl, Bel.refl _, OwnV.nil _ _⟩
      case round =>
        obtain ⟨j, rfl, hj, hh, hb, hown⟩ := hrel
        have OW := Lib.hid hown
        clear hown
        by_cases hp : j < o.length
        · obtain ⟨ab, ao, rfl, alt, aat⟩ := HA.out (by omega)
          obtain ⟨mi, hmi⟩ : ∃ mi, mi = o.length - 1 - j := ⟨_, rfl⟩
          obtain ⟨u, huk⟩ : ∃ u, o[mi]? = some u := ⟨_, List.getElem?_eq_getElem (by omega)⟩
          have hua := (aat mi u huk).keep hb alt
          have lt2 := Nat.lt_of_lt_of_le alt hb.size
          have hrv : o.reverse[j]? = some u := by rw [List.getElem?_reverse hp, ← hmi, huk]
          have OE := Lib.hid (show o.reverse.take j ++ [u] = o.reverse.take (j + 1) from by rw [List.take_add_one, hrv]; rfl)
          have PL := Lib.hid (show (o.reverse.take j).length + 1 ≤ 2097152 from by rw [List.length_take, List.length_reverse]; omega)
          have em : (o.length : Int) - 1 - j = mi := by omega
          have m1 : (mi : Int) < o.length := by omega
          have m0 : (0 : Int) ≤ (mi : Int) := by omega
          have m2 : (mi : Int) ≤ 15 := by omega
          rw [em]
          obtain ⟨u0, u1, u2, u3, u4⟩ := u
          obtain ⟨a0, a1, a2, a3, a4⟩ := hua
          have EM := Lib.hid em
          clear aat huk hrv em hmi
          go_wp2_with (at_builtin; refine wpList_app rfl (.tmp 35) (.tmp 40) _ rfl (app_vs (w0 := w) (ys := [⟨u0, u1, u2, u3, u4⟩]) (hb.alloc _) (OW.out.keep ((Bel.refl _).alloc _)) (vals_one wr ⟨u0, u1, u2, u3, u4⟩ rfl) rfl (fun h => by cases h) PL.out _) ?_; rintro v' w' ⟨o', b'⟩)
          go_roundg (o.length - (j + 1))
          case measure => have := hh.out; omega
          case rel =>
            have := EM.out
            refine ⟨j + 1, by rw [show (o.length : Int) - 1 - (j + 1 : Nat) = mi - 1 by omega], by omega, rfl, b', ?_⟩
            rw [← OE.out]
            exact o'
        · obtain rfl : j = o.length := by omega
          have OW2 := OW.out
          rw [List.take_of_length_le (by rw [List.length_reverse]; exact Nat.le_refl _)] at OW2
          obtain ⟨T, tc, rfl, hT, _, _⟩ := OW2.vals
          have HT := Lib.hid hT
          rw [List.length_reverse]
          have en : ¬ (0 : Int) ≤ (o.length : Int) - 1 - o.length := by omega
          clear OW OW2 hT
          go_upto_region 11 with (go_at_call 14; refine Calls.mono (C1.out _) ?_; rintro e W1 ⟨vl, l, rfl, hl, hr, hn, hb1⟩)
          obtain ⟨F, f, rfl, hF, _⟩ := hl.ints
          have HF := Lib.hid hF
          have HR := Lib.hid hr
          have HBK := Lib.hid (show (back o.length l).length = l.length from by unfold back; rw [List.length_map, List.length_reverse])
          replace HT := Lib.hid (HT.out.keep hb1)
          replace hb := hb.trans hb1
          have hli : (l.length : Int) ≤ 16 := by omega
          clear hb1 hl hF hr
          go_wp2_with fail
          go_loopg [12, 13] l.length (fun g s12 s13 wr => ∃ j : Nat, s13 = .int .i64 ((l.length : Int) - 1 - j) ∧ j ≤ l.length ∧ Hid (g = l.length - j) ∧ Bel W1 wr ∧ OwnI wr W1.heap.size s12 ((back o.length l).take j))
          case atStart => exact ⟨0, by simp, Nat.zero_le _, rfl, Bel.refl _, OwnI.nil _ _⟩
          case round =>
            obtain ⟨j, rfl, hj, hh, hb2, hown⟩ := hrel
            have OW := Lib.hid hown
            clear hown
            by_cases hp : j < l.length
            · have hln : 0 < (nums l).length := by rw [show (nums l).length = l.length by simp [nums]]; omega
              obtain ⟨fb, fo, rfl, flt, fat⟩ := HF.out hln
              obtain ⟨mi, hmi⟩ : ∃ mi, mi = l.length - 1 - j := ⟨_, rfl⟩
              obtain ⟨n, hik⟩ : ∃ n, l[mi]? = some n := ⟨_, List.getElem?_eq_getElem (by omega)⟩
              have hfa := (hb2.cells _ _ flt).trans (fat mi _ (show (nums l)[mi]? = some (.int .i64 n) by simp [nums, hik]))
              have him := risF_mem HR.out n (List.mem_of_getElem? hik)
              have lt1 := Nat.lt_of_lt_of_le flt hb2.size
              have hrv : (back o.length l)[j]? = some ((o.length : Int) - 1 - n) := by
                unfold back
                rw [List.getElem?_map, List.getElem?_reverse hp, ← hmi, hik]
                rfl
              have OE := Lib.hid (show (back o.length l).take j ++ [(o.length : Int) - 1 - n] = (back o.length l).take (j + 1) from by rw [List.take_add_one, hrv]; rfl)
              have PL := Lib.hid (show ((back o.length l).take j).length + 1 ≤ 2097152 from by rw [List.length_take, HBK.out]; omega)
              have em : (l.length : Int) - 1 - j = mi := by omega
              have m1 : (mi : Int) < l.length := by omega
              have m0 : (0 : Int) ≤ (mi : Int) := by omega
              have m2 : (mi : Int) ≤ 15 := by omega
              obtain ⟨n0, n1⟩ := him
              have n2 : n ≤ 15 := by omega
              rw [em]
              have EM := Lib.hid em
              clear fat hik hrv em hmi
              go_wp2_with (at_builtin; refine wpList_app rfl (.tmp 52) (.tmp 60) _ rfl (app_is (w0 := W1) (ys := [(o.length : Int) - 1 - n]) (hb2.alloc _) (OW.out.keep ((Bel.refl _).alloc _)) (ints_lit (w := wr) [(o.length : Int) - 1 - n] rfl) rfl (fun h => by cases h) PL.out _) ?_; rintro v' w' ⟨o', b'⟩)
              go_roundg (l.length - (j + 1))
              case measure => have := hh.out; omega
              case rel =>
                have := EM.out
                refine ⟨j + 1, by rw [show (l.length : Int) - 1 - (j + 1 : Nat) = mi - 1 by omega], by omega, rfl, b', ?_⟩
                rw [← OE.out]
                exact o'
            · obtain rfl : j = l.length := by omega
              have OW2 := OW.out
              rw [List.take_of_length_le (by rw [HBK.out]; exact Nat.le_refl _)] at OW2
              obtain ⟨G, gc, rfl, hG, _⟩ := OW2.ints
              have HG := Lib.hid hG
              rw [HBK.out]
              have en2 : ¬ (0 : Int) ≤ (l.length : Int) - 1 - l.length := by omega
              obtain ⟨V, X, er, ov, ox, vx⟩ := order_pair HP.out o l HR.out
              have K1 := Lib.hid (fun W F f (hF : Ints W F l) hW => CO.out P l F f W HR.out hn hF hW)
              have K2 := Lib.hid (fun W T tc G gc (hT : Vals W T o.reverse) (hG : Ints W G (back o.length l)) => CR.out P (back o.length l) T tc G gc W (by rw [List.length_reverse]; exact back_ris HR.out) (by rw [HBK.out]; exact hn) hT hG)
              rw [ov] at K1
              rw [ox, HBK.out, List.length_reverse] at K2
              replace HF := Lib.hid (HF.out.keep hb2)
              replace HT := Lib.hid (HT.out.keep hb2)
              replace hb := hb.trans hb2
              have VX := Lib.hid vx
              clear OW OW2 hG ov ox vx hb2 C1 CO CR
              obtain ⟨v0, v1, v2, v3, v4⟩ := V
              obtain ⟨x0, x1, x2, x3, x4⟩ := X
              simp only [Val.val, nul] at K1 K2
              go_upto_region 20 with (first
                | (go_at_call 9; with_reducible refine Calls.mono (K1.out _ F f HF.out hb) ?_; rintro e W2 ⟨rfl, hb2⟩)
                | (go_at_call 9; with_reducible refine Calls.mono (K2.out _ T tc G gc (HT.out.keep (hb2.alloc _)) (HG.out.keep (hb2.alloc _))) ?_; rintro e W3 ⟨rfl, hb3⟩; have S1 := (sl5_new W2 v0 v1 v2 v3 v4).keep hb3; replace hb3 := (hb2.alloc _).trans hb3)
                | (go_at_call 11; with_reducible refine Calls.mono (C5.out _) ?_; rintro e W4 ⟨rfl, hb4⟩; have S2 := (sl5_new W3 x0 x1 x2 x3 x4).keep hb4; replace S1 := S1.keep (((Bel.refl W3).alloc _).trans hb4); replace hb4 := (hb3.alloc _).trans hb4))
              obtain ⟨s10, ⟨s11, s12, s13, s14, s15⟩, _⟩ := S1
              obtain ⟨s20, ⟨s21, s22, s23, s24, s25⟩, _⟩ := S2
              have hbf := hb.trans hb4
              rcases VX.out with e | ⟨rfl, e⟩
              · cases e
                have q1 : veq ⟨v0, v1, v2, v3, v4⟩ ⟨v0, v1, v2, v3, v4⟩ = true := q_same _
                go_wp2_with fail
                go_ret
                exact ⟨by simp [q1], hbf⟩
              · rcases e with e | e
                · cases e
                  have q1 : veq ⟨0, 0, 0, ⟨#[]⟩, 0⟩ ⟨0, 0, 0, ⟨#[]⟩, 0⟩ = true := q_same _
                  generalize hq : veq ⟨0, 0, 0, ⟨#[]⟩, 0⟩ ⟨x0, x1, x2, x3, x4⟩ = q
                  cases q
                  all_goals
                    go_wp2_with fail
                    go_ret
                    exact ⟨by simp [q1, hq], hbf⟩
                · cases e
                  have q1 : veq ⟨0, 0, 0, ⟨#[]⟩, 0⟩ ⟨0, 0, 0, ⟨#[]⟩, 0⟩ = true := q_same _
                  generalize hq : veq ⟨v0, v1, v2, v3, v4⟩ ⟨0, 0, 0, ⟨#[]⟩, 0⟩ = q
                  cases q
                  all_goals
                    go_wp2_with fail
                    go_ret
                    exact ⟨by simp [q1, hq], hbf⟩
    · rw [k5] at kt
      go_upto_region 4 with (fail)
      generalize hg : wrap64 (((⟨#[65, 43, 35, 60, 62]⟩ : ByteArray)[1].toNat : Nat) : Int) = P
      have hP : orderP P := by
        have e : P = 43 := hg.symm.trans (by decide +kernel)
        rw [e]; simp [orderP]
      have HP := Lib.hid hP
      clear hg hP
      go_wp2_with fail
      go_loopg [9, 10] o.length (fun g s9 s10 wr => ∃ j : Nat, s10 = .int .i64 ((o.length : Int) - 1 - j) ∧ j ≤ o.length ∧ Hid (g = o.length - j) ∧ Bel w wr ∧ OwnV wr w.heap.size s9 (o.reverse.take j))
      case atStart => exact ⟨0, by simp, Nat.zero_le _, rfl, Bel.refl _, OwnV.nil _ _⟩
      case round =>
        obtain ⟨j, rfl, hj, hh, hb, hown⟩ := hrel
        have OW := Lib.hid hown
        clear hown
        by_cases hp : j < o.length
        · obtain ⟨ab, ao, rfl, alt, aat⟩ := HA.out (by omega)
          obtain ⟨mi, hmi⟩ : ∃ mi, mi = o.length - 1 - j := ⟨_, rfl⟩
          obtain ⟨u, huk⟩ : ∃ u, o[mi]? = some u := ⟨_, List.getElem?_eq_getElem (by omega)⟩
          have hua := (aat mi u huk).keep hb alt
          have lt2 := Nat.lt_of_lt_of_le alt hb.size
          have hrv : o.reverse[j]? = some u := by rw [List.getElem?_reverse hp, ← hmi, huk]
          have OE := Lib.hid (show o.reverse.take j ++ [u] = o.reverse.take (j + 1) from by rw [List.take_add_one, hrv]; rfl)
          have PL := Lib.hid (show (o.reverse.take j).length + 1 ≤ 2097152 from by rw [List.length_take, List.length_reverse]; omega)
          have em : (o.length : Int) - 1 - j = mi := by omega
          have m1 : (mi : Int) < o.length := by omega
          have m0 : (0 : Int) ≤ (mi : Int) := by omega
          have m2 : (mi : Int) ≤ 15 := by omega
          rw [em]
          obtain ⟨u0, u1, u2, u3, u4⟩ := u
          obtain ⟨a0, a1, a2, a3, a4⟩ := hua
          have EM := Lib.hid em
          clear aat huk hrv em hmi
          go_wp2_with (at_builtin; refine wpList_app rfl (.tmp 35) (.tmp 40) _ rfl (app_vs (w0 := w) (ys := [⟨u0, u1, u2, u3, u4⟩]) (hb.alloc _) (OW.out.keep ((Bel.refl _).alloc _)) (vals_one wr ⟨u0, u1, u2, u3, u4⟩ rfl) rfl (fun h => by cases h) PL.out _) ?_; rintro v' w' ⟨o', b'⟩)
          go_roundg (o.length - (j + 1))
          case measure => have := hh.out; omega
          case rel =>
            have := EM.out
            refine ⟨j + 1, by rw [show (o.length : Int) - 1 - (j + 1 : Nat) = mi - 1 by omega], by omega, rfl, b', ?_⟩
            rw [← OE.out]
            exact o'
        · obtain rfl : j = o.length := by omega
          have OW2 := OW.out
          rw [List.take_of_length_le (by rw [List.length_reverse]; exact Nat.le_refl _)] at OW2
          obtain ⟨T, tc, rfl, hT, _, _⟩ := OW2.vals
          have HT := Lib.hid hT
          rw [List.length_reverse]
          have en : ¬ (0 : Int) ≤ (o.length : Int) - 1 - o.length := by omega
          clear OW OW2 hT
          go_upto_region 11 with (go_at_call 14; refine Calls.mono (C1.out _) ?_; rintro e W1 ⟨vl, l, rfl, hl, hr, hn, hb1⟩)
          obtain ⟨F, f, rfl, hF, _⟩ := hl.ints
          have HF := Lib.hid hF
          have HR := Lib.hid hr
          have HBK := Lib.hid (show (back o.length l).length = l.length from by unfold back; rw [List.length_map, List.length_reverse])
          replace HT := Lib.hid (HT.out.keep hb1)
          replace hb := hb.trans hb1
          have hli : (l.length : Int) ≤ 16 := by omega
          clear hb1 hl hF hr
          go_wp2_with fail
          go_loopg [12, 13] l.length (fun g s12 s13 wr => ∃ j : Nat, s13 = .int .i64 ((l.length : Int) - 1 - j) ∧ j ≤ l.length ∧ Hid (g = l.length - j) ∧ Bel W1 wr ∧ OwnI wr W1.heap.size s12 ((back o.length l).take j))
          case atStart => exact ⟨0, by simp, Nat.zero_le _, rfl, Bel.refl _, OwnI.nil _ _⟩
          case round =>
            obtain ⟨j, rfl, hj, hh, hb2, hown⟩ := hrel
            have OW := Lib.hid hown
            clear hown
            by_cases hp : j < l.length
            · have hln : 0 < (nums l).length := by rw [show (nums l).length = l.length by simp [nums]]; omega
              obtain ⟨fb, fo, rfl, flt, fat⟩ := HF.out hln
              obtain ⟨mi, hmi⟩ : ∃ mi, mi = l.length - 1 - j := ⟨_, rfl⟩
              obtain ⟨n, hik⟩ : ∃ n, l[mi]? = some n := ⟨_, List.getElem?_eq_getElem (by omega)⟩
              have hfa := (hb2.cells _ _ flt).trans (fat mi _ (show (nums l)[mi]? = some (.int .i64 n) by simp [nums, hik]))
              have him := risF_mem HR.out n (List.mem_of_getElem? hik)
              have lt1 := Nat.lt_of_lt_of_le flt hb2.size
              have hrv : (back o.length l)[j]? = some ((o.length : Int) - 1 - n) := by
                unfold back
                rw [List.getElem?_map, List.getElem?_reverse hp, ← hmi, hik]
                rfl
              have OE := Lib.hid (show (back o.length l).take j ++ [(o.length : Int) - 1 - n] = (back o.length l).take (j + 1) from by rw [List.take_add_one, hrv]; rfl)
              have PL := Lib.hid (show ((back o.length l).take j).length + 1 ≤ 2097152 from by rw [List.length_take, HBK.out]; omega)
              have em : (l.length : Int) - 1 - j = mi := by omega
              have m1 : (mi : Int) < l.length := by omega
              have m0 : (0 : Int) ≤ (mi : Int) := by omega
              have m2 : (mi : Int) ≤ 15 := by omega
              obtain ⟨n0, n1⟩ := him
              have n2 : n ≤ 15 := by omega
              rw [em]
              have EM := Lib.hid em
              clear fat hik hrv em hmi
              go_wp2_with (at_builtin; refine wpList_app rfl (.tmp 52) (.tmp 60) _ rfl (app_is (w0 := W1) (ys := [(o.length : Int) - 1 - n]) (hb2.alloc _) (OW.out.keep ((Bel.refl _).alloc _)) (ints_lit (w := wr) [(o.length : Int) - 1 - n] rfl) rfl (fun h => by cases h) PL.out _) ?_; rintro v' w' ⟨o', b'⟩)
              go_roundg (l.length - (j + 1))
              case measure => have := hh.out; omega
              case rel =>
                have := EM.out
                refine ⟨j + 1, by rw [show (l.length : Int) - 1 - (j + 1 : Nat) = mi - 1 by omega], by omega, rfl, b', ?_⟩
                rw [← OE.out]
                exact o'
            · obtain rfl : j = l.length := by omega
              have OW2 := OW.out
              rw [List.take_of_length_le (by rw [HBK.out]; exact Nat.le_refl _)] at OW2
              obtain ⟨G, gc, rfl, hG, _⟩ := OW2.ints
              have HG := Lib.hid hG
              rw [HBK.out]
              have en2 : ¬ (0 : Int) ≤ (l.length : Int) - 1 - l.length := by omega
              obtain ⟨V, X, er, ov, ox, vx⟩ := order_pair HP.out o l HR.out
              have K1 := Lib.hid (fun W F f (hF : Ints W F l) hW => CO.out P l F f W HR.out hn hF hW)
              have K2 := Lib.hid (fun W T tc G gc (hT : Vals W T o.reverse) (hG : Ints W G (back o.length l)) => CR.out P (back o.length l) T tc G gc W (by rw [List.length_reverse]; exact back_ris HR.out) (by rw [HBK.out]; exact hn) hT hG)
              rw [ov] at K1
              rw [ox, HBK.out, List.length_reverse] at K2
              replace HF := Lib.hid (HF.out.keep hb2)
              replace HT := Lib.hid (HT.out.keep hb2)
              replace hb := hb.trans hb2
              have VX := Lib.hid vx
              clear OW OW2 hG ov ox vx hb2 C1 CO CR
              obtain ⟨v0, v1, v2, v3, v4⟩ := V
              obtain ⟨x0, x1, x2, x3, x4⟩ := X
              simp only [Val.val, nul] at K1 K2
              go_upto_region 20 with (first
                | (go_at_call 9; with_reducible refine Calls.mono (K1.out _ F f HF.out hb) ?_; rintro e W2 ⟨rfl, hb2⟩)
                | (go_at_call 9; with_reducible refine Calls.mono (K2.out _ T tc G gc (HT.out.keep (hb2.alloc _)) (HG.out.keep (hb2.alloc _))) ?_; rintro e W3 ⟨rfl, hb3⟩; have S1 := (sl5_new W2 v0 v1 v2 v3 v4).keep hb3; replace hb3 := (hb2.alloc _).trans hb3)
                | (go_at_call 11; with_reducible refine Calls.mono (C5.out _) ?_; rintro e W4 ⟨rfl, hb4⟩; have S2 := (sl5_new W3 x0 x1 x2 x3 x4).keep hb4; replace S1 := S1.keep (((Bel.refl W3).alloc _).trans hb4); replace hb4 := (hb3.alloc _).trans hb4))
              obtain ⟨s10, ⟨s11, s12, s13, s14, s15⟩, _⟩ := S1
              obtain ⟨s20, ⟨s21, s22, s23, s24, s25⟩, _⟩ := S2
              have hbf := hb.trans hb4
              rcases VX.out with e | ⟨rfl, e⟩
              · cases e
                have q1 : veq ⟨v0, v1, v2, v3, v4⟩ ⟨v0, v1, v2, v3, v4⟩ = true := q_same _
                go_wp2_with fail
                go_ret
                exact ⟨by simp [q1], hbf⟩
              · rcases e with e | e
                · cases e
                  have q1 : veq ⟨0, 0, 0, ⟨#[]⟩, 0⟩ ⟨0, 0, 0, ⟨#[]⟩, 0⟩ = true := q_same _
                  generalize hq : veq ⟨0, 0, 0, ⟨#[]⟩, 0⟩ ⟨x0, x1, x2, x3, x4⟩ = q
                  cases q
                  all_goals
                    go_wp2_with fail
                    go_ret
                    exact ⟨by simp [q1, hq], hbf⟩
                · cases e
                  have q1 : veq ⟨0, 0, 0, ⟨#[]⟩, 0⟩ ⟨0, 0, 0, ⟨#[]⟩, 0⟩ = true := q_same _
                  generalize hq : veq ⟨v0, v1, v2, v3, v4⟩ ⟨0, 0, 0, ⟨#[]⟩, 0⟩ = q
                  cases q
                  all_goals
                    go_wp2_with fail
                    go_ret
                    exact ⟨by simp [q1, hq], hbf⟩
    · rw [k5] at kt
      go_upto_region 4 with (fail)
      generalize hg : wrap64 (((⟨#[65, 43, 35, 60, 62]⟩ : ByteArray)[2].toNat : Nat) : Int) = P
      have hP : orderP P := by
        have e : P = 35 := hg.symm.trans (by decide +kernel)
        rw [e]; simp [orderP]
      have HP := Lib.hid hP
      clear hg hP
      go_wp2_with fail
      go_loopg [9, 10] o.length (fun g s9 s10 wr => ∃ j : Nat, s10 = .int .i64 ((o.length : Int) - 1 - j) ∧ j ≤ o.length ∧ Hid (g = o.length - j) ∧ Bel w wr ∧ OwnV wr w.heap.size s9 (o.reverse.take j))
      case atStart => exact ⟨0, by simp, Nat.zero_le _, rfl, Bel.refl _, OwnV.nil _ _⟩
      case round =>
        obtain ⟨j, rfl, hj, hh, hb, hown⟩ := hrel
        have OW := Lib.hid hown
        clear hown
        by_cases hp : j < o.length
        · obtain ⟨ab, ao, rfl, alt, aat⟩ := HA.out (by omega)
          obtain ⟨mi, hmi⟩ : ∃ mi, mi = o.length - 1 - j := ⟨_, rfl⟩
          obtain ⟨u, huk⟩ : ∃ u, o[mi]? = some u := ⟨_, List.getElem?_eq_getElem (by omega)⟩
          have hua := (aat mi u huk).keep hb alt
          have lt2 := Nat.lt_of_lt_of_le alt hb.size
          have hrv : o.reverse[j]? = some u := by rw [List.getElem?_reverse hp, ← hmi, huk]
          have OE := Lib.hid (show o.reverse.take j ++ [u] = o.reverse.take (j + 1) from by rw [List.take_add_one, hrv]; rfl)
          have PL := Lib.hid (show (o.reverse.take j).length + 1 ≤ 2097152 from by rw [List.length_take, List.length_reverse]; omega)
          have em : (o.length : Int) - 1 - j = mi := by omega
          have m1 : (mi : Int) < o.length := by omega
          have m0 : (0 : Int) ≤ (mi : Int) := by omega
          have m2 : (mi : Int) ≤ 15 := by omega
          rw [em]
          obtain ⟨u0, u1, u2, u3, u4⟩ := u
          obtain ⟨a0, a1, a2, a3, a4⟩ := hua
          have EM := Lib.hid em
          clear aat huk hrv em hmi
          go_wp2_with (at_builtin; refine wpList_app rfl (.tmp 35) (.tmp 40) _ rfl (app_vs (w0 := w) (ys := [⟨u0, u1, u2, u3, u4⟩]) (hb.alloc _) (OW.out.keep ((Bel.refl _).alloc _)) (vals_one wr ⟨u0, u1, u2, u3, u4⟩ rfl) rfl (fun h => by cases h) PL.out _) ?_; rintro v' w' ⟨o', b'⟩)
          go_roundg (o.length - (j + 1))
          case measure => have := hh.out; omega
          case rel =>
            have := EM.out
            refine ⟨j + 1, by rw [show (o.length : Int) - 1 - (j + 1 : Nat) = mi - 1 by omega], by omega, rfl, b', ?_⟩
            rw [← OE.out]
            exact o'
        · obtain rfl : j = o.length := by omega
          have OW2 := OW.out
          rw [List.take_of_length_le (by rw [List.length_reverse]; exact Nat.le_refl _)] at OW2
          obtain ⟨T, tc, rfl, hT, _, _⟩ := OW2.vals
          have HT := Lib.hid hT
          rw [List.length_reverse]
          have en : ¬ (0 : Int) ≤ (o.length : Int) - 1 - o.length := by omega
          clear OW OW2 hT
          go_upto_region 11 with (go_at_call 14; refine Calls.mono (C1.out _) ?_; rintro e W1 ⟨vl, l, rfl, hl, hr, hn, hb1⟩)
          obtain ⟨F, f, rfl, hF, _⟩ := hl.ints
          have HF := Lib.hid hF
          have HR := Lib.hid hr
          have HBK := Lib.hid (show (back o.length l).length = l.length from by unfold back; rw [List.length_map, List.length_reverse])
          replace HT := Lib.hid (HT.out.keep hb1)
          replace hb := hb.trans hb1
          have hli : (l.length : Int) ≤ 16 := by omega
          clear hb1 hl hF hr
          go_wp2_with fail
          go_loopg [12, 13] l.length (fun g s12 s13 wr => ∃ j : Nat, s13 = .int .i64 ((l.length : Int) - 1 - j) ∧ j ≤ l.length ∧ Hid (g = l.length - j) ∧ Bel W1 wr ∧ OwnI wr W1.heap.size s12 ((back o.length l).take j))
          case atStart => exact ⟨0, by simp, Nat.zero_le _, rfl, Bel.refl _, OwnI.nil _ _⟩
          case round =>
            obtain ⟨j, rfl, hj, hh, hb2, hown⟩ := hrel
            have OW := Lib.hid hown
            clear hown
            by_cases hp : j < l.length
            · have hln : 0 < (nums l).length := by rw [show (nums l).length = l.length by simp [nums]]; omega
              obtain ⟨fb, fo, rfl, flt, fat⟩ := HF.out hln
              obtain ⟨mi, hmi⟩ : ∃ mi, mi = l.length - 1 - j := ⟨_, rfl⟩
              obtain ⟨n, hik⟩ : ∃ n, l[mi]? = some n := ⟨_, List.getElem?_eq_getElem (by omega)⟩
              have hfa := (hb2.cells _ _ flt).trans (fat mi _ (show (nums l)[mi]? = some (.int .i64 n) by simp [nums, hik]))
              have him := risF_mem HR.out n (List.mem_of_getElem? hik)
              have lt1 := Nat.lt_of_lt_of_le flt hb2.size
              have hrv : (back o.length l)[j]? = some ((o.length : Int) - 1 - n) := by
                unfold back
                rw [List.getElem?_map, List.getElem?_reverse hp, ← hmi, hik]
                rfl
              have OE := Lib.hid (show (back o.length l).take j ++ [(o.length : Int) - 1 - n] = (back o.length l).take (j + 1) from by rw [List.take_add_one, hrv]; rfl)
              have PL := Lib.hid (show ((back o.length l).take j).length + 1 ≤ 2097152 from by rw [List.length_take, HBK.out]; omega)
              have em : (l.length : Int) - 1 - j = mi := by omega
              have m1 : (mi : Int) < l.length := by omega
              have m0 : (0 : Int) ≤ (mi : Int) := by omega
              have m2 : (mi : Int) ≤ 15 := by omega
              obtain ⟨n0, n1⟩ := him
              have n2 : n ≤ 15 := by omega
              rw [em]
              have EM := Lib.hid em
              clear fat hik hrv em hmi
              go_wp2_with (at_builtin; refine wpList_app rfl (.tmp 52) (.tmp 60) _ rfl (app_is (w0 := W1) (ys := [(o.length : Int) - 1 - n]) (hb2.alloc _) (OW.out.keep ((Bel.refl _).alloc _)) (ints_lit (w := wr) [(o.length : Int) - 1 - n] rfl) rfl (fun h => by cases h) PL.out _) ?_; rintro v' w' ⟨o', b'⟩)
              go_roundg (l.length - (j + 1))
              case measure => have := hh.out; omega
              case rel =>
                have := EM.out
                refine ⟨j + 1, by rw [show (l.length : Int) - 1 - (j + 1 : Nat) = mi - 1 by omega], by omega, rfl, b', ?_⟩
                rw [← OE.out]
                exact o'
            · obtain rfl : j = l.length := by omega
              have OW2 := OW.out
              rw [List.take_of_length_le (by rw [HBK.out]; exact Nat.le_refl _)] at OW2
              obtain ⟨G, gc, rfl, hG, _⟩ := OW2.ints
              have HG := Lib.hid hG
              rw [HBK.out]
              have en2 : ¬ (0 : Int) ≤ (l.length : Int) - 1 - l.length := by omega
              obtain ⟨V, X, er, ov, ox, vx⟩ := order_pair HP.out o l HR.out
              have K1 := Lib.hid (fun W F f (hF : Ints W F l) hW => CO.out P l F f W HR.out hn hF hW)
              have K2 := Lib.hid (fun W T tc G gc (hT : Vals W T o.reverse) (hG : Ints W G (back o.length l)) => CR.out P (back o.length l) T tc G gc W (by rw [List.length_reverse]; exact back_ris HR.out) (by rw [HBK.out]; exact hn) hT hG)
              rw [ov] at K1
              rw [ox, HBK.out, List.length_reverse] at K2
              replace HF := Lib.hid (HF.out.keep hb2)
              replace HT := Lib.hid (HT.out.keep hb2)
              replace hb := hb.trans hb2
              have VX := Lib.hid vx
              clear OW OW2 hG ov ox vx hb2 C1 CO CR
              obtain ⟨v0, v1, v2, v3, v4⟩ := V
              obtain ⟨x0, x1, x2, x3, x4⟩ := X
              simp only [Val.val, nul] at K1 K2
              go_upto_region 20 with (first
                | (go_at_call 9; with_reducible refine Calls.mono (K1.out _ F f HF.out hb) ?_; rintro e W2 ⟨rfl, hb2⟩)
                | (go_at_call 9; with_reducible refine Calls.mono (K2.out _ T tc G gc (HT.out.keep (hb2.alloc _)) (HG.out.keep (hb2.alloc _))) ?_; rintro e W3 ⟨rfl, hb3⟩; have S1 := (sl5_new W2 v0 v1 v2 v3 v4).keep hb3; replace hb3 := (hb2.alloc _).trans hb3)
                | (go_at_call 11; with_reducible refine Calls.mono (C5.out _) ?_; rintro e W4 ⟨rfl, hb4⟩; have S2 := (sl5_new W3 x0 x1 x2 x3 x4).keep hb4; replace S1 := S1.keep (((Bel.refl W3).alloc _).trans hb4); replace hb4 := (hb3.alloc _).trans hb4))
              obtain ⟨s10, ⟨s11, s12, s13, s14, s15⟩, _⟩ := S1
              obtain ⟨s20, ⟨s21, s22, s23, s24, s25⟩, _⟩ := S2
              have hbf := hb.trans hb4
              rcases VX.out with e | ⟨rfl, e⟩
              · cases e
                have q1 : veq ⟨v0, v1, v2, v3, v4⟩ ⟨v0, v1, v2, v3, v4⟩ = true := q_same _
                go_wp2_with fail
                go_ret
                exact ⟨by simp [q1], hbf⟩
              · rcases e with e | e
                · cases e
                  have q1 : veq ⟨0, 0, 0, ⟨#[]⟩, 0⟩ ⟨0, 0, 0, ⟨#[]⟩, 0⟩ = true := q_same _
                  generalize hq : veq ⟨0, 0, 0, ⟨#[]⟩, 0⟩ ⟨x0, x1, x2, x3, x4⟩ = q
                  cases q
                  all_goals
                    go_wp2_with fail
                    go_ret
                    exact ⟨by simp [q1, hq], hbf⟩
                · cases e
                  have q1 : veq ⟨0, 0, 0, ⟨#[]⟩, 0⟩ ⟨0, 0, 0, ⟨#[]⟩, 0⟩ = true := q_same _
                  generalize hq : veq ⟨v0, v1, v2, v3, v4⟩ ⟨0, 0, 0, ⟨#[]⟩, 0⟩ = q
                  cases q
                  all_goals
                    go_wp2_with fail
                    go_ret
                    exact ⟨by simp [q1, hq], hbf⟩
    · rw [k5] at kt
      go_upto_region 4 with (fail)
      generalize hg : wrap64 (((⟨#[65, 43, 35, 60, 62]⟩ : ByteArray)[3].toNat : Nat) : Int) = P
      have hP : orderP P := by
        have e : P = 60 := hg.symm.trans (by decide +kernel)
        rw [e]; simp [orderP]
      have HP := Lib.hid hP
      clear hg hP
      go_wp2_with fail
      go_loopg [9, 10] o.length (fun g s9 s10 wr => ∃ j : Nat, s10 = .int .i64 ((o.length : Int) - 1 - j) ∧ j ≤ o.length ∧ Hid (g = o.length - j) ∧ Bel w wr ∧ OwnV wr w.heap.size s9 (o.reverse.take j))
      case atStart => exact ⟨0, by simp, Nat.zero_le _, rfl, Bel.refl _, OwnV.nil _ _⟩
      case round =>
        obtain ⟨j, rfl, hj, hh, hb, hown⟩ := hrel
        have OW := Lib.hid hown
        clear hown
        by_cases hp : j < o.length
        · obtain ⟨ab, ao, rfl, alt, aat⟩ := HA.out (by omega)
          obtain ⟨mi, hmi⟩ : ∃ mi, mi = o.length - 1 - j := ⟨_, rfl⟩
          obtain ⟨u, huk⟩ : ∃ u, o[mi]? = some u := ⟨_, List.getElem?_eq_getElem (by omega)⟩
          have hua := (aat mi u huk).keep hb alt
          have lt2 := Nat.lt_of_lt_of_le alt hb.size
          have hrv : o.reverse[j]? = some u := by rw [List.getElem?_reverse hp, ← hmi, huk]
          have OE := Lib.hid (show o.reverse.take j ++ [u] = o.reverse.take (j + 1) from by rw [List.take_add_one, hrv]; rfl)
          have PL := Lib.hid (show (o.reverse.take j).length + 1 ≤ 2097152 from by rw [List.length_take, List.length_reverse]; omega)
          have em : (o.length : Int) - 1 - j = mi := by omega
          have m1 : (mi : Int) < o.length := by omega
          have m0 : (0 : Int) ≤ (mi : Int) := by omega
          have m2 : (mi : Int) ≤ 15 := by omega
          rw [em]
          obtain ⟨u0, u1, u2, u3, u4⟩ := u
          obtain ⟨a0, a1, a2, a3, a4⟩ := hua
          have EM := Lib.hid em
          clear aat huk hrv em hmi
          go_wp2_with (at_builtin; refine wpList_app rfl (.tmp 35) (.tmp 40) _ rfl (app_vs (w0 := w) (ys := [⟨u0, u1, u2, u3, u4⟩]) (hb.alloc _) (OW.out.keep ((Bel.refl _).alloc _)) (vals_one wr ⟨u0, u1, u2, u3, u4⟩ rfl) rfl (fun h => by cases h) PL.out _) ?_; rintro v' w' ⟨o', b'⟩)
          go_roundg (o.length - (j + 1))
          case measure => have := hh.out; omega
          case rel =>
            have := EM.out
            refine ⟨j + 1, by rw [show (o.length : Int) - 1 - (j + 1 : Nat) = mi - 1 by omega], by omega, rfl, b', ?_⟩
            rw [← OE.out]
            exact o'
        · obtain rfl : j = o.length := by omega
          have OW2 := OW.out
          rw [List.take_of_length_le (by rw [List.length_reverse]; exact Nat.le_refl _)] at OW2
          obtain ⟨T, tc, rfl, hT, _, _⟩ := OW2.vals
          have HT := Lib.hid hT
          rw [List.length_reverse]
          have en : ¬ (0 : Int) ≤ (o.length : Int) - 1 - o.length := by omega
          clear OW OW2 hT
          go_upto_region 11 with (go_at_call 14; refine Calls.mono (C1.out _) ?_; rintro e W1 ⟨vl, l, rfl, hl, hr, hn, hb1⟩)
          obtain ⟨F, f, rfl, hF, _⟩ := hl.ints
          have HF := Lib.hid hF
          have HR := Lib.hid hr
          have HBK := Lib.hid (show (back o.length l).length = l.length from by unfold back; rw [List.length_map, List.length_reverse])
          replace HT := Lib.hid (HT.out.keep hb1)
          replace hb := hb.trans hb1
          have hli : (l.length : Int) ≤ 16 := by omega
          clear hb1 hl hF hr
          go_wp2_with fail
          go_loopg [12, 13] l.length (fun g s12 s13 wr => ∃ j : Nat, s13 = .int .i64 ((l.length : Int) - 1 - j) ∧ j ≤ l.length ∧ Hid (g = l.length - j) ∧ Bel W1 wr ∧ OwnI wr W1.heap.size s12 ((back o.length l).take j))
          case atStart => exact ⟨0, by simp, Nat.zero_le _, rfl, Bel.refl _, OwnI.nil _ _⟩
          case round =>
            obtain ⟨j, rfl, hj, hh, hb2, hown⟩ := hrel
            have OW := Lib.hid hown
            clear hown
            by_cases hp : j < l.length
            · have hln : 0 < (nums l).length := by rw [show (nums l).length = l.length by simp [nums]]; omega
              obtain ⟨fb, fo, rfl, flt, fat⟩ := HF.out hln
              obtain ⟨mi, hmi⟩ : ∃ mi, mi = l.length - 1 - j := ⟨_, rfl⟩
              obtain ⟨n, hik⟩ : ∃ n, l[mi]? = some n := ⟨_, List.getElem?_eq_getElem (by omega)⟩
              have hfa := (hb2.cells _ _ flt).trans (fat mi _ (show (nums l)[mi]? = some (.int .i64 n) by simp [nums, hik]))
              have him := risF_mem HR.out n (List.mem_of_getElem? hik)
              have lt1 := Nat.lt_of_lt_of_le flt hb2.size
              have hrv : (back o.length l)[j]? = some ((o.length : Int) - 1 - n) := by
                unfold back
                rw [List.getElem?_map, List.getElem?_reverse hp, ← hmi, hik]
                rfl
              have OE := Lib.hid (show (back o.length l).take j ++ [(o.length : Int) - 1 - n] = (back o.length l).take (j + 1) from by rw [List.take_add_one, hrv]; rfl)
              have PL := Lib.hid (show ((back o.length l).take j).length + 1 ≤ 2097152 from by rw [List.length_take, HBK.out]; omega)
              have em : (l.length : Int) - 1 - j = mi := by omega
              have m1 : (mi : Int) < l.length := by omega
              have m0 : (0 : Int) ≤ (mi : Int) := by omega
              have m2 : (mi : Int) ≤ 15 := by omega
              obtain ⟨n0, n1⟩ := him
              have n2 : n ≤ 15 := by omega
              rw [em]
              have EM := Lib.hid em
              clear fat hik hrv em hmi
              go_wp2_with (at_builtin; refine wpList_app rfl (.tmp 52) (.tmp 60) _ rfl (app_is (w0 := W1) (ys := [(o.length : Int) - 1 - n]) (hb2.alloc _) (OW.out.keep ((Bel.refl _).alloc _)) (ints_lit (w := wr) [(o.length : Int) - 1 - n] rfl) rfl (fun h => by cases h) PL.out _) ?_; rintro v' w' ⟨o', b'⟩)
              go_roundg (l.length - (j + 1))
              case measure => have := hh.out; omega
              case rel =>
                have := EM.out
                refine ⟨j + 1, by rw [show (l.length : Int) - 1 - (j + 1 : Nat) = mi - 1 by omega], by omega, rfl, b', ?_⟩
                rw [← OE.out]
                exact o'
            · obtain rfl : j = l.length := by omega
              have OW2 := OW.out
              rw [List.take_of_length_le (by rw [HBK.out]; exact Nat.le_refl _)] at OW2
              obtain ⟨G, gc, rfl, hG, _⟩ := OW2.ints
              have HG := Lib.hid hG
              rw [HBK.out]
              have en2 : ¬ (0 : Int) ≤ (l.length : Int) - 1 - l.length := by omega
              obtain ⟨V, X, er, ov, ox, vx⟩ := order_pair HP.out o l HR.out
              have K1 := Lib.hid (fun W F f (hF : Ints W F l) hW => CO.out P l F f W HR.out hn hF hW)
              have K2 := Lib.hid (fun W T tc G gc (hT : Vals W T o.reverse) (hG : Ints W G (back o.length l)) => CR.out P (back o.length l) T tc G gc W (by rw [List.length_reverse]; exact back_ris HR.out) (by rw [HBK.out]; exact hn) hT hG)
              rw [ov] at K1
              rw [ox, HBK.out, List.length_reverse] at K2
              replace HF := Lib.hid (HF.out.keep hb2)
              replace HT := Lib.hid (HT.out.keep hb2)
              replace hb := hb.trans hb2
              have VX := Lib.hid vx
              clear OW OW2 hG ov ox vx hb2 C1 CO CR
              obtain ⟨v0, v1, v2, v3, v4⟩ := V
              obtain ⟨x0, x1, x2, x3, x4⟩ := X
              simp only [Val.val, nul] at K1 K2
              go_upto_region 20 with (first
                | (go_at_call 9; with_reducible refine Calls.mono (K1.out _ F f HF.out hb) ?_; rintro e W2 ⟨rfl, hb2⟩)
                | (go_at_call 9; with_reducible refine Calls.mono (K2.out _ T tc G gc (HT.out.keep (hb2.alloc _)) (HG.out.keep (hb2.alloc _))) ?_; rintro e W3 ⟨rfl, hb3⟩; have S1 := (sl5_new W2 v0 v1 v2 v3 v4).keep hb3; replace hb3 := (hb2.alloc _).trans hb3)
                | (go_at_call 11; with_reducible refine Calls.mono (C5.out _) ?_; rintro e W4 ⟨rfl, hb4⟩; have S2 := (sl5_new W3 x0 x1 x2 x3 x4).keep hb4; replace S1 := S1.keep (((Bel.refl W3).alloc _).trans hb4); replace hb4 := (hb3.alloc _).trans hb4))
              obtain ⟨s10, ⟨s11, s12, s13, s14, s15⟩, _⟩ := S1
              obtain ⟨s20, ⟨s21, s22, s23, s24, s25⟩, _⟩ := S2
              have hbf := hb.trans hb4
              rcases VX.out with e | ⟨rfl, e⟩
              · cases e
                have q1 : veq ⟨v0, v1, v2, v3, v4⟩ ⟨v0, v1, v2, v3, v4⟩ = true := q_same _
                go_wp2_with fail
                go_ret
                exact ⟨by simp [q1], hbf⟩
              · rcases e with e | e
                · cases e
                  have q1 : veq ⟨0, 0, 0, ⟨#[]⟩, 0⟩ ⟨0, 0, 0, ⟨#[]⟩, 0⟩ = true := q_same _
                  generalize hq : veq ⟨0, 0, 0, ⟨#[]⟩, 0⟩ ⟨x0, x1, x2, x3, x4⟩ = q
                  cases q
                  all_goals
                    go_wp2_with fail
                    go_ret
                    exact ⟨by simp [q1, hq], hbf⟩
                · cases e
                  have q1 : veq ⟨0, 0, 0, ⟨#[]⟩, 0⟩ ⟨0, 0, 0, ⟨#[]⟩, 0⟩ = true := q_same _
                  generalize hq : veq ⟨v0, v1, v2, v3, v4⟩ ⟨0, 0, 0, ⟨#[]⟩, 0⟩ = q
                  cases q
                  all_goals
                    go_wp2_with fail
                    go_ret
                    exact ⟨by simp [q1, hq], hbf⟩
    · rw [k5] at kt
      go_upto_region 4 with (fail)
      generalize hg : wrap64 (((⟨#[65, 43, 35, 60, 62]⟩ : ByteArray)[4].toNat : Nat) : Int) = P
      have hP : orderP P := by
        have e : P = 62 := hg.symm.trans (by decide +kernel)
        rw [e]; simp [orderP]
      have HP := Lib.hid hP
      clear hg hP
      go_wp2_with fail
      go_loopg [9, 10] o.length (fun g s9 s10 wr => ∃ j : Nat, s10 = .int .i64 ((o.length : Int) - 1 - j) ∧ j ≤ o.length ∧ Hid (g = o.length - j) ∧ Bel w wr ∧ OwnV wr w.heap.size s9 (o.reverse.take j))
      case atStart => exact ⟨0, by simp, Nat.zero_le _, rfl, Bel.refl _, OwnV.nil _ _⟩
      case round =>
        obtain ⟨j, rfl, hj, hh, hb, hown⟩ := hrel
        have OW := Lib.hid hown
        clear hown
        by_cases hp : j < o.length
        · obtain ⟨ab, ao, rfl, alt, aat⟩ := HA.out (by omega)
          obtain ⟨mi, hmi⟩ : ∃ mi, mi = o.length - 1 - j := ⟨_, rfl⟩
          obtain ⟨u, huk⟩ : ∃ u, o[mi]? = some u := ⟨_, List.getElem?_eq_getElem (by omega)⟩
          have hua := (aat mi u huk).keep hb alt
          have lt2 := Nat.lt_of_lt_of_le alt hb.size
          have hrv : o.reverse[j]? = some u := by rw [List.getElem?_reverse hp, ← hmi, huk]
          have OE := Lib.hid (show o.reverse.take j ++ [u] = o.reverse.take (j + 1) from by rw [List.take_add_one, hrv]; rfl)
          have PL := Lib.hid (show (o.reverse.take j).length + 1 ≤ 2097152 from by rw [List.length_take, List.length_reverse]; omega)
          have em : (o.length : Int) - 1 - j = mi := by omega
          have m1 : (mi : Int) < o.length := by omega
          have m0 : (0 : Int) ≤ (mi : Int) := by omega
          have m2 : (mi : Int) ≤ 15 := by omega
          rw [em]
          obtain ⟨u0, u1, u2, u3, u4⟩ := u
          obtain ⟨a0, a1, a2, a3, a4⟩ := hua
          have EM := Lib.hid em
          clear aat huk hrv em hmi
          go_wp2_with (at_builtin; refine wpList_app rfl (.tmp 35) (.tmp 40) _ rfl (app_vs (w0 := w) (ys := [⟨u0, u1, u2, u3, u4⟩]) (hb.alloc _) (OW.out.keep ((Bel.refl _).alloc _)) (vals_one wr ⟨u0, u1, u2, u3, u4⟩ rfl) rfl (fun h => by cases h) PL.out _) ?_; rintro v' w' ⟨o', b'⟩)
          go_roundg (o.length - (j + 1))
          case measure => have := hh.out; omega
          case rel =>
            have := EM.out
            refine ⟨j + 1, by rw [show (o.length : Int) - 1 - (j + 1 : Nat) = mi - 1 by omega], by omega, rfl, b', ?_⟩
            rw [← OE.out]
            exact o'
        · obtain rfl : j = o.length := by omega
          have OW2 := OW.out
          rw [List.take_of_length_le (by rw [List.length_reverse]; exact Nat.le_refl _)] at OW2
          obtain ⟨T, tc, rfl, hT, _, _⟩ := OW2.vals
          have HT := Lib.hid hT
          rw [List.length_reverse]
          have en : ¬ (0 : Int) ≤ (o.length : Int) - 1 - o.length := by omega
          clear OW OW2 hT
          go_upto_region 11 with (go_at_call 14; refine Calls.mono (C1.out _) ?_; rintro e W1 ⟨vl, l, rfl, hl, hr, hn, hb1⟩)
          obtain ⟨F, f, rfl, hF, _⟩ := hl.ints
          have HF := Lib.hid hF
          have HR := Lib.hid hr
          have HBK := Lib.hid (show (back o.length l).length = l.length from by unfold back; rw [List.length_map, List.length_reverse])
          replace HT := Lib.hid (HT.out.keep hb1)
          replace hb := hb.trans hb1
          have hli : (l.length : Int) ≤ 16 := by omega
          clear hb1 hl hF hr
          go_wp2_with fail
          go_loopg [12, 13] l.length (fun g s12 s13 wr => ∃ j : Nat, s13 = .int .i64 ((l.length : Int) - 1 - j) ∧ j ≤ l.length ∧ Hid (g = l.length - j) ∧ Bel W1 wr ∧ OwnI wr W1.heap.size s12 ((back o.length l).take j))
          case atStart => exact ⟨0, by simp, Nat.zero_le _, rfl, Bel.refl _, OwnI.nil _ _⟩
          case round =>
            obtain ⟨j, rfl, hj, hh, hb2, hown⟩ := hrel
            have OW := Lib.hid hown
            clear hown
            by_cases hp : j < l.length
            · have hln : 0 < (nums l).length := by rw [show (nums l).length = l.length by simp [nums]]; omega
              obtain ⟨fb, fo, rfl, flt, fat⟩ := HF.out hln
              obtain ⟨mi, hmi⟩ : ∃ mi, mi = l.length - 1 - j := ⟨_, rfl⟩
              obtain ⟨n, hik⟩ : ∃ n, l[mi]? = some n := ⟨_, List.getElem?_eq_getElem (by omega)⟩
              have hfa := (hb2.cells _ _ flt).trans (fat mi _ (show (nums l)[mi]? = some (.int .i64 n) by simp [nums, hik]))
              have him := risF_mem HR.out n (List.mem_of_getElem? hik)
              have lt1 := Nat.lt_of_lt_of_le flt hb2.size
              have hrv : (back o.length l)[j]? = some ((o.length : Int) - 1 - n) := by
                unfold back
                rw [List.getElem?_map, List.getElem?_reverse hp, ← hmi, hik]
                rfl
              have OE := Lib.hid (show (back o.length l).take j ++ [(o.length : Int) - 1 - n] = (back o.length l).take (j + 1) from by rw [List.take_add_one, hrv]; rfl)
              have PL := Lib.hid (show ((back o.length l).take j).length + 1 ≤ 2097152 from by rw [List.length_take, HBK.out]; omega)
              have em : (l.length : Int) - 1 - j = mi := by omega
              have m1 : (mi : Int) < l.length := by omega
              have m0 : (0 : Int) ≤ (mi : Int) := by omega
              have m2 : (mi : Int) ≤ 15 := by omega
              obtain ⟨n0, n1⟩ := him
              have n2 : n ≤ 15 := by omega
              rw [em]
              have EM := Lib.hid em
              clear fat hik hrv em hmi
              go_wp2_with (at_builtin; refine wpList_app rfl (.tmp 52) (.tmp 60) _ rfl (app_is (w0 := W1) (ys := [(o.length : Int) - 1 - n]) (hb2.alloc _) (OW.out.keep ((Bel.refl _).alloc _)) (ints_lit (w := wr) [(o.length : Int) - 1 - n] rfl) rfl (fun h => by cases h) PL.out _) ?_; rintro v' w' ⟨o', b'⟩)
              go_roundg (l.length - (j + 1))
              case measure => have := hh.out; omega
              case rel =>
                have := EM.out
                refine ⟨j + 1, by rw [show (l.length : Int) - 1 - (j + 1 : Nat) = mi - 1 by omega], by omega, rfl, b', ?_⟩
                rw [← OE.out]
                exact o'
            · obtain rfl : j = l.length := by omega
              have OW2 := OW.out
              rw [List.take_of_length_le (by rw [HBK.out]; exact Nat.le_refl _)] at OW2
              obtain ⟨G, gc, rfl, hG, _⟩ := OW2.ints
              have HG := Lib.hid hG
              rw [HBK.out]
              have en2 : ¬ (0 : Int) ≤ (l.length : Int) - 1 - l.length := by omega
              obtain ⟨V, X, er, ov, ox, vx⟩ := order_pair HP.out o l HR.out
              have K1 := Lib.hid (fun W F f (hF : Ints W F l) hW => CO.out P l F f W HR.out hn hF hW)
              have K2 := Lib.hid (fun W T tc G gc (hT : Vals W T o.reverse) (hG : Ints W G (back o.length l)) => CR.out P (back o.length l) T tc G gc W (by rw [List.length_reverse]; exact back_ris HR.out) (by rw [HBK.out]; exact hn) hT hG)
              rw [ov] at K1
              rw [ox, HBK.out, List.length_reverse] at K2
              replace HF := Lib.hid (HF.out.keep hb2)
              replace HT := Lib.hid (HT.out.keep hb2)
              replace hb := hb.trans hb2
              have VX := Lib.hid vx
              clear OW OW2 hG ov ox vx hb2 C1 CO CR
              obtain ⟨v0, v1, v2, v3, v4⟩ := V
              obtain ⟨x0, x1, x2, x3, x4⟩ := X
              simp only [Val.val, nul] at K1 K2
              go_upto_region 20 with (first
                | (go_at_call 9; with_reducible refine Calls.mono (K1.out _ F f HF.out hb) ?_; rintro e W2 ⟨rfl, hb2⟩)
                | (go_at_call 9; with_reducible refine Calls.mono (K2.out _ T tc G gc (HT.out.keep (hb2.alloc _)) (HG.out.keep (hb2.alloc _))) ?_; rintro e W3 ⟨rfl, hb3⟩; have S1 := (sl5_new W2 v0 v1 v2 v3 v4).keep hb3; replace hb3 := (hb2.alloc _).trans hb3)
                | (go_at_call 11; with_reducible refine Calls.mono (C5.out _) ?_; rintro e W4 ⟨rfl, hb4⟩; have S2 := (sl5_new W3 x0 x1 x2 x3 x4).keep hb4; replace S1 := S1.keep (((Bel.refl W3).alloc _).trans hb4); replace hb4 := (hb3.alloc _).trans hb4))
              obtain ⟨s10, ⟨s11, s12, s13, s14, s15⟩, _⟩ := S1
              obtain ⟨s20, ⟨s21, s22, s23, s24, s25⟩, _⟩ := S2
              have hbf := hb.trans hb4
              rcases VX.out with e | ⟨rfl, e⟩
              · cases e
                have q1 : veq ⟨v0, v1, v2, v3, v4⟩ ⟨v0, v1, v2, v3, v4⟩ = true := q_same _
                go_wp2_with fail
                go_ret
                exact ⟨by simp [q1], hbf⟩
              · rcases e with e | e
                · cases e
                  have q1 : veq ⟨0, 0, 0, ⟨#[]⟩, 0⟩ ⟨0, 0, 0, ⟨#[]⟩, 0⟩ = true := q_same _
                  generalize hq : veq ⟨0, 0, 0, ⟨#[]⟩, 0⟩ ⟨x0, x1, x2, x3, x4⟩ = q
                  cases q
                  all_goals
                    go_wp2_with fail
                    go_ret
                    exact ⟨by simp [q1, hq], hbf⟩
                · cases e
                  have q1 : veq ⟨0, 0, 0, ⟨#[]⟩, 0⟩ ⟨0, 0, 0, ⟨#[]⟩, 0⟩ = true := q_same _
                  generalize hq : veq ⟨v0, v1, v2, v3, v4⟩ ⟨0, 0, 0, ⟨#[]⟩, 0⟩ = q
                  cases q
                  all_goals
                    go_wp2_with fail
                    go_ret
                    exact ⟨by simp [q1, hq], hbf⟩
end Go.Proofs.Yteblpdoljhmcmaa
