import Derived.Test.YthcpgbbmgabpnaaCku
import Derived.Deep.Cut
import Derived.Deep.CutBlock
namespace Go.Proofs.Ythcpgbbmgabpnaa
set_option linter.unusedSimpArgs false
set_option linter.unusedVariables false
open Go.RowKit

/-! Chars: the law Numbers. -/
theorem digit_char (dg : ByteArray) (h : (⟨#[48, 49, 50, 51, 52, 53, 54, 55, 56, 57, 97, 98, 99, 100, 101, 102]⟩ : ByteArray) = dg) (d : Nat) (hd : d < dg.size) : dvB dg[d].toNat = d := by
  subst h
  have h16 : d < 16 := hd
  have key : ∀ i : Fin 16, dvB (((⟨#[48, 49, 50, 51, 52, 53, 54, 55, 56, 57, 97, 98, 99, 100, 101, 102]⟩ : ByteArray).data.toList.getD i.val 0)).toNat = i.val := by decide
  have h1 := key ⟨d, h16⟩
  have h2 : (⟨#[48, 49, 50, 51, 52, 53, 54, 55, 56, 57, 97, 98, 99, 100, 101, 102]⟩ : ByteArray).data.toList.getD d 0 = (⟨#[48, 49, 50, 51, 52, 53, 54, 55, 56, 57, 97, 98, 99, 100, 101, 102]⟩ : ByteArray)[d] := by
    have h3 := getD_at ⟨#[48, 49, 50, 51, 52, 53, 54, 55, 56, 57, 97, 98, 99, 100, 101, 102]⟩ 0 d (by rw [Nat.zero_add]; exact hd)
    rw [List.drop_zero] at h3
    simp only [Nat.zero_add] at h3
    exact h3
  rw [← h2]
  exact h1
set_option maxRecDepth 100000 in
set_option maxHeartbeats 4000000 in
theorem law_numbers_dec (n k : Nat) (hn : n < 4294967296) (hk : n % 1179648 = k) (w : World) : Calls Try.prog 8 #[.int .u32 n, .bool false] w fun e w' => e = .returned (.bool true) ∧ Bel w w' := by
  have hk0 : k < 1179648 := by omega
  have hkk : (n : Int) % 1179648 = (k : Int) := by omega
  have hni : (n : Int) < 4294967296 := by omega
  clear hk
  go_enter Try.func8, Try.ntmps8
  go_wp2_with fail
  generalize hdg : (⟨#[48, 49, 50, 51, 52, 53, 54, 55, 56, 57, 97, 98, 99, 100, 101, 102]⟩ : ByteArray) = dg
  have HDG := Lib.hid hdg
  clear hdg hkk
  go_loopg [7, 9] 100 (fun g v i wr => ∃ (x : Nat) (D : List UInt8) (o : ByteArray), v = .string o ∧ i = .int .i64 x ∧ o.size ≤ 7 ∧ x ≤ k ∧ Hid (o = bytesOf D ∧ SoFar 10 k x D ∧ g = 100 - D.length) ∧ Bel w wr)
  case atStart => exact ⟨k, [], ⟨#[]⟩, rfl, rfl, by decide, Nat.le_refl _, ⟨rfl, SoFar.start 10 k, rfl⟩, Bel.refl _⟩
  case round =>
    obtain ⟨x, D, o, rfl, rfl, ho7, hxk, hh, hb⟩ := hrel
    obtain ⟨d, hd⟩ : ∃ d, d = x % 10 := ⟨_, rfl⟩
    have hdi : (x : Int) % 10 = (d : Int) := by omega
    have hdz : dg.size = 16 := by rw [← HDG.out]; rfl
    have hd16 : d < dg.size := by omega
    have hd16i : (d : Int) < dg.size := by omega
    have hcv := conv_new wr [dg[d]] #[.int .u8 (dg[d].toNat : Int)] rfl 1 1 rfl
    obtain ⟨b, hbb⟩ : ∃ b, b = bytesOf [dg[d]] := ⟨_, rfl⟩
    rw [← hbb] at hcv
    have hb1i : (b.size : Int) ≤ 1 := by have h1 : (bytesOf [dg[d]]).size = 1 := bytesOf_size _; rw [← hbb] at h1; omega
    have HB := Lib.hid hbb
    have HD := Lib.hid hd
    have ho7i : (o.size : Int) ≤ 7 := by omega
    clear hdz hd hbb
    by_cases hx : 0 < x
    · have g1 : decide ((0 : Int) < x) = true := by exact decide_eq_true (by omega)
      have HCH := Lib.hid (digit_char dg HDG.out d hd16)
      have HCV := Lib.hid hcv
      clear hcv
      go_wp2_with (fail)
      rw [HCV.out]
      simp only [Result.andThen]
      rw [Oper.upon_value]
      go_wp2_with (fail)
      go_roundg (100 - (D.length + 1))
      case measure =>
        have h1 := hh.out.2.2
        have h2 := hh.out.2.1
        obtain ⟨_, _, _, h3⟩ := h2
        omega
      case rel =>
        refine ⟨x / 10, dg[d] :: D, b ++ o, rfl, ?_, ?_, by have := Nat.div_le_self x 10; omega, ⟨?_, ?_, ?_⟩, hb.alloc _⟩
        · exact congrArg (fun z => Value.int .i64 z) (by omega)
        · have h4 := hh.out.2.1.step (by omega) hk0 (.inr hx) dg[d] (by rw [HCH.out]; exact HD.out)
          obtain ⟨_, _, _, h5⟩ := h4
          rw [List.length_cons] at h5
          have h6 : o.size = D.length := by rw [hh.out.1, bytesOf_size]
          have h7 : b.size = 1 := by rw [HB.out]; rfl
          rw [ByteArray.size_append]
          omega
        · rw [HB.out, hh.out.1, app_bytesOf]
          rfl
        · exact hh.out.2.1.step (by omega) hk0 (.inr hx) dg[d] (by rw [HCH.out]; exact HD.out)
        · rfl
    · have g1 : decide ((0 : Int) < x) = false := by exact decide_eq_false (by omega)
      have HX := Lib.hid (show x = 0 by omega)
      by_cases hD : D = []
      · have e0 : o.toList.isEmpty = true := by rw [hh.out.1, hD, ByteArray.toList_eq]; rfl
        have HCH := Lib.hid (digit_char dg HDG.out d hd16)
        have HCV := Lib.hid hcv
        clear hcv
        go_wp2_with (fail)
        rw [HCV.out]
        simp only [Result.andThen]
        rw [Oper.upon_value]
        go_wp2_with (fail)
        go_roundg (100 - (D.length + 1))
        case measure =>
          have h1 := hh.out.2.2
          have h2 := hh.out.2.1
          obtain ⟨_, _, _, h3⟩ := h2
          omega
        case rel =>
          refine ⟨x / 10, dg[d] :: D, b ++ o, rfl, ?_, ?_, by have := Nat.div_le_self x 10; omega, ⟨?_, ?_, ?_⟩, hb.alloc _⟩
          · exact congrArg (fun z => Value.int .i64 z) (by omega)
          · have h4 := hh.out.2.1.step (by omega) hk0 (.inl hD) dg[d] (by rw [HCH.out]; exact HD.out)
            obtain ⟨_, _, _, h5⟩ := h4
            rw [List.length_cons] at h5
            have h6 : o.size = D.length := by rw [hh.out.1, bytesOf_size]
            have h7 : b.size = 1 := by rw [HB.out]; rfl
            rw [ByteArray.size_append]
            omega
          · rw [HB.out, hh.out.1, app_bytesOf]
            rfl
          · exact hh.out.2.1.step (by omega) hk0 (.inl hD) dg[d] (by rw [HCH.out]; exact HD.out)
          · rfl
      · have e0 : o.toList.isEmpty = false := by
          rw [hh.out.1, ByteArray.toList_eq, Bool.eq_false_iff, ne_eq, List.isEmpty_iff]
          exact hD
        have HU := Lib.hid (text_dec (by have h := hh.out.2.1; rw [HX.out] at h; exact h) hD)
        have HO := Lib.hid hh.out.1
        have HT := Lib.hid (show ⟨#[38, 35]⟩ ++ o ++ ⟨#[59]⟩ = bytesOf (38 :: 35 :: (D ++ [59])) by
          rw [HO.out]
          exact (congrArg (· ++ bytesOf [59]) (app_bytesOf [38, 35] D)).trans (app_bytesOf _ [59]))
        have hoD : o.size = D.length := by rw [HO.out, bytesOf_size]
        have hc := fun w => unescape_any (⟨#[38, 35]⟩ ++ o ++ ⟨#[59]⟩) (by rw [HT.out, bytesOf_size]; simp; omega) w
        clear hoD
        rw [HT.out, HU.out] at hc
        have SG := Lib.hid fun w => rsign_any k (by omega) w
        have b1 : (0 : Int) ≤ k := by omega
        have b2 : (k : Int) < 1179648 := by omega
        cases hv : sgn k with
        | true =>
          rw [hv, if_pos rfl] at hc
          have hgd := enc_good k hv
          have hut := enc_utf k hv
          obtain ⟨t, ht⟩ : ∃ t, t = bytesOf (Lib.encodeRune (k : Int)) := ⟨_, rfl⟩
          have et : t.toList.isEmpty = false := by
            rw [ht, ByteArray.toList_eq, Bool.eq_false_iff, ne_eq, List.isEmpty_iff]
            exact hgd.2
          have UE := Lib.hid (show ∀ w, Calls Try.prog 18 #[.string (⟨#[38, 35]⟩ ++ o ++ ⟨#[59]⟩)] w fun e w' => e = .returned (.tuple #[.string t, .int .i64 0, .int .i64 0]) ∧ Bel w w' by rw [HT.out, ht]; exact hc)
          rw [← ht] at hut hgd
          have GD := Lib.hid (show ∀ w, Calls Try.prog 12 #[.string t] w fun e w' => e = .returned (.bool true) ∧ Bel w w' by
            intro w
            have h := good_any t (by rw [ht, bytesOf_size, ← Lib.runeCells_length]; have := (Lib.runeCells_le (k : Int)).2; omega) w
            rw [hgd.1] at h
            exact h)
          have HV := Lib.hid hv
          clear hc hv hgd ht hdi hcv
          go_wp2_with (first
            | (go_at_call 9; refine (awake_any _).mono ?_; rintro e V0 ⟨rfl, b0⟩)
            | (go_at_call 18; with_reducible refine (UE.out _).mono ?_; rintro e V1 ⟨rfl, b1⟩)
            | (go_at_call 20; refine (SG.out _).mono ?_; rintro e V2 ⟨rfl, rfl⟩; rw [HV.out])
            | (go_at_call 12; refine (GD.out _).mono ?_; rintro e V3 ⟨rfl, b3⟩))
          go_ret
          exact ⟨rfl, ((hb.trans b1).trans b0).trans b3⟩
        | false =>
          rw [hv, if_neg (by decide)] at hc
          have UE := Lib.hid (show ∀ w, Calls Try.prog 18 #[.string (⟨#[38, 35]⟩ ++ o ++ ⟨#[59]⟩)] w fun e w' => e = .returned (.tuple #[.string ⟨#[]⟩, .int .i64 0, .int .i64 7]) ∧ Bel w w' by rw [HT.out]; exact hc)
          have HV := Lib.hid hv
          clear hc hv hdi hcv
          go_wp2_with (first
            | (go_at_call 9; refine (awake_any _).mono ?_; rintro e V0 ⟨rfl, b0⟩)
            | (go_at_call 18; with_reducible refine (UE.out _).mono ?_; rintro e V1 ⟨rfl, b1⟩)
            | (go_at_call 20; refine (SG.out _).mono ?_; rintro e V2 ⟨rfl, rfl⟩; rw [HV.out]))
          go_ret
          exact ⟨rfl, (hb.trans b1).trans b0⟩
set_option maxRecDepth 100000 in
set_option maxHeartbeats 4000000 in
theorem law_numbers_hex (n k : Nat) (hn : n < 4294967296) (hk : n % 1179648 = k) (w : World) : Calls Try.prog 8 #[.int .u32 n, .bool true] w fun e w' => e = .returned (.bool true) ∧ Bel w w' := by
  have hk0 : k < 1179648 := by omega
  have hkk : (n : Int) % 1179648 = (k : Int) := by omega
  have hni : (n : Int) < 4294967296 := by omega
  clear hk
  go_enter Try.func8, Try.ntmps8
  go_wp2_with fail
  generalize hdg : (⟨#[48, 49, 50, 51, 52, 53, 54, 55, 56, 57, 97, 98, 99, 100, 101, 102]⟩ : ByteArray) = dg
  have HDG := Lib.hid hdg
  clear hdg hkk
  go_loopg [7, 9] 100 (fun g v i wr => ∃ (x : Nat) (D : List UInt8) (o : ByteArray), v = .string o ∧ i = .int .i64 x ∧ o.size ≤ 7 ∧ x ≤ k ∧ Hid (o = bytesOf D ∧ SoFar 16 k x D ∧ g = 100 - D.length) ∧ Bel w wr)
  case atStart => exact ⟨k, [], ⟨#[]⟩, rfl, rfl, by decide, Nat.le_refl _, ⟨rfl, SoFar.start 16 k, rfl⟩, Bel.refl _⟩
  case round =>
    obtain ⟨x, D, o, rfl, rfl, ho7, hxk, hh, hb⟩ := hrel
    obtain ⟨d, hd⟩ : ∃ d, d = x % 16 := ⟨_, rfl⟩
    have hdi : (x : Int) % 16 = (d : Int) := by omega
    have hdz : dg.size = 16 := by rw [← HDG.out]; rfl
    have hd16 : d < dg.size := by omega
    have hd16i : (d : Int) < dg.size := by omega
    have hcv := conv_new wr [dg[d]] #[.int .u8 (dg[d].toNat : Int)] rfl 1 1 rfl
    obtain ⟨b, hbb⟩ : ∃ b, b = bytesOf [dg[d]] := ⟨_, rfl⟩
    rw [← hbb] at hcv
    have hb1i : (b.size : Int) ≤ 1 := by have h1 : (bytesOf [dg[d]]).size = 1 := bytesOf_size _; rw [← hbb] at h1; omega
    have HB := Lib.hid hbb
    have HD := Lib.hid hd
    have ho7i : (o.size : Int) ≤ 7 := by omega
    clear hdz hd hbb
    by_cases hx : 0 < x
    · have g1 : decide ((0 : Int) < x) = true := by exact decide_eq_true (by omega)
      have HCH := Lib.hid (digit_char dg HDG.out d hd16)
      have HCV := Lib.hid hcv
      clear hcv
      go_wp2_with (fail)
      rw [HCV.out]
      simp only [Result.andThen]
      rw [Oper.upon_value]
      go_wp2_with (fail)
      go_roundg (100 - (D.length + 1))
      case measure =>
        have h1 := hh.out.2.2
        have h2 := hh.out.2.1
        obtain ⟨_, _, _, h3⟩ := h2
        omega
      case rel =>
        refine ⟨x / 16, dg[d] :: D, b ++ o, rfl, ?_, ?_, by have := Nat.div_le_self x 16; omega, ⟨?_, ?_, ?_⟩, hb.alloc _⟩
        · exact congrArg (fun z => Value.int .i64 z) (by omega)
        · have h4 := hh.out.2.1.step (by omega) hk0 (.inr hx) dg[d] (by rw [HCH.out]; exact HD.out)
          obtain ⟨_, _, _, h5⟩ := h4
          rw [List.length_cons] at h5
          have h6 : o.size = D.length := by rw [hh.out.1, bytesOf_size]
          have h7 : b.size = 1 := by rw [HB.out]; rfl
          rw [ByteArray.size_append]
          omega
        · rw [HB.out, hh.out.1, app_bytesOf]
          rfl
        · exact hh.out.2.1.step (by omega) hk0 (.inr hx) dg[d] (by rw [HCH.out]; exact HD.out)
        · rfl
    · have g1 : decide ((0 : Int) < x) = false := by exact decide_eq_false (by omega)
      have HX := Lib.hid (show x = 0 by omega)
      by_cases hD : D = []
      · have e0 : o.toList.isEmpty = true := by rw [hh.out.1, hD, ByteArray.toList_eq]; rfl
        have HCH := Lib.hid (digit_char dg HDG.out d hd16)
        have HCV := Lib.hid hcv
        clear hcv
        go_wp2_with (fail)
        rw [HCV.out]
        simp only [Result.andThen]
        rw [Oper.upon_value]
        go_wp2_with (fail)
        go_roundg (100 - (D.length + 1))
        case measure =>
          have h1 := hh.out.2.2
          have h2 := hh.out.2.1
          obtain ⟨_, _, _, h3⟩ := h2
          omega
        case rel =>
          refine ⟨x / 16, dg[d] :: D, b ++ o, rfl, ?_, ?_, by have := Nat.div_le_self x 16; omega, ⟨?_, ?_, ?_⟩, hb.alloc _⟩
          · exact congrArg (fun z => Value.int .i64 z) (by omega)
          · have h4 := hh.out.2.1.step (by omega) hk0 (.inl hD) dg[d] (by rw [HCH.out]; exact HD.out)
            obtain ⟨_, _, _, h5⟩ := h4
            rw [List.length_cons] at h5
            have h6 : o.size = D.length := by rw [hh.out.1, bytesOf_size]
            have h7 : b.size = 1 := by rw [HB.out]; rfl
            rw [ByteArray.size_append]
            omega
          · rw [HB.out, hh.out.1, app_bytesOf]
            rfl
          · exact hh.out.2.1.step (by omega) hk0 (.inl hD) dg[d] (by rw [HCH.out]; exact HD.out)
          · rfl
      · have e0 : o.toList.isEmpty = false := by
          rw [hh.out.1, ByteArray.toList_eq, Bool.eq_false_iff, ne_eq, List.isEmpty_iff]
          exact hD
        have HU := Lib.hid (text_hex (by have h := hh.out.2.1; rw [HX.out] at h; exact h) hD)
        have HO := Lib.hid hh.out.1
        have HT := Lib.hid (show ⟨#[38, 35]⟩ ++ (⟨#[120]⟩ ++ o) ++ ⟨#[59]⟩ = bytesOf (38 :: 35 :: 120 :: (D ++ [59])) by
          rw [HO.out]
          exact (congrArg (fun z => bytesOf [38, 35] ++ z ++ bytesOf [59]) (app_bytesOf [120] D)).trans ((congrArg (· ++ bytesOf [59]) (app_bytesOf [38, 35] _)).trans (app_bytesOf _ [59])))
        have hoD : o.size = D.length := by rw [HO.out, bytesOf_size]
        have hc := fun w => unescape_any (⟨#[38, 35]⟩ ++ (⟨#[120]⟩ ++ o) ++ ⟨#[59]⟩) (by rw [HT.out, bytesOf_size]; simp; omega) w
        clear hoD
        rw [HT.out, HU.out] at hc
        have SG := Lib.hid fun w => rsign_any k (by omega) w
        have b1 : (0 : Int) ≤ k := by omega
        have b2 : (k : Int) < 1179648 := by omega
        cases hv : sgn k with
        | true =>
          rw [hv, if_pos rfl] at hc
          have hgd := enc_good k hv
          have hut := enc_utf k hv
          obtain ⟨t, ht⟩ : ∃ t, t = bytesOf (Lib.encodeRune (k : Int)) := ⟨_, rfl⟩
          have et : t.toList.isEmpty = false := by
            rw [ht, ByteArray.toList_eq, Bool.eq_false_iff, ne_eq, List.isEmpty_iff]
            exact hgd.2
          have UE := Lib.hid (show ∀ w, Calls Try.prog 18 #[.string (⟨#[38, 35]⟩ ++ (⟨#[120]⟩ ++ o) ++ ⟨#[59]⟩)] w fun e w' => e = .returned (.tuple #[.string t, .int .i64 0, .int .i64 0]) ∧ Bel w w' by rw [HT.out, ht]; exact hc)
          rw [← ht] at hut hgd
          have GD := Lib.hid (show ∀ w, Calls Try.prog 12 #[.string t] w fun e w' => e = .returned (.bool true) ∧ Bel w w' by
            intro w
            have h := good_any t (by rw [ht, bytesOf_size, ← Lib.runeCells_length]; have := (Lib.runeCells_le (k : Int)).2; omega) w
            rw [hgd.1] at h
            exact h)
          have HV := Lib.hid hv
          clear hc hv hgd ht hdi hcv
          go_wp2_with (first
            | (go_at_call 9; refine (awake_any _).mono ?_; rintro e V0 ⟨rfl, b0⟩)
            | (go_at_call 18; with_reducible refine (UE.out _).mono ?_; rintro e V1 ⟨rfl, b1⟩)
            | (go_at_call 20; refine (SG.out _).mono ?_; rintro e V2 ⟨rfl, rfl⟩; rw [HV.out])
            | (go_at_call 12; refine (GD.out _).mono ?_; rintro e V3 ⟨rfl, b3⟩))
          go_ret
          exact ⟨rfl, ((hb.trans b1).trans b0).trans b3⟩
        | false =>
          rw [hv, if_neg (by decide)] at hc
          have UE := Lib.hid (show ∀ w, Calls Try.prog 18 #[.string (⟨#[38, 35]⟩ ++ (⟨#[120]⟩ ++ o) ++ ⟨#[59]⟩)] w fun e w' => e = .returned (.tuple #[.string ⟨#[]⟩, .int .i64 0, .int .i64 7]) ∧ Bel w w' by rw [HT.out]; exact hc)
          have HV := Lib.hid hv
          clear hc hv hdi hcv
          go_wp2_with (first
            | (go_at_call 9; refine (awake_any _).mono ?_; rintro e V0 ⟨rfl, b0⟩)
            | (go_at_call 18; with_reducible refine (UE.out _).mono ?_; rintro e V1 ⟨rfl, b1⟩)
            | (go_at_call 20; refine (SG.out _).mono ?_; rintro e V2 ⟨rfl, rfl⟩; rw [HV.out]))
          go_ret
          exact ⟨rfl, (hb.trans b1).trans b0⟩
theorem law_numbers (n : Nat) (b : Bool) (hn : n < 4294967296) (w : World) : Calls Try.prog 8 #[.int .u32 n, .bool b] w fun e w' => e = .returned (.bool true) ∧ Bel w w' := by
  cases b with
  | true => exact law_numbers_hex n _ hn rfl w
  | false => exact law_numbers_dec n _ hn rfl w
end Go.Proofs.Ythcpgbbmgabpnaa
