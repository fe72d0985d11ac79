import Derived.Test.YtjckpkamhdbcnaaGreatDoorLxk
namespace Go.Proofs.YtjckpkamhdbcnaaGreatDoor
set_option linter.unusedSimpArgs false
set_option linter.unusedVariables false
open Go.RowKit
/-! Strings read. -/
theorem u8n {c : UInt8} {k : UInt8} (h : c ≠ k) : ((c.toNat : Int) == (k.toNat : Int)) = false := by
 rw [beq_eq_false_iff_ne]
 intro e
 exact h (UInt8.toNat_inj.1 (Int.ofNat.inj e))
theorem drop_at (s : ByteArray) (i : Nat) (h : i < s.size) : s.data.toList.drop i = s[i] :: s.data.toList.drop (i + 1) := by
 rw [List.drop_eq_getElem_cons (by rw [size_list]; exact h)]
 rfl
theorem strL_34 (acc r : List UInt8) : strL acc (34 :: r) = some (acc, r) := by
 unfold strL
 rw [if_pos rfl]
theorem strL_esc (acc r : List UInt8) (d : UInt8) (h : d = 34 ∨ d = 92) : strL acc (92 :: d :: r) = strL (acc ++ [d]) r := by
 conv => lhs; unfold strL
 rw [if_neg (by decide), if_pos rfl]
 simp only
 rw [if_pos h]
theorem strL_bad (acc r : List UInt8) (d : UInt8) (h : ¬ (d = 34 ∨ d = 92)) : strL acc (92 :: d :: r) = none := by
 unfold strL
 rw [if_neg (by decide), if_pos rfl]
 simp only
 rw [if_neg h]
theorem strL_end (acc : List UInt8) : strL acc [92] = none := by
 unfold strL
 rw [if_neg (by decide), if_pos rfl]
theorem strL_other (acc r : List UInt8) (c : UInt8) (h1 : c ≠ 34) (h2 : c ≠ 92) : strL acc (c :: r) = strL (acc ++ [c]) r := by
 conv => lhs; unfold strL
 rw [if_neg h1, if_neg h2]
theorem strT_none {l : List UInt8} (h : strL [] (l.drop 1) = none) : firV l (strT l) = firV [] (.bad 5) := by
 unfold strT
 rw [h]
 rfl
theorem strT_bad {l x r : List UInt8} (h : strL [] (l.drop 1) = some (x, r)) (ho : strOk x = false) : firV l (strT l) = firV [] (.bad 5) := by
 unfold strT
 rw [h]
 simp only
 rw [if_neg (by rw [ho]; simp)]
 rfl
theorem strT_some {l x r : List UInt8} (h : strL [] (l.drop 1) = some (x, r)) (ho : strOk x = true) : firV l (strT l) = .tuple #[.agg #[.int .i64 2, .int .i64 0, .string (bytesOf x), .int .i64 0, .int .i64 0, .int .i64 0], .int .i64 ((l.length - r.length : Nat) : Int), .int .i64 0] := by
 unfold strT
 rw [h]
 simp only
 rw [if_pos ho]
 rfl
theorem tsnd_str (x : List UInt8) : ksnd ⟨2, 0, x, 0, 0, 0⟩ = strOk x := by
 rw [tsnd2, teqv_iff.2 ⟨rfl, rfl, rfl, rfl, rfl, rfl⟩, Bool.true_and]
theorem bstr_any {W w : World} {b : Nat} {l : List UInt8} (hI : Bld W b l w) (hb : Bel W w) : Calls Tryz.prog 167 #[.pointer (some ⟨b, 0, none⟩)] w fun e w' => e = .returned (.string (bytesOf l)) ∧ (Bld W b l w' ∧ Bel W w' ∧ Oth b w w') :=
 (Tryz.Builder_String_any_k W.heap.size b l _ hI hb.size).mono fun e w' ⟨h1, h2, h3, h4⟩ => ⟨h1, h2, Below.trans hb h3, h4⟩
set_option maxRecDepth 100000 in
set_option maxHeartbeats 8000000 in
theorem xquoted_any (s : ByteArray) (hs : s.size ≤ 65536) (h0 : 1 ≤ s.size) (w : World) :
  Calls Tryz.prog 132 #[.string s] w fun e w' => e = .returned (firV s.data.toList (strT s.data.toList)) ∧ Bel w w' := by
 obtain ⟨FV, hFV⟩ : ∃ FV, FV = firV s.data.toList (strT s.data.toList) := ⟨_, rfl⟩
 rw [← hFV]
 have F0 := Lib.hid fun (h : strL [] (s.data.toList.drop 1) = none) => hFV.trans (strT_none h)
 have F1 := Lib.hid fun (x r : List UInt8) (h : strL [] (s.data.toList.drop 1) = some (x, r)) (ho : strOk x = false) => hFV.trans (strT_bad h ho)
 have F2 := Lib.hid fun (x r : List UInt8) (h : strL [] (s.data.toList.drop 1) = some (x, r)) (ho : strOk x = true) => hFV.trans (strT_some h ho)
 clear hFV
 obtain ⟨R, hR⟩ : ∃ R, R = strL [] (s.data.toList.drop 1) := ⟨_, rfl⟩
 rw [← hR] at F0 F1 F2
 have HR := Lib.hid hR
 clear hR
 have hsi : (s.size : Int) ≤ 65536 := by omega
 go_enter Tryz.func132, Tryz.ntmps132
 go_upto_region 1 with fail
 refine under_name ((Bel.refl w).alloc _) fun W hc hf hz hb => ?_
 have T : TSlot W w.heap.size tokZ := by simp [TSlot, tokZ, bytesOf, hc, hf, hz, go_sem]
 clear hc hf hz
 generalize hN : w.heap.size = N at T ⊢
 have BN := Lib.hid (show w.heap.size ≤ N from by omega)
 have HB := Lib.hid hb
 clear hN hb
 go_wp2_with fail
 go_loopg [6] s.size (fun g iv wr => ∃ (i : Nat) (acc : List UInt8), iv = .int .i64 i ∧ i ≤ s.size ∧ acc.length ≤ i ∧ Hid (g = s.size + 1 - i) ∧ Hid (strL acc (s.data.toList.drop i) = R) ∧ Hid (Bld W W.heap.size acc wr) ∧ Hid (Bel W wr))
 case atStart => exact ⟨1, [], rfl, h0, Nat.zero_le _, Lib.hid (by omega), Lib.hid HR.out.symm, Lib.hid (Lib.IsBuilderF.of (Lib.fresh_isBuilder 187 5 W)), Lib.hid ((Bel.refl W).alloc _)⟩
 case round =>
  obtain ⟨i, acc, rfl, hi, hac, hg, hS, hI, hb⟩ := hrel
  have i0 : (0 : Int) ≤ (i : Int) := by omega
  have hii : (i : Int) ≤ 65536 := by omega
  by_cases hlt : i < s.size
  ·have hd := drop_at s i hlt
   have w1 : IntKind.i64.wrap ((i : Int) + 1) = (i : Int) + 1 := by rw [IntKind.wrap_i64]; omega
   by_cases c34 : s[i] = 34
   ·rw [c34] at hd
    have e34 : ((s[i].toNat : Int) == 34) = true := by rw [c34]; rfl
    have e34' : (s[i].toNat : Int) = 34 := by rw [c34]; rfl
    have HRR := Lib.hid (show R = some (acc, s.data.toList.drop (i + 1)) from by rw [← hS.out, hd, strL_34])
    have CS := Lib.hid fun W' => xsound_any ⟨2, 0, acc, 0, 0, 0⟩ (by simp only; omega) W'
    rw [tsnd_str] at CS
    have LE := Lib.hid (show s.data.toList.length - (s.data.toList.drop (i + 1)).length = i + 1 from by rw [List.length_drop, size_list]; omega)
    clear hd c34
    cases ho : strOk acc with
    | true =>
     have FQ := Lib.hid (F2.out _ _ HRR.out ho)
     rw [LE.out] at FQ
     rw [ho] at CS
     obtain rfl := FQ.out
     clear ho FQ
     go_wp2_with (first
      | (go_at_call 167; refine (bstr_any hI.out hb.out).mono ?_; rintro e W3 ⟨rfl, _, hb3, _⟩; have hq3 := Lib.hid hb3; clear hb3)
      | (go_at_call 168; refine (CS.out _).mono ?_; rintro e W4 ⟨rfl, hb4⟩; have hq4 := Lib.hid ((hq3.out.alloc _).trans hb4); have hN4 := hb4.lt1; have hc4 := hb4.cells; obtain ⟨t0, ⟨t1, t2, t3, t4, t5, t6⟩, ⟨g1, g2, g3, g4, g5, g6⟩⟩ := T.keep hq4.out; simp only [tokZ] at t1 t2 t3 t4 t5 t6))
     refine bodyPost_ret (v := .tuple #[.agg #[.int .i64 2, .int .i64 0, .string (bytesOf acc), .int .i64 0, .int .i64 0, .int .i64 0], .int .i64 ((i : Int) + 1), .int .i64 0]) (by simp [results, Tryz.results132, go_sem, t0, t1, t2, t3, t4, t5, t6]) rfl ⟨rfl, ?_⟩
     have hN := BN.out
     have hq := HB.out.trans hq4.out
     (with_reducible repeat first | exact Bel.refl _ | refine Bel.setCell ?_ (by first | exact Nat.le_refl _ | (dsimp only; omega)) _ | refine Bel.alloc ?_ _ | refine Bel.drew ?_ | assumption | refine Bel.trans ?_ (by assumption))
    | false =>
     have FQ := Lib.hid (F1.out _ _ HRR.out ho)
     rw [ho] at CS
     obtain rfl := FQ.out
     clear ho FQ
     go_wp2_with (first
      | (go_at_call 167; refine (bstr_any hI.out hb.out).mono ?_; rintro e W3 ⟨rfl, _, hb3, _⟩; have hq3 := Lib.hid hb3; clear hb3)
      | (go_at_call 168; refine (CS.out _).mono ?_; rintro e W4 ⟨rfl, hb4⟩; have hq4 := Lib.hid ((hq3.out.alloc _).trans hb4); have hN4 := hb4.lt1; have hc4 := hb4.cells; obtain ⟨t0, ⟨t1, t2, t3, t4, t5, t6⟩, ⟨g1, g2, g3, g4, g5, g6⟩⟩ := T.keep hq4.out; simp only [tokZ] at t1 t2 t3 t4 t5 t6))
     refine bodyPost_ret (v := .tuple #[.agg #[.int .i64 0, .int .i64 0, .string ⟨#[]⟩, .int .i64 0, .int .i64 0, .int .i64 0], .int .i64 0, .int .i64 5]) (by simp [results, Tryz.results132, go_sem, t0, t1, t2, t3, t4, t5, t6]) rfl ⟨rfl, ?_⟩
     have hN := BN.out
     have hq := HB.out.trans hq4.out
     (with_reducible repeat first | exact Bel.refl _ | refine Bel.setCell ?_ (by first | exact Nat.le_refl _ | (dsimp only; omega)) _ | refine Bel.alloc ?_ _ | refine Bel.drew ?_ | assumption | refine Bel.trans ?_ (by assumption))
   ·have e34 : ((s[i].toNat : Int) == 34) = false := u8n c34
    by_cases c92 : s[i] = 92
    ·rw [c92] at hd
     have e92 : ((s[i].toNat : Int) == 92) = true := by rw [c92]; rfl
     have e92' : (s[i].toNat : Int) = 92 := by rw [c92]; rfl
     by_cases hz : i + 1 = s.size
     ·have HRR := Lib.hid (show R = none from by rw [← hS.out, hd, List.drop_of_length_le (by rw [size_list]; omega), strL_end])
      have FQ := Lib.hid (F0.out HRR.out)
      obtain rfl := FQ.out
      have ez : ((i : Int) + 1 == s.size) = true := by rw [beq_iff_eq]; omega
      clear hd c92 c34 FQ
      obtain ⟨t0, ⟨t1, t2, t3, t4, t5, t6⟩, ⟨g1, g2, g3, g4, g5, g6⟩⟩ := T.keep hb.out
      simp only [tokZ] at t1 t2 t3 t4 t5 t6
      go_wp2_with fail
      refine bodyPost_ret (v := .tuple #[.agg #[.int .i64 0, .int .i64 0, .string ⟨#[]⟩, .int .i64 0, .int .i64 0, .int .i64 0], .int .i64 0, .int .i64 5]) (by simp [results, Tryz.results132, go_sem, t0, t1, t2, t3, t4, t5, t6]) rfl ⟨rfl, ?_⟩
      have hN := BN.out
      have hq := HB.out.trans hb.out
      (with_reducible repeat first | exact Bel.refl _ | refine Bel.setCell ?_ (by first | exact Nat.le_refl _ | (dsimp only; omega)) _ | refine Bel.alloc ?_ _ | refine Bel.drew ?_ | assumption | refine Bel.trans ?_ (by assumption))
     ·have hlt1 : i + 1 < s.size := by omega
      have hd1 := drop_at s (i + 1) hlt1
      have ez : ((i : Int) + 1 == s.size) = false := by rw [beq_eq_false_iff_ne]; omega
      have ilt : (i : Int) + 1 < s.size := by omega
      have w2 : IntKind.i64.wrap ((i : Int) + 1 + 1) = (i : Int) + 1 + 1 := by rw [IntKind.wrap_i64]; omega
      by_cases hd34 : s[i + 1] = 34 ∨ s[i + 1] = 92
      ·have SN := Lib.hid (show strL (acc ++ [s[i + 1]]) (s.data.toList.drop (i + 1 + 1)) = R from by rw [← hS.out, hd, hd1, strL_esc _ _ _ hd34])
       clear hd hd1 c92 c34
       rcases hd34 with hk | hk
       ·have f34 : ((s[i + 1].toNat : Int) == 34) = true := by rw [hk]; rfl
        have f34' : (s[i + 1].toNat : Int) = 34 := by rw [hk]; rfl
        have n34 : ((s[i + 1].toNat : Int) != 34) = false := by rw [hk]; rfl
        have CW := Lib.hid (wbyte_any hI.out hb.out s[i + 1] (by omega))
        have e3 := Lib.hid (show (s[i + 1].toNat : Int) = 34 from by rw [hk]; rfl)
        clear hk
        go_wp2_with (go_at_call 169; (try rw [← e3.out]); refine (CW.out).mono ?_; rintro e W3 ⟨rfl, hI3, hb3, ho3⟩)
        go_roundg (s.size + 1 - (i + 1 + 1))
        case measure => have := hg.out; omega
        case rel => exact ⟨i + 1 + 1, acc ++ [s[i + 1]], by go_num, by omega, by rw [List.length_append]; simp; omega, Lib.hid rfl, SN, Lib.hid hI3, Lib.hid hb3⟩
       ·have f34 : ((s[i + 1].toNat : Int) == 34) = false := u8n (k := 34) (by rw [hk]; decide)
        have n34 : ((s[i + 1].toNat : Int) != 34) = true := by rw [hk]; rfl
        have n92 : ((s[i + 1].toNat : Int) != 92) = false := by rw [hk]; rfl
        have f92 : ((s[i + 1].toNat : Int) == 92) = true := by rw [hk]; rfl
        have f92' : (s[i + 1].toNat : Int) = 92 := by rw [hk]; rfl
        have CW := Lib.hid (wbyte_any hI.out hb.out s[i + 1] (by omega))
        have e3 := Lib.hid (show (s[i + 1].toNat : Int) = 92 from by rw [hk]; rfl)
        clear hk
        go_wp2_with (go_at_call 169; (try rw [← e3.out]); refine (CW.out).mono ?_; rintro e W3 ⟨rfl, hI3, hb3, ho3⟩)
        go_roundg (s.size + 1 - (i + 1 + 1))
        case measure => have := hg.out; omega
        case rel => exact ⟨i + 1 + 1, acc ++ [s[i + 1]], by go_num, by omega, by rw [List.length_append]; simp; omega, Lib.hid rfl, SN, Lib.hid hI3, Lib.hid hb3⟩
      ·have HRR := Lib.hid (show R = none from by rw [← hS.out, hd, hd1, strL_bad _ _ _ hd34])
       have FQ := Lib.hid (F0.out HRR.out)
       obtain rfl := FQ.out
       have f34 : ((s[i + 1].toNat : Int) == 34) = false := u8n (fun h => hd34 (.inl h))
       have f92 : ((s[i + 1].toNat : Int) == 92) = false := u8n (fun h => hd34 (.inr h))
       have n34 : ((s[i + 1].toNat : Int) != 34) = true := by unfold bne; rw [f34]; rfl
       have n92 : ((s[i + 1].toNat : Int) != 92) = true := by unfold bne; rw [f92]; rfl
       clear hd hd1 c92 c34 FQ hd34
       obtain ⟨t0, ⟨t1, t2, t3, t4, t5, t6⟩, ⟨g1, g2, g3, g4, g5, g6⟩⟩ := T.keep hb.out
       simp only [tokZ] at t1 t2 t3 t4 t5 t6
       go_wp2_with fail
       refine bodyPost_ret (v := .tuple #[.agg #[.int .i64 0, .int .i64 0, .string ⟨#[]⟩, .int .i64 0, .int .i64 0, .int .i64 0], .int .i64 0, .int .i64 5]) (by simp [results, Tryz.results132, go_sem, t0, t1, t2, t3, t4, t5, t6]) rfl ⟨rfl, ?_⟩
       have hN := BN.out
       have hq := HB.out.trans hb.out
       (with_reducible repeat first | exact Bel.refl _ | refine Bel.setCell ?_ (by first | exact Nat.le_refl _ | (dsimp only; omega)) _ | refine Bel.alloc ?_ _ | refine Bel.drew ?_ | assumption | refine Bel.trans ?_ (by assumption))
    ·have e92 : ((s[i].toNat : Int) == 92) = false := u8n c92
     have SN := Lib.hid (show strL (acc ++ [s[i]]) (s.data.toList.drop (i + 1)) = R from by rw [← hS.out, hd, strL_other _ _ _ c34 c92])
     clear hd c92 c34
     go_wp2_with (go_at_call 169; refine (wbyte_any hI.out hb.out s[i] (by omega)).mono ?_; rintro e W3 ⟨rfl, hI3, hb3, ho3⟩)
     go_roundg (s.size + 1 - (i + 1))
     case measure => have := hg.out; omega
     case rel => exact ⟨i + 1, acc ++ [s[i]], by go_num, by omega, by rw [List.length_append]; simp; omega, Lib.hid rfl, SN, Lib.hid hI3, Lib.hid hb3⟩
  ·obtain rfl : i = s.size := by omega
   have HRR := Lib.hid (show R = none from by rw [← hS.out, List.drop_of_length_le (by rw [size_list]; exact Nat.le_refl _)]; rfl)
   have FQ := Lib.hid (F0.out HRR.out)
   obtain rfl := FQ.out
   clear FQ
   obtain ⟨t0, ⟨t1, t2, t3, t4, t5, t6⟩, ⟨g1, g2, g3, g4, g5, g6⟩⟩ := T.keep hb.out
   simp only [tokZ] at t1 t2 t3 t4 t5 t6
   go_wp2_with fail
   refine bodyPost_ret (v := .tuple #[.agg #[.int .i64 0, .int .i64 0, .string ⟨#[]⟩, .int .i64 0, .int .i64 0, .int .i64 0], .int .i64 0, .int .i64 5]) (by simp [results, Tryz.results132, go_sem, t0, t1, t2, t3, t4, t5, t6]) rfl ⟨rfl, ?_⟩
   have hN := BN.out
   have hq := HB.out.trans hb.out
   (with_reducible repeat first | exact Bel.refl _ | refine Bel.setCell ?_ (by first | exact Nat.le_refl _ | (dsimp only; omega)) _ | refine Bel.alloc ?_ _ | refine Bel.drew ?_ | assumption | refine Bel.trans ?_ (by assumption))
end Go.Proofs.YtjckpkamhdbcnaaGreatDoor
