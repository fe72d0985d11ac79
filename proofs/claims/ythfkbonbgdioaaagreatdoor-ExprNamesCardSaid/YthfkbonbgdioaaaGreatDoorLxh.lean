
import Derived.Test.YthfkbonbgdioaaaGreatDoorLxf
namespace Go.Proofs.YthfkbonbgdioaaaGreatDoor
set_option linter.unusedSimpArgs false
set_option linter.unusedVariables false
open Go.RowKit

/-! The reader of tokens: numbers. -/
theorem nmb_take (s : ByteArray) : s.extract 0 (nmbL s.data.toList).1.length = bytesOf (nmbL s.data.toList).1 := by
  have h := nmbL_suf s.data.toList
  rw [ext_bytes, List.drop_zero, Nat.sub_zero]
  congr 1
  generalize (nmbL s.data.toList).1 = x at *
  generalize (nmbL s.data.toList).2 = y at *
  rw [h]
  simp
theorem nmb_len (s : ByteArray) : (nmbL s.data.toList).1.length + (nmbL s.data.toList).2.length = s.size := by
  have h := congrArg List.length (nmbL_suf s.data.toList)
  rw [List.length_append, size_list] at h
  exact h.symm
/-- A number, by cases of what is behind its digits. -/
theorem nmb_cases (s : ByteArray) (n : Nat) (hn : n = (s.data.toList.takeWhile fgB).length) :
    ((nmbL s.data.toList).1.length = n ∧ (¬ n + 1 < s.size ∨ ∃ h : n + 1 < s.size, s[n]'(Nat.lt_of_succ_lt h) ≠ 46 ∨ fgB (s[n + 1]'h) = false)) ∨
    (∃ h : n + 1 < s.size, s[n]'(Nat.lt_of_succ_lt h) = 46 ∧ fgB (s[n + 1]'h) = true ∧ (nmbL s.data.toList).1.length = n + (1 + ((s.data.toList.drop (n + 1)).takeWhile fgB).length)) := by
  have h1 := (span_is fgB s.data.toList).1
  have hd := drop_tw fgB s.data.toList
  rw [← hn] at hd
  unfold nmbL
  match hx : s.data.toList.dropWhile fgB with
  | [] =>
    left
    refine ⟨hn.symm, .inl ?_⟩
    have := congrArg List.length h1
    rw [List.length_append, hx, size_list, ← hn] at this
    simp at this
    omega
  | [p] =>
    left
    refine ⟨hn.symm, .inl ?_⟩
    have := congrArg List.length h1
    rw [List.length_append, hx, size_list, ← hn] at this
    simp at this
    omega
  | p :: d :: r =>
    have hl := congrArg List.length h1
    rw [List.length_append, hx, size_list, ← hn] at hl
    simp only [List.length_cons] at hl
    have hlt : n + 1 < s.size := by omega
    rw [hx] at hd
    have e0 : s[n] = p := by
      have : (s.data.toList.drop n)[0]? = some p := by rw [hd]; rfl
      rw [List.getElem?_drop, Nat.add_zero, List.getElem?_eq_getElem (by rw [size_list]; omega)] at this
      exact Option.some.inj this
    have e1 : s[n + 1] = d := by
      have : (s.data.toList.drop n)[1]? = some d := by rw [hd]; rfl
      rw [List.getElem?_drop, List.getElem?_eq_getElem (by rw [size_list]; omega)] at this
      exact Option.some.inj this
    have hd1 : s.data.toList.drop (n + 1) = d :: r := by rw [← List.drop_drop, hd]; rfl
    by_cases hp : p = 46 ∧ fgB d = true
    · right
      refine ⟨hlt, by rw [e0]; exact hp.1, by rw [e1]; exact hp.2, ?_⟩
      simp only
      rw [if_pos hp, hd1]
      simp only [List.length_append, List.length_cons, ← hn]
      omega
    · left
      refine ⟨by simp only; rw [if_neg hp]; exact hn.symm, .inr ⟨hlt, ?_⟩⟩
      rw [e0, e1]
      by_cases h46 : p = 46
      · right
        rw [Bool.eq_false_iff]
        exact fun h => hp ⟨h46, h⟩
      · exact .inl h46
set_option maxRecDepth 100000 in
set_option maxHeartbeats 400000 in
theorem xnumber_any (s : ByteArray) (hs : s.size ≤ 65536) (w : World) :
    Calls Tryz.prog 91 #[.string s] w fun e w' => e = .returned (firV s.data.toList (numT s.data.toList)) ∧ Bel w w' := by
  obtain ⟨n, hn⟩ : ∃ n, n = (s.data.toList.takeWhile fgB).length := ⟨_, rfl⟩
  have hnl := tw_lens fgB s.data.toList
  rw [size_list, ← hn] at hnl
  have CR := Lib.hid fun W => runD_any s hs W
  rw [← hn] at CR
  have hcs := nmb_cases s n hn
  have htk := nmb_take s
  have hle := nmb_len s
  have CP := Lib.hid fun W => parse_any (bytesOf (nmbL s.data.toList).1) (by rw [bytesOf_size]; omega) W
  rw [bytes_toList, parse_is] at CP
  have FV0 := Lib.hid (show (decP (nmbL s.data.toList).1).2.2 = 0 → firV s.data.toList (numT s.data.toList) = .tuple #[.agg #[.int .i64 1, .int .i64 0, .string (bytesOf []), .int .i64 (decP (nmbL s.data.toList).1).1, .int .i64 (decP (nmbL s.data.toList).1).2.1, .int .i64 0], .int .i64 ((nmbL s.data.toList).1.length : Nat), .int .i64 0] from fun h => by
    unfold numT
    rw [if_pos h]
    simp only [firV]
    rw [size_list, show s.size - (nmbL s.data.toList).2.length = (nmbL s.data.toList).1.length by omega])
  have FV1 := Lib.hid (show (decP (nmbL s.data.toList).1).2.2 ≠ 0 → firV s.data.toList (numT s.data.toList) = firV [] (.bad (decP (nmbL s.data.toList).1).2.2) from fun h => by
    unfold numT
    rw [if_neg h]
    rfl)
  generalize firV s.data.toList (numT s.data.toList) = FV at *
  generalize (decP (nmbL s.data.toList).1).1 = da at *
  generalize (decP (nmbL s.data.toList).1).2.1 = db at *
  generalize (decP (nmbL s.data.toList).1).2.2 = de at *
  generalize (nmbL s.data.toList).1 = q at *
  have hni : (n : Int) ≤ s.size := by omega
  have hni2 : n ≤ s.size := by omega
  have hsi : (s.size : Int) ≤ 65536 := by omega
  have hde : de = 0 ∨ de ≠ 0 := by omega
  have w1 : IntKind.i64.wrap ((n : Int) + 1) = (n : Int) + 1 := by rw [IntKind.wrap_i64]; omega
  have HS := Lib.hid hs
  clear hnl hn hs
  rcases hcs with ⟨hq, hcs⟩ | ⟨hlt, h46, hdg, hq⟩
  · have GX := Lib.hid htk
    rw [hq] at GX FV0
    clear htk hq
    rcases hcs with hcs | ⟨hlt, hcs⟩
    · have hc1 : decide ((n : Int) + 1 < s.size) = false := decide_eq_false (by omega)
      have hc2 : ¬ (n : Int) + 1 < s.size := by omega
      clear hcs hle
      rcases hde with hde | hde
      · obtain rfl := FV0.out hde
        subst hde
        clear FV0 FV1
        go_enter Tryz.func91, Tryz.ntmps91
        go_upto_region 1 with fail
        refine under_name ((Bel.refl w).alloc _) fun W hc hf hz hb => ?_
        have T : TSlot W w.heap.size tokZ := by simp [TSlot, tokZ, bytesOf, hc, hf, hz, go_sem]
        clear hc hf hz
        generalize hN : w.heap.size = N at T ⊢
        have BN := Lib.hid (show w.heap.size ≤ N from by omega)
        clear hN
        go_wp2_with (first
          | ((with_reducible refine Calls.mono (CR.out _) ?_); rintro e W1 ⟨rfl, hb1⟩)
          | ((go_at_call 123); rw [GX.out]; (with_reducible refine Calls.mono (CP.out _) ?_); rintro e W2 ⟨rfl, hb2⟩; have hq1 := Lib.hid (hb1.trans hb2); obtain ⟨t0, ⟨t1, t2, t3, t4, t5, t6⟩, ⟨g1, g2, g3, g4, g5, g6⟩⟩ := T.keep hq1.out; simp only [tokZ] at t1 t2 t3 t4 t5 t6; have hlt2 := hb2.size))
        refine bodyPost_ret (v := .tuple #[.agg #[.int .i64 1, .int .i64 0, .string ⟨#[]⟩, .int .i64 da, .int .i64 db, .int .i64 0], .int .i64 (n), .int .i64 0]) (by simp [results, Tryz.results91, go_sem, t0, t1, t2, t3, t4, t5, t6]) rfl ⟨rfl, ?_⟩
        have hN := BN.out
        have hq := hb.trans hq1.out
        (repeat (first | with_reducible exact Bel.refl _ | with_reducible refine Bel.setCell ?_ (by first | exact Nat.le_refl _ | (dsimp only; omega)) _ | with_reducible refine Bel.alloc ?_ _ | with_reducible refine Bel.drew ?_ | with_reducible assumption | with_reducible refine Bel.trans ?_ (by assumption)))
      · obtain rfl := FV1.out hde
        have hde' : ¬ (de : Int) = 0 := by omega
        clear FV0 FV1
        go_enter Tryz.func91, Tryz.ntmps91
        go_upto_region 1 with fail
        refine under_name ((Bel.refl w).alloc _) fun W hc hf hz hb => ?_
        have T : TSlot W w.heap.size tokZ := by simp [TSlot, tokZ, bytesOf, hc, hf, hz, go_sem]
        clear hc hf hz
        generalize hN : w.heap.size = N at T ⊢
        have BN := Lib.hid (show w.heap.size ≤ N from by omega)
        clear hN
        go_wp2_with (first
          | ((with_reducible refine Calls.mono (CR.out _) ?_); rintro e W1 ⟨rfl, hb1⟩)
          | ((go_at_call 123); rw [GX.out]; (with_reducible refine Calls.mono (CP.out _) ?_); rintro e W2 ⟨rfl, hb2⟩; have hq1 := Lib.hid (hb1.trans hb2); obtain ⟨t0, ⟨t1, t2, t3, t4, t5, t6⟩, ⟨g1, g2, g3, g4, g5, g6⟩⟩ := T.keep hq1.out; simp only [tokZ] at t1 t2 t3 t4 t5 t6; have hlt2 := hb2.size))
        refine bodyPost_ret (v := .tuple #[.agg #[.int .i64 0, .int .i64 0, .string ⟨#[]⟩, .int .i64 0, .int .i64 0, .int .i64 0], .int .i64 0, .int .i64 de]) (by simp [results, Tryz.results91, go_sem, t0, t1, t2, t3, t4, t5, t6]) rfl ⟨rfl, ?_⟩
        have hN := BN.out
        have hq := hb.trans hq1.out
        (repeat (first | with_reducible exact Bel.refl _ | with_reducible refine Bel.setCell ?_ (by first | exact Nat.le_refl _ | (dsimp only; omega)) _ | with_reducible refine Bel.alloc ?_ _ | with_reducible refine Bel.drew ?_ | with_reducible assumption | with_reducible refine Bel.trans ?_ (by assumption)))
    · have hc1 : (n : Int) + 1 < s.size := by omega
      have hlt' : n < s.size := by omega
      clear hle
      by_cases h46 : s[n] = 46
      · have hdg : fgB s[n + 1] = false := by
          rcases hcs with hcs | hcs
          · exact absurd h46 hcs
          · exact hcs
        have CD := Lib.hid fun W => xdigit_any s[n + 1] W
        rw [hdg] at CD
        have e46 : ((s[n].toNat : Int) == 46) = true := by rw [h46]; rfl
        have e46' : (s[n].toNat : Int) = 46 := by rw [h46]; rfl
        clear hcs h46 hdg
        rcases hde with hde | hde
        · obtain rfl := FV0.out hde
          subst hde
          clear FV0 FV1
          go_enter Tryz.func91, Tryz.ntmps91
          go_upto_region 1 with fail
          refine under_name ((Bel.refl w).alloc _) fun W hc hf hz hb => ?_
          have T : TSlot W w.heap.size tokZ := by simp [TSlot, tokZ, bytesOf, hc, hf, hz, go_sem]
          clear hc hf hz
          generalize hN : w.heap.size = N at T ⊢
          have BN := Lib.hid (show w.heap.size ≤ N from by omega)
          clear hN
          go_wp2_with (first
            | ((with_reducible refine Calls.mono (CR.out _) ?_); rintro e W1 ⟨rfl, hb1⟩)
            | (go_at_call 90; (with_reducible refine Calls.mono (CD.out _) ?_); rintro e W3 ⟨rfl, rfl⟩)
            | ((go_at_call 123); rw [GX.out]; (with_reducible refine Calls.mono (CP.out _) ?_); rintro e W2 ⟨rfl, hb2⟩; have hq1 := Lib.hid (hb1.trans hb2); obtain ⟨t0, ⟨t1, t2, t3, t4, t5, t6⟩, ⟨g1, g2, g3, g4, g5, g6⟩⟩ := T.keep hq1.out; simp only [tokZ] at t1 t2 t3 t4 t5 t6; have hlt2 := hb2.size))
          refine bodyPost_ret (v := .tuple #[.agg #[.int .i64 1, .int .i64 0, .string ⟨#[]⟩, .int .i64 da, .int .i64 db, .int .i64 0], .int .i64 (n), .int .i64 0]) (by simp [results, Tryz.results91, go_sem, t0, t1, t2, t3, t4, t5, t6]) rfl ⟨rfl, ?_⟩
          have hN := BN.out
          have hq := hb.trans hq1.out
          (repeat (first | with_reducible exact Bel.refl _ | with_reducible refine Bel.setCell ?_ (by first | exact Nat.le_refl _ | (dsimp only; omega)) _ | with_reducible refine Bel.alloc ?_ _ | with_reducible refine Bel.drew ?_ | with_reducible assumption | with_reducible refine Bel.trans ?_ (by assumption)))
        · obtain rfl := FV1.out hde
          have hde' : ¬ (de : Int) = 0 := by omega
          clear FV0 FV1
          go_enter Tryz.func91, Tryz.ntmps91
          go_upto_region 1 with fail
          refine under_name ((Bel.refl w).alloc _) fun W hc hf hz hb => ?_
          have T : TSlot W w.heap.size tokZ := by simp [TSlot, tokZ, bytesOf, hc, hf, hz, go_sem]
          clear hc hf hz
          generalize hN : w.heap.size = N at T ⊢
          have BN := Lib.hid (show w.heap.size ≤ N from by omega)
          clear hN
          go_wp2_with (first
            | ((with_reducible refine Calls.mono (CR.out _) ?_); rintro e W1 ⟨rfl, hb1⟩)
            | (go_at_call 90; (with_reducible refine Calls.mono (CD.out _) ?_); rintro e W3 ⟨rfl, rfl⟩)
            | ((go_at_call 123); rw [GX.out]; (with_reducible refine Calls.mono (CP.out _) ?_); rintro e W2 ⟨rfl, hb2⟩; have hq1 := Lib.hid (hb1.trans hb2); obtain ⟨t0, ⟨t1, t2, t3, t4, t5, t6⟩, ⟨g1, g2, g3, g4, g5, g6⟩⟩ := T.keep hq1.out; simp only [tokZ] at t1 t2 t3 t4 t5 t6; have hlt2 := hb2.size))
          refine bodyPost_ret (v := .tuple #[.agg #[.int .i64 0, .int .i64 0, .string ⟨#[]⟩, .int .i64 0, .int .i64 0, .int .i64 0], .int .i64 0, .int .i64 de]) (by simp [results, Tryz.results91, go_sem, t0, t1, t2, t3, t4, t5, t6]) rfl ⟨rfl, ?_⟩
          have hN := BN.out
          have hq := hb.trans hq1.out
          (repeat (first | with_reducible exact Bel.refl _ | with_reducible refine Bel.setCell ?_ (by first | exact Nat.le_refl _ | (dsimp only; omega)) _ | with_reducible refine Bel.alloc ?_ _ | with_reducible refine Bel.drew ?_ | with_reducible assumption | with_reducible refine Bel.trans ?_ (by assumption)))
      · have e46 : ((s[n].toNat : Int) == 46) = false := by
          rw [beq_eq_false_iff_ne]
          intro e
          apply h46
          rw [← UInt8.toNat_inj]
          exact Int.ofNat.inj e
        clear hcs h46
        rcases hde with hde | hde
        · obtain rfl := FV0.out hde
          subst hde
          clear FV0 FV1
          go_enter Tryz.func91, Tryz.ntmps91
          go_upto_region 1 with fail
          refine under_name ((Bel.refl w).alloc _) fun W hc hf hz hb => ?_
          have T : TSlot W w.heap.size tokZ := by simp [TSlot, tokZ, bytesOf, hc, hf, hz, go_sem]
          clear hc hf hz
          generalize hN : w.heap.size = N at T ⊢
          have BN := Lib.hid (show w.heap.size ≤ N from by omega)
          clear hN
          go_wp2_with (first
            | ((with_reducible refine Calls.mono (CR.out _) ?_); rintro e W1 ⟨rfl, hb1⟩)
            | ((go_at_call 123); rw [GX.out]; (with_reducible refine Calls.mono (CP.out _) ?_); rintro e W2 ⟨rfl, hb2⟩; have hq1 := Lib.hid (hb1.trans hb2); obtain ⟨t0, ⟨t1, t2, t3, t4, t5, t6⟩, ⟨g1, g2, g3, g4, g5, g6⟩⟩ := T.keep hq1.out; simp only [tokZ] at t1 t2 t3 t4 t5 t6; have hlt2 := hb2.size))
          refine bodyPost_ret (v := .tuple #[.agg #[.int .i64 1, .int .i64 0, .string ⟨#[]⟩, .int .i64 da, .int .i64 db, .int .i64 0], .int .i64 (n), .int .i64 0]) (by simp [results, Tryz.results91, go_sem, t0, t1, t2, t3, t4, t5, t6]) rfl ⟨rfl, ?_⟩
          have hN := BN.out
          have hq := hb.trans hq1.out
          (repeat (first | with_reducible exact Bel.refl _ | with_reducible refine Bel.setCell ?_ (by first | exact Nat.le_refl _ | (dsimp only; omega)) _ | with_reducible refine Bel.alloc ?_ _ | with_reducible refine Bel.drew ?_ | with_reducible assumption | with_reducible refine Bel.trans ?_ (by assumption)))
        · obtain rfl := FV1.out hde
          have hde' : ¬ (de : Int) = 0 := by omega
          clear FV0 FV1
          go_enter Tryz.func91, Tryz.ntmps91
          go_upto_region 1 with fail
          refine under_name ((Bel.refl w).alloc _) fun W hc hf hz hb => ?_
          have T : TSlot W w.heap.size tokZ := by simp [TSlot, tokZ, bytesOf, hc, hf, hz, go_sem]
          clear hc hf hz
          generalize hN : w.heap.size = N at T ⊢
          have BN := Lib.hid (show w.heap.size ≤ N from by omega)
          clear hN
          go_wp2_with (first
            | ((with_reducible refine Calls.mono (CR.out _) ?_); rintro e W1 ⟨rfl, hb1⟩)
            | ((go_at_call 123); rw [GX.out]; (with_reducible refine Calls.mono (CP.out _) ?_); rintro e W2 ⟨rfl, hb2⟩; have hq1 := Lib.hid (hb1.trans hb2); obtain ⟨t0, ⟨t1, t2, t3, t4, t5, t6⟩, ⟨g1, g2, g3, g4, g5, g6⟩⟩ := T.keep hq1.out; simp only [tokZ] at t1 t2 t3 t4 t5 t6; have hlt2 := hb2.size))
          refine bodyPost_ret (v := .tuple #[.agg #[.int .i64 0, .int .i64 0, .string ⟨#[]⟩, .int .i64 0, .int .i64 0, .int .i64 0], .int .i64 0, .int .i64 de]) (by simp [results, Tryz.results91, go_sem, t0, t1, t2, t3, t4, t5, t6]) rfl ⟨rfl, ?_⟩
          have hN := BN.out
          have hq := hb.trans hq1.out
          (repeat (first | with_reducible exact Bel.refl _ | with_reducible refine Bel.setCell ?_ (by first | exact Nat.le_refl _ | (dsimp only; omega)) _ | with_reducible refine Bel.alloc ?_ _ | with_reducible refine Bel.drew ?_ | with_reducible assumption | with_reducible refine Bel.trans ?_ (by assumption)))
  · have hlt' : n < s.size := by omega
    have hc1 : (n : Int) + 1 < s.size := by omega
    have CD := Lib.hid fun W => xdigit_any s[n + 1] W
    rw [hdg] at CD
    have e46 : ((s[n].toNat : Int) == 46) = true := by rw [h46]; rfl
    have e46' : (s[n].toNat : Int) = 46 := by rw [h46]; rfl
    have CR2 := Lib.hid fun W => runD_any (s.extract (n + 1) s.size) (by rw [ext_size]; have := HS.out; omega) W
    rw [ext_end] at CR2
    have hml := tw_lens fgB (s.data.toList.drop (n + 1))
    rw [List.length_drop, size_list] at hml
    generalize ((s.data.toList.drop (n + 1)).takeWhile fgB).length = m at *
    have GX := Lib.hid htk
    rw [hq] at GX FV0
    have hmi : (m : Int) + n + 1 ≤ s.size := by omega
    have w2 : IntKind.i64.wrap (1 + (m : Int)) = 1 + (m : Int) := by rw [IntKind.wrap_i64]; omega
    have w3 : IntKind.i64.wrap ((n : Int) + (1 + (m : Int))) = (n : Int) + (1 + (m : Int)) := by rw [IntKind.wrap_i64]; omega
    clear htk hq hml hle h46 hdg
    rcases hde with hde | hde
    · obtain rfl := FV0.out hde
      subst hde
      clear FV0 FV1
      go_enter Tryz.func91, Tryz.ntmps91
      go_upto_region 1 with fail
      refine under_name ((Bel.refl w).alloc _) fun W hc hf hz hb => ?_
      have T : TSlot W w.heap.size tokZ := by simp [TSlot, tokZ, bytesOf, hc, hf, hz, go_sem]
      clear hc hf hz
      generalize hN : w.heap.size = N at T ⊢
      have BN := Lib.hid (show w.heap.size ≤ N from by omega)
      clear hN
      go_wp2_with (first
        | ((with_reducible refine Calls.mono (CR.out _) ?_); rintro e W1 ⟨rfl, hb1⟩)
        | (go_at_call 90; (with_reducible refine Calls.mono (CD.out _) ?_); rintro e W3 ⟨rfl, rfl⟩)
        | ((with_reducible refine Calls.mono (CR2.out _) ?_); rintro e W4 ⟨rfl, hb4⟩)
        | ((go_at_call 123); rw [GX.out]; (with_reducible refine Calls.mono (CP.out _) ?_); rintro e W2 ⟨rfl, hb2⟩; have hq1 := Lib.hid (hb1.trans (hb4.trans hb2)); obtain ⟨t0, ⟨t1, t2, t3, t4, t5, t6⟩, ⟨g1, g2, g3, g4, g5, g6⟩⟩ := T.keep hq1.out; simp only [tokZ] at t1 t2 t3 t4 t5 t6; have hlt2 := hb2.size))
      refine bodyPost_ret (v := .tuple #[.agg #[.int .i64 1, .int .i64 0, .string ⟨#[]⟩, .int .i64 da, .int .i64 db, .int .i64 0], .int .i64 ((n : Int) + (1 + (m : Int))), .int .i64 0]) (by simp [results, Tryz.results91, go_sem, t0, t1, t2, t3, t4, t5, t6]) rfl ⟨rfl, ?_⟩
      have hN := BN.out
      have hq := hb.trans hq1.out
      (repeat (first | with_reducible exact Bel.refl _ | with_reducible refine Bel.setCell ?_ (by first | exact Nat.le_refl _ | (dsimp only; omega)) _ | with_reducible refine Bel.alloc ?_ _ | with_reducible refine Bel.drew ?_ | with_reducible assumption | with_reducible refine Bel.trans ?_ (by assumption)))
    · obtain rfl := FV1.out hde
      have hde' : ¬ (de : Int) = 0 := by omega
      clear FV0 FV1
      go_enter Tryz.func91, Tryz.ntmps91
      go_upto_region 1 with fail
      refine under_name ((Bel.refl w).alloc _) fun W hc hf hz hb => ?_
      have T : TSlot W w.heap.size tokZ := by simp [TSlot, tokZ, bytesOf, hc, hf, hz, go_sem]
      clear hc hf hz
      generalize hN : w.heap.size = N at T ⊢
      have BN := Lib.hid (show w.heap.size ≤ N from by omega)
      clear hN
      go_wp2_with (first
        | ((with_reducible refine Calls.mono (CR.out _) ?_); rintro e W1 ⟨rfl, hb1⟩)
        | (go_at_call 90; (with_reducible refine Calls.mono (CD.out _) ?_); rintro e W3 ⟨rfl, rfl⟩)
        | ((with_reducible refine Calls.mono (CR2.out _) ?_); rintro e W4 ⟨rfl, hb4⟩)
        | ((go_at_call 123); rw [GX.out]; (with_reducible refine Calls.mono (CP.out _) ?_); rintro e W2 ⟨rfl, hb2⟩; have hq1 := Lib.hid (hb1.trans (hb4.trans hb2)); obtain ⟨t0, ⟨t1, t2, t3, t4, t5, t6⟩, ⟨g1, g2, g3, g4, g5, g6⟩⟩ := T.keep hq1.out; simp only [tokZ] at t1 t2 t3 t4 t5 t6; have hlt2 := hb2.size))
      refine bodyPost_ret (v := .tuple #[.agg #[.int .i64 0, .int .i64 0, .string ⟨#[]⟩, .int .i64 0, .int .i64 0, .int .i64 0], .int .i64 0, .int .i64 de]) (by simp [results, Tryz.results91, go_sem, t0, t1, t2, t3, t4, t5, t6]) rfl ⟨rfl, ?_⟩
      have hN := BN.out
      have hq := hb.trans hq1.out
      (repeat (first | with_reducible exact Bel.refl _ | with_reducible refine Bel.setCell ?_ (by first | exact Nat.le_refl _ | (dsimp only; omega)) _ | with_reducible refine Bel.alloc ?_ _ | with_reducible refine Bel.drew ?_ | with_reducible assumption | with_reducible refine Bel.trans ?_ (by assumption)))
end Go.Proofs.YthfkbonbgdioaaaGreatDoor
namespace Go.Proofs.YthfkbonbgdioaaaGreatDoor
set_option linter.unusedSimpArgs false
set_option linter.unusedVariables false
open Go.RowKit

/-! Words that are kept; signs; dates. -/
theorem tl_eq (s : ByteArray) (l : List UInt8) : (s.toList == l) = (s.data.toList == l) := by rw [ByteArray.toList_eq]
def resL : List (List UInt8) := [[110, 117, 108, 108], [116, 114, 117, 101], [102, 97, 108, 115, 101], [97, 110, 100], [111, 114], [110, 111, 116], [105, 102], [116, 104, 101, 110], [101, 108, 115, 101]]
def wordB (s : ByteArray) : Bool := !(resL.contains s.data.toList) && nameB s
theorem idx_sg1 : ∀ c : UInt8, decide (0 ≤ Lib.indexByte (⟨#[43, 45, 42, 47, 61, 60, 62, 40, 41, 91, 93, 44]⟩ : ByteArray).data.toList c) = sg1.contains c := by
  intro c
  rw [Bool.eq_iff_iff, decide_eq_true_eq, List.contains_iff_mem]
  have h1 := @Lib.indexByte_none (⟨#[43, 45, 42, 47, 61, 60, 62, 40, 41, 91, 93, 44]⟩ : ByteArray).data.toList c
  have h2 := @Lib.indexByte_some (⟨#[43, 45, 42, 47, 61, 60, 62, 40, 41, 91, 93, 44]⟩ : ByteArray).data.toList c
  have h3 := Lib.indexByte_ge (⟨#[43, 45, 42, 47, 61, 60, 62, 40, 41, 91, 93, 44]⟩ : ByteArray).data.toList c
  have e : (⟨#[43, 45, 42, 47, 61, 60, 62, 40, 41, 91, 93, 44]⟩ : ByteArray).data.toList = sg1 := rfl
  rw [e] at h1 h2 h3 ⊢
  constructor
  · intro h
    obtain ⟨o, ho⟩ : ∃ o : Nat, Lib.indexByte sg1 c = o := ⟨(Lib.indexByte sg1 c).toNat, by omega⟩
    exact List.mem_of_getElem? (h2 ho).1
  · intro hm
    rcases Int.lt_or_le (Lib.indexByte sg1 c) 0 with hlt | hge
    · obtain ⟨i, hi⟩ := List.mem_iff_getElem?.1 hm
      exact absurd hi (h1 (by omega) i)
    · exact hge
theorem take1_is {l : List UInt8} {c : UInt8} {t : List UInt8} (h : l = c :: t) : l.take 1 = [c] := by rw [h]; rfl
theorem sigL_one {l : List UInt8} {c : UInt8} {t : List UInt8} (h : l = c :: t) (h2 : sg2.contains (l.take 2) = false) : sigL l = if sg1.contains c = true then [c] else [] := by
  unfold sigL
  rw [if_neg (by rw [h2]; simp), take1_is h]
  by_cases hc : sg1.contains c = true
  · rw [if_pos hc, if_pos ⟨c, List.contains_iff_mem.1 hc, rfl⟩]
  · rw [if_neg hc, if_neg]
    rintro ⟨d, hd, e⟩
    obtain rfl : c = d := by simpa using e
    exact hc (List.contains_iff_mem.2 hd)
set_option maxRecDepth 100000 in
set_option maxHeartbeats 4000000 in
theorem xsign_any (s : ByteArray) (hs : s.size ≤ 9223372036854775807) (w : World) :
    Calls Tryz.prog 96 #[.string s] w fun e w' => e = .returned (.string (bytesOf (sigL s.data.toList))) ∧ Bel w w' := by
  have SG := Lib.hid (show sigL s.data.toList = sigL s.data.toList from rfl)
  have hlz := size_list s
  have X2 : (s.extract 0 2).data.toList = s.data.toList.take 2 := by rw [ext_bytes, bytes_toList]; simp
  have X1 : (s.extract 0 1) = bytesOf (s.data.toList.take 1) := by rw [ext_bytes]; simp
  have x2 : s.extract 0 2 = bytesOf (s.data.toList.take 2) := by rw [ext_bytes]; simp
  obtain ⟨q, hq⟩ : ∃ q, q = sigL s.data.toList := ⟨_, rfl⟩
  rw [← hq]
  by_cases h2 : s.data.toList.take 2 ∈ sg2
  · have hq2 : q = s.data.toList.take 2 := by rw [hq]; unfold sigL; rw [if_pos (List.contains_iff_mem.2 h2)]
    have hsz : 2 ≤ s.size := by
      have : (s.data.toList.take 2).length = 2 := by
        have hh : ∀ g ∈ sg2, g.length = 2 := by decide
        exact hh _ h2
      rw [List.length_take] at this
      omega
    have i2 : (2 : Int) ≤ s.size := by omega
    have QX := Lib.hid (show s.extract 0 2 = bytesOf q from by rw [x2, hq2])
    clear hq hq2 X1 x2 SG hlz
    simp only [sg2, List.mem_cons, List.not_mem_nil, or_false] at h2
    rw [← X2] at h2
    clear X2
    rcases h2 with hk | hk | hk | hk
    · have r0 : ((s.extract 0 2).toList == [46, 46]) = true := by rw [tl_eq, hk]; decide
      clear hk
      go_enter Tryz.func96, Tryz.ntmps96
      go_wp2_with fail
      go_ret
      exact ⟨by rw [QX.out]; rfl, Bel.refl _⟩
    · have r0 : ((s.extract 0 2).toList == [46, 46]) = false := by rw [tl_eq, hk]; decide
      have r1 : ((s.extract 0 2).toList == [33, 61]) = true := by rw [tl_eq, hk]; decide
      clear hk
      go_enter Tryz.func96, Tryz.ntmps96
      go_wp2_with fail
      go_ret
      exact ⟨by rw [QX.out]; rfl, Bel.refl _⟩
    · have r0 : ((s.extract 0 2).toList == [46, 46]) = false := by rw [tl_eq, hk]; decide
      have r1 : ((s.extract 0 2).toList == [33, 61]) = false := by rw [tl_eq, hk]; decide
      have r2 : ((s.extract 0 2).toList == [60, 61]) = true := by rw [tl_eq, hk]; decide
      clear hk
      go_enter Tryz.func96, Tryz.ntmps96
      go_wp2_with fail
      go_ret
      exact ⟨by rw [QX.out]; rfl, Bel.refl _⟩
    · have r0 : ((s.extract 0 2).toList == [46, 46]) = false := by rw [tl_eq, hk]; decide
      have r1 : ((s.extract 0 2).toList == [33, 61]) = false := by rw [tl_eq, hk]; decide
      have r2 : ((s.extract 0 2).toList == [60, 61]) = false := by rw [tl_eq, hk]; decide
      have r3 : ((s.extract 0 2).toList == [62, 61]) = true := by rw [tl_eq, hk]; decide
      clear hk
      go_enter Tryz.func96, Tryz.ntmps96
      go_wp2_with fail
      go_ret
      exact ⟨by rw [QX.out]; rfl, Bel.refl _⟩
  · have hc : sg2.contains (s.data.toList.take 2) = false := by rw [Bool.eq_false_iff]; exact fun h => h2 (List.contains_iff_mem.1 h)
    clear h2
    cases hl : s.data.toList with
    | nil =>
      have hz : s.size = 0 := by rw [hl] at hlz; simpa using hlz.symm
      obtain rfl : q = [] := by rw [hq, hl]; decide
      have i2 : ¬ (2 : Int) ≤ s.size := by omega
      have i3 : decide ((s.size : Int) ≥ 2) = false := decide_eq_false (by omega)
      have e0 : s.toList.isEmpty = true := by rw [ByteArray.toList_eq, hl]; rfl
      have e1 : s.toList = [] := by rw [ByteArray.toList_eq, hl]
      clear hq hl hlz hz X1 X2 x2 SG hc
      go_enter Tryz.func96, Tryz.ntmps96
      go_wp2_with fail
      go_ret
      exact ⟨rfl, Bel.refl _⟩
    | cons c t =>
      have hsz : 1 ≤ s.size := by rw [hl] at hlz; simp only [List.length_cons] at hlz; omega
      have i1 : (1 : Int) ≤ s.size := by omega
      have e0 : s.toList.isEmpty = false := by rw [ByteArray.toList_eq, hl]; rfl
      have hqs := sigL_one hl hc
      rw [← hq] at hqs
      have CC := Lib.hid fun W => Tryz.strings_Contains_one ⟨#[43, 45, 42, 47, 61, 60, 62, 40, 41, 91, 93, 44]⟩ c W
      rw [idx_sg1] at CC
      have GX := Lib.hid (show s.extract 0 1 = ⟨#[c]⟩ from by rw [X1, hl]; rfl)
      have QC := Lib.hid hqs
      have XL := Lib.hid (show ∀ g, sg2.contains g = false → g = (s.extract 0 2).data.toList → True from fun _ _ _ => trivial)
      rw [← X2] at hc
      clear hq hl hlz X1 X2 x2 SG hqs
      simp only [sg2, List.contains_cons, List.contains_nil, Bool.or_false, Bool.or_eq_false_iff] at hc
      obtain ⟨k0, k1, k2, k3⟩ := hc
      rw [← tl_eq] at k0 k1 k2 k3
      have h2 : (2 : Int) ≤ s.size ∨ s.size = 1 := by omega
      cases hz : sg1.contains c with
      | true =>
        rw [hz] at CC
        have QC := Lib.hid (show q = [c] from by rw [QC.out, hz]; rfl)
        rcases h2 with h2 | h2
        · clear hz
          go_enter Tryz.func96, Tryz.ntmps96
          go_wp2_with (go_at_call 130; rw [GX.out]; refine (CC.out _).mono ?_; rintro e W2 ⟨rfl, rfl⟩)
          go_ret
          exact ⟨by rw [GX.out, QC.out]; rfl, Bel.refl _⟩
        · have i3 : decide ((s.size : Int) ≥ 2) = false := decide_eq_false (by omega)
          have i4 : ¬ (2 : Int) ≤ s.size := by omega
          have i5 : (s.size : Int) < 2 := by omega
          clear hz h2
          go_enter Tryz.func96, Tryz.ntmps96
          go_wp2_with (go_at_call 130; rw [GX.out]; refine (CC.out _).mono ?_; rintro e W2 ⟨rfl, rfl⟩)
          go_ret
          exact ⟨by rw [GX.out, QC.out]; rfl, Bel.refl _⟩
      | false =>
        rw [hz] at CC
        have QC := Lib.hid (show q = [] from by rw [QC.out, hz]; rfl)
        rcases h2 with h2 | h2
        · clear hz
          go_enter Tryz.func96, Tryz.ntmps96
          go_wp2_with (go_at_call 130; rw [GX.out]; refine (CC.out _).mono ?_; rintro e W2 ⟨rfl, rfl⟩)
          go_ret
          exact ⟨by rw [QC.out]; rfl, Bel.refl _⟩
        · have i3 : decide ((s.size : Int) ≥ 2) = false := decide_eq_false (by omega)
          have i4 : ¬ (2 : Int) ≤ s.size := by omega
          have i5 : (s.size : Int) < 2 := by omega
          clear hz h2
          go_enter Tryz.func96, Tryz.ntmps96
          go_wp2_with (go_at_call 130; rw [GX.out]; refine (CC.out _).mono ?_; rintro e W2 ⟨rfl, rfl⟩)
          go_ret
          exact ⟨by rw [QC.out]; rfl, Bel.refl _⟩
end Go.Proofs.YthfkbonbgdioaaaGreatDoor
