import Derived.Test.YtofcjdbodhoacaaGreatDoorLzd
namespace Go.Proofs.YtofcjdbodhoacaaGreatDoor
set_option linter.unusedSimpArgs false
set_option linter.unusedVariables false
open Go.RowKit

/-! The document's reader of one token: signs; one token whatever it is. -/
theorem signs_len : ∀ g ∈ signsL, 0 < g.length ∧ g.length ≤ 2 := by decide
theorem signs_size : signsL.length = 16 := by decide
theorem find_drop {l g : List UInt8} {i : Nat} (hg : signsL[i]? = some g) : (signsL.drop i).find? (fun g => g.isPrefixOf l) = if g.isPrefixOf l = true then some g else (signsL.drop (i + 1)).find? (fun g => g.isPrefixOf l) := by
  have hlt := (List.getElem?_eq_some_iff.1 hg).1
  rw [List.drop_eq_getElem_cons hlt, List.find?_cons]
  have e : signsL[i] = g := by rw [List.getElem?_eq_getElem hlt] at hg; exact Option.some.inj hg
  rw [e]
  cases g.isPrefixOf l <;> rfl
theorem pre_ext (s : ByteArray) (p : Nat) (g : List UInt8) (hp : p ≤ s.size) (h : g.isPrefixOf (s.data.toList.drop p) = true) : p + g.length ≤ s.size ∧ s.extract p (p + g.length) = bytesOf g := by
  obtain ⟨t, ht⟩ := (pre_iff _ _).1 h
  have hl := congrArg List.length ht
  rw [List.length_append, List.length_drop, size_list] at hl
  refine ⟨by omega, ?_⟩
  rw [ext_bytes, show p + g.length - p = g.length by omega, ht]
  simp
theorem pre_not (s : ByteArray) (p : Nat) (g : List UInt8) (hp : p + g.length ≤ s.size) (h : g.isPrefixOf (s.data.toList.drop p) = false) : s.extract p (p + g.length) ≠ bytesOf g := by
  intro e
  rw [ext_bytes, show p + g.length - p = g.length by omega] at e
  have e := bytesOf_inj e
  have : g.isPrefixOf (s.data.toList.drop p) = true := (pre_iff _ _).2 ⟨(s.data.toList.drop p).drop g.length, by
    conv => lhs; rw [← List.take_append_drop g.length (s.data.toList.drop p)]
    rw [e]⟩
  rw [h] at this
  cases this
theorem beq_ne {a b : ByteArray} (h : a ≠ b) : (a.toList == b.toList) = false := by
  rw [beq_eq_false_iff_ne]
  exact fun e => h ((toList_inj a b).1 e)
set_option maxRecDepth 100000 in
set_option maxHeartbeats 16000000 in
theorem xone_sign (s : ByteArray) (hs : s.size ≤ 65536) (p : Nat) (hp : p < s.size) (hd : fgB s[p] = false) (h34 : s[p] ≠ 34) (h64 : s[p] ≠ 64) (hl : ltB s[p] = false) (w : World) :
    Calls Tryz.prog 19 #[.string s, .int .i64 (p : Nat)] w fun e w' => OneP s p (sigT (s.data.toList.drop p)) e ∧ Bel w w' := by
  have CD := Lib.hid fun W => rfigure_any (s[p]'hp) W
  rw [hd] at CD
  have hsi : (s.size : Int) ≤ 65536 := by omega
  have hpi : (p : Int) < s.size := by omega
  have p0 : (0 : Int) ≤ (p : Int) := by omega
  have w1 : IntKind.i64.wrap ((p : Int) + 1) = (p : Int) + 1 := by rw [IntKind.wrap_i64]; omega
  have e64 : ((s[p].toNat : Int) == 64) = false := u8n h64
  have e34 : ((s[p].toNat : Int) == 34) = false := u8n h34
  have CN1 := Lib.hid (show ∀ W, Calls Tryz.prog 21 #[.string (s.extract p (p + 1))] W fun e w' => e = .returned (.bool false) ∧ w' = W from fun W => by
    rw [ext_1 s p hp, bytes_lit, ← hl, ← nm_one]
    exact rn_any [s[p]] (by simp) W)
  obtain ⟨FD, hFD⟩ : ∃ FD, FD = signsL.find? (fun g => g.isPrefixOf (s.data.toList.drop p)) := ⟨_, rfl⟩
  have hsf := sig_find (s.data.toList.drop p)
  rw [← hFD] at hsf
  have hll : (s.data.toList.drop p).length = s.size - p := by rw [List.length_drop, size_list]
  have F0 := Lib.hid (show ∀ (v : Value) (g : List UInt8), FD = some g → g ∈ signsL → p + g.length ≤ s.size → v = .tuple #[.agg #[.int .i64 5, .int .i64 (p : Nat), .string (bytesOf g), .int .i64 0, .int .i64 0, .int .i64 0], .int .i64 ((p : Int) + (g.length : Nat)), .int .i64 0] → OneP s p (sigT (s.data.toList.drop p)) (.returned v) from fun v g h hm hz hv => by
    rw [h] at hsf
    have hsf : sigL (s.data.toList.drop p) = g := hsf
    have hgl := (signs_len g hm).1
    unfold sigT
    rw [hsf, if_neg (fun e => by rw [e] at hgl; simp at hgl)]
    unfold OneP
    simp only
    rw [hv, List.length_drop, hll, show s.size - (s.size - p - g.length) = p + g.length by omega]
    rfl)
  have F1 := Lib.hid (show ∀ (k q : Int) (x : ByteArray) (a b d n : Int), FD = none → OneP s p (sigT (s.data.toList.drop p)) (.returned (.tuple #[.agg #[.int .i64 k, .int .i64 q, .string x, .int .i64 a, .int .i64 b, .int .i64 d], .int .i64 n, .int .i64 5])) from fun k q x a b d n' h => by
    rw [h] at hsf
    have hsf : sigL (s.data.toList.drop p) = [] := hsf
    unfold sigT
    rw [if_pos hsf]
    exact oneP_bad s p _ _ _ _ _ _ _)
  have PE := Lib.hid fun g => pre_ext s p g (by omega)
  have PN := Lib.hid fun g => pre_not s p g
  have HF := Lib.hid hFD
  have FDR := Lib.hid fun (g : List UInt8) (i : Nat) => find_drop (l := s.data.toList.drop p) (g := g) (i := i)
  generalize OneP s p (sigT (s.data.toList.drop p)) = FP at *
  clear hd h34 h64 hl hFD hsf hll
  go_enter Tryz.func19, Tryz.ntmps19
  go_upto_region 2 with fail
  refine under_name (w0 := w) (by (repeat (first | with_reducible exact Bel.refl _ | with_reducible refine Bel.setCell ?_ (by first | exact Nat.le_refl _ | (dsimp only; omega)) _ | with_reducible refine Bel.alloc ?_ _ | with_reducible refine Bel.drew ?_ | with_reducible assumption | with_reducible refine Bel.trans ?_ (by assumption)))) fun W hc hf hz hb => ?_
  have T4 : TSlot W w.heap.size tokZ := by simp [TSlot, tokZ, bytesOf, hc, hf, hz, go_sem]
  have T7 : TSlot W (w.heap.size + 1) ⟨0, p, [], 0, 0, 0⟩ := by simp [TSlot, tokZ, bytesOf, hc, hf, hz, go_sem]
  clear hc hf hz
  generalize hN : w.heap.size = N at T4 T7 ⊢
  have BN := Lib.hid (show w.heap.size ≤ N from by omega)
  have HB := Lib.hid hb
  clear hN hb
  have hne : ¬ N = N + 1 := by omega
  have hne' : ¬ N + 1 = N := by omega
  go_upto_region 37 with (first
    | (go_at_call 38; (with_reducible refine Calls.mono (CD.out _) ?_); rintro e W2 ⟨rfl, rfl⟩)
    | (go_at_call 21; (with_reducible refine Calls.mono (CN1.out _) ?_); rintro e W3 ⟨rfl, rfl⟩))
  refine under_name (w0 := W3) (by (repeat (first | with_reducible exact Bel.refl _ | with_reducible refine Bel.setCell ?_ (by first | exact Nat.le_refl _ | (dsimp only; omega)) _ | with_reducible refine Bel.alloc ?_ _ | with_reducible refine Bel.drew ?_ | with_reducible assumption | with_reducible refine Bel.trans ?_ (by assumption)))) fun W4 hc hf hz hb4 => ?_
  have CELL := Lib.hid (show ∀ i g, signsL[i]? = some g → W4.cell? ⟨W3.heap.size, i, none⟩ = some (.string (bytesOf g)) from by
    intro i g hg
    have hi : i < 16 := by rw [← signs_size]; exact (List.getElem?_eq_some_iff.1 hg).1
    have key : ∀ i, i < 16 → W4.cell? ⟨W3.heap.size, i, none⟩ = some (.string (bytesOf (signsL.getD i []))) := by
      intro i hi
      match i, hi with
      | 0, _ => simp [hc, go_sem, signsL, sg2, sg1, bytesOf]
      | 1, _ => simp [hc, go_sem, signsL, sg2, sg1, bytesOf]
      | 2, _ => simp [hc, go_sem, signsL, sg2, sg1, bytesOf]
      | 3, _ => simp [hc, go_sem, signsL, sg2, sg1, bytesOf]
      | 4, _ => simp [hc, go_sem, signsL, sg2, sg1, bytesOf]
      | 5, _ => simp [hc, go_sem, signsL, sg2, sg1, bytesOf]
      | 6, _ => simp [hc, go_sem, signsL, sg2, sg1, bytesOf]
      | 7, _ => simp [hc, go_sem, signsL, sg2, sg1, bytesOf]
      | 8, _ => simp [hc, go_sem, signsL, sg2, sg1, bytesOf]
      | 9, _ => simp [hc, go_sem, signsL, sg2, sg1, bytesOf]
      | 10, _ => simp [hc, go_sem, signsL, sg2, sg1, bytesOf]
      | 11, _ => simp [hc, go_sem, signsL, sg2, sg1, bytesOf]
      | 12, _ => simp [hc, go_sem, signsL, sg2, sg1, bytesOf]
      | 13, _ => simp [hc, go_sem, signsL, sg2, sg1, bytesOf]
      | 14, _ => simp [hc, go_sem, signsL, sg2, sg1, bytesOf]
      | 15, _ => simp [hc, go_sem, signsL, sg2, sg1, bytesOf]
      | k + 16, h => exact absurd h (by omega)
    rw [key i hi, List.getD_eq_getElem?_getD, hg]
    rfl)
  have nz : W3.heap.size < W4.heap.size := by simp [hz, go_sem]
  clear hc hf hz
  have hnl := T7.1
  generalize W3.heap.size = NL at *
  have hnl1 : ¬ N + 1 = NL := by omega
  have hnl2 : ¬ NL = N + 1 := by omega
  have hnl3 : ¬ N = NL := by omega
  have hnl4 : ¬ NL = N := by omega
  replace T4 := T4.keep hb4
  replace T7 := T7.keep hb4
  have HB2 := Lib.hid (HB.out.trans hb4)
  clear hb4 HB CD CN1 w1 e64 e34
  have TT4 := Lib.hid T4
  have TT7 := Lib.hid T7
  clear T4 T7
  go_loopg [18] 17 (fun g iv wr => ∃ i : Nat, iv = .int .i64 i ∧ i ≤ 16 ∧ Hid (17 - i ≤ g) ∧ Hid ((signsL.drop i).find? (fun g => g.isPrefixOf (s.data.toList.drop p)) = FD) ∧ Hid (Bel W4 wr))
  case atStart => exact ⟨0, rfl, by omega, Lib.hid (by omega), Lib.hid (by rw [HF.out]; rfl), Lib.hid (Bel.refl _)⟩
  case round =>
    obtain ⟨i, rfl, hi, hg, hR, hb⟩ := hrel
    have T4 := TT4.out.keep hb.out
    have T7 := TT7.out.keep hb.out
    have nz2 := Nat.lt_of_lt_of_le nz hb.out.size
    obtain ⟨t0, ⟨t1, t2, t3, t4, t5, t6⟩, ⟨g1, g2, g3, g4, g5, g6⟩⟩ := T4
    obtain ⟨s0, ⟨s1, s2, s3, s4, s5, s6⟩, ⟨f1, f2, f3, f4, f5, f6⟩⟩ := T7
    simp only [tokZ] at t1 t2 t3 t4 t5 t6
    simp only at s1 s2 s3 s4 s5 s6
    have i0 : (0 : Int) ≤ (i : Int) := by omega
    by_cases hlt : i < 16
    · have hii : (i : Int) < 16 := by omega
      have w2 : IntKind.i64.wrap ((i : Int) + 1) = (i : Int) + 1 := by rw [IntKind.wrap_i64]; omega
      obtain ⟨g, hgi⟩ : ∃ g, signsL[i]? = some g := ⟨_, List.getElem?_eq_getElem (by rw [signs_size]; exact hlt)⟩
      have hcell := (hb.out.cells _ _ nz).trans (CELL.out i g hgi)
      have hm := List.mem_of_getElem? hgi
      obtain ⟨hg0, hg2⟩ := signs_len g hm
      have hgz := bytesOf_size g
      have hg0i : (0 : Int) < (g.length : Int) := by omega
      have hg2i : (g.length : Int) ≤ 2 := by omega
      have w3 : IntKind.i64.wrap ((p : Int) + (g.length : Int)) = (p : Int) + (g.length : Int) := by rw [IntKind.wrap_i64]; omega
      have hRR := FDR.out g i hgi
      rw [hR.out] at hRR
      have HM := Lib.hid hm
      cases hq : g.isPrefixOf (s.data.toList.drop p) with
      | true =>
        rw [if_pos hq] at hRR
        obtain ⟨k1, k2⟩ := PE.out g hq
        have FV := Lib.hid fun v => F0.out v g hRR HM.out k1
        have c1 : decide ((s.size : Int) - (p : Int) ≥ (g.length : Int)) = true := decide_eq_true (by omega)
        have c1' : (g.length : Int) ≤ (s.size : Int) - (p : Int) := by omega
        have c1'' : (p : Int) + (g.length : Int) ≤ s.size := by omega
        have c2 : ((s.extract p (p + g.length)).toList == (bytesOf g).toList) = true := by rw [k2, beq_iff_eq]
        clear hRR hgi hm hq k2
        go_wp2_with fail
        go_quiet (fail)
        go_wp2_with fail
        go_region
        all_goals
          go_wp2_with fail
          refine bodyPost_ret (v := .tuple #[.agg #[.int .i64 5, .int .i64 (p : Nat), .string (bytesOf g), .int .i64 0, .int .i64 0, .int .i64 0], .int .i64 ((p : Int) + (g.length : Nat)), .int .i64 0]) (by simp [results, Tryz.results19, go_sem, t0, t1, t2, t3, t4, t5, t6, s0, s1, s2, s3, s4, s5, s6, hne, hne']; try rfl) rfl ⟨FV.out _ rfl, ?_⟩
          have hN := BN.out
          have hq := (HB2.out.trans hb.out).trans (bel_drewN _ nq)
          have hq2 := (HB2.out.trans hb.out).trans (bel_drewN _ (nq + 1))
          (repeat (first | with_reducible exact Bel.refl _ | with_reducible refine Bel.setCell ?_ (by first | exact Nat.le_refl _ | (dsimp only; omega)) _ | with_reducible refine Bel.alloc ?_ _ | with_reducible refine Bel.drew ?_ | with_reducible assumption | with_reducible refine Bel.trans ?_ (by assumption)))
      | false =>
        rw [if_neg (by rw [hq]; simp)] at hRR
        have HN := Lib.hid hRR.symm
        by_cases hle : p + g.length ≤ s.size
        · have c1 : decide ((s.size : Int) - (p : Int) ≥ (g.length : Int)) = true := decide_eq_true (by omega)
          have c1' : (g.length : Int) ≤ (s.size : Int) - (p : Int) := by omega
          have c1'' : (p : Int) + (g.length : Int) ≤ s.size := by omega
          have c2 : ((s.extract p (p + g.length)).toList == (bytesOf g).toList) = false := beq_ne (PN.out g hle hq)
          clear hRR hgi hm hq
          go_wp2_with fail
          go_quiet (fail)
          go_wp2_with fail
          go_roundg (17 - (i + 1))
          case measure => have := hg.out; omega
          case rel => exact ⟨i + 1, by go_num, by omega, Lib.hid (Nat.le_refl _), HN, Lib.hid (hb.out.trans (bel_drewN _ _))⟩
        · have c1 : decide ((s.size : Int) - (p : Int) ≥ (g.length : Int)) = false := decide_eq_false (by omega)
          have c1' : (s.size : Int) - (p : Int) < (g.length : Int) := by omega
          clear hRR hgi hm hq hle
          go_wp2_with fail
          go_quiet (fail)
          go_wp2_with fail
          go_roundg (17 - (i + 1))
          case measure => have := hg.out; omega
          case rel => exact ⟨i + 1, by go_num, by omega, Lib.hid (Nat.le_refl _), HN, Lib.hid (hb.out.trans (bel_drewN _ _))⟩
    · obtain rfl : i = 16 := by omega
      have FV := Lib.hid fun k q x a b d n => F1.out k q x a b d n (by rw [← hR.out]; rfl)
      clear hR
      go_wp2_with fail
      refine bodyPost_ret (v := .tuple #[.agg #[.int .i64 0, .int .i64 (p : Nat), .string (bytesOf []), .int .i64 0, .int .i64 0, .int .i64 0], .int .i64 0, .int .i64 5]) (by simp [results, Tryz.results19, go_sem, t0, t1, t2, t3, t4, t5, t6, s0, s1, s2, s3, s4, s5, s6, hne, hne']; try rfl) rfl ⟨FV.out _ _ _ _ _ _ _, ?_⟩
      have hN := BN.out
      have hq := HB2.out.trans hb.out
      (repeat (first | with_reducible exact Bel.refl _ | with_reducible refine Bel.setCell ?_ (by first | exact Nat.le_refl _ | (dsimp only; omega)) _ | with_reducible refine Bel.alloc ?_ _ | with_reducible refine Bel.drew ?_ | with_reducible assumption | with_reducible refine Bel.trans ?_ (by assumption)))
theorem xone_any (s : ByteArray) (hs : s.size ≤ 65536) (p : Nat) (hp : p < s.size) (w : World) :
    Calls Tryz.prog 19 #[.string s, .int .i64 (p : Nat)] w fun e w' => OneP s p (firT s[p] (s.data.toList.drop p)) e ∧ Bel w w' := by
  unfold firT
  split
  · exact xone_num s hs p hp ‹_› w
  · rename_i h1
    have h1 : fgB s[p] = false := by simpa using h1
    split
    · exact xone_str s hs p hp h1 ‹_› w
    · split
      · exact xone_day s hs p hp h1 ‹_› w
      · split
        · exact xone_name s hs p hp h1 ‹_› ‹_› ‹_› w
        · rename_i h2
          exact xone_sign s hs p hp h1 ‹_› ‹_› (by simpa using h2) w
end Go.Proofs.YtofcjdbodhoacaaGreatDoor
