import Derived.Test.YtofcjdbodhoacaaGreatDoorLzb
namespace Go.Proofs.YtofcjdbodhoacaaGreatDoor
set_option linter.unusedSimpArgs false
set_option linter.unusedVariables false
open Go.RowKit

/-! The document's reader of one token: strings, dates. -/
theorem oneP_bad (s : ByteArray) (p : Nat) (k q : Int) (x : ByteArray) (a b d n : Int) : OneP s p (.bad 5) (.returned (.tuple #[.agg #[.int .i64 k, .int .i64 q, .string x, .int .i64 a, .int .i64 b, .int .i64 d], .int .i64 n, .int .i64 5])) := ⟨k, q, x, a, b, d, n, rfl⟩
theorem strL_le {u x r : List UInt8} (h : strL [] u = some (x, r)) : x.length + 1 + r.length ≤ u.length := by
  obtain ⟨v, h1, h2, _⟩ := strL_exact _ u [] x r (Nat.le_refl _) h
  rw [List.nil_append] at h1
  subst h1
  exact h2
set_option maxRecDepth 100000 in
set_option maxHeartbeats 16000000 in
theorem xone_str (s : ByteArray) (hs : s.size ≤ 65536) (p : Nat) (hp : p < s.size) (hd : fgB s[p] = false) (h34 : s[p] = 34) (w : World) :
    Calls Tryz.prog 19 #[.string s, .int .i64 (p : Nat)] w fun e w' => OneP s p (strT (s.data.toList.drop p)) e ∧ Bel w w' := by
  have CD := Lib.hid fun W => rfigure_any (s[p]'hp) W
  rw [hd] at CD
  have CQ := Lib.hid fun W => xq_any s hs p hp W
  have hdr : (s.data.toList.drop p).drop 1 = s.data.toList.drop (p + 1) := List.drop_drop
  have hul : (s.data.toList.drop (p + 1)).length = s.size - (p + 1) := by rw [List.length_drop, size_list]
  have FN := Lib.hid (show ∀ v, strL [] (s.data.toList.drop (p + 1)) = none → OneP s p (.bad 5) (.returned v) → OneP s p (strT (s.data.toList.drop p)) (.returned v) from fun v h hv => by
    unfold strT
    rw [hdr, h]
    exact hv)
  have FS := Lib.hid (show ∀ v x r, strL [] (s.data.toList.drop (p + 1)) = some (x, r) → OneP s p (if strOk x = true then .ok r (some ⟨2, 0, x, 0, 0, 0⟩) else .bad 5) (.returned v) → OneP s p (strT (s.data.toList.drop p)) (.returned v) from fun v x r h hv => by
    unfold strT
    rw [hdr, h]
    exact hv)
  have hsl := fun x r (h : strL [] (s.data.toList.drop (p + 1)) = some (x, r)) => strL_le h
  generalize OneP s p (strT (s.data.toList.drop p)) = FP at *
  generalize strL [] (s.data.toList.drop (p + 1)) = R at *
  have hsi : (s.size : Int) ≤ 65536 := by omega
  have hpi : (p : Int) < s.size := by omega
  have p0 : (0 : Int) ≤ (p : Int) := by omega
  have e34 : ((s[p].toNat : Int) == 34) = true := by rw [h34]; rfl
  clear hd h34 hdr
  cases R with
  | none =>
    have FNN := Lib.hid fun k q x a b d n => FN.out _ rfl (oneP_bad s p k q x a b d n)
    unfold qV at CQ
    clear FS hsl hul FN
    go_enter Tryz.func19, Tryz.ntmps19
    go_upto_region 2 with fail
    refine under_name (w0 := w) (by (repeat (first | with_reducible exact Bel.refl _ | with_reducible refine Bel.setCell ?_ (by first | exact Nat.le_refl _ | (dsimp only; omega)) _ | with_reducible refine Bel.alloc ?_ _ | with_reducible refine Bel.drew ?_ | with_reducible assumption | with_reducible refine Bel.trans ?_ (by assumption)))) fun W hc hf hz hb => ?_
    have T4 : TSlot W w.heap.size tokZ := by simp [TSlot, tokZ, bytesOf, hc, hf, hz, go_sem]
    have T7 : TSlot W (w.heap.size + 1) ⟨0, p, [], 0, 0, 0⟩ := by simp [TSlot, tokZ, bytesOf, hc, hf, hz, go_sem]
    clear hc hf hz
    generalize hN : w.heap.size = N at T4 T7 ⊢
    have BN := Lib.hid (show w.heap.size ≤ N from by omega)
    have HB := Lib.hid hb
    clear hN hb
    have hne : ¬ N = N + 1 := by omega
    have hne' : ¬ N + 1 = N := by omega
    obtain ⟨t0, ⟨t1, t2, t3, t4, t5, t6⟩, ⟨g1, g2, g3, g4, g5, g6⟩⟩ := T4
    obtain ⟨s0, ⟨s1, s2, s3, s4, s5, s6⟩, ⟨f1, f2, f3, f4, f5, f6⟩⟩ := T7
    simp only [tokZ] at t1 t2 t3 t4 t5 t6
    simp only at s1 s2 s3 s4 s5 s6
    go_wp2_with (first
      | (go_at_call 38; (with_reducible refine Calls.mono (CD.out _) ?_); rintro e W2 ⟨rfl, rfl⟩)
      | (go_at_call 40; (with_reducible refine Calls.mono (CQ.out _) ?_); rintro e W3 ⟨rfl, rfl⟩))
    refine bodyPost_ret (v := .tuple #[.agg #[.int .i64 0, .int .i64 (p : Nat), .string (bytesOf []), .int .i64 0, .int .i64 0, .int .i64 0], .int .i64 0, .int .i64 5]) (by simp [results, Tryz.results19, go_sem, t0, t1, t2, t3, t4, t5, t6, s0, s1, s2, s3, s4, s5, s6, hne, hne']; try rfl) rfl ⟨FNN.out _ _ _ _ _ _ _, ?_⟩
    have hN := BN.out
    have hq := HB.out
    (repeat (first | with_reducible exact Bel.refl _ | with_reducible refine Bel.setCell ?_ (by first | exact Nat.le_refl _ | (dsimp only; omega)) _ | with_reducible refine Bel.alloc ?_ _ | with_reducible refine Bel.drew ?_ | with_reducible assumption | with_reducible refine Bel.trans ?_ (by assumption)))
  | some xr =>
    obtain ⟨x, r⟩ := xr
    have hl := hsl x r rfl
    have FS := Lib.hid fun v => FS.out v x r rfl
    unfold qV at CQ
    simp only at CQ
    have hrs : r.length ≤ s.size := by omega
    obtain ⟨E, hE⟩ : ∃ E, E = s.size - r.length := ⟨_, rfl⟩
    rw [← hE] at CQ
    have HE := Lib.hid hE
    have hE0 : (0 : Int) ≤ (E : Int) := by omega
    have hxz : ((bytesOf x).size : Int) = x.length := by rw [bytesOf_size]
    have hx6 : x.length ≤ 65536 := by omega
    have SO := Lib.hid (show strOk x = (decide (x.length ≤ 256) && goodB (bytesOf x)) from rfl)
    have CG := Lib.hid fun W => rgood_any (bytesOf x) (by rw [bytesOf_size]; omega) W
    have hx7 : (x.length : Int) ≤ 65536 := by omega
    have hsz := bytesOf_size x
    clear hl hE FN hsl hul hxz
    generalize goodB (bytesOf x) = G at CG SO
    by_cases h256 : x.length ≤ 256
    · have g1 : decide ((x.length : Int) > 256) = false := decide_eq_false (by omega)
      have g2 : (x.length : Int) ≤ 256 := by omega
      rw [decide_eq_true h256, Bool.true_and] at SO
      clear h256
      cases G with
      | true =>
        have FS := Lib.hid (show ∀ v, OneP s p (.ok r (some ⟨2, 0, x, 0, 0, 0⟩)) (.returned v) → FP (.returned v) from fun v hv => FS.out v (by rw [if_pos SO.out]; exact hv))
        go_enter Tryz.func19, Tryz.ntmps19
        go_upto_region 2 with fail
        refine under_name (w0 := w) (by (repeat (first | with_reducible exact Bel.refl _ | with_reducible refine Bel.setCell ?_ (by first | exact Nat.le_refl _ | (dsimp only; omega)) _ | with_reducible refine Bel.alloc ?_ _ | with_reducible refine Bel.drew ?_ | with_reducible assumption | with_reducible refine Bel.trans ?_ (by assumption)))) fun W hc hf hz hb => ?_
        have T4 : TSlot W w.heap.size tokZ := by simp [TSlot, tokZ, bytesOf, hc, hf, hz, go_sem]
        have T7 : TSlot W (w.heap.size + 1) ⟨0, p, [], 0, 0, 0⟩ := by simp [TSlot, tokZ, bytesOf, hc, hf, hz, go_sem]
        clear hc hf hz
        generalize hN : w.heap.size = N at T4 T7 ⊢
        have BN := Lib.hid (show w.heap.size ≤ N from by omega)
        have HB := Lib.hid hb
        clear hN hb
        have hne : ¬ N = N + 1 := by omega
        have hne' : ¬ N + 1 = N := by omega
        obtain ⟨t0, ⟨t1, t2, t3, t4, t5, t6⟩, ⟨g1, g2, g3, g4, g5, g6⟩⟩ := T4
        obtain ⟨s0, ⟨s1, s2, s3, s4, s5, s6⟩, ⟨f1, f2, f3, f4, f5, f6⟩⟩ := T7
        simp only [tokZ] at t1 t2 t3 t4 t5 t6
        simp only at s1 s2 s3 s4 s5 s6
        go_wp2_with (first
          | (go_at_call 38; (with_reducible refine Calls.mono (CD.out _) ?_); rintro e W2 ⟨rfl, rfl⟩)
          | (go_at_call 40; (with_reducible refine Calls.mono (CQ.out _) ?_); rintro e W3 ⟨rfl, rfl⟩)
          | (go_at_call 41; (with_reducible refine Calls.mono (CG.out _) ?_); rintro e W4 ⟨rfl, rfl⟩))
        refine bodyPost_ret (v := .tuple #[.agg #[.int .i64 2, .int .i64 (p : Nat), .string (bytesOf x), .int .i64 0, .int .i64 0, .int .i64 0], .int .i64 (E : Nat), .int .i64 0]) (by simp [results, Tryz.results19, go_sem, t0, t1, t2, t3, t4, t5, t6, s0, s1, s2, s3, s4, s5, s6, hne, hne']; try rfl) rfl ⟨FS.out _ (by unfold OneP; simp only; rw [HE.out]), ?_⟩
        have hN := BN.out
        have hq := HB.out
        (repeat (first | with_reducible exact Bel.refl _ | with_reducible refine Bel.setCell ?_ (by first | exact Nat.le_refl _ | (dsimp only; omega)) _ | with_reducible refine Bel.alloc ?_ _ | with_reducible refine Bel.drew ?_ | with_reducible assumption | with_reducible refine Bel.trans ?_ (by assumption)))
      | false =>
        have FS := Lib.hid (show ∀ v, OneP s p (.bad 5) (.returned v) → FP (.returned v) from fun v hv => FS.out v (by rw [if_neg (by rw [SO.out]; simp)]; exact hv))
        go_enter Tryz.func19, Tryz.ntmps19
        go_upto_region 2 with fail
        refine under_name (w0 := w) (by (repeat (first | with_reducible exact Bel.refl _ | with_reducible refine Bel.setCell ?_ (by first | exact Nat.le_refl _ | (dsimp only; omega)) _ | with_reducible refine Bel.alloc ?_ _ | with_reducible refine Bel.drew ?_ | with_reducible assumption | with_reducible refine Bel.trans ?_ (by assumption)))) fun W hc hf hz hb => ?_
        have T4 : TSlot W w.heap.size tokZ := by simp [TSlot, tokZ, bytesOf, hc, hf, hz, go_sem]
        have T7 : TSlot W (w.heap.size + 1) ⟨0, p, [], 0, 0, 0⟩ := by simp [TSlot, tokZ, bytesOf, hc, hf, hz, go_sem]
        clear hc hf hz
        generalize hN : w.heap.size = N at T4 T7 ⊢
        have BN := Lib.hid (show w.heap.size ≤ N from by omega)
        have HB := Lib.hid hb
        clear hN hb
        have hne : ¬ N = N + 1 := by omega
        have hne' : ¬ N + 1 = N := by omega
        obtain ⟨t0, ⟨t1, t2, t3, t4, t5, t6⟩, ⟨g1, g2, g3, g4, g5, g6⟩⟩ := T4
        obtain ⟨s0, ⟨s1, s2, s3, s4, s5, s6⟩, ⟨f1, f2, f3, f4, f5, f6⟩⟩ := T7
        simp only [tokZ] at t1 t2 t3 t4 t5 t6
        simp only at s1 s2 s3 s4 s5 s6
        go_wp2_with (first
          | (go_at_call 38; (with_reducible refine Calls.mono (CD.out _) ?_); rintro e W2 ⟨rfl, rfl⟩)
          | (go_at_call 40; (with_reducible refine Calls.mono (CQ.out _) ?_); rintro e W3 ⟨rfl, rfl⟩)
          | (go_at_call 41; (with_reducible refine Calls.mono (CG.out _) ?_); rintro e W4 ⟨rfl, rfl⟩))
        refine bodyPost_ret (v := .tuple #[.agg #[.int .i64 0, .int .i64 (p : Nat), .string (bytesOf []), .int .i64 0, .int .i64 0, .int .i64 0], .int .i64 0, .int .i64 5]) (by simp [results, Tryz.results19, go_sem, t0, t1, t2, t3, t4, t5, t6, s0, s1, s2, s3, s4, s5, s6, hne, hne']; try rfl) rfl ⟨FS.out _ (oneP_bad s p _ _ _ _ _ _ _), ?_⟩
        have hN := BN.out
        have hq := HB.out
        (repeat (first | with_reducible exact Bel.refl _ | with_reducible refine Bel.setCell ?_ (by first | exact Nat.le_refl _ | (dsimp only; omega)) _ | with_reducible refine Bel.alloc ?_ _ | with_reducible refine Bel.drew ?_ | with_reducible assumption | with_reducible refine Bel.trans ?_ (by assumption)))
    · have g1 : decide ((x.length : Int) > 256) = true := decide_eq_true (by omega)
      have g2 : 256 < (x.length : Int) := by omega
      rw [decide_eq_false h256, Bool.false_and] at SO
      clear h256
      have FS := Lib.hid (show ∀ v, OneP s p (.bad 5) (.returned v) → FP (.returned v) from fun v hv => FS.out v (by rw [if_neg (by rw [SO.out]; simp)]; exact hv))
      go_enter Tryz.func19, Tryz.ntmps19
      go_upto_region 2 with fail
      refine under_name (w0 := w) (by (repeat (first | with_reducible exact Bel.refl _ | with_reducible refine Bel.setCell ?_ (by first | exact Nat.le_refl _ | (dsimp only; omega)) _ | with_reducible refine Bel.alloc ?_ _ | with_reducible refine Bel.drew ?_ | with_reducible assumption | with_reducible refine Bel.trans ?_ (by assumption)))) fun W hc hf hz hb => ?_
      have T4 : TSlot W w.heap.size tokZ := by simp [TSlot, tokZ, bytesOf, hc, hf, hz, go_sem]
      have T7 : TSlot W (w.heap.size + 1) ⟨0, p, [], 0, 0, 0⟩ := by simp [TSlot, tokZ, bytesOf, hc, hf, hz, go_sem]
      clear hc hf hz
      generalize hN : w.heap.size = N at T4 T7 ⊢
      have BN := Lib.hid (show w.heap.size ≤ N from by omega)
      have HB := Lib.hid hb
      clear hN hb
      have hne : ¬ N = N + 1 := by omega
      have hne' : ¬ N + 1 = N := by omega
      obtain ⟨t0, ⟨t1, t2, t3, t4, t5, t6⟩, ⟨g1, g2, g3, g4, g5, g6⟩⟩ := T4
      obtain ⟨s0, ⟨s1, s2, s3, s4, s5, s6⟩, ⟨f1, f2, f3, f4, f5, f6⟩⟩ := T7
      simp only [tokZ] at t1 t2 t3 t4 t5 t6
      simp only at s1 s2 s3 s4 s5 s6
      go_wp2_with (first
        | (go_at_call 38; (with_reducible refine Calls.mono (CD.out _) ?_); rintro e W2 ⟨rfl, rfl⟩)
        | (go_at_call 40; (with_reducible refine Calls.mono (CQ.out _) ?_); rintro e W3 ⟨rfl, rfl⟩))
      refine bodyPost_ret (v := .tuple #[.agg #[.int .i64 0, .int .i64 (p : Nat), .string (bytesOf []), .int .i64 0, .int .i64 0, .int .i64 0], .int .i64 0, .int .i64 5]) (by simp [results, Tryz.results19, go_sem, t0, t1, t2, t3, t4, t5, t6, s0, s1, s2, s3, s4, s5, s6, hne, hne']; try rfl) rfl ⟨FS.out _ (oneP_bad s p _ _ _ _ _ _ _), ?_⟩
      have hN := BN.out
      have hq := HB.out
      (repeat (first | with_reducible exact Bel.refl _ | with_reducible refine Bel.setCell ?_ (by first | exact Nat.le_refl _ | (dsimp only; omega)) _ | with_reducible refine Bel.alloc ?_ _ | with_reducible refine Bel.drew ?_ | with_reducible assumption | with_reducible refine Bel.trans ?_ (by assumption)))
set_option maxRecDepth 100000 in
set_option maxHeartbeats 16000000 in
theorem xone_day (s : ByteArray) (hs : s.size ≤ 65536) (p : Nat) (hp : p < s.size) (hd : fgB s[p] = false) (h64 : s[p] = 64) (w : World) :
    Calls Tryz.prog 19 #[.string s, .int .i64 (p : Nat)] w fun e w' => OneP s p (dayT (s.data.toList.drop p)) e ∧ Bel w w' := by
  have CD := Lib.hid fun W => rfigure_any (s[p]'hp) W
  rw [hd] at CD
  have hdp := drop_at s p hp
  rw [h64] at hdp
  have hsi : (s.size : Int) ≤ 65536 := by omega
  have hpi : (p : Int) < s.size := by omega
  have p0 : (0 : Int) ≤ (p : Int) := by omega
  have w1 : IntKind.i64.wrap ((p : Int) + 1) = (p : Int) + 1 := by rw [IntKind.wrap_i64]; omega
  have e64 : ((s[p].toNat : Int) == 64) = true := by rw [h64]; rfl
  have e34 : ((s[p].toNat : Int) == 34) = false := by rw [h64]; rfl
  by_cases h1 : p + 1 < s.size
  · have h1i : (p : Int) + 1 < s.size := by omega
    have g1 : decide ((p : Int) + 1 ≥ s.size) = false := decide_eq_false (by omega)
    have hd1 := drop_at s (p + 1) h1
    by_cases h34 : s[p + 1] = 34
    · have f34 : ((s[p + 1].toNat : Int) == 34) = true := by rw [h34]; rfl
      have n34 : ((s[p + 1].toNat : Int) != 34) = false := by rw [h34]; rfl
      rw [h34] at hd1
      have hdt : dayT (s.data.toList.drop p) = dayR (s.data.toList.drop (p + 1 + 1)) := by rw [hdp, hd1, day_two]
      have hul : (s.data.toList.drop (p + 1 + 1)).length = s.size - (p + 1 + 1) := by rw [List.length_drop, size_list]
      have CQ := Lib.hid (show ∀ W, Calls Tryz.prog 40 #[.string s, .int .i64 ((p : Int) + 1)] W fun e w' => e = .returned (qV s (strL [] (s.data.toList.drop (p + 1 + 1)))) ∧ w' = W from fun W => xq_any s hs (p + 1) h1 W)
      rw [hdt]
      unfold dayR
      rw [hul]
      have hsl := fun x r (h : strL [] (s.data.toList.drop (p + 1 + 1)) = some (x, r)) => strL_le h
      rw [hul] at hsl
      clear hdt hul hd1 hdp h34 hd h64
      generalize strL [] (s.data.toList.drop (p + 1 + 1)) = R at *
      have w13 : IntKind.i64.wrap ((p : Int) + 13) = (p : Int) + 13 := by rw [IntKind.wrap_i64]; omega
      cases R with
      | none =>
        simp only
        unfold qV at CQ
        have CP := Lib.hid (show ∀ W, Calls Tryz.prog 42 #[.string ⟨#[]⟩] W fun e w' => e = .returned (.tuple #[.int .i64 (dayP []).1, .int .i64 ((dayP []).2 : Nat)]) ∧ Bel W w' from fun W => by
          have h := rparse_any_Y (bytesOf []) W
          rw [day_is] at h
          exact h)
        generalize (dayP []).1 = dn at CP
        generalize (dayP []).2 = de at CP
        have g13 : ((-1 : Int) == (p : Int) + 13) = false := by rw [beq_eq_false_iff_ne]; omega
        have g13' : ((-1 : Int) != (p : Int) + 13) = true := by unfold bne; rw [g13]; rfl
        clear hsl
        go_enter Tryz.func19, Tryz.ntmps19
        go_upto_region 2 with fail
        refine under_name (w0 := w) (by (repeat (first | with_reducible exact Bel.refl _ | with_reducible refine Bel.setCell ?_ (by first | exact Nat.le_refl _ | (dsimp only; omega)) _ | with_reducible refine Bel.alloc ?_ _ | with_reducible refine Bel.drew ?_ | with_reducible assumption | with_reducible refine Bel.trans ?_ (by assumption)))) fun W hc hf hz hb => ?_
        have T4 : TSlot W w.heap.size tokZ := by simp [TSlot, tokZ, bytesOf, hc, hf, hz, go_sem]
        have T7 : TSlot W (w.heap.size + 1) ⟨0, p, [], 0, 0, 0⟩ := by simp [TSlot, tokZ, bytesOf, hc, hf, hz, go_sem]
        clear hc hf hz
        generalize hN : w.heap.size = N at T4 T7 ⊢
        have BN := Lib.hid (show w.heap.size ≤ N from by omega)
        have HB := Lib.hid hb
        clear hN hb
        have hne : ¬ N = N + 1 := by omega
        have hne' : ¬ N + 1 = N := by omega
        go_wp2_with (first
          | (go_at_call 38; (with_reducible refine Calls.mono (CD.out _) ?_); rintro e W2 ⟨rfl, rfl⟩)
          | (go_at_call 40; (with_reducible refine Calls.mono (CQ.out _) ?_); rintro e W3 ⟨rfl, rfl⟩)
          | (go_at_call 42; (with_reducible refine Calls.mono (CP.out _) ?_); rintro e W5 ⟨rfl, hb5⟩; have hq9 := hb5; obtain ⟨t0, ⟨t1, t2, t3, t4, t5, t6⟩, ⟨g1, g2, g3, g4, g5, g6⟩⟩ := T4.keep hq9; obtain ⟨s0, ⟨s1, s2, s3, s4, s5, s6⟩, ⟨f1, f2, f3, f4, f5, f6⟩⟩ := T7.keep hq9; simp only [tokZ] at t1 t2 t3 t4 t5 t6; simp only at s1 s2 s3 s4 s5 s6; have HQ9 := Lib.hid hq9))
        refine bodyPost_ret (v := .tuple #[.agg #[.int .i64 0, .int .i64 (p : Nat), .string (bytesOf []), .int .i64 0, .int .i64 0, .int .i64 0], .int .i64 0, .int .i64 5]) (by simp [results, Tryz.results19, go_sem, t0, t1, t2, t3, t4, t5, t6, s0, s1, s2, s3, s4, s5, s6, hne, hne']; try rfl) rfl ⟨oneP_bad s p _ _ _ _ _ _ _, ?_⟩
        have hN := BN.out
        have hq := HB.out.trans HQ9.out
        (repeat (first | with_reducible exact Bel.refl _ | with_reducible refine Bel.setCell ?_ (by first | exact Nat.le_refl _ | (dsimp only; omega)) _ | with_reducible refine Bel.alloc ?_ _ | with_reducible refine Bel.drew ?_ | with_reducible assumption | with_reducible refine Bel.trans ?_ (by assumption)))
      | some xr =>
        obtain ⟨x, r⟩ := xr
        have hl := hsl x r rfl
        simp only
        unfold qV at CQ
        simp only at CQ
        obtain ⟨E, hE⟩ : ∃ E, E = s.size - r.length := ⟨_, rfl⟩
        rw [← hE] at CQ
        have CP := Lib.hid (show ∀ W, Calls Tryz.prog 42 #[.string (bytesOf x)] W fun e w' => e = .returned (.tuple #[.int .i64 (dayP x).1, .int .i64 ((dayP x).2 : Nat)]) ∧ Bel W w' from fun W => by
          have h := rparse_any_Y (bytesOf x) W
          rw [day_is] at h
          exact h)
        generalize (dayP x).1 = dn at CP ⊢
        generalize (dayP x).2 = de at CP ⊢
        by_cases h13 : E = p + 13
        · have g13 : ((E : Int) == (p : Int) + 13) = true := by rw [beq_iff_eq]; omega
          have g13' : ((E : Int) != (p : Int) + 13) = false := by unfold bne; rw [g13]; rfl
          have h11 : s.size - (p + 1 + 1) - r.length = 11 := by omega
          have hee : de = 0 ∨ de ≠ 0 := by omega
          have HE := Lib.hid hE
          rcases hee with rfl | hee
          · rw [if_pos ⟨h11, rfl⟩]
            clear hsl hE h13 h11 hl
            go_enter Tryz.func19, Tryz.ntmps19
            go_upto_region 2 with fail
            refine under_name (w0 := w) (by (repeat (first | with_reducible exact Bel.refl _ | with_reducible refine Bel.setCell ?_ (by first | exact Nat.le_refl _ | (dsimp only; omega)) _ | with_reducible refine Bel.alloc ?_ _ | with_reducible refine Bel.drew ?_ | with_reducible assumption | with_reducible refine Bel.trans ?_ (by assumption)))) fun W hc hf hz hb => ?_
            have T4 : TSlot W w.heap.size tokZ := by simp [TSlot, tokZ, bytesOf, hc, hf, hz, go_sem]
            have T7 : TSlot W (w.heap.size + 1) ⟨0, p, [], 0, 0, 0⟩ := by simp [TSlot, tokZ, bytesOf, hc, hf, hz, go_sem]
            clear hc hf hz
            generalize hN : w.heap.size = N at T4 T7 ⊢
            have BN := Lib.hid (show w.heap.size ≤ N from by omega)
            have HB := Lib.hid hb
            clear hN hb
            have hne : ¬ N = N + 1 := by omega
            have hne' : ¬ N + 1 = N := by omega
            go_wp2_with (first
              | (go_at_call 38; (with_reducible refine Calls.mono (CD.out _) ?_); rintro e W2 ⟨rfl, rfl⟩)
              | (go_at_call 40; (with_reducible refine Calls.mono (CQ.out _) ?_); rintro e W3 ⟨rfl, rfl⟩)
              | (go_at_call 42; (with_reducible refine Calls.mono (CP.out _) ?_); rintro e W5 ⟨rfl, hb5⟩; have hq9 := hb5; obtain ⟨t0, ⟨t1, t2, t3, t4, t5, t6⟩, ⟨g1, g2, g3, g4, g5, g6⟩⟩ := T4.keep hq9; obtain ⟨s0, ⟨s1, s2, s3, s4, s5, s6⟩, ⟨f1, f2, f3, f4, f5, f6⟩⟩ := T7.keep hq9; simp only [tokZ] at t1 t2 t3 t4 t5 t6; simp only at s1 s2 s3 s4 s5 s6; have HQ9 := Lib.hid hq9))
            refine bodyPost_ret (v := .tuple #[.agg #[.int .i64 3, .int .i64 (p : Nat), .string (bytesOf []), .int .i64 0, .int .i64 0, .int .i64 dn], .int .i64 (E : Nat), .int .i64 0]) (by simp [results, Tryz.results19, go_sem, t0, t1, t2, t3, t4, t5, t6, s0, s1, s2, s3, s4, s5, s6, hne, hne']; try rfl) rfl ⟨by unfold OneP; simp only; rw [HE.out], ?_⟩
            have hN := BN.out
            have hq := HB.out.trans HQ9.out
            (repeat (first | with_reducible exact Bel.refl _ | with_reducible refine Bel.setCell ?_ (by first | exact Nat.le_refl _ | (dsimp only; omega)) _ | with_reducible refine Bel.alloc ?_ _ | with_reducible refine Bel.drew ?_ | with_reducible assumption | with_reducible refine Bel.trans ?_ (by assumption)))
          · rw [if_neg (fun h => hee h.2)]
            have hee' : ¬ (de : Int) = 0 := by omega
            clear hsl hE h13 h11 hl
            go_enter Tryz.func19, Tryz.ntmps19
            go_upto_region 2 with fail
            refine under_name (w0 := w) (by (repeat (first | with_reducible exact Bel.refl _ | with_reducible refine Bel.setCell ?_ (by first | exact Nat.le_refl _ | (dsimp only; omega)) _ | with_reducible refine Bel.alloc ?_ _ | with_reducible refine Bel.drew ?_ | with_reducible assumption | with_reducible refine Bel.trans ?_ (by assumption)))) fun W hc hf hz hb => ?_
            have T4 : TSlot W w.heap.size tokZ := by simp [TSlot, tokZ, bytesOf, hc, hf, hz, go_sem]
            have T7 : TSlot W (w.heap.size + 1) ⟨0, p, [], 0, 0, 0⟩ := by simp [TSlot, tokZ, bytesOf, hc, hf, hz, go_sem]
            clear hc hf hz
            generalize hN : w.heap.size = N at T4 T7 ⊢
            have BN := Lib.hid (show w.heap.size ≤ N from by omega)
            have HB := Lib.hid hb
            clear hN hb
            have hne : ¬ N = N + 1 := by omega
            have hne' : ¬ N + 1 = N := by omega
            go_wp2_with (first
              | (go_at_call 38; (with_reducible refine Calls.mono (CD.out _) ?_); rintro e W2 ⟨rfl, rfl⟩)
              | (go_at_call 40; (with_reducible refine Calls.mono (CQ.out _) ?_); rintro e W3 ⟨rfl, rfl⟩)
              | (go_at_call 42; (with_reducible refine Calls.mono (CP.out _) ?_); rintro e W5 ⟨rfl, hb5⟩; have hq9 := hb5; obtain ⟨t0, ⟨t1, t2, t3, t4, t5, t6⟩, ⟨g1, g2, g3, g4, g5, g6⟩⟩ := T4.keep hq9; obtain ⟨s0, ⟨s1, s2, s3, s4, s5, s6⟩, ⟨f1, f2, f3, f4, f5, f6⟩⟩ := T7.keep hq9; simp only [tokZ] at t1 t2 t3 t4 t5 t6; simp only at s1 s2 s3 s4 s5 s6; have HQ9 := Lib.hid hq9))
            refine bodyPost_ret (v := .tuple #[.agg #[.int .i64 0, .int .i64 (p : Nat), .string (bytesOf []), .int .i64 0, .int .i64 0, .int .i64 0], .int .i64 0, .int .i64 5]) (by simp [results, Tryz.results19, go_sem, t0, t1, t2, t3, t4, t5, t6, s0, s1, s2, s3, s4, s5, s6, hne, hne']; try rfl) rfl ⟨oneP_bad s p _ _ _ _ _ _ _, ?_⟩
            have hN := BN.out
            have hq := HB.out.trans HQ9.out
            (repeat (first | with_reducible exact Bel.refl _ | with_reducible refine Bel.setCell ?_ (by first | exact Nat.le_refl _ | (dsimp only; omega)) _ | with_reducible refine Bel.alloc ?_ _ | with_reducible refine Bel.drew ?_ | with_reducible assumption | with_reducible refine Bel.trans ?_ (by assumption)))
        · have g13 : ((E : Int) == (p : Int) + 13) = false := by rw [beq_eq_false_iff_ne]; omega
          have g13' : ((E : Int) != (p : Int) + 13) = true := by unfold bne; rw [g13]; rfl
          rw [if_neg (fun h => by have := h.1; omega)]
          clear hsl hE h13 hl
          go_enter Tryz.func19, Tryz.ntmps19
          go_upto_region 2 with fail
          refine under_name (w0 := w) (by (repeat (first | with_reducible exact Bel.refl _ | with_reducible refine Bel.setCell ?_ (by first | exact Nat.le_refl _ | (dsimp only; omega)) _ | with_reducible refine Bel.alloc ?_ _ | with_reducible refine Bel.drew ?_ | with_reducible assumption | with_reducible refine Bel.trans ?_ (by assumption)))) fun W hc hf hz hb => ?_
          have T4 : TSlot W w.heap.size tokZ := by simp [TSlot, tokZ, bytesOf, hc, hf, hz, go_sem]
          have T7 : TSlot W (w.heap.size + 1) ⟨0, p, [], 0, 0, 0⟩ := by simp [TSlot, tokZ, bytesOf, hc, hf, hz, go_sem]
          clear hc hf hz
          generalize hN : w.heap.size = N at T4 T7 ⊢
          have BN := Lib.hid (show w.heap.size ≤ N from by omega)
          have HB := Lib.hid hb
          clear hN hb
          have hne : ¬ N = N + 1 := by omega
          have hne' : ¬ N + 1 = N := by omega
          go_wp2_with (first
            | (go_at_call 38; (with_reducible refine Calls.mono (CD.out _) ?_); rintro e W2 ⟨rfl, rfl⟩)
            | (go_at_call 40; (with_reducible refine Calls.mono (CQ.out _) ?_); rintro e W3 ⟨rfl, rfl⟩)
            | (go_at_call 42; (with_reducible refine Calls.mono (CP.out _) ?_); rintro e W5 ⟨rfl, hb5⟩; have hq9 := hb5; obtain ⟨t0, ⟨t1, t2, t3, t4, t5, t6⟩, ⟨g1, g2, g3, g4, g5, g6⟩⟩ := T4.keep hq9; obtain ⟨s0, ⟨s1, s2, s3, s4, s5, s6⟩, ⟨f1, f2, f3, f4, f5, f6⟩⟩ := T7.keep hq9; simp only [tokZ] at t1 t2 t3 t4 t5 t6; simp only at s1 s2 s3 s4 s5 s6; have HQ9 := Lib.hid hq9))
          refine bodyPost_ret (v := .tuple #[.agg #[.int .i64 0, .int .i64 (p : Nat), .string (bytesOf []), .int .i64 0, .int .i64 0, .int .i64 0], .int .i64 0, .int .i64 5]) (by simp [results, Tryz.results19, go_sem, t0, t1, t2, t3, t4, t5, t6, s0, s1, s2, s3, s4, s5, s6, hne, hne']; try rfl) rfl ⟨oneP_bad s p _ _ _ _ _ _ _, ?_⟩
          have hN := BN.out
          have hq := HB.out.trans HQ9.out
          (repeat (first | with_reducible exact Bel.refl _ | with_reducible refine Bel.setCell ?_ (by first | exact Nat.le_refl _ | (dsimp only; omega)) _ | with_reducible refine Bel.alloc ?_ _ | with_reducible refine Bel.drew ?_ | with_reducible assumption | with_reducible refine Bel.trans ?_ (by assumption)))
    · have f34 : ((s[p + 1].toNat : Int) == 34) = false := u8n h34
      have n34 : ((s[p + 1].toNat : Int) != 34) = true := by unfold bne; rw [f34]; rfl
      rw [day_none (by
        rw [hdp, hd1]
        simp [List.isPrefixOf]
        exact fun e => h34 e.symm)]
      clear hd1 hdp h34 hd h64
      go_enter Tryz.func19, Tryz.ntmps19
      go_upto_region 2 with fail
      refine under_name (w0 := w) (by (repeat (first | with_reducible exact Bel.refl _ | with_reducible refine Bel.setCell ?_ (by first | exact Nat.le_refl _ | (dsimp only; omega)) _ | with_reducible refine Bel.alloc ?_ _ | with_reducible refine Bel.drew ?_ | with_reducible assumption | with_reducible refine Bel.trans ?_ (by assumption)))) fun W hc hf hz hb => ?_
      have T4 : TSlot W w.heap.size tokZ := by simp [TSlot, tokZ, bytesOf, hc, hf, hz, go_sem]
      have T7 : TSlot W (w.heap.size + 1) ⟨0, p, [], 0, 0, 0⟩ := by simp [TSlot, tokZ, bytesOf, hc, hf, hz, go_sem]
      clear hc hf hz
      generalize hN : w.heap.size = N at T4 T7 ⊢
      have BN := Lib.hid (show w.heap.size ≤ N from by omega)
      have HB := Lib.hid hb
      clear hN hb
      have hne : ¬ N = N + 1 := by omega
      have hne' : ¬ N + 1 = N := by omega
      obtain ⟨t0, ⟨t1, t2, t3, t4, t5, t6⟩, ⟨g1, g2, g3, g4, g5, g6⟩⟩ := T4
      obtain ⟨s0, ⟨s1, s2, s3, s4, s5, s6⟩, ⟨f1, f2, f3, f4, f5, f6⟩⟩ := T7
      simp only [tokZ] at t1 t2 t3 t4 t5 t6
      simp only at s1 s2 s3 s4 s5 s6
      go_wp2_with (go_at_call 38; (with_reducible refine Calls.mono (CD.out _) ?_); rintro e W2 ⟨rfl, rfl⟩)
      refine bodyPost_ret (v := .tuple #[.agg #[.int .i64 0, .int .i64 (p : Nat), .string (bytesOf []), .int .i64 0, .int .i64 0, .int .i64 0], .int .i64 0, .int .i64 5]) (by simp [results, Tryz.results19, go_sem, t0, t1, t2, t3, t4, t5, t6, s0, s1, s2, s3, s4, s5, s6, hne, hne']; try rfl) rfl ⟨oneP_bad s p _ _ _ _ _ _ _, ?_⟩
      have hN := BN.out
      have hq := HB.out
      (repeat (first | with_reducible exact Bel.refl _ | with_reducible refine Bel.setCell ?_ (by first | exact Nat.le_refl _ | (dsimp only; omega)) _ | with_reducible refine Bel.alloc ?_ _ | with_reducible refine Bel.drew ?_ | with_reducible assumption | with_reducible refine Bel.trans ?_ (by assumption)))
  · have g1 : decide ((p : Int) + 1 ≥ s.size) = true := decide_eq_true (by omega)
    have g2 : (s.size : Int) ≤ (p : Int) + 1 := by omega
    rw [day_none (by
      rw [hdp, List.drop_of_length_le (by rw [size_list]; omega)]
      rfl)]
    clear hdp hd h64
    go_enter Tryz.func19, Tryz.ntmps19
    go_upto_region 2 with fail
    refine under_name (w0 := w) (by (repeat (first | with_reducible exact Bel.refl _ | with_reducible refine Bel.setCell ?_ (by first | exact Nat.le_refl _ | (dsimp only; omega)) _ | with_reducible refine Bel.alloc ?_ _ | with_reducible refine Bel.drew ?_ | with_reducible assumption | with_reducible refine Bel.trans ?_ (by assumption)))) fun W hc hf hz hb => ?_
    have T4 : TSlot W w.heap.size tokZ := by simp [TSlot, tokZ, bytesOf, hc, hf, hz, go_sem]
    have T7 : TSlot W (w.heap.size + 1) ⟨0, p, [], 0, 0, 0⟩ := by simp [TSlot, tokZ, bytesOf, hc, hf, hz, go_sem]
    clear hc hf hz
    generalize hN : w.heap.size = N at T4 T7 ⊢
    have BN := Lib.hid (show w.heap.size ≤ N from by omega)
    have HB := Lib.hid hb
    clear hN hb
    have hne : ¬ N = N + 1 := by omega
    have hne' : ¬ N + 1 = N := by omega
    obtain ⟨t0, ⟨t1, t2, t3, t4, t5, t6⟩, ⟨g1, g2, g3, g4, g5, g6⟩⟩ := T4
    obtain ⟨s0, ⟨s1, s2, s3, s4, s5, s6⟩, ⟨f1, f2, f3, f4, f5, f6⟩⟩ := T7
    simp only [tokZ] at t1 t2 t3 t4 t5 t6
    simp only at s1 s2 s3 s4 s5 s6
    go_wp2_with (go_at_call 38; (with_reducible refine Calls.mono (CD.out _) ?_); rintro e W2 ⟨rfl, rfl⟩)
    refine bodyPost_ret (v := .tuple #[.agg #[.int .i64 0, .int .i64 (p : Nat), .string (bytesOf []), .int .i64 0, .int .i64 0, .int .i64 0], .int .i64 0, .int .i64 5]) (by simp [results, Tryz.results19, go_sem, t0, t1, t2, t3, t4, t5, t6, s0, s1, s2, s3, s4, s5, s6, hne, hne']; try rfl) rfl ⟨oneP_bad s p _ _ _ _ _ _ _, ?_⟩
    have hN := BN.out
    have hq := HB.out
    (repeat (first | with_reducible exact Bel.refl _ | with_reducible refine Bel.setCell ?_ (by first | exact Nat.le_refl _ | (dsimp only; omega)) _ | with_reducible refine Bel.alloc ?_ _ | with_reducible refine Bel.drew ?_ | with_reducible assumption | with_reducible refine Bel.trans ?_ (by assumption)))
end Go.Proofs.YtofcjdbodhoacaaGreatDoor
