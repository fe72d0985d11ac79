import Derived.Test.YtofcjdbodhoacaaGreatDoorLzc
namespace Go.Proofs.YtofcjdbodhoacaaGreatDoor
set_option linter.unusedSimpArgs false
set_option linter.unusedVariables false
open Go.RowKit

/-! The document's reader of one token: names. -/
theorem rn_any (l : List UInt8) (hl : l.length ≤ 65536) (w : World) : Calls Tryz.prog 21 #[.string (bytesOf l)] w fun e w' => e = .returned (.bool (nmOk l)) ∧ w' = w :=
  rname_any (bytesOf l) (by rw [bytesOf_size]; omega) w
set_option maxRecDepth 100000 in
set_option maxHeartbeats 16000000 in
theorem xone_name (s : ByteArray) (hs : s.size ≤ 65536) (p : Nat) (hp : p < s.size) (hd : fgB s[p] = false) (h34 : s[p] ≠ 34) (h64 : s[p] ≠ 64) (hl : ltB s[p] = true) (w : World) :
    Calls Tryz.prog 19 #[.string s, .int .i64 (p : Nat)] w fun e w' => OneP s p (namT (s.data.toList.drop p)) e ∧ Bel w w' := by
  have CD := Lib.hid fun W => rfigure_any (s[p]'hp) W
  rw [hd] at CD
  have hdp := drop_at s p hp
  have hsi : (s.size : Int) ≤ 65536 := by omega
  have hpi : (p : Int) < s.size := by omega
  have p0 : (0 : Int) ≤ (p : Int) := by omega
  have w1 : IntKind.i64.wrap ((p : Int) + 1) = (p : Int) + 1 := by rw [IntKind.wrap_i64]; omega
  have e64 : ((s[p].toNat : Int) == 64) = false := u8n h64
  have e34 : ((s[p].toNat : Int) == 34) = false := u8n h34
  have CN1 := Lib.hid (show ∀ W, Calls Tryz.prog 21 #[.string (s.extract p (p + 1))] W fun e w' => e = .returned (.bool true) ∧ w' = W from fun W => by
    rw [ext_1 s p hp, bytes_lit, ← hl, ← nm_one]
    exact rn_any [s[p]] (by simp) W)
  have CNX := Lib.hid (show ∀ i (h : i < s.size) W, Calls Tryz.prog 21 #[.string ((⟨#[120]⟩ : ByteArray) ++ s.extract i (i + 1))] W fun e w' => e = .returned (.bool (nbB (s[i]'h))) ∧ w' = W from fun i h W => by
    rw [ext_1 s i h, show (⟨#[120]⟩ : ByteArray) ++ (⟨[s[i]].toArray⟩ : ByteArray) = bytesOf [120, s[i]] from bytes_app [120] [s[i]], ← nm_x]
    exact rn_any [120, s[i]] (by simp) W)
  obtain ⟨n, hn⟩ : ∃ n, n = ((s.data.toList.drop p).takeWhile nbB).length := ⟨_, rfl⟩
  obtain ⟨hn1, hn2, hn3⟩ := at_take nbB s p n (by omega) hn
  have htk := tw_take nbB (s.data.toList.drop p)
  have hlen := tw_lens nbB (s.data.toList.drop p)
  rw [List.length_drop, size_list, ← hn] at hlen
  have hspn := (span_is nbB (s.data.toList.drop p)).2.1
  have hcons : ∃ t, (s.data.toList.drop p).takeWhile nbB = s[p] :: t := by
    rw [hdp, List.takeWhile_cons, if_pos (by unfold nbB; rw [hl]; rfl)]
    exact ⟨_, rfl⟩
  obtain ⟨t, hcons⟩ := hcons
  have hnm := nm_len hcons hl hspn
  rw [← hn] at hnm htk
  obtain ⟨E, hE⟩ : ∃ E, E = p + n := ⟨_, rfl⟩
  have GX := Lib.hid (show s.extract p E = bytesOf ((s.data.toList.drop p).takeWhile nbB) from by rw [ext_bytes, show E - p = n by omega, htk])
  have hn0 : 1 ≤ n := by rw [hn, hcons]; simp
  have F0 := Lib.hid (show ∀ v : Value, E - p ≤ 32 → v = .tuple #[.agg #[.int .i64 4, .int .i64 (p : Nat), .string (bytesOf ((s.data.toList.drop p).takeWhile nbB)), .int .i64 0, .int .i64 0, .int .i64 0], .int .i64 (E : Nat), .int .i64 0] → OneP s p (namT (s.data.toList.drop p)) (.returned v) from fun v h hv => by
    unfold namT
    rw [if_pos (by rw [hnm]; exact decide_eq_true (by omega))]
    unfold OneP
    simp only
    rw [hv, show s.size - ((s.data.toList.drop p).dropWhile nbB).length = E by omega])
  have F1 := Lib.hid (show ∀ (k q : Int) (x : ByteArray) (a b d n : Int), 32 < E - p → OneP s p (namT (s.data.toList.drop p)) (.returned (.tuple #[.agg #[.int .i64 k, .int .i64 q, .string x, .int .i64 a, .int .i64 b, .int .i64 d], .int .i64 n, .int .i64 5])) from fun k q x a b d n' h => by
    unfold namT
    rw [if_neg (by rw [hnm, decide_eq_false (by omega)]; simp)]
    exact oneP_bad s p _ _ _ _ _ _ _)
  have N2 := Lib.hid (show ∀ i (h : i < s.size), p ≤ i → i < E → nbB (s[i]'h) = true from fun i h h1 h2 => hn2 i h h1 (by omega))
  have N3 := Lib.hid (show ∀ h : E < s.size, nbB (s[E]'h) = false from fun h => by subst hE; exact hn3 h)
  have hpE : p ≤ E := by omega
  have hEs : E ≤ s.size := by omega
  have hxz : ∀ i (h : i < s.size), ((s.extract i (i + 1)).size : Int) = 1 := by
    intro i h
    have h1 : (s.extract i (i + 1)).size = 1 := by rw [ext_1 s i h, bsize]; rfl
    omega
  have HXZ := Lib.hid hxz
  generalize OneP s p (namT (s.data.toList.drop p)) = FP at *
  generalize (s.data.toList.drop p).takeWhile nbB = nm at *
  clear hd h34 h64 hl hdp hn hn1 hn2 hn3 htk hlen hspn hcons hnm hE hn0 hxz
  go_enter Tryz.func19, Tryz.ntmps19
  go_upto_region 2 with fail
  refine under_name (w0 := w) (by (repeat (first | with_reducible exact Bel.refl _ | with_reducible refine Bel.setCell ?_ (by first | exact Nat.le_refl _ | (dsimp only; omega)) _ | with_reducible refine Bel.alloc ?_ _ | with_reducible refine Bel.drew ?_ | with_reducible assumption | with_reducible refine Bel.trans ?_ (by assumption)))) fun W hc hf hz hb => ?_
  have T4 : TSlot W w.heap.size tokZ := by simp [TSlot, tokZ, bytesOf, hc, hf, hz, go_sem]
  have T7 : TSlot W (w.heap.size + 1) ⟨0, p, [], 0, 0, 0⟩ := by simp [TSlot, tokZ, bytesOf, hc, hf, hz, go_sem]
  clear hc hf hz
  generalize hN : w.heap.size = N at T4 T7 ⊢
  have BN := Lib.hid (show w.heap.size ≤ N from by omega)
  have HB := Lib.hid hb
  clear hN hb
  have hne : ¬ N = N + 1 := by omega
  have hne' : ¬ N + 1 = N := by omega
  go_wp2_with (first
    | (go_at_call 38; (with_reducible refine Calls.mono (CD.out _) ?_); rintro e W2 ⟨rfl, rfl⟩)
    | (go_at_call 21; (with_reducible refine Calls.mono (CN1.out _) ?_); rintro e W3 ⟨rfl, rfl⟩))
  go_loopg [8] (s.size + 1) (fun g iv wr => ∃ i : Nat, iv = .int .i64 i ∧ p ≤ i ∧ i ≤ E ∧ Hid (s.size + 1 - i ≤ g) ∧ wr = W3)
  case atStart => exact ⟨p, rfl, Nat.le_refl _, hpE, Lib.hid (by omega), rfl⟩
  case round =>
    obtain ⟨i, rfl, hpi', hiE, hg, rfl⟩ := hrel
    have i0 : (0 : Int) ≤ (i : Int) := by omega
    by_cases hlt : i < E
    · have his : i < s.size := by omega
      have hisi : (i : Int) < s.size := by omega
      have w2 : IntKind.i64.wrap ((i : Int) + 1) = (i : Int) + 1 := by rw [IntKind.wrap_i64]; omega
      have C1 := Lib.hid fun W => CNX.out i his W
      rw [N2.out i his hpi' hlt] at C1
      have hz1 := HXZ.out i his
      go_wp2_with (go_at_call 21; (with_reducible refine Calls.mono (C1.out _) ?_); rintro e W3 ⟨rfl, rfl⟩)
      go_roundg (s.size + 1 - (i + 1))
      case measure => have := hg.out; omega
      case rel => exact ⟨i + 1, by go_num, by omega, by omega, Lib.hid (Nat.le_refl _), rfl⟩
    · obtain rfl : i = E := by omega
      have hii : (i : Int) ≤ s.size := by omega
      have hpi2 : (p : Int) ≤ i := by omega
      clear hlt hg N2 hiE w1
      rcases (by omega : i - p ≤ 32 ∨ 32 < i - p) with h32 | h32
      · have FV := Lib.hid fun v => F0.out v h32
        have g32 : decide ((i : Int) - (p : Int) > 32) = false := decide_eq_false (by omega)
        have g32' : (i : Int) - (p : Int) ≤ 32 := by omega
        clear h32
        by_cases hi : i < s.size
        · have hii2 : (i : Int) < s.size := by omega
          have w2 : IntKind.i64.wrap ((i : Int) + 1) = (i : Int) + 1 := by rw [IntKind.wrap_i64]; omega
          have C3 := Lib.hid fun W => CNX.out i hi W
          rw [N3.out hi] at C3
          have hz1 := HXZ.out i hi
          go_upto_region 33 with (go_at_call 21; (with_reducible refine Calls.mono (C3.out _) ?_); rintro e W3 ⟨rfl, rfl⟩)
          obtain ⟨t0, ⟨t1, t2, t3, t4, t5, t6⟩, ⟨g1, g2, g3, g4, g5, g6⟩⟩ := T4
          obtain ⟨s0, ⟨s1, s2, s3, s4, s5, s6⟩, ⟨f1, f2, f3, f4, f5, f6⟩⟩ := T7
          simp only [tokZ] at t1 t2 t3 t4 t5 t6
          simp only at s1 s2 s3 s4 s5 s6
          go_region
          all_goals
            go_wp2_with fail
            refine bodyPost_ret (v := .tuple #[.agg #[.int .i64 4, .int .i64 (p : Nat), .string (s.extract p i), .int .i64 0, .int .i64 0, .int .i64 0], .int .i64 (i : Nat), .int .i64 0]) (by simp [results, Tryz.results19, go_sem, t0, t1, t2, t3, t4, t5, t6, s0, s1, s2, s3, s4, s5, s6, hne, hne']; try rfl) rfl ⟨FV.out _ (by rw [GX.out]), ?_⟩
            have hN := BN.out
            have hq := HB.out
            (repeat (first | with_reducible exact Bel.refl _ | with_reducible refine Bel.setCell ?_ (by first | exact Nat.le_refl _ | (dsimp only; omega)) _ | with_reducible refine Bel.alloc ?_ _ | with_reducible refine Bel.drew ?_ | with_reducible assumption | with_reducible refine Bel.trans ?_ (by assumption)))
        · have hii2 : decide (i < s.size) = false := decide_eq_false hi
          have hii3 : ¬ i < s.size := hi
          go_upto_region 33 with fail
          obtain ⟨t0, ⟨t1, t2, t3, t4, t5, t6⟩, ⟨g1, g2, g3, g4, g5, g6⟩⟩ := T4
          obtain ⟨s0, ⟨s1, s2, s3, s4, s5, s6⟩, ⟨f1, f2, f3, f4, f5, f6⟩⟩ := T7
          simp only [tokZ] at t1 t2 t3 t4 t5 t6
          simp only at s1 s2 s3 s4 s5 s6
          go_region
          all_goals
            go_wp2_with fail
            refine bodyPost_ret (v := .tuple #[.agg #[.int .i64 4, .int .i64 (p : Nat), .string (s.extract p i), .int .i64 0, .int .i64 0, .int .i64 0], .int .i64 (i : Nat), .int .i64 0]) (by simp [results, Tryz.results19, go_sem, t0, t1, t2, t3, t4, t5, t6, s0, s1, s2, s3, s4, s5, s6, hne, hne']; try rfl) rfl ⟨FV.out _ (by rw [GX.out]), ?_⟩
            have hN := BN.out
            have hq := HB.out
            (repeat (first | with_reducible exact Bel.refl _ | with_reducible refine Bel.setCell ?_ (by first | exact Nat.le_refl _ | (dsimp only; omega)) _ | with_reducible refine Bel.alloc ?_ _ | with_reducible refine Bel.drew ?_ | with_reducible assumption | with_reducible refine Bel.trans ?_ (by assumption)))
      · have FV := Lib.hid fun k q x a b d n => F1.out k q x a b d n h32
        have g32 : decide ((i : Int) - (p : Int) > 32) = true := decide_eq_true (by omega)
        have g32' : 32 < (i : Int) - (p : Int) := by omega
        clear h32
        by_cases hi : i < s.size
        · have hii2 : (i : Int) < s.size := by omega
          have w2 : IntKind.i64.wrap ((i : Int) + 1) = (i : Int) + 1 := by rw [IntKind.wrap_i64]; omega
          have C3 := Lib.hid fun W => CNX.out i hi W
          rw [N3.out hi] at C3
          have hz1 := HXZ.out i hi
          obtain ⟨t0, ⟨t1, t2, t3, t4, t5, t6⟩, ⟨g1, g2, g3, g4, g5, g6⟩⟩ := T4
          obtain ⟨s0, ⟨s1, s2, s3, s4, s5, s6⟩, ⟨f1, f2, f3, f4, f5, f6⟩⟩ := T7
          simp only [tokZ] at t1 t2 t3 t4 t5 t6
          simp only at s1 s2 s3 s4 s5 s6
          go_wp2_with (go_at_call 21; (with_reducible refine Calls.mono (C3.out _) ?_); rintro e W3 ⟨rfl, rfl⟩)
          refine bodyPost_ret (v := .tuple #[.agg #[.int .i64 0, .int .i64 (p : Nat), .string (bytesOf []), .int .i64 0, .int .i64 0, .int .i64 0], .int .i64 0, .int .i64 5]) (by simp [results, Tryz.results19, go_sem, t0, t1, t2, t3, t4, t5, t6, s0, s1, s2, s3, s4, s5, s6, hne, hne']; try rfl) rfl ⟨FV.out _ _ _ _ _ _ _, ?_⟩
          have hN := BN.out
          have hq := HB.out
          (repeat (first | with_reducible exact Bel.refl _ | with_reducible refine Bel.setCell ?_ (by first | exact Nat.le_refl _ | (dsimp only; omega)) _ | with_reducible refine Bel.alloc ?_ _ | with_reducible refine Bel.drew ?_ | with_reducible assumption | with_reducible refine Bel.trans ?_ (by assumption)))
        · have hii2 : decide (i < s.size) = false := decide_eq_false hi
          have hii3 : ¬ i < s.size := hi
          obtain ⟨t0, ⟨t1, t2, t3, t4, t5, t6⟩, ⟨g1, g2, g3, g4, g5, g6⟩⟩ := T4
          obtain ⟨s0, ⟨s1, s2, s3, s4, s5, s6⟩, ⟨f1, f2, f3, f4, f5, f6⟩⟩ := T7
          simp only [tokZ] at t1 t2 t3 t4 t5 t6
          simp only at s1 s2 s3 s4 s5 s6
          go_wp2_with fail
          refine bodyPost_ret (v := .tuple #[.agg #[.int .i64 0, .int .i64 (p : Nat), .string (bytesOf []), .int .i64 0, .int .i64 0, .int .i64 0], .int .i64 0, .int .i64 5]) (by simp [results, Tryz.results19, go_sem, t0, t1, t2, t3, t4, t5, t6, s0, s1, s2, s3, s4, s5, s6, hne, hne']; try rfl) rfl ⟨FV.out _ _ _ _ _ _ _, ?_⟩
          have hN := BN.out
          have hq := HB.out
          (repeat (first | with_reducible exact Bel.refl _ | with_reducible refine Bel.setCell ?_ (by first | exact Nat.le_refl _ | (dsimp only; omega)) _ | with_reducible refine Bel.alloc ?_ _ | with_reducible refine Bel.drew ?_ | with_reducible assumption | with_reducible refine Bel.trans ?_ (by assumption)))
end Go.Proofs.YtofcjdbodhoacaaGreatDoor
