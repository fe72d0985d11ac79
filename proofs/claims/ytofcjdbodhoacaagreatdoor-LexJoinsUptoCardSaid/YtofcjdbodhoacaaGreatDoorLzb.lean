import Derived.Test.YtofcjdbodhoacaaGreatDoorLza
namespace Go.Proofs.YtofcjdbodhoacaaGreatDoor
set_option linter.unusedSimpArgs false
set_option linter.unusedVariables false
open Go.RowKit

/-! The document's reader of one token: numbers. -/
def OneP (s : ByteArray) (p : Nat) (x : TRes) (e : Ending) : Prop :=
  match x with
  | .bad er => ∃ (k q : Int) (x : ByteArray) (a b d n : Int), e = .returned (.tuple #[.agg #[.int .i64 k, .int .i64 q, .string x, .int .i64 a, .int .i64 b, .int .i64 d], .int .i64 n, .int .i64 (er : Nat)])
  | .ok r (some t) => e = .returned (.tuple #[.agg #[.int .i64 t.kind, .int .i64 (p : Nat), .string (bytesOf t.text), .int .i64 t.dn, .int .i64 t.ds, .int .i64 t.day], .int .i64 ((s.size - r.length : Nat) : Int), .int .i64 0])
  | .ok r none => False
/-- A number from a place on, by cases of what is behind its digits. -/
theorem nmb_from (s : ByteArray) (p n : Nat) (hp : p ≤ s.size) (hn : n = ((s.data.toList.drop p).takeWhile fgB).length) :
    ((nmbL (s.data.toList.drop p)).1.length = n ∧ (¬ p + n + 1 < s.size ∨ ∃ h : p + n + 1 < s.size, s[p + n]'(Nat.lt_of_succ_lt h) ≠ 46 ∨ fgB (s[p + n + 1]'h) = false)) ∨
    (∃ h : p + n + 1 < s.size, s[p + n]'(Nat.lt_of_succ_lt h) = 46 ∧ fgB (s[p + n + 1]'h) = true ∧ (nmbL (s.data.toList.drop p)).1.length = n + (1 + ((s.data.toList.drop (p + n + 1)).takeWhile fgB).length)) := by
  have hz : (s.extract p s.size).size = s.size - p := ext_size s p
  have hl : (s.extract p s.size).data.toList = s.data.toList.drop p := ext_end s p
  have hg : ∀ i (h : i < (s.extract p s.size).size), (s.extract p s.size)[i] = s[p + i]'(by omega) := by
    intro i h
    have e1 := drop_at (s.extract p s.size) i h
    have e2 := drop_at s (p + i) (by omega)
    rw [hl, List.drop_drop, e2] at e1
    exact (List.cons.inj e1).1.symm
  have h := nmb_cases (s.extract p s.size) n (by rw [hl]; exact hn)
  rw [hl] at h
  rcases h with ⟨h1, h2⟩ | ⟨h1, h2, h3, h4⟩
  · left
    refine ⟨h1, ?_⟩
    rcases h2 with h2 | ⟨h2, h3⟩
    · left; omega
    · right
      refine ⟨by omega, ?_⟩
      rw [hg, hg] at h3
      exact h3
  · right
    rw [hg] at h2 h3
    refine ⟨by omega, h2, h3, ?_⟩
    rw [List.drop_drop] at h4
    exact h4
theorem at_take (f : UInt8 → Bool) (s : ByteArray) (p n : Nat) (hp : p ≤ s.size) (hn : n = ((s.data.toList.drop p).takeWhile f).length) :
    p + n ≤ s.size ∧ (∀ i (h : i < s.size), p ≤ i → i < p + n → f s[i] = true) ∧ (∀ (h : p + n < s.size), f s[p + n] = false) := by
  have hl := tw_lens f (s.data.toList.drop p)
  rw [List.length_drop, size_list, ← hn] at hl
  have hg : ∀ k (h : p + k < s.size), (s.data.toList.drop p)[k]? = some s[p + k] := by
    intro k h
    rw [List.getElem?_drop, List.getElem?_eq_getElem (by rw [size_list]; exact h)]
    rfl
  refine ⟨by omega, fun i h h1 h2 => ?_, fun h => ?_⟩
  · obtain ⟨k, rfl⟩ : ∃ k, i = p + k := ⟨i - p, by omega⟩
    obtain ⟨c, hc, hcn⟩ := (tw_get f (s.data.toList.drop p) k).1 (by rw [← hn]; omega)
    rw [hg k h] at hc
    rw [Option.some.inj hc]
    exact hcn
  · rcases (tw_get f (s.data.toList.drop p) n).2 hn with h1 | ⟨c, hc, hcn⟩
    · rw [List.length_drop, size_list] at h1; omega
    · rw [hg n h] at hc
      rw [Option.some.inj hc]
      exact hcn
theorem nmb_E (s : ByteArray) (p : Nat) (hp : p ≤ s.size) : ∃ E, p ≤ E ∧ E ≤ s.size ∧ (∀ i (h : i < s.size), p ≤ i → i < E → fgB (s[i]'h) = true) ∧ (∀ h : E < s.size, fgB (s[E]'h) = false) ∧
    ((p + (nmbL (s.data.toList.drop p)).1.length = E ∧ (s.size ≤ E + 1 ∨ ∃ h : E + 1 < s.size, s[E]'(Nat.lt_of_succ_lt h) ≠ 46 ∨ (s[E]'(Nat.lt_of_succ_lt h) = 46 ∧ fgB (s[E + 1]'h) = false))) ∨
     (∃ h : E + 1 < s.size, s[E]'(Nat.lt_of_succ_lt h) = 46 ∧ fgB (s[E + 1]'h) = true ∧ ∃ E2, E + 1 ≤ E2 ∧ E2 ≤ s.size ∧ (∀ i (h : i < s.size), E + 1 ≤ i → i < E2 → fgB (s[i]'h) = true) ∧ (∀ h : E2 < s.size, fgB (s[E2]'h) = false) ∧ p + (nmbL (s.data.toList.drop p)).1.length = E2)) := by
  obtain ⟨n, hn⟩ : ∃ n, n = ((s.data.toList.drop p).takeWhile fgB).length := ⟨_, rfl⟩
  obtain ⟨h1, h2, h3⟩ := at_take fgB s p n hp hn
  refine ⟨p + n, by omega, h1, h2, h3, ?_⟩
  rcases nmb_from s p n hp hn with ⟨g1, g2⟩ | ⟨g1, g2, g3, g4⟩
  · left
    refine ⟨by omega, ?_⟩
    rcases g2 with g2 | ⟨g2, g3⟩
    · left; omega
    · right
      refine ⟨g2, ?_⟩
      by_cases h46 : s[p + n]'(Nat.lt_of_succ_lt g2) = 46
      · exact .inr ⟨h46, g3.resolve_left (fun h => h h46)⟩
      · exact .inl h46
  · right
    obtain ⟨k1, k2, k3⟩ := at_take fgB s (p + n + 1) _ (by omega) rfl
    exact ⟨g1, g2, g3, p + n + 1 + ((s.data.toList.drop (p + n + 1)).takeWhile fgB).length, by omega, k1, k2, k3, by omega⟩
set_option maxRecDepth 100000 in
set_option maxHeartbeats 16000000 in
theorem xone_num (s : ByteArray) (hs : s.size ≤ 65536) (p : Nat) (hp : p < s.size) (hd : fgB s[p] = true) (w : World) :
    Calls Tryz.prog 19 #[.string s, .int .i64 (p : Nat)] w fun e w' => OneP s p (numT (s.data.toList.drop p)) e ∧ Bel w w' := by
  obtain ⟨E, hpE, hEs, hn2, hn3, hcs⟩ := nmb_E s p (by omega)
  obtain ⟨q, hq⟩ : ∃ q, q = (nmbL (s.data.toList.drop p)).1 := ⟨_, rfl⟩
  have hsf := nmbL_suf (s.data.toList.drop p)
  rw [← hq] at hcs hsf
  have hle := congrArg List.length hsf
  rw [List.length_append, List.length_drop, size_list] at hle
  have GX0 : ∀ k, p + q.length = k → s.extract p k = bytesOf q := by
    intro k hk
    rw [ext_bytes, ← hk, show p + q.length - p = q.length by omega]
    congr 1
    rw [hsf]
    simp
  have GX0 := Lib.hid GX0
  have CP := Lib.hid fun W => rparse_any (bytesOf q) (by rw [bytesOf_size]; omega) W
  rw [bytes_toList, parse_is] at CP
  have FV0 := Lib.hid (show ∀ v : Value, (decP q).2.2 = 0 → v = .tuple #[.agg #[.int .i64 1, .int .i64 (p : Nat), .string ⟨#[]⟩, .int .i64 (decP q).1, .int .i64 (decP q).2.1, .int .i64 0], .int .i64 ((p + q.length : Nat) : Int), .int .i64 0] → OneP s p (numT (s.data.toList.drop p)) (.returned v) from fun v h hv => by
    unfold numT
    rw [← hq, if_pos h]
    unfold OneP
    simp only
    rw [hv, show s.size - (nmbL (s.data.toList.drop p)).2.length = p + q.length by omega]
    rfl)
  have FV1 := Lib.hid (show ∀ (v : Value) k q' x a b d n', (decP q).2.2 ≠ 0 → v = .tuple #[.agg #[.int .i64 k, .int .i64 q', .string x, .int .i64 a, .int .i64 b, .int .i64 d], .int .i64 n', .int .i64 ((decP q).2.2 : Nat)] → OneP s p (numT (s.data.toList.drop p)) (.returned v) from fun v k q' x a b d n' h hv => by
    unfold numT
    rw [← hq, if_neg h]
    exact ⟨k, q', x, a, b, d, n', by rw [hv]⟩)
  have CF := Lib.hid fun (i : Nat) (h : i < s.size) W => rfigure_any (s[i]'h) W
  have N2 := Lib.hid hn2
  have N3 := Lib.hid hn3
  have hni : (E : Int) ≤ s.size := by omega
  have hsi : (s.size : Int) ≤ 65536 := by omega
  have hpi : (p : Int) < s.size := by omega
  have p0 : (0 : Int) ≤ (p : Int) := by omega
  have CD := Lib.hid fun W => CF.out p hp W
  rw [hd] at CD
  generalize OneP s p (numT (s.data.toList.drop p)) = FP at *
  generalize (decP q).1 = da at *
  generalize (decP q).2.1 = db at *
  generalize (decP q).2.2 = de at *
  have FVV := Lib.hid (show ∀ (v : Value) (k : Nat), p + q.length = k → v = .tuple #[.agg #[.int .i64 1, .int .i64 (p : Nat), .string ⟨#[]⟩, .int .i64 da, .int .i64 db, .int .i64 0], .int .i64 (k : Nat), .int .i64 (de : Nat)] → FP (.returned v) from fun v k hk hv => by
    by_cases h : de = 0
    · exact FV0.out v h (by rw [hv, hk, h]; rfl)
    · exact FV1.out v _ _ _ _ _ _ _ h hv)
  have HS := Lib.hid hs
  clear hn2 hn3 hq hsf hs hd FV0 FV1 hle
  go_enter Tryz.func19, Tryz.ntmps19
  go_upto_region 2 with fail
  refine under_name (w0 := w) (by (repeat (first | with_reducible exact Bel.refl _ | with_reducible refine Bel.setCell ?_ (by first | exact Nat.le_refl _ | (dsimp only; omega)) _ | with_reducible refine Bel.alloc ?_ _ | with_reducible refine Bel.drew ?_ | with_reducible assumption | with_reducible refine Bel.trans ?_ (by assumption)))) fun W hc hf hz hb => ?_
  have T4 : TSlot W w.heap.size tokZ := by simp [TSlot, tokZ, bytesOf, hc, hf, hz, go_sem]
  have T7 : TSlot W (w.heap.size + 1) ⟨0, p, [], 0, 0, 0⟩ := by simp [TSlot, tokZ, bytesOf, hc, hf, hz, go_sem]
  clear hc hf hz
  generalize hN : w.heap.size = N at T4 T7 ⊢
  have BN := Lib.hid (show w.heap.size ≤ N from by omega)
  have HB := Lib.hid hb
  clear hN hb
  go_wp2_with (go_at_call 38; (with_reducible refine Calls.mono (CD.out _) ?_); rintro e W1 ⟨rfl, rfl⟩)
  clear CD
  go_loopg [8] (s.size + 1) (fun g iv wr => ∃ i : Nat, iv = .int .i64 i ∧ p ≤ i ∧ i ≤ E ∧ Hid (s.size + 1 - i ≤ g) ∧ wr = W1)
  case atStart => exact ⟨p, rfl, Nat.le_refl _, hpE, Lib.hid (by omega), rfl⟩
  case round =>
    obtain ⟨i, rfl, hpi', hiE, hg, rfl⟩ := hrel
    have i0 : (0 : Int) ≤ (i : Int) := by omega
    by_cases hlt : i < E
    · have his : i < s.size := by omega
      have hisi : (i : Int) < s.size := by omega
      have w1 : IntKind.i64.wrap ((i : Int) + 1) = (i : Int) + 1 := by rw [IntKind.wrap_i64]; omega
      have C1 := Lib.hid fun W => CF.out i his W
      rw [N2.out i his hpi' hlt] at C1
      go_wp2_with (go_at_call 38; (with_reducible refine Calls.mono (C1.out _) ?_); rintro e W2 ⟨rfl, rfl⟩)
      go_roundg (s.size + 1 - (i + 1))
      case measure => have := hg.out; omega
      case rel => exact ⟨i + 1, by go_num, by omega, by omega, Lib.hid (Nat.le_refl _), rfl⟩
    · obtain rfl : i = E := by omega
      clear hlt hg N2 hiE
      rcases hcs with ⟨hqE, hcs⟩ | ⟨h1, h46, hdg, E2, k1, k2, k3, k4, hqE⟩
      · have GX := Lib.hid (GX0.out _ hqE)
        have FV := Lib.hid fun v => FVV.out v _ hqE
        clear hqE
        rcases hcs with hcs | ⟨h1, hcs⟩
        · have hc1 : decide ((i : Int) + 1 < s.size) = false := decide_eq_false (by omega)
          have hc2 : (s.size : Int) ≤ (i : Int) + 1 := by omega
          by_cases hi : i < s.size
          · have hii : (i : Int) < s.size := by omega
            have w1 : IntKind.i64.wrap ((i : Int) + 1) = (i : Int) + 1 := by rw [IntKind.wrap_i64]; omega
            have C3 := Lib.hid fun W => CF.out i hi W
            rw [N3.out hi] at C3
            clear hcs
            go_upto_region 11 with (first
              | (go_at_call 38; (with_reducible refine Calls.mono (C3.out _) ?_); rintro e W2 ⟨rfl, rfl⟩)
              | (go_at_call 39; rw [GX.out]; (with_reducible refine Calls.mono (CP.out _) ?_); rintro e W8 ⟨rfl, hb2⟩))
            refine under_name (w0 := W8) (by (repeat (first | with_reducible exact Bel.refl _ | with_reducible refine Bel.setCell ?_ (by first | exact Nat.le_refl _ | (dsimp only; omega)) _ | with_reducible refine Bel.alloc ?_ _ | with_reducible refine Bel.drew ?_ | with_reducible assumption | with_reducible refine Bel.trans ?_ (by assumption)))) fun W9 hc hf hz hb9 => ?_
            have n0 : W9.cell? ⟨W8.heap.size, 0, none⟩ = some (.int .i64 da) := by simp [hc, go_sem]
            have n1 : W9.cell? ⟨W8.heap.size, 1, none⟩ = some (.int .i64 db) := by simp [hc, go_sem]
            have nz : W8.heap.size < W9.heap.size := by simp [hz, go_sem]
            clear hc hf hz
            have hq9 := hb2.trans hb9
            obtain ⟨t0, ⟨t1, t2, t3, t4, t5, t6⟩, ⟨g1, g2, g3, g4, g5, g6⟩⟩ := T4.keep hq9
            obtain ⟨s0, ⟨s1, s2, s3, s4, s5, s6⟩, ⟨f1, f2, f3, f4, f5, f6⟩⟩ := T7.keep hq9
            simp only [tokZ] at t1 t2 t3 t4 t5 t6
            simp only at s1 s2 s3 s4 s5 s6
            have hne : ¬ N = N + 1 := by omega
            have hne' : ¬ N + 1 = N := by omega
            have hN8 : N + 1 < W8.heap.size := (T7.keep hb2).1
            generalize W8.heap.size = N8 at *
            have HQ := Lib.hid hq9
            clear hb2 hb9 hq9 T4 T7
            go_region
            all_goals
              go_wp2_with fail
              refine bodyPost_ret (v := .tuple #[.agg #[.int .i64 1, .int .i64 (p : Nat), .string ⟨#[]⟩, .int .i64 da, .int .i64 db, .int .i64 0], .int .i64 (i : Nat), .int .i64 (de : Nat)]) (by simp [results, Tryz.results19, go_sem, t0, t1, t2, t3, t4, t5, t6, s0, s1, s2, s3, s4, s5, s6, hne, hne']; try rfl) rfl ⟨FV.out _ rfl, ?_⟩
              have hN := BN.out
              have hq := HB.out.trans HQ.out
              (repeat (first | with_reducible exact Bel.refl _ | with_reducible refine Bel.setCell ?_ (by first | exact Nat.le_refl _ | (dsimp only; omega)) _ | with_reducible refine Bel.alloc ?_ _ | with_reducible refine Bel.drew ?_ | with_reducible assumption | with_reducible refine Bel.trans ?_ (by assumption)))
          · have hii : decide (i < s.size) = false := decide_eq_false hi
            have hii' : ¬ i < s.size := hi
            have w1 : IntKind.i64.wrap ((i : Int) + 1) = (i : Int) + 1 := by rw [IntKind.wrap_i64]; omega
            clear hcs
            go_upto_region 11 with (first
              | (go_at_call 39; rw [GX.out]; (with_reducible refine Calls.mono (CP.out _) ?_); rintro e W8 ⟨rfl, hb2⟩))
            refine under_name (w0 := W8) (by (repeat (first | with_reducible exact Bel.refl _ | with_reducible refine Bel.setCell ?_ (by first | exact Nat.le_refl _ | (dsimp only; omega)) _ | with_reducible refine Bel.alloc ?_ _ | with_reducible refine Bel.drew ?_ | with_reducible assumption | with_reducible refine Bel.trans ?_ (by assumption)))) fun W9 hc hf hz hb9 => ?_
            have n0 : W9.cell? ⟨W8.heap.size, 0, none⟩ = some (.int .i64 da) := by simp [hc, go_sem]
            have n1 : W9.cell? ⟨W8.heap.size, 1, none⟩ = some (.int .i64 db) := by simp [hc, go_sem]
            have nz : W8.heap.size < W9.heap.size := by simp [hz, go_sem]
            clear hc hf hz
            have hq9 := hb2.trans hb9
            obtain ⟨t0, ⟨t1, t2, t3, t4, t5, t6⟩, ⟨g1, g2, g3, g4, g5, g6⟩⟩ := T4.keep hq9
            obtain ⟨s0, ⟨s1, s2, s3, s4, s5, s6⟩, ⟨f1, f2, f3, f4, f5, f6⟩⟩ := T7.keep hq9
            simp only [tokZ] at t1 t2 t3 t4 t5 t6
            simp only at s1 s2 s3 s4 s5 s6
            have hne : ¬ N = N + 1 := by omega
            have hne' : ¬ N + 1 = N := by omega
            have hN8 : N + 1 < W8.heap.size := (T7.keep hb2).1
            generalize W8.heap.size = N8 at *
            have HQ := Lib.hid hq9
            clear hb2 hb9 hq9 T4 T7
            go_region
            all_goals
              go_wp2_with fail
              refine bodyPost_ret (v := .tuple #[.agg #[.int .i64 1, .int .i64 (p : Nat), .string ⟨#[]⟩, .int .i64 da, .int .i64 db, .int .i64 0], .int .i64 (i : Nat), .int .i64 (de : Nat)]) (by simp [results, Tryz.results19, go_sem, t0, t1, t2, t3, t4, t5, t6, s0, s1, s2, s3, s4, s5, s6, hne, hne']; try rfl) rfl ⟨FV.out _ rfl, ?_⟩
              have hN := BN.out
              have hq := HB.out.trans HQ.out
              (repeat (first | with_reducible exact Bel.refl _ | with_reducible refine Bel.setCell ?_ (by first | exact Nat.le_refl _ | (dsimp only; omega)) _ | with_reducible refine Bel.alloc ?_ _ | with_reducible refine Bel.drew ?_ | with_reducible assumption | with_reducible refine Bel.trans ?_ (by assumption)))
        · have hc1 : (i : Int) + 1 < s.size := by omega
          have hi : i < s.size := by omega
          have hii : (i : Int) < s.size := by omega
          have w1 : IntKind.i64.wrap ((i : Int) + 1) = (i : Int) + 1 := by rw [IntKind.wrap_i64]; omega
          have C3 := Lib.hid fun W => CF.out i hi W
          rw [N3.out hi] at C3
          rcases hcs with h46 | ⟨h46, hdg⟩
          · have e46 : ((s[i].toNat : Int) == 46) = false := u8n h46
            clear h46
            go_upto_region 11 with (first
              | (go_at_call 38; (with_reducible refine Calls.mono (C3.out _) ?_); rintro e W2 ⟨rfl, rfl⟩)
              | (go_at_call 39; rw [GX.out]; (with_reducible refine Calls.mono (CP.out _) ?_); rintro e W8 ⟨rfl, hb2⟩))
            refine under_name (w0 := W8) (by (repeat (first | with_reducible exact Bel.refl _ | with_reducible refine Bel.setCell ?_ (by first | exact Nat.le_refl _ | (dsimp only; omega)) _ | with_reducible refine Bel.alloc ?_ _ | with_reducible refine Bel.drew ?_ | with_reducible assumption | with_reducible refine Bel.trans ?_ (by assumption)))) fun W9 hc hf hz hb9 => ?_
            have n0 : W9.cell? ⟨W8.heap.size, 0, none⟩ = some (.int .i64 da) := by simp [hc, go_sem]
            have n1 : W9.cell? ⟨W8.heap.size, 1, none⟩ = some (.int .i64 db) := by simp [hc, go_sem]
            have nz : W8.heap.size < W9.heap.size := by simp [hz, go_sem]
            clear hc hf hz
            have hq9 := hb2.trans hb9
            obtain ⟨t0, ⟨t1, t2, t3, t4, t5, t6⟩, ⟨g1, g2, g3, g4, g5, g6⟩⟩ := T4.keep hq9
            obtain ⟨s0, ⟨s1, s2, s3, s4, s5, s6⟩, ⟨f1, f2, f3, f4, f5, f6⟩⟩ := T7.keep hq9
            simp only [tokZ] at t1 t2 t3 t4 t5 t6
            simp only at s1 s2 s3 s4 s5 s6
            have hne : ¬ N = N + 1 := by omega
            have hne' : ¬ N + 1 = N := by omega
            have hN8 : N + 1 < W8.heap.size := (T7.keep hb2).1
            generalize W8.heap.size = N8 at *
            have HQ := Lib.hid hq9
            clear hb2 hb9 hq9 T4 T7
            go_region
            all_goals
              go_wp2_with fail
              refine bodyPost_ret (v := .tuple #[.agg #[.int .i64 1, .int .i64 (p : Nat), .string ⟨#[]⟩, .int .i64 da, .int .i64 db, .int .i64 0], .int .i64 (i : Nat), .int .i64 (de : Nat)]) (by simp [results, Tryz.results19, go_sem, t0, t1, t2, t3, t4, t5, t6, s0, s1, s2, s3, s4, s5, s6, hne, hne']; try rfl) rfl ⟨FV.out _ rfl, ?_⟩
              have hN := BN.out
              have hq := HB.out.trans HQ.out
              (repeat (first | with_reducible exact Bel.refl _ | with_reducible refine Bel.setCell ?_ (by first | exact Nat.le_refl _ | (dsimp only; omega)) _ | with_reducible refine Bel.alloc ?_ _ | with_reducible refine Bel.drew ?_ | with_reducible assumption | with_reducible refine Bel.trans ?_ (by assumption)))
          · have e46 : ((s[i].toNat : Int) == 46) = true := by rw [h46]; rfl
            have C4 := Lib.hid fun W => CF.out (i + 1) h1 W
            rw [hdg] at C4
            clear h46 hdg
            go_upto_region 11 with (first
              | (go_at_call 38; (with_reducible refine Calls.mono (C3.out _) ?_); rintro e W2 ⟨rfl, rfl⟩)
              | (go_at_call 38; (with_reducible refine Calls.mono (C4.out _) ?_); rintro e W2 ⟨rfl, rfl⟩)
              | (go_at_call 39; rw [GX.out]; (with_reducible refine Calls.mono (CP.out _) ?_); rintro e W8 ⟨rfl, hb2⟩))
            refine under_name (w0 := W8) (by (repeat (first | with_reducible exact Bel.refl _ | with_reducible refine Bel.setCell ?_ (by first | exact Nat.le_refl _ | (dsimp only; omega)) _ | with_reducible refine Bel.alloc ?_ _ | with_reducible refine Bel.drew ?_ | with_reducible assumption | with_reducible refine Bel.trans ?_ (by assumption)))) fun W9 hc hf hz hb9 => ?_
            have n0 : W9.cell? ⟨W8.heap.size, 0, none⟩ = some (.int .i64 da) := by simp [hc, go_sem]
            have n1 : W9.cell? ⟨W8.heap.size, 1, none⟩ = some (.int .i64 db) := by simp [hc, go_sem]
            have nz : W8.heap.size < W9.heap.size := by simp [hz, go_sem]
            clear hc hf hz
            have hq9 := hb2.trans hb9
            obtain ⟨t0, ⟨t1, t2, t3, t4, t5, t6⟩, ⟨g1, g2, g3, g4, g5, g6⟩⟩ := T4.keep hq9
            obtain ⟨s0, ⟨s1, s2, s3, s4, s5, s6⟩, ⟨f1, f2, f3, f4, f5, f6⟩⟩ := T7.keep hq9
            simp only [tokZ] at t1 t2 t3 t4 t5 t6
            simp only at s1 s2 s3 s4 s5 s6
            have hne : ¬ N = N + 1 := by omega
            have hne' : ¬ N + 1 = N := by omega
            have hN8 : N + 1 < W8.heap.size := (T7.keep hb2).1
            generalize W8.heap.size = N8 at *
            have HQ := Lib.hid hq9
            clear hb2 hb9 hq9 T4 T7
            go_region
            all_goals
              go_wp2_with fail
              refine bodyPost_ret (v := .tuple #[.agg #[.int .i64 1, .int .i64 (p : Nat), .string ⟨#[]⟩, .int .i64 da, .int .i64 db, .int .i64 0], .int .i64 (i : Nat), .int .i64 (de : Nat)]) (by simp [results, Tryz.results19, go_sem, t0, t1, t2, t3, t4, t5, t6, s0, s1, s2, s3, s4, s5, s6, hne, hne']; try rfl) rfl ⟨FV.out _ rfl, ?_⟩
              have hN := BN.out
              have hq := HB.out.trans HQ.out
              (repeat (first | with_reducible exact Bel.refl _ | with_reducible refine Bel.setCell ?_ (by first | exact Nat.le_refl _ | (dsimp only; omega)) _ | with_reducible refine Bel.alloc ?_ _ | with_reducible refine Bel.drew ?_ | with_reducible assumption | with_reducible refine Bel.trans ?_ (by assumption)))
      · have GX := Lib.hid (GX0.out _ hqE)
        have FV := Lib.hid fun v => FVV.out v _ hqE
        have hc1 : (i : Int) + 1 < s.size := by omega
        have hi : i < s.size := by omega
        have hii : (i : Int) < s.size := by omega
        have w1 : IntKind.i64.wrap ((i : Int) + 1) = (i : Int) + 1 := by rw [IntKind.wrap_i64]; omega
        have C3 := Lib.hid fun W => CF.out i hi W
        rw [N3.out hi] at C3
        have e46 : ((s[i].toNat : Int) == 46) = true := by rw [h46]; rfl
        have C4 := Lib.hid fun W => CF.out (i + 1) h1 W
        rw [hdg] at C4
        have K3 := Lib.hid k3
        have K4 := Lib.hid k4
        clear h46 hdg hqE k3 k4
        go_wp2_with (first
          | (go_at_call 38; (with_reducible refine Calls.mono (C3.out _) ?_); rintro e W2 ⟨rfl, rfl⟩)
          | (go_at_call 38; (with_reducible refine Calls.mono (C4.out _) ?_); rintro e W2 ⟨rfl, rfl⟩))
        clear C3 C4 e46
        go_loopg [8] (s.size + 1) (fun g iv wr => ∃ j : Nat, iv = .int .i64 j ∧ i + 1 ≤ j ∧ j ≤ E2 ∧ Hid (s.size + 1 - j ≤ g) ∧ wr = W2)
        case atStart => exact ⟨i + 1, by go_num, Nat.le_refl _, k1, Lib.hid (by omega), rfl⟩
        case round =>
          obtain ⟨j, rfl, hpj, hjE, hg, rfl⟩ := hrel
          have j0 : (0 : Int) ≤ (j : Int) := by omega
          by_cases hlt : j < E2
          · have his : j < s.size := by omega
            have hisi : (j : Int) < s.size := by omega
            have w2 : IntKind.i64.wrap ((j : Int) + 1) = (j : Int) + 1 := by rw [IntKind.wrap_i64]; omega
            have C1 := Lib.hid fun W => CF.out j his W
            rw [K3.out j his hpj hlt] at C1
            go_wp2_with (go_at_call 38; (with_reducible refine Calls.mono (C1.out _) ?_); rintro e W2 ⟨rfl, rfl⟩)
            go_roundg (s.size + 1 - (j + 1))
            case measure => have := hg.out; omega
            case rel => exact ⟨j + 1, by go_num, by omega, by omega, Lib.hid (Nat.le_refl _), rfl⟩
          · obtain rfl : j = E2 := by omega
            have hji : (p : Int) ≤ j := by omega
            have hjs : (j : Int) ≤ s.size := by omega
            clear hlt hg K3 hjE w1
            by_cases hj : j < s.size
            · have hjj : (j : Int) < s.size := by omega
              have C3 := Lib.hid fun W => CF.out j hj W
              rw [K4.out hj] at C3
              go_upto_region 11 with (first
                | (go_at_call 38; (with_reducible refine Calls.mono (C3.out _) ?_); rintro e W2 ⟨rfl, rfl⟩)
                | (go_at_call 39; rw [GX.out]; (with_reducible refine Calls.mono (CP.out _) ?_); rintro e W8 ⟨rfl, hb2⟩))
              refine under_name (w0 := W8) (by (repeat (first | with_reducible exact Bel.refl _ | with_reducible refine Bel.setCell ?_ (by first | exact Nat.le_refl _ | (dsimp only; omega)) _ | with_reducible refine Bel.alloc ?_ _ | with_reducible refine Bel.drew ?_ | with_reducible assumption | with_reducible refine Bel.trans ?_ (by assumption)))) fun W9 hc hf hz hb9 => ?_
              have n0 : W9.cell? ⟨W8.heap.size, 0, none⟩ = some (.int .i64 da) := by simp [hc, go_sem]
              have n1 : W9.cell? ⟨W8.heap.size, 1, none⟩ = some (.int .i64 db) := by simp [hc, go_sem]
              have nz : W8.heap.size < W9.heap.size := by simp [hz, go_sem]
              clear hc hf hz
              have hq9 := hb2.trans hb9
              obtain ⟨t0, ⟨t1, t2, t3, t4, t5, t6⟩, ⟨g1, g2, g3, g4, g5, g6⟩⟩ := T4.keep hq9
              obtain ⟨s0, ⟨s1, s2, s3, s4, s5, s6⟩, ⟨f1, f2, f3, f4, f5, f6⟩⟩ := T7.keep hq9
              simp only [tokZ] at t1 t2 t3 t4 t5 t6
              simp only at s1 s2 s3 s4 s5 s6
              have hne : ¬ N = N + 1 := by omega
              have hne' : ¬ N + 1 = N := by omega
              have hN8 : N + 1 < W8.heap.size := (T7.keep hb2).1
              generalize W8.heap.size = N8 at *
              have HQ := Lib.hid hq9
              clear hb2 hb9 hq9 T4 T7
              go_region
              all_goals
                go_wp2_with fail
                refine bodyPost_ret (v := .tuple #[.agg #[.int .i64 1, .int .i64 (p : Nat), .string ⟨#[]⟩, .int .i64 da, .int .i64 db, .int .i64 0], .int .i64 (j : Nat), .int .i64 (de : Nat)]) (by simp [results, Tryz.results19, go_sem, t0, t1, t2, t3, t4, t5, t6, s0, s1, s2, s3, s4, s5, s6, hne, hne']; try rfl) rfl ⟨FV.out _ rfl, ?_⟩
                have hN := BN.out
                have hq := HB.out.trans HQ.out
                (repeat (first | with_reducible exact Bel.refl _ | with_reducible refine Bel.setCell ?_ (by first | exact Nat.le_refl _ | (dsimp only; omega)) _ | with_reducible refine Bel.alloc ?_ _ | with_reducible refine Bel.drew ?_ | with_reducible assumption | with_reducible refine Bel.trans ?_ (by assumption)))
            · have hjj : decide (j < s.size) = false := decide_eq_false hj
              have hjj' : ¬ j < s.size := hj
              go_upto_region 11 with (first
                | (go_at_call 39; rw [GX.out]; (with_reducible refine Calls.mono (CP.out _) ?_); rintro e W8 ⟨rfl, hb2⟩))
              refine under_name (w0 := W8) (by (repeat (first | with_reducible exact Bel.refl _ | with_reducible refine Bel.setCell ?_ (by first | exact Nat.le_refl _ | (dsimp only; omega)) _ | with_reducible refine Bel.alloc ?_ _ | with_reducible refine Bel.drew ?_ | with_reducible assumption | with_reducible refine Bel.trans ?_ (by assumption)))) fun W9 hc hf hz hb9 => ?_
              have n0 : W9.cell? ⟨W8.heap.size, 0, none⟩ = some (.int .i64 da) := by simp [hc, go_sem]
              have n1 : W9.cell? ⟨W8.heap.size, 1, none⟩ = some (.int .i64 db) := by simp [hc, go_sem]
              have nz : W8.heap.size < W9.heap.size := by simp [hz, go_sem]
              clear hc hf hz
              have hq9 := hb2.trans hb9
              obtain ⟨t0, ⟨t1, t2, t3, t4, t5, t6⟩, ⟨g1, g2, g3, g4, g5, g6⟩⟩ := T4.keep hq9
              obtain ⟨s0, ⟨s1, s2, s3, s4, s5, s6⟩, ⟨f1, f2, f3, f4, f5, f6⟩⟩ := T7.keep hq9
              simp only [tokZ] at t1 t2 t3 t4 t5 t6
              simp only at s1 s2 s3 s4 s5 s6
              have hne : ¬ N = N + 1 := by omega
              have hne' : ¬ N + 1 = N := by omega
              have hN8 : N + 1 < W8.heap.size := (T7.keep hb2).1
              generalize W8.heap.size = N8 at *
              have HQ := Lib.hid hq9
              clear hb2 hb9 hq9 T4 T7
              go_region
              all_goals
                go_wp2_with fail
                refine bodyPost_ret (v := .tuple #[.agg #[.int .i64 1, .int .i64 (p : Nat), .string ⟨#[]⟩, .int .i64 da, .int .i64 db, .int .i64 0], .int .i64 (j : Nat), .int .i64 (de : Nat)]) (by simp [results, Tryz.results19, go_sem, t0, t1, t2, t3, t4, t5, t6, s0, s1, s2, s3, s4, s5, s6, hne, hne']; try rfl) rfl ⟨FV.out _ rfl, ?_⟩
                have hN := BN.out
                have hq := HB.out.trans HQ.out
                (repeat (first | with_reducible exact Bel.refl _ | with_reducible refine Bel.setCell ?_ (by first | exact Nat.le_refl _ | (dsimp only; omega)) _ | with_reducible refine Bel.alloc ?_ _ | with_reducible refine Bel.drew ?_ | with_reducible assumption | with_reducible refine Bel.trans ?_ (by assumption)))
end Go.Proofs.YtofcjdbodhoacaaGreatDoor
