import Derived.Test.YtcknjhgolajclaaDoorDfb
import Derived.Test.YtcknjhgolajclaaDoorDeg
import Derived.Deep.CutBlock
import Derived.Deep.DeepCutAuto
namespace Go.Proofs.YtcknjhgolajclaaDoor
set_option linter.unusedSimpArgs false
set_option linter.unusedVariables false
open Go.RowKit

/-! Deci: the document's number of a row of digits. -/
theorem DRow.same {w W : World} {b o n : Nat} {f : Nat → Nat} (h : DRow w b o n f) (hc : ∀ p, W.cell? p = w.cell? p) (hf : ∀ p, W.frozen? p = w.frozen? p) (hz : W.heap.size = w.heap.size) : DRow W b o n f :=
  ⟨by rw [hz]; exact h.1, fun i hi => by rw [hc, hf]; exact h.2 i hi⟩
def RowOut (n m : Nat) (w : World) (e : Ending) (w' : World) : Prop := ∃ g, e = .returned (.slice (some ⟨g, 0, none⟩) n n) ∧ w.heap.size ≤ g ∧ DRow w' g 0 n (dg m) ∧ Bel w w'
theorem rplus_out (n : Nat) (h0 : 0 < n) (hn : n ≤ 60) (b1 o1 cc b2 x y : Nat) (w : World) (hx : DRow w b1 o1 n (dg x)) (hy : DRow w b2 0 n (dg y)) :
    Calls Tryd.prog 52 #[.slice (some ⟨b1, o1, none⟩) n cc, .slice (some ⟨b2, 0, none⟩) n n] w (RowOut n (x + y) w) :=
  (rplus_any n h0 hn b1 o1 cc b2 x y w hx hy).mono fun e w' ⟨he, h1, h2⟩ => ⟨_, he, Nat.le_refl _, h1, h2⟩
def rnd (V k : Nat) : Nat := if 6 < k then heven V (10 ^ (k - 6)) else V
def upOf (V k : Nat) : Nat := if 5 < dg V (k - 1) ∨ (dg V (k - 1) = 5 ∧ (0 < V % 10 ^ (k - 1) ∨ dg V k % 2 = 1)) then 1 else 0
theorem upOf_yes {V k : Nat} (h : 5 < dg V (k - 1) ∨ (dg V (k - 1) = 5 ∧ (0 < V % 10 ^ (k - 1) ∨ dg V k % 2 = 1))) : upOf V k = 1 := if_pos h
theorem upOf_no {V k : Nat} (h : ¬ (5 < dg V (k - 1) ∨ (dg V (k - 1) = 5 ∧ (0 < V % 10 ^ (k - 1) ∨ dg V k % 2 = 1)))) : upOf V k = 0 := if_neg h
theorem rnd_up {V k : Nat} (h : 6 < k) : V / 10 ^ (k - 6) + upOf V (k - 6) = rnd V k := by
  rw [rnd, if_pos h]; exact round_digits V (k - 6) (by omega)
theorem up_row (u i : Nat) (h : u < 10) : upd (fun _ => 0) 0 u i = dg u i := by
  unfold upd
  by_cases hi : i = 0
  · subst hi; rw [if_pos rfl, dg_first, Nat.mod_eq_of_lt h]
  · rw [if_neg hi, dg_small _ _ h (by omega)]
theorem decV_of {bl : Bool} {M S m s : Nat} (h : trim M S = (m, s)) : decV bl M S = if 999999999999 < m then .tuple #[.agg #[.int .i64 0, .int .i64 0], .int .i64 3]
  else .tuple #[.agg #[.int .i64 (if bl = true then -(m : Int) else m), .int .i64 (s : Nat)], .int .i64 0] := by rw [decV, h]
theorem small_row {V o u : Nat} (hV : V < 10 ^ 50) (ho : o ≤ 24) (hu : u ≤ 1) : V / 10 ^ o + u < 10 ^ (60 - o) := by
  have h1 : V / 10 ^ o < 10 ^ (50 - o) := by
    rw [Nat.div_lt_iff_lt_mul (p10 o), ← Nat.pow_add, show 50 - o + o = 50 by omega]; exact hV
  have h2 : 10 ^ (60 - o) = 10 ^ (50 - o) * 10 ^ 10 := by rw [← Nat.pow_add, show 50 - o + 10 = 60 - o by omega]
  have h3 := p10 (50 - o)
  omega
theorem row_cut {w : World} {b o N V : Nat} (h : DRow w b 0 60 (dg V)) (ho : o + N = 60) : DRow w b o N (dg (V / 10 ^ o)) := by
  have := h.tail o (by omega)
  rw [Nat.zero_add, show 60 - o = N by omega] at this
  exact this.ext fun i _ => (dg_shift V o i).symm
theorem row_next {w : World} {g o n m : Nat} (h : DRow w g o n (dg m)) (hn : 1 ≤ n) : DRow w g (o + 1) (n - 1) (dg (m / 10)) :=
  (h.tail 1 hn).ext fun i _ => by have := dg_shift m 1 i; rw [Nat.pow_one] at this; exact this.symm
theorem big_div {m k : Nat} (h : 999999999999 < m / 10 ^ k) : 999999999999 < m := Nat.lt_of_lt_of_le h (Nat.div_le_self _ _)
set_option maxRecDepth 100000 in
set_option maxHeartbeats 8000000 in
theorem rdec_any (V k : Nat) (bl : Bool) (b : Nat) (hV : V < 10 ^ 50) (hk : k ≤ 30) (w : World) (hrow : DRow w b 0 60 (dg V)) :
    Calls Tryd.prog 36 #[.slice (some ⟨b, 0, none⟩) 60 60, .int .i64 k, .bool bl] w fun e w' => e = .returned (decV bl (rnd V k) (min k 6)) ∧ Bel w w' := by
  have hk' : (k : Int) ≤ 30 := by omega
  have HV := Lib.hid hV
  have HK := Lib.hid hk
  clear hV hk
  go_enter Tryd.func36, Tryd.ntmps36
  go_upto_if 20 with (fail)
  refine under_name ((Bel.refl w).alloc _) fun W hc hf hz hb => ?_
  have hR : Sl2 W w.heap.size 0 0 := by simp [Sl2, Arr2, Fr2, hz, hc, hf, go_sem]
  clear hc hf hz
  go_cut [0, 1, 9] (fun r bh u wx => ∃ o N up : Nat, r = .slice (some ⟨b, o, none⟩) N N ∧ bh = .int .i64 ((min k 6 : Nat) : Int) ∧ u = .int .i64 up ∧ Hid (o + N = 60 ∧ o ≤ 24 ∧ up ≤ 1 ∧ V / 10 ^ o + up = rnd V k) ∧ Sl2 wx w.heap.size 0 0 ∧ Bel w wx)
  case first =>
    by_cases h6 : 6 < k
    · have k1 : (6 : Int) < k := by omega
      go_wp2_with fail
      go_loopg [10, 11] (k - 7) (fun g x10 x11 wr => ∃ i r : Nat, x10 = .int .i64 r ∧ x11 = .int .i64 i ∧ Hid (r ≤ 9 * i ∧ (0 < r ↔ 0 < V % 10 ^ i) ∧ i ≤ k - 7 ∧ g = k - 7 - i) ∧ wr = W)
      case atStart => exact ⟨0, 0, rfl, rfl, ⟨by omega, by simp [Nat.mod_one], by omega, rfl⟩, rfl⟩
      case round =>
        obtain ⟨i, r, rfl, rfl, hh, rfl⟩ := hrel
        obtain ⟨h1, h2, h3, -⟩ := hh.out
        have hkk := HK.out
        have i1 : (r : Int) ≤ 300 := by omega
        by_cases hlt : (i : Int) < k - 7
        · obtain ⟨c1, -⟩ := (hrow.keep hb).at0 (show i < 60 by omega)
          have d1 : ((dg V i : Nat) : Int) ≤ 9 := by have := dg_lt V i; omega
          have E : Hid (0 < r + dg V i ↔ 0 < V % 10 ^ (i + 1)) := by
            show _ ↔ _
            rw [mod_succ]
            have h4 := p10 i
            rcases Nat.eq_zero_or_pos (dg V i) with h5 | h5
            · rw [h5]; simpa using h2
            · have := Nat.mul_pos h4 h5; omega
          have D := Lib.hid d1
          generalize dg V i = d at *
          clear h1 h2 h3 hkk
          go_wp2
          go_roundg (gk - 1)
          case measure => have := hh.out; omega
          case rel => exact ⟨i + 1, r + d, by go_num, by go_num, ⟨by have := hh.out.1; have := D.out; omega, E.out, by omega, by have := hh.out.2.2.2; omega⟩, rfl⟩
        · obtain ⟨c1, -⟩ := (hrow.keep hb).at0 (show k - 6 - 1 < 60 by omega)
          obtain ⟨c2, -⟩ := (hrow.keep hb).at0 (show k - 6 < 60 by omega)
          have d1 : ((dg V (k - 6 - 1) : Nat) : Int) ≤ 9 := by have := dg_lt V (k - 6 - 1); omega
          have d2 : ((dg V (k - 6) : Nat) : Int) ≤ 9 := by have := dg_lt V (k - 6); omega
          have hik : i = k - 6 - 1 := by omega
          have UY := Lib.hid (upOf_yes (V := V) (k := k - 6))
          have UN := Lib.hid (upOf_no (V := V) (k := k - 6))
          have RU := Lib.hid (rnd_up (V := V) h6)
          rw [hik] at h2
          have H2 := Lib.hid h2
          have hmn : Hid (min k 6 = 6) := by show _ = _; omega
          have j1 : (k : Int) - 6 - 1 ≤ i := by omega
          generalize dg V (k - 6 - 1) = d at *
          generalize dg V (k - 6) = e at *
          have fin : ∀ u : Nat, u ≤ 1 → u = upOf V (k - 6) → ∃ o N up : Nat, Value.slice (some ⟨b, k - 6, none⟩) (60 - (k - 6)) (60 - (k - 6)) = Value.slice (some ⟨b, o, none⟩) N N ∧ Value.int .i64 6 = Value.int .i64 ((min k 6 : Nat) : Int) ∧ Value.int .i64 (u : Nat) = Value.int .i64 up ∧ Hid (o + N = 60 ∧ o ≤ 24 ∧ up ≤ 1 ∧ V / 10 ^ o + up = rnd V k) ∧ Sl2 wr w.heap.size 0 0 ∧ Bel w wr :=
            fun u hu1 hu2 => ⟨k - 6, 60 - (k - 6), u, rfl, by rw [hmn.out]; rfl, rfl, ⟨by omega, by omega, hu1, by rw [hu2]; exact RU.out⟩, hR, hb⟩
          have FIN := Lib.hid fin
          clear fin h1 h2 h3 hkk hik
          by_cases a1 : (5 : Int) < d
          · have L := Lib.hid (UY.out (.inl (by omega)))
            go_wp2
            go_meet
            exact FIN.out 1 (by omega) L.out.symm
          · by_cases a2 : d = 5
            · subst a2
              by_cases a3 : (0 : Int) < r
              · have L := Lib.hid (UY.out (.inr ⟨rfl, .inl (H2.out.1 (by omega))⟩))
                go_wp2
                go_meet
                exact FIN.out 1 (by omega) L.out.symm
              · have a4 : ¬ 0 < V % 10 ^ (k - 6 - 1) := fun h => a3 (by have := H2.out.2 h; omega)
                by_cases a5 : e % 2 = 1
                · have L := Lib.hid (UY.out (.inr ⟨rfl, .inr a5⟩))
                  have a6 : ((e : Int) % 2 == 1) = true := by rw [beq_iff_eq]; omega
                  have a7 : (e : Int) % 2 = 1 := by omega
                  clear a4 a5
                  go_wp2
                  go_meet
                  exact FIN.out 1 (by omega) L.out.symm
                · have L := Lib.hid (UN.out (by rintro (h | ⟨-, h | h⟩) <;> omega))
                  have a6 : ((e : Int) % 2 == 1) = false := by rw [beq_eq_false_iff_ne]; omega
                  have a7 : ¬ (e : Int) % 2 = 1 := by omega
                  clear a4 a5
                  go_wp2
                  go_meet
                  exact FIN.out 0 (by omega) L.out.symm
            · have L := Lib.hid (UN.out (by rintro (h | ⟨h, -⟩) <;> omega))
              have a6 : ((d : Int) == 5) = false := by rw [beq_eq_false_iff_ne]; omega
              have a7 : ¬ (d : Int) = 5 := by omega
              clear a2
              go_wp2
              go_meet
              exact FIN.out 0 (by omega) L.out.symm
    · have hm : Hid (min k 6 = k) := by show min k 6 = k; omega
      have hr : Hid (rnd V k = V) := if_neg h6
      have k1 : (k : Int) ≤ 6 := by omega
      go_wp2_with fail
      go_meet
      exact ⟨0, 60, 0, rfl, by rw [hm.out], rfl, ⟨rfl, by omega, by omega, by rw [hr.out]; simp⟩, hR, hb⟩
  case rest =>
    obtain ⟨o, N, up, rfl, rfl, rfl, hh, hR, hb⟩ := hcut
    obtain ⟨g1, g2, g3, g4⟩ := hh.out
    have hmk : ∀ w, (Instr.makeSlice 52 (.int .i64 N) (.int .i64 N)).run Tryd.prog w = .ok (.slice (some ⟨w.heap.size, 0, none⟩) N N) (w.alloc (.cells (madeCells #[.int .i64 0] N) 3)) := make_row N (by omega)
    have hlt := hR.1.1
    have hMD := made_row wc N 3
    have j1 : (N : Int) ≤ 60 := by omega
    have j2 : (36 : Int) ≤ N := by omega
    have j3 : (up : Int) ≤ 1 := by omega
    have j5 : (((min k 6 : Nat) : Int)) ≤ 6 := by omega
    obtain ⟨B, hB⟩ : ∃ B, B = min k 6 := ⟨_, rfl⟩
    rw [← hB] at j5 ⊢
    have HB := Lib.hid hB
    have HRW := Lib.hid hrow
    have HMD := Lib.hid hMD
    have HN := Lib.hid (And.intro g1 (And.intro g2 (And.intro g3 g4)))
    clear g1 g2 g3 g4 hMD hrow hB
    go_upto_region 16 with (fail)
    refine under_name (hb.alloc _) fun W2 hc hf hz hb2 => ?_
    have hD2 := HMD.out.same hc hf hz
    have hne : ¬ w.heap.size = wc.heap.size := by omega
    have hne' : ¬ wc.heap.size = w.heap.size := by omega
    have hR2 : Sl2 W2 w.heap.size 0 0 := by
      refine ⟨⟨by rw [hz]; simp; omega, ?_, ?_⟩, ?_, ?_⟩
      all_goals simp [hc, hf, go_sem, hR, hne, hne']
    clear hc hf hz hmk hR hb
    obtain ⟨c1, c2⟩ := hD2.at0 (i := 0) (by have := HN.out.1; omega)
    have HD2 := Lib.hid hD2
    have HP := Lib.hid (fun W3 (h1 : DRow W3 b o N (dg (V / 10 ^ o))) (h2 : DRow W3 wc.heap.size 0 N (dg up)) => rplus_out N (by omega) (by omega) b o N wc.heap.size (V / 10 ^ o) up W3 h1 h2)
    clear hD2
    go_wp2_with fail
    have hb3 := hb2.setCell (p := ⟨wc.heap.size, 0, none⟩) (Nat.le_of_lt hlt) (.int .i64 (up : Nat))
    have hR3 : Sl2 (W2.setCell ⟨wc.heap.size, 0, none⟩ (.int .i64 (up : Nat))) w.heap.size 0 0 := by simp [Sl2, Arr2, Fr2, go_sem, hR2, hne, hne']
    obtain ⟨q1, q2, q3, q4⟩ := HN.out
    refine (HP.out _ (row_cut (HRW.out.keep hb3) q1) ((HD2.out.put 0 up (by omega)).ext fun i _ => up_row up i (by omega))).mono ?_
    rintro e W3 ⟨g, rfl, hg, hD, hb4⟩
    have hR4 := hR3.keep hb4
    have hb5 := hb3.trans hb4
    have hM : V / 10 ^ o + up < 10 ^ N := by have := small_row HV.out q2 q3; rwa [show 60 - o = N by omega] at this
    obtain ⟨M, hMe⟩ : ∃ M, M = rnd V k := ⟨_, rfl⟩
    rw [q4, ← hMe] at hD hM
    have FV := Lib.hid (show decV bl (rnd V k) (min k 6) = decV bl M B by rw [← hMe, ← HB.out])
    have hgW : w.heap.size < g := by have := hR3.1.1; omega
    have HM := Lib.hid (And.intro hM q1)
    have HG := Lib.hid (And.intro hD hgW)
    have q5 := hR4.1.1
    have q6 := hD.1
    clear hM hMe hh HN q1 q2 q3 q4 hD hgW hb3 hb4 hR3 hR2 hb2 HP HD2 c1 c2 hne hne' hg HMD HRW hlt
    go_wp2_with fail
    go_loopg [0, 1] B (fun gk r x wr => ∃ m s o1 n : Nat, r = .slice (some ⟨g, o1, none⟩) n n ∧ x = .int .i64 s ∧ Hid (trim M B = trim m s ∧ n + B = N + s ∧ s ≤ B ∧ gk = s ∧ m < 10 ^ n) ∧ Hid (DRow W3 g o1 n (dg m)) ∧ wr = W3)
    case atStart => exact ⟨M, B, 0, N, rfl, rfl, ⟨rfl, by omega, by omega, rfl, HM.out.1⟩, HG.out.1, rfl⟩
    case round =>
      obtain ⟨m, s, o1, n, rfl, rfl, hh, HDD, rfl⟩ := hrel
      obtain ⟨h1, h2, h3, -, h5⟩ := hh.out
      have j6 : (30 : Int) ≤ n := by omega
      have j7 : (n : Int) ≤ 60 := by omega
      have hD := HDD.out
      obtain ⟨c1, -⟩ := hD.2 0 (by omega)
      rw [Nat.add_zero, dg_first] at c1
      have fin : (s = 0 ∨ m % 10 ≠ 0) → trim M B = (m, s) := fun h => by
        rw [h1]
        rcases h with h | h
        · subst h; rfl
        · exact trim_stop _ _ h
      have FIN := Lib.hid fin
      have H5 := Lib.hid h5
      clear fin h1 h2 h5 hD
      by_cases hgo : (0 : Int) < s ∧ m % 10 = 0
      · obtain ⟨hs, hm⟩ := hgo
        rw [hm] at c1
        have HM0 := Lib.hid hm
        have NX := Lib.hid (row_next HDD.out (by omega))
        have j8 : (s : Int) ≤ 6 := by omega
        clear hm h3
        go_wp2
        go_roundg (gk - 1)
        case measure => have := hh.out.2.2.2.1; omega
        case rel =>
          obtain ⟨r1, r2, r3, r4, r5⟩ := hh.out
          refine ⟨m / 10, s - 1, o1 + 1, n - 1, rfl, by go_num, ⟨?_, by omega, by omega, by omega, ?_⟩, NX.out, rfl⟩
          · rw [r1]
            obtain ⟨s', rfl⟩ : ∃ s', s = s' + 1 := ⟨s - 1, by omega⟩
            rw [trim_step _ _ HM0.out]; rfl
          · have e : 10 ^ n = 10 * 10 ^ (n - 1) := by rw [show n = (n - 1) + 1 by omega, Nat.pow_succ, Nat.mul_comm]; rfl
            omega
      · have L := Lib.hid (FIN.out (by omega))
        have HF := Lib.hid (FV.out.trans (decV_of (bl := bl) L.out))
        have hcase : ((0 : Int) < s ∧ (((m % 10 : Nat) : Int) == 0) = false ∧ ¬ ((m % 10 : Nat) : Int) = 0) ∨ ¬ (0 : Int) < s := by
          by_cases hs : (0 : Int) < s
          · have : m % 10 ≠ 0 := fun h => hgo ⟨hs, h⟩
            exact .inl ⟨hs, by rw [beq_eq_false_iff_ne]; omega, by omega⟩
          · exact .inr hs
        have j8 : (s : Int) ≤ 6 := by omega
        clear hgo h3 FIN
        obtain ⟨wo, rfl⟩ : ∃ wo : World, wo = wr := ⟨_, rfl⟩
        rcases hcase with ⟨hs, e1, e2⟩ | hs
        all_goals
          go_wp2_with fail
          go_loopg [15, 16] n (fun gk x15 x16 wr => ∃ (q : Nat) (z : Int), x15 = .int .i64 ((m / 10 ^ q : Nat) : Int) ∧ x16 = .int .i64 z ∧ Hid (z = (q : Int) - 1 ∧ q ≤ n ∧ gk = q) ∧ wr = wo)
          case atStart => exact ⟨n, (n : Int) - 1, by rw [Nat.div_eq_of_lt H5.out]; rfl, rfl, ⟨rfl, Nat.le_refl _, rfl⟩, rfl⟩
          case round =>
            obtain ⟨q, z, rfl, rfl, hh2, rfl⟩ := hrel
            obtain ⟨hz, hqn, -⟩ := hh2.out
            by_cases hq0 : q = 0
            · subst hq0
              obtain rfl : z = -1 := by omega
              clear hz hqn
              rw [Nat.pow_zero, Nat.div_one]
              by_cases hbig : (999999999999 : Int) < m
              · have HV2 := Lib.hid (HF.out.trans (if_pos (by omega)))
                go_wp2
                refine bodyPost_ret (by simp [results, Tryd.results36, go_sem, hR4]; try rfl) rfl ⟨by (rw [HV2.out]) <;> rfl, ?_⟩
                (repeat (first | with_reducible exact Bel.refl _ | with_reducible refine Bel.setCell ?_ (by first | exact Nat.le_refl _ | (dsimp only; omega)) _ | with_reducible refine Bel.alloc ?_ _ | with_reducible refine Bel.drew ?_ | with_reducible assumption | with_reducible refine Bel.trans ?_ (by assumption)))
              · have HV2 := Lib.hid (HF.out.trans (if_neg (by omega)))
                cases bl
                · go_wp2
                  refine bodyPost_ret (by simp [results, Tryd.results36, go_sem, hR4]; try rfl) rfl ⟨by (rw [HV2.out]) <;> rfl, ?_⟩
                  (repeat (first | with_reducible exact Bel.refl _ | with_reducible refine Bel.setCell ?_ (by first | exact Nat.le_refl _ | (dsimp only; omega)) _ | with_reducible refine Bel.alloc ?_ _ | with_reducible refine Bel.drew ?_ | with_reducible assumption | with_reducible refine Bel.trans ?_ (by assumption)))
                · go_wp2
                  refine bodyPost_ret (by simp [results, Tryd.results36, go_sem, hR4]; try rfl) rfl ⟨by (rw [HV2.out]) <;> rfl, ?_⟩
                  (repeat (first | with_reducible exact Bel.refl _ | with_reducible refine Bel.setCell ?_ (by first | exact Nat.le_refl _ | (dsimp only; omega)) _ | with_reducible refine Bel.alloc ?_ _ | with_reducible refine Bel.drew ?_ | with_reducible assumption | with_reducible refine Bel.trans ?_ (by assumption)))
            · obtain ⟨j, rfl⟩ : ∃ j, q = j + 1 := ⟨q - 1, by omega⟩
              obtain rfl : z = (j : Int) := by omega
              obtain ⟨c2, -⟩ := HDD.out.2 j (by omega)
              have j9 : (j : Int) < n := by omega
              have d1 : ((dg m j : Nat) : Int) ≤ 9 := by have := dg_lt m j; omega
              have E := Lib.hid (div_split m j)
              have BG := Lib.hid (fun h : 999999999999 < m / 10 ^ (j + 1) => HF.out.trans (if_pos (big_div h)))
              clear hz hqn hq0
              generalize m / 10 ^ (j + 1) = y at *
              generalize dg m j = d at *
              by_cases hbig : (999999999999 : Int) < y
              · have HV2 := Lib.hid (BG.out (by omega))
                go_wp2
                refine bodyPost_ret (by simp [results, Tryd.results36, go_sem, hR4]; try rfl) rfl ⟨by (rw [HV2.out]) <;> rfl, ?_⟩
                (repeat (first | with_reducible exact Bel.refl _ | with_reducible refine Bel.setCell ?_ (by first | exact Nat.le_refl _ | (dsimp only; omega)) _ | with_reducible refine Bel.alloc ?_ _ | with_reducible refine Bel.drew ?_ | with_reducible assumption | with_reducible refine Bel.trans ?_ (by assumption)))
              · have j10 : (y : Int) ≤ 999999999999 := by omega
                clear hbig
                go_wp2
                go_roundg (gk - 1)
                case measure => have := hh2.out.2.2; omega
                case rel => exact ⟨j, (j : Int) - 1, by rw [E.out]; go_num, rfl, ⟨rfl, by omega, by have := hh2.out.2.2; omega⟩, rfl⟩
end Go.Proofs.YtcknjhgolajclaaDoor
