
import Derived.Test.YtpmmbcobjibpeaaGreatDoorSm4
namespace Go.Proofs.YtpmmbcobjibpeaaGreatDoor
set_option linter.unusedSimpArgs false
set_option linter.unusedVariables false
open Go.RowKit Go.Lib Go.Deep

/-! Sets: a test holds just if the unit lies between its ends. -/
/-- What orders a number or a day: millionths, or days. -/
def keyV (v : Val) : Int := if v.kind = 1 then unt v.n v.scale else v.num
def denV (K sc : Int) : Int := if K = 1 then (P10 (6 - sc).toNat : Int) else 1
theorem denV_pos (K sc : Int) : 0 < denV K sc := by
  unfold denV
  split
  · have := P10_pos (6 - sc).toNat; omega
  · omega
theorem atP_key {n s t : Int} (h0 : 0 ≤ t ∧ t ≤ 6) (hd : SndD n s) : (atP n s t).1 = unt n s / (P10 (6 - t).toNat : Int) ∧ (atP n s t).2 = decide (unt n s % (P10 (6 - t).toNat : Int) = 0) := by
  have hd' := hd
  obtain ⟨a0, a6, _, _⟩ := hd'
  unfold atP unt
  rw [if_pos h0, if_pos hd]
  by_cases hst : s ≤ t
  · rw [if_pos hst]
    have e : (6 - s).toNat = (t - s).toNat + (6 - t).toNat := by omega
    have := at_up n (t - s).toNat (6 - t).toNat
    rw [← e] at this
    exact ⟨this.1.symm, by rw [this.2]; rfl⟩
  · rw [if_neg hst]
    have e : (6 - t).toNat = (s - t).toNat + (6 - s).toNat := by omega
    have := at_down n (s - t).toNat (6 - s).toNat
    rw [← e] at this
    refine ⟨this.1.symm, ?_⟩
    rw [Bool.eq_iff_iff]
    simp [this.2]
theorem unP_key {K sc : Int} {u : Val} (hK : K = 1 ∨ K = 4) (h0 : 0 ≤ sc ∧ sc ≤ 6) (hs : vsnd u = true) (hk : u.kind = K) :
    (unP sc u).1 = keyV u / denV K sc ∧ (unP sc u).2 = decide (keyV u % denV K sc = 0) ∧ -1000000000000000000 ≤ keyV u ∧ keyV u ≤ 1000000000000000000 := by
  obtain ⟨k, n, s, t, m⟩ := u
  simp only at hk
  subst hk
  rcases hK with rfl | rfl
  · rw [vsnd1, Bool.and_eq_true] at hs
    have hd : SndD n s := of_decide_eq_true hs.2
    have h := atP_key h0 hd
    have hb := unt_bd n s hd
    exact ⟨h.1, h.2, hb.1, hb.2⟩
  · rw [vsnd4] at hs
    simp only [Bool.and_eq_true, decide_eq_true_eq] at hs
    refine ⟨(Int.ediv_one m).symm, ?_, ?_, ?_⟩
    · show true = decide (m % 1 = 0)
      rw [Int.emod_one]; rfl
    · show -1000000000000000000 ≤ m; omega
    · show m ≤ 1000000000000000000; omega
theorem vcmp_key {K : Int} {v u : Val} (hK : K = 1 ∨ K = 4) (hv : v.kind = K) (hu : u.kind = K) : vcmp v u = Lib.compareInt (keyV v) (keyV u) := by
  unfold vcmp keyV
  rw [if_neg (by omega)]
  rcases hK with rfl | rfl
  · rw [if_pos hv, if_pos hv, if_pos hu, sg_ci]
  · rw [if_neg (by omega), if_neg (by omega), if_neg (by omega), if_neg (by omega)]
theorem ci_three (x y : Int) : (Lib.compareInt x y < 0 ↔ x < y) ∧ (0 < Lib.compareInt x y ↔ y < x) ∧ (Lib.compareInt x y = 0 ↔ x = y) := by
  unfold Lib.compareInt
  repeat' split
  all_goals omega
theorem ediv_bd18 {u D : Int} (hD : 0 < D) (h : -1000000000000000000 ≤ u ∧ u ≤ 1000000000000000000) : -1000000000000000000 ≤ u / D ∧ u / D ≤ 1000000000000000000 := by
  constructor
  · rw [← le_unit _ _ _ hD]
    have : (-1000000000000000000 : Int) * D ≤ (-1000000000000000000) * 1 := Int.mul_le_mul_of_nonpos_left (by omega) (by omega)
    omega
  · have h2 := more_unit 1000000000000000000 u D hD
    by_cases hc : u / D ≤ 1000000000000000000
    · exact hc
    · exfalso
      have h3 := (le_unit 1000000000000000001 u D hD).2 (by omega)
      have : (1000000000000000001 : Int) * 1 ≤ 1000000000000000001 * D := Int.mul_le_mul_of_nonneg_left (by omega) (by omega)
      omega
theorem link_one {K sc : Int} {t : Tst} {v : Val} (hK : K = 1 ∨ K = 4) (h0 : 0 ≤ sc ∧ sc ≤ 6) (ht : tsnd t = true) (hk : t.low.kind = K) (hv : vsnd v = true) (hvk : v.kind = K) (hex : (unP sc v).2 = true) :
    mone t v = true ↔ (spU sc t).1 ≤ (unP sc v).1 ∧ (unP sc v).1 ≤ (spU sc t).2 := by
  have hD := denV_pos K sc
  obtain ⟨v1, v2, v3, v4⟩ := unP_key hK h0 hv hvk
  obtain ⟨l1, l2, l3, l4⟩ := unP_key hK h0 (tsnd_low ht) hk
  have hvN : (unP sc v).1 * denV K sc = keyV v := by
    have hm : keyV v % denV K sc = 0 := by rw [v2] at hex; exact of_decide_eq_true hex
    rw [v1]
    have := Int.mul_ediv_add_emod (keyV v) (denV K sc)
    rw [hm] at this
    rw [Int.mul_comm]; omega
  have bN := ediv_bd18 hD ⟨v3, v4⟩
  have bL := ediv_bd18 hD ⟨l3, l4⟩
  rw [← v1] at bN
  have cL := vcmp_key hK hvk hk
  have c3 := ci_three (keyV v) (keyV t.low)
  rw [← cL] at c3
  have q1 := le_unit (unP sc v).1 (keyV t.low) _ hD
  have q2 := more_unit (unP sc v).1 (keyV t.low) _ hD
  have q3 := less_unit (unP sc v).1 (keyV t.low) _ hD
  have q4 := least_unit (unP sc v).1 (keyV t.low) _ hD
  have q5 := same_unit (unP sc v).1 (keyV t.low) _ hD
  rw [hvN] at q1 q2 q3 q4 q5
  have hkk := tsnd_kind ht
  have hhk : t.kind = 6 → t.high.kind = K := fun h6 => by
    unfold tsnd at ht
    rw [if_neg (by omega), if_neg (by omega), if_pos h6] at ht
    simp only [Bool.and_eq_true, decide_eq_true_eq] at ht
    rw [ht.2]; exact hk
  have hH : t.kind = 6 → ((vcmp v t.high < 0 ↔ keyV v < keyV t.high) ∧ (vcmp v t.high = 0 ↔ keyV v = keyV t.high)) ∧ ((keyV v ≤ keyV t.high ↔ (unP sc v).1 ≤ keyV t.high / denV K sc) ∧ (keyV v < keyV t.high ↔ (unP sc v).1 ≤ if keyV t.high % denV K sc = 0 then keyV t.high / denV K sc - 1 else keyV t.high / denV K sc)) ∧ ((unP sc t.high).1 = keyV t.high / denV K sc ∧ (unP sc t.high).2 = decide (keyV t.high % denV K sc = 0)) ∧ (-1000000000000000000 ≤ keyV t.high / denV K sc ∧ keyV t.high / denV K sc ≤ 1000000000000000000) := fun h6 => by
    obtain ⟨g1, g2, g3, g4⟩ := unP_key hK h0 (tsnd_high ht) (hhk h6)
    have cH := vcmp_key hK hvk (hhk h6)
    have d3 := ci_three (keyV v) (keyV t.high)
    rw [← cH] at d3
    have p1 := le_unit (unP sc v).1 (keyV t.high) _ hD
    have p3 := less_unit (unP sc v).1 (keyV t.high) _ hD
    rw [hvN] at p1 p3
    exact ⟨⟨d3.1, d3.2.2⟩, ⟨p1, p3⟩, ⟨g1, g2⟩, ediv_bd18 hD ⟨g3, g4⟩⟩
  unfold mone spU fstU lstU mbet
  rw [if_neg (by omega), l1, l2]
  generalize keyV t.low / denV K sc = a at *
  generalize keyV t.low % denV K sc = r at *
  generalize (unP sc v).1 = N at *
  generalize vcmp v t.low = c at *
  clear hex l1 l2 cL hvN v1 v2 ht hv
  have w1 : wrap64 (a + 1) = a + 1 := by unfold wrap64; omega
  have w2 : wrap64 (a - 1) = a - 1 := by unfold wrap64; omega
  by_cases k6 : t.kind = 6
  · obtain ⟨⟨d1, d2⟩, ⟨p1, p3⟩, ⟨g1, g2⟩, bH⟩ := hH k6
    rw [g1, g2]
    clear hH hhk g1 g2
    rw [if_neg (by omega), if_neg (by omega), if_neg (by omega), if_neg (by omega), if_pos k6, if_neg (by omega), if_neg (by omega), if_neg (by omega), if_neg (by omega), if_pos k6]
    generalize keyV t.high / denV K sc = b at *
    generalize keyV t.high % denV K sc = s at *
    generalize vcmp v t.high = d at *
    have w3 : wrap64 (b - 1) = b - 1 := by unfold wrap64; omega
    rw [w1, w3]
    cases t.ol <;> cases t.oh <;> by_cases hr : r = 0 <;> by_cases hs : s = 0 <;>
      simp only [hr, hs, if_true, if_false, decide_true, decide_false, Bool.and_true, Bool.and_false, Bool.not_true, Bool.not_false, Bool.or_false, Bool.true_and, Bool.false_and, Bool.false_eq_true, Bool.and_eq_true, Bool.or_eq_true, decide_eq_true_eq] at q1 q2 q3 q4 q5 p1 p3 ⊢ <;>
      omega
  · clear hH hhk
    by_cases hr : r = 0
    · simp only [hr, if_true, decide_true, Bool.and_true, Bool.not_true, Bool.not_false, Bool.false_eq_true, if_false, w1, w2] at q1 q2 q3 q4 q5 ⊢
      by_cases k2 : t.kind = 2
      · simp only [k2, if_true, decide_eq_true_eq]; omega
      by_cases k3 : t.kind = 3
      · simp only [k3, if_true, decide_eq_true_eq, show ¬ ((3 : Int) = 2) by decide, if_false]; omega
      by_cases k4 : t.kind = 4
      · simp only [k4, if_true, decide_eq_true_eq, show ¬ ((4 : Int) = 2) by decide, show ¬ ((4 : Int) = 3) by decide, if_false]; omega
      by_cases k5 : t.kind = 5
      · simp only [k5, if_true, decide_eq_true_eq, show ¬ ((5 : Int) = 2) by decide, show ¬ ((5 : Int) = 3) by decide, show ¬ ((5 : Int) = 4) by decide, if_false]; omega
      · simp only [k2, k3, k4, k5, k6, if_false, decide_eq_true_eq]; omega
    · simp only [hr, if_false, decide_false, Bool.and_false, Bool.false_and, Bool.false_eq_true, w1, w2] at q1 q2 q3 q4 q5 ⊢
      by_cases k2 : t.kind = 2
      · simp only [k2, if_true, decide_eq_true_eq]; omega
      by_cases k3 : t.kind = 3
      · simp only [k3, if_true, decide_eq_true_eq, show ¬ ((3 : Int) = 2) by decide, if_false]; omega
      by_cases k4 : t.kind = 4
      · simp only [k4, if_true, decide_eq_true_eq, show ¬ ((4 : Int) = 2) by decide, show ¬ ((4 : Int) = 3) by decide, if_false]; omega
      by_cases k5 : t.kind = 5
      · simp only [k5, if_true, decide_eq_true_eq, show ¬ ((5 : Int) = 2) by decide, show ¬ ((5 : Int) = 3) by decide, show ¬ ((5 : Int) = 4) by decide, if_false]; omega
      · simp only [k2, k3, k4, k5, k6, if_false, decide_eq_true_eq]; omega
theorem mone_kind {t : Tst} {v : Val} (h : mone t v = true) : v.kind = t.low.kind := by
  unfold mone at h
  by_cases hk : v.kind = t.low.kind
  · exact hk
  · rw [if_pos hk] at h; cases h
/-- Of numbers and days: the unit of a value is one of those for which tests hold just if they hold of the value. -/
theorem link_num {K sc : Int} {l : List Tst} {v : Val} (hK : K = 1 ∨ K = 4) (h0 : 0 ≤ sc ∧ sc ≤ 6) (hl : ∀ t ∈ l, tsnd t = true) (hv : vsnd v = true) (hvk : v.kind = K) (hex : (unP sc v).2 = true) :
    SMem (rngk K sc l) (unP sc v).1 ↔ (l.any fun t => mone t v) = true := by
  unfold SMem rngk
  rw [List.any_eq_true]
  constructor
  · rintro ⟨s, hs, h1, h2⟩
    obtain ⟨t, ht, rfl⟩ := List.mem_map.1 hs
    rw [List.mem_filter, decide_eq_true_eq] at ht
    exact ⟨t, ht.1, (link_one hK h0 (hl t ht.1) ht.2 hv hvk hex).2 ⟨h1, h2⟩⟩
  · rintro ⟨t, ht, hm⟩
    have hk : t.low.kind = K := (mone_kind hm).symm.trans hvk
    exact ⟨_, List.mem_map_of_mem (List.mem_filter.2 ⟨ht, by simpa using hk⟩), (link_one hK h0 (hl t ht) hk hv hvk hex).1 hm⟩
end Go.Proofs.YtpmmbcobjibpeaaGreatDoor
namespace Go.Proofs.YtpmmbcobjibpeaaGreatDoor
set_option linter.unusedSimpArgs false
set_option linter.unusedVariables false
open Go.RowKit Go.Lib Go.Deep

/-! SetsSplit, walked; whatever the kind. -/
set_option maxRecDepth 100000 in
set_option maxHeartbeats 8000000 in
theorem splitG_any (Pa Pb Pm : St → Prop) (ha hb0 : Bool) (K sc : Int) (any not : Bool) (l : List Tst) (A : Option Addr) (c : Nat) (any2 not2 : Bool) (m : List Tst) (B : Option Addr) (d : Nat) (v : Val) (w : World)
    (H1 : ∀ W, Bel w W → Calls Tryz.prog 14 #[tyv K sc any not (.slice A l.length c), tsv any2 not2 (.slice B m.length d)] W fun e w' => ∃ a A1 c1 A2 c2, e = .returned (.tuple #[St.val a A1 c1 A2 c2, .int .i64 0]) ∧ SetIn w' A1 c1 A2 c2 a ∧ Bel W w' ∧ Pa a)
    (H2 : ∀ W a A1 c1 A2 c2, Bel w W → Pa a → SetIn W A1 c1 A2 c2 a → Calls Tryz.prog 25 #[tyv K sc any not (.slice A l.length c), St.val a A1 c1 A2 c2] W fun e w' => ∃ b B1 d1 B2 d2, e = .returned (.tuple #[St.val b B1 d1 B2 d2, .int .i64 0]) ∧ SetIn w' B1 d1 B2 d2 b ∧ Bel W w' ∧ Pb b)
    (H3 : ∀ W a A1 c1 A2 c2 b B1 d1 B2 d2, Pa a → SetIn W A1 c1 A2 c2 a → Pb b → SetIn W B1 d1 B2 d2 b → Calls Tryz.prog 26 #[St.val a A1 c1 A2 c2, St.val b B1 d1 B2 d2] W fun e w' => ∃ q C1 e1 C2 e2, e = .returned (.tuple #[St.val q C1 e1 C2 e2, .int .i64 0]) ∧ SetIn w' C1 e1 C2 e2 q ∧ Bel W w' ∧ Pm q)
    (H4 : ∀ W q C1 e1 C2 e2, Pm q → SetIn W C1 e1 C2 e2 q → Calls Tryz.prog 24 #[St.val q C1 e1 C2 e2] W fun e w' => e = .returned (.bool true) ∧ Bel W w')
    (H5 : ∀ W a A1 c1 A2 c2, Bel w W → Pa a → SetIn W A1 c1 A2 c2 a → Calls Tryz.prog 28 #[tyv K sc any not (.slice A l.length c), St.val a A1 c1 A2 c2, v.val] W fun e w' => e = .returned (.bool ha) ∧ Bel W w')
    (H6 : ∀ W b B1 d1 B2 d2, Bel w W → Pb b → SetIn W B1 d1 B2 d2 b → Calls Tryz.prog 28 #[tyv K sc any not (.slice A l.length c), St.val b B1 d1 B2 d2, v.val] W fun e w' => e = .returned (.bool hb0) ∧ Bel W w')
    (H7 : ∀ W, Bel w W → Calls Tryz.prog 12 #[tyv K sc any not (.slice A l.length c), v.val] W fun e w' => e = .returned (.bool (ha || hb0)) ∧ Bel W w')
    (hd : (ha && hb0) = false) :
    Calls Tryz.prog 8 #[tyv K sc any not (.slice A l.length c), tsv any2 not2 (.slice B m.length d), v.val] w fun e w' => e = .returned (.bool true) ∧ Bel w w' := by
  have C1 := Lib.hid H1
  have C2 := Lib.hid H2
  have C3 := Lib.hid H3
  have C4 := Lib.hid H4
  have C5 := Lib.hid H5
  have C6 := Lib.hid H6
  have C7 := Lib.hid H7
  clear H1 H2 H3 H4 H5 H6 H7
  obtain ⟨v0, v1, v2, v3, v4⟩ := v
  go_enter Tryz.func8, Tryz.ntmps8
  go_upto_region 1 with fail
  refine under_name (w0 := w) (by (repeat (first | with_reducible exact Bel.refl _ | with_reducible refine Bel.setCell ?_ (by first | exact Nat.le_refl _ | (dsimp only; omega)) _ | with_reducible refine Bel.alloc ?_ _ | with_reducible refine Bel.drew ?_ | with_reducible assumption | with_reducible refine Bel.trans ?_ (by assumption)))) fun V hc hf hz hb => ?_
  have m0 : V.cell? ⟨w.heap.size, 0, none⟩ = some (.int .i64 K) := by simp [hc, go_sem]
  have m1 : V.cell? ⟨w.heap.size, 1, none⟩ = some (.int .i64 sc) := by simp [hc, go_sem]
  have m2 : V.cell? ⟨w.heap.size, 2, none⟩ = some (.bool any) := by simp [hc, go_sem]
  have m3 : V.cell? ⟨w.heap.size, 3, none⟩ = some (.bool not) := by simp [hc, go_sem]
  have m4 : V.cell? ⟨w.heap.size, 4, none⟩ = some (.slice A l.length c) := by simp [hc, go_sem]
  have x0 : V.cell? ⟨w.heap.size + 1, 0, none⟩ = some (.bool any2) := by simp [hc, go_sem]
  have x1 : V.cell? ⟨w.heap.size + 1, 1, none⟩ = some (.bool not2) := by simp [hc, go_sem]
  have x2 : V.cell? ⟨w.heap.size + 1, 2, none⟩ = some (.slice B m.length d) := by simp [hc, go_sem]
  have y0 : V.cell? ⟨w.heap.size + 2, 0, none⟩ = some (.int .i64 v0) := by simp [hc, go_sem]
  have y1 : V.cell? ⟨w.heap.size + 2, 1, none⟩ = some (.int .i64 v1) := by simp [hc, go_sem]
  have y2 : V.cell? ⟨w.heap.size + 2, 2, none⟩ = some (.int .i64 v2) := by simp [hc, go_sem]
  have y3 : V.cell? ⟨w.heap.size + 2, 3, none⟩ = some (.string v3) := by simp [hc, go_sem]
  have y4 : V.cell? ⟨w.heap.size + 2, 4, none⟩ = some (.int .i64 v4) := by simp [hc, go_sem]
  have z0 : w.heap.size + 3 ≤ V.heap.size := by simp [hz]
  clear hc hf hz
  go_upto_region 2 with (go_at_call 14; (with_reducible refine Calls.mono (C1.out _ hb) ?_); rintro e X1 ⟨⟨gk, gs, ga, gw, gb, gn⟩, A1, c1, A2, c2, rfl, S1, hx1, h1⟩; have HA := Lib.hid h1; clear h1; have zx1 : w.heap.size + 3 ≤ X1.heap.size := (Nat.le_trans z0 hx1.size); have hbX := hb.trans hx1; have S1 := Lib.hid S1; replace m0 := (hx1.cells _ _ (by omega)).trans m0; replace m1 := (hx1.cells _ _ (by omega)).trans m1; replace m2 := (hx1.cells _ _ (by omega)).trans m2; replace m3 := (hx1.cells _ _ (by omega)).trans m3; replace m4 := (hx1.cells _ _ (by omega)).trans m4; replace x0 := (hx1.cells _ _ (by omega)).trans x0; replace x1 := (hx1.cells _ _ (by omega)).trans x1; replace x2 := (hx1.cells _ _ (by omega)).trans x2; replace y0 := (hx1.cells _ _ (by omega)).trans y0; replace y1 := (hx1.cells _ _ (by omega)).trans y1; replace y2 := (hx1.cells _ _ (by omega)).trans y2; replace y3 := (hx1.cells _ _ (by omega)).trans y3; replace y4 := (hx1.cells _ _ (by omega)).trans y4)
  refine under_name (w0 := X1) (by (repeat (first | with_reducible exact Bel.refl _ | with_reducible refine Bel.setCell ?_ (by first | exact Nat.le_refl _ | (dsimp only; omega)) _ | with_reducible refine Bel.alloc ?_ _ | with_reducible refine Bel.drew ?_ | with_reducible assumption | with_reducible refine Bel.trans ?_ (by assumption)))) fun Y hc hf hz hy => ?_
  have a0 : Y.cell? ⟨X1.heap.size, 0, none⟩ = some (.int .i64 gk) := by simp [hc, go_sem]
  have a1 : Y.cell? ⟨X1.heap.size, 1, none⟩ = some (.slice A1 gs.length c1) := by simp [hc, go_sem]
  have a2 : Y.cell? ⟨X1.heap.size, 2, none⟩ = some (.bool ga) := by simp [hc, go_sem]
  have a3 : Y.cell? ⟨X1.heap.size, 3, none⟩ = some (.slice A2 gw.length c2) := by simp [hc, go_sem]
  have a4 : Y.cell? ⟨X1.heap.size, 4, none⟩ = some (.int .i64 gb) := by simp [hc, go_sem]
  have a5 : Y.cell? ⟨X1.heap.size, 5, none⟩ = some (.bool gn) := by simp [hc, go_sem]
  have zy : X1.heap.size < Y.heap.size := by simp [hz]
  clear hc hf hz
  replace m0 := (hy.cells _ _ (by omega)).trans m0; replace m1 := (hy.cells _ _ (by omega)).trans m1; replace m2 := (hy.cells _ _ (by omega)).trans m2; replace m3 := (hy.cells _ _ (by omega)).trans m3; replace m4 := (hy.cells _ _ (by omega)).trans m4; replace x0 := (hy.cells _ _ (by omega)).trans x0; replace x1 := (hy.cells _ _ (by omega)).trans x1; replace x2 := (hy.cells _ _ (by omega)).trans x2; replace y0 := (hy.cells _ _ (by omega)).trans y0; replace y1 := (hy.cells _ _ (by omega)).trans y1; replace y2 := (hy.cells _ _ (by omega)).trans y2; replace y3 := (hy.cells _ _ (by omega)).trans y3; replace y4 := (hy.cells _ _ (by omega)).trans y4
  have hbY := hbX.trans hy
  replace S1 := Lib.hid (S1.out.keep hy)
  clear hx1 hy hb hbX z0 C1
  go_upto_region 3 with (go_at_call 25; (with_reducible refine Calls.mono (C2.out _ _ _ _ _ _ hbY HA.out S1.out) ?_); rintro e X2 ⟨⟨fk, fs, fa, fw, fb, fn⟩, B1, d1, B2, d2, rfl, S2, hx2, h2⟩; have HB := Lib.hid h2; clear h2; have zx2 : X1.heap.size < X2.heap.size := (Nat.lt_of_lt_of_le zy hx2.size); have hbX := hbY.trans hx2; have S2 := Lib.hid S2; have S1' := Lib.hid (S1.out.keep hx2); replace m0 := (hx2.cells _ _ (by omega)).trans m0; replace m1 := (hx2.cells _ _ (by omega)).trans m1; replace m2 := (hx2.cells _ _ (by omega)).trans m2; replace m3 := (hx2.cells _ _ (by omega)).trans m3; replace m4 := (hx2.cells _ _ (by omega)).trans m4; replace x0 := (hx2.cells _ _ (by omega)).trans x0; replace x1 := (hx2.cells _ _ (by omega)).trans x1; replace x2 := (hx2.cells _ _ (by omega)).trans x2; replace y0 := (hx2.cells _ _ (by omega)).trans y0; replace y1 := (hx2.cells _ _ (by omega)).trans y1; replace y2 := (hx2.cells _ _ (by omega)).trans y2; replace y3 := (hx2.cells _ _ (by omega)).trans y3; replace y4 := (hx2.cells _ _ (by omega)).trans y4; replace a0 := (hx2.cells _ _ (by omega)).trans a0; replace a1 := (hx2.cells _ _ (by omega)).trans a1; replace a2 := (hx2.cells _ _ (by omega)).trans a2; replace a3 := (hx2.cells _ _ (by omega)).trans a3; replace a4 := (hx2.cells _ _ (by omega)).trans a4; replace a5 := (hx2.cells _ _ (by omega)).trans a5)
  refine under_name (w0 := X2) (by (repeat (first | with_reducible exact Bel.refl _ | with_reducible refine Bel.setCell ?_ (by first | exact Nat.le_refl _ | (dsimp only; omega)) _ | with_reducible refine Bel.alloc ?_ _ | with_reducible refine Bel.drew ?_ | with_reducible assumption | with_reducible refine Bel.trans ?_ (by assumption)))) fun Z hc hf hz hy => ?_
  have b0 : Z.cell? ⟨X2.heap.size, 0, none⟩ = some (.int .i64 fk) := by simp [hc, go_sem]
  have b1 : Z.cell? ⟨X2.heap.size, 1, none⟩ = some (.slice B1 fs.length d1) := by simp [hc, go_sem]
  have b2 : Z.cell? ⟨X2.heap.size, 2, none⟩ = some (.bool fa) := by simp [hc, go_sem]
  have b3 : Z.cell? ⟨X2.heap.size, 3, none⟩ = some (.slice B2 fw.length d2) := by simp [hc, go_sem]
  have b4 : Z.cell? ⟨X2.heap.size, 4, none⟩ = some (.int .i64 fb) := by simp [hc, go_sem]
  have b5 : Z.cell? ⟨X2.heap.size, 5, none⟩ = some (.bool fn) := by simp [hc, go_sem]
  have zz : X2.heap.size < Z.heap.size := by simp [hz]
  clear hc hf hz
  replace m0 := (hy.cells _ _ (by omega)).trans m0; replace m1 := (hy.cells _ _ (by omega)).trans m1; replace m2 := (hy.cells _ _ (by omega)).trans m2; replace m3 := (hy.cells _ _ (by omega)).trans m3; replace m4 := (hy.cells _ _ (by omega)).trans m4; replace x0 := (hy.cells _ _ (by omega)).trans x0; replace x1 := (hy.cells _ _ (by omega)).trans x1; replace x2 := (hy.cells _ _ (by omega)).trans x2; replace y0 := (hy.cells _ _ (by omega)).trans y0; replace y1 := (hy.cells _ _ (by omega)).trans y1; replace y2 := (hy.cells _ _ (by omega)).trans y2; replace y3 := (hy.cells _ _ (by omega)).trans y3; replace y4 := (hy.cells _ _ (by omega)).trans y4; replace a0 := (hy.cells _ _ (by omega)).trans a0; replace a1 := (hy.cells _ _ (by omega)).trans a1; replace a2 := (hy.cells _ _ (by omega)).trans a2; replace a3 := (hy.cells _ _ (by omega)).trans a3; replace a4 := (hy.cells _ _ (by omega)).trans a4; replace a5 := (hy.cells _ _ (by omega)).trans a5
  have hbZ := hbX.trans hy
  replace S1 := Lib.hid (S1'.out.keep hy)
  replace S2 := Lib.hid (S2.out.keep hy)
  clear hx2 hy hbY hbX C2 S1'
  go_upto_region 5 with (go_at_call 9; (with_reducible refine Calls.mono (sawake_any _) ?_); rintro e X3 ⟨rfl, hx3⟩; have zx3 : X2.heap.size < X3.heap.size := (Nat.lt_of_lt_of_le zz hx3.size); have hb3 := hbZ.trans hx3; have S2' := Lib.hid (S2.out.keep hx3); have S1' := Lib.hid (S1.out.keep hx3); replace m0 := (hx3.cells _ _ (by omega)).trans m0; replace m1 := (hx3.cells _ _ (by omega)).trans m1; replace m2 := (hx3.cells _ _ (by omega)).trans m2; replace m3 := (hx3.cells _ _ (by omega)).trans m3; replace m4 := (hx3.cells _ _ (by omega)).trans m4; replace x0 := (hx3.cells _ _ (by omega)).trans x0; replace x1 := (hx3.cells _ _ (by omega)).trans x1; replace x2 := (hx3.cells _ _ (by omega)).trans x2; replace y0 := (hx3.cells _ _ (by omega)).trans y0; replace y1 := (hx3.cells _ _ (by omega)).trans y1; replace y2 := (hx3.cells _ _ (by omega)).trans y2; replace y3 := (hx3.cells _ _ (by omega)).trans y3; replace y4 := (hx3.cells _ _ (by omega)).trans y4; replace a0 := (hx3.cells _ _ (by omega)).trans a0; replace a1 := (hx3.cells _ _ (by omega)).trans a1; replace a2 := (hx3.cells _ _ (by omega)).trans a2; replace a3 := (hx3.cells _ _ (by omega)).trans a3; replace a4 := (hx3.cells _ _ (by omega)).trans a4; replace a5 := (hx3.cells _ _ (by omega)).trans a5; replace b0 := (hx3.cells _ _ (by omega)).trans b0; replace b1 := (hx3.cells _ _ (by omega)).trans b1; replace b2 := (hx3.cells _ _ (by omega)).trans b2; replace b3 := (hx3.cells _ _ (by omega)).trans b3; replace b4 := (hx3.cells _ _ (by omega)).trans b4; replace b5 := (hx3.cells _ _ (by omega)).trans b5)
  go_upto_region 6 with (go_at_call 26; (with_reducible refine Calls.mono (C3.out _ _ _ _ _ _ _ _ _ _ _ HA.out S1'.out HB.out S2'.out) ?_); rintro e X4 ⟨⟨qk, qs, qa, qw, qb, qn⟩, E1, e1, E2, e2, rfl, S3, hx4, h3⟩; have HM := Lib.hid h3; clear h3; have zx4 : X2.heap.size < X4.heap.size := (Nat.lt_of_lt_of_le zx3 hx4.size); have hb4 := hb3.trans hx4; have S3 := Lib.hid S3; have S2'' := Lib.hid (S2'.out.keep hx4); have S1'' := Lib.hid (S1'.out.keep hx4); replace m0 := (hx4.cells _ _ (by omega)).trans m0; replace m1 := (hx4.cells _ _ (by omega)).trans m1; replace m2 := (hx4.cells _ _ (by omega)).trans m2; replace m3 := (hx4.cells _ _ (by omega)).trans m3; replace m4 := (hx4.cells _ _ (by omega)).trans m4; replace x0 := (hx4.cells _ _ (by omega)).trans x0; replace x1 := (hx4.cells _ _ (by omega)).trans x1; replace x2 := (hx4.cells _ _ (by omega)).trans x2; replace y0 := (hx4.cells _ _ (by omega)).trans y0; replace y1 := (hx4.cells _ _ (by omega)).trans y1; replace y2 := (hx4.cells _ _ (by omega)).trans y2; replace y3 := (hx4.cells _ _ (by omega)).trans y3; replace y4 := (hx4.cells _ _ (by omega)).trans y4; replace a0 := (hx4.cells _ _ (by omega)).trans a0; replace a1 := (hx4.cells _ _ (by omega)).trans a1; replace a2 := (hx4.cells _ _ (by omega)).trans a2; replace a3 := (hx4.cells _ _ (by omega)).trans a3; replace a4 := (hx4.cells _ _ (by omega)).trans a4; replace a5 := (hx4.cells _ _ (by omega)).trans a5; replace b0 := (hx4.cells _ _ (by omega)).trans b0; replace b1 := (hx4.cells _ _ (by omega)).trans b1; replace b2 := (hx4.cells _ _ (by omega)).trans b2; replace b3 := (hx4.cells _ _ (by omega)).trans b3; replace b4 := (hx4.cells _ _ (by omega)).trans b4; replace b5 := (hx4.cells _ _ (by omega)).trans b5)
  refine under_name (w0 := X4) (by (repeat (first | with_reducible exact Bel.refl _ | with_reducible refine Bel.setCell ?_ (by first | exact Nat.le_refl _ | (dsimp only; omega)) _ | with_reducible refine Bel.alloc ?_ _ | with_reducible refine Bel.drew ?_ | with_reducible assumption | with_reducible refine Bel.trans ?_ (by assumption)))) fun U hc hf hz hy => ?_
  have q0 : U.cell? ⟨X4.heap.size, 0, none⟩ = some (.int .i64 qk) := by simp [hc, go_sem]
  have q1 : U.cell? ⟨X4.heap.size, 1, none⟩ = some (.slice E1 qs.length e1) := by simp [hc, go_sem]
  have q2 : U.cell? ⟨X4.heap.size, 2, none⟩ = some (.bool qa) := by simp [hc, go_sem]
  have q3 : U.cell? ⟨X4.heap.size, 3, none⟩ = some (.slice E2 qw.length e2) := by simp [hc, go_sem]
  have q4 : U.cell? ⟨X4.heap.size, 4, none⟩ = some (.int .i64 qb) := by simp [hc, go_sem]
  have q5 : U.cell? ⟨X4.heap.size, 5, none⟩ = some (.bool qn) := by simp [hc, go_sem]
  have zu : X4.heap.size < U.heap.size := by simp [hz]
  clear hc hf hz
  replace m0 := (hy.cells _ _ (by omega)).trans m0; replace m1 := (hy.cells _ _ (by omega)).trans m1; replace m2 := (hy.cells _ _ (by omega)).trans m2; replace m3 := (hy.cells _ _ (by omega)).trans m3; replace m4 := (hy.cells _ _ (by omega)).trans m4; replace x0 := (hy.cells _ _ (by omega)).trans x0; replace x1 := (hy.cells _ _ (by omega)).trans x1; replace x2 := (hy.cells _ _ (by omega)).trans x2; replace y0 := (hy.cells _ _ (by omega)).trans y0; replace y1 := (hy.cells _ _ (by omega)).trans y1; replace y2 := (hy.cells _ _ (by omega)).trans y2; replace y3 := (hy.cells _ _ (by omega)).trans y3; replace y4 := (hy.cells _ _ (by omega)).trans y4; replace a0 := (hy.cells _ _ (by omega)).trans a0; replace a1 := (hy.cells _ _ (by omega)).trans a1; replace a2 := (hy.cells _ _ (by omega)).trans a2; replace a3 := (hy.cells _ _ (by omega)).trans a3; replace a4 := (hy.cells _ _ (by omega)).trans a4; replace a5 := (hy.cells _ _ (by omega)).trans a5; replace b0 := (hy.cells _ _ (by omega)).trans b0; replace b1 := (hy.cells _ _ (by omega)).trans b1; replace b2 := (hy.cells _ _ (by omega)).trans b2; replace b3 := (hy.cells _ _ (by omega)).trans b3; replace b4 := (hy.cells _ _ (by omega)).trans b4; replace b5 := (hy.cells _ _ (by omega)).trans b5
  have hbU := hb4.trans hy
  replace S1 := Lib.hid (S1''.out.keep hy)
  replace S2 := Lib.hid (S2''.out.keep hy)
  replace S3 := Lib.hid (S3.out.keep hy)
  have t0 : w.heap.size < U.heap.size := by omega
  have t1 : w.heap.size + 1 < U.heap.size := by omega
  have t2 : w.heap.size + 2 < U.heap.size := by omega
  have t2' : w.heap.size + 1 + 1 < U.heap.size := by omega
  have t3 : X1.heap.size < U.heap.size := by omega
  have t4 : X2.heap.size < U.heap.size := by omega
  clear hx3 hx4 hy hb4 hb3 hbZ S1' S2' S1'' S2'' C3 zx1 zy zx2 zz zx3 zx4
  cases ha <;> cases hb0
  case true.true => cases hd
  all_goals
    clear hd
    refine wp_region_uni (S := (fun w' => Bel U w' ∧ (∀ b o, b < U.heap.size → w'.cell? ⟨b, o, none⟩ = U.cell? ⟨b, o, none⟩))) (by kernel_rfl) (by kernel_rfl) keep0 ?_
    repeat (first | (refine wpUni_skip (by rfl) ?_; (try simp only [Act.put, List.setIfInBounds_toArray, List.set_cons_zero, List.set_cons_succ]))
                                                            | (refine wpUni_value (by rfl) (fun w hS => by (try dsimp only at hS); go_simp; first | done | with_reducible rfl) ?_; (try simp only [Act.put, List.setIfInBounds_toArray, List.set_cons_zero, List.set_cons_succ]))
                                                            | (refine wpUni_call (f := 24) (by rfl) (fun w => by go_simp; first | done | with_reducible rfl) (fun w hS => (C4.out w _ _ _ _ _ HM.out (S3.out.keep hS.1)).mono fun e w' ⟨he, hb⟩ => ⟨he, keep1 hS hb⟩) ?_; (try simp only [Act.put, List.setIfInBounds_toArray, List.set_cons_zero, List.set_cons_succ]))
                                                            | (refine wpUni_call (f := 12) (by rfl) (fun w => by go_simp; first | done | with_reducible rfl) (fun w hS => (C7.out w (hbU.trans hS.1)).mono fun e w' ⟨he, hb⟩ => ⟨he, keep1 hS hb⟩) ?_; (try simp only [Act.put, List.setIfInBounds_toArray, List.set_cons_zero, List.set_cons_succ]))
                                                            | (refine wpUni_call (f := 28) (by rfl) (fun w => by go_simp; first | done | with_reducible rfl) (fun w hS => (C5.out w _ _ _ _ _ (hbU.trans hS.1) HA.out (S1.out.keep hS.1)).mono fun e w' ⟨he, hb⟩ => ⟨he, keep1 hS hb⟩) ?_; (try simp only [Act.put, List.setIfInBounds_toArray, List.set_cons_zero, List.set_cons_succ]))
                                                            | (refine wpUni_call (f := 28) (by rfl) (fun w => by go_simp; first | done | with_reducible rfl) (fun w hS => (C6.out w _ _ _ _ _ (hbU.trans hS.1) HB.out (S2.out.keep hS.1)).mono fun e w' ⟨he, hb⟩ => ⟨he, keep1 hS hb⟩) ?_; (try simp only [Act.put, List.setIfInBounds_toArray, List.set_cons_zero, List.set_cons_succ])))
    refine wpUni_nil fun U1 hS => ?_
    have hb9 := hbU.trans hS.1
    clear hS
    go_wp2_with fail
    go_ret
    exact ⟨rfl, hb9⟩
end Go.Proofs.YtpmmbcobjibpeaaGreatDoor
namespace Go.Proofs.YtpmmbcobjibpeaaGreatDoor
set_option linter.unusedSimpArgs false
set_option linter.unusedVariables false
open Go.RowKit Go.Lib Go.Deep

/-! SetsSplit, of numbers or days. -/
theorem usnd_all {any not : Bool} {l : List Tst} (h : usnd any not l = true) : l.length ≤ 8 ∧ ∀ t ∈ l, tsnd t = true := by
  cases any with
  | true =>
    unfold usnd at h
    simp at h
    have : l = [] := by simpa using h.2
    subst this
    exact ⟨by simp, by simp⟩
  | false => exact ⟨(usnd_list h).2.1, (usnd_list h).2.2⟩
theorem tysnd_parts {K sc : Int} {any not : Bool} {l : List Tst} (h : tysnd K sc any not l = true) : knd K = true ∧ (1 ≤ K ∧ K ≤ 4) ∧ usnd any not l = true ∧ (0 ≤ sc ∧ sc ≤ 6) := by
  unfold tysnd at h
  simp only [Bool.and_eq_true, Bool.or_eq_true, decide_eq_true_eq] at h
  obtain ⟨⟨h1, h2⟩, h3⟩ := h
  refine ⟨h1, ?_, h2, by omega⟩
  unfold knd at h1
  simp only [Bool.and_eq_true, decide_eq_true_eq] at h1
  exact h1
theorem inT_parts {K sc : Int} {any not : Bool} {l : List Tst} {v : Val} (h : inT K sc any not l v = true) : vsnd v = true ∧ (v.kind = 0 ∨ v.kind = K ∧ mall any not l v = true ∧ (K = 1 → (unP sc v).2 = true ∧ -999999999999 ≤ (unP sc v).1 ∧ (unP sc v).1 ≤ 999999999999)) := by
  unfold inT inS at h
  simp only [Bool.and_eq_true, Bool.or_eq_true, decide_eq_true_eq, Bool.not_eq_true', decide_eq_false_iff_not] at h
  refine ⟨h.1.2, ?_⟩
  rcases h.2 with h2 | ⟨⟨h2, h3⟩, h4⟩
  · exact .inl h2
  · refine .inr ⟨h2, h3, fun hk => ?_⟩
    rcases h4 with h4 | h4
    · exact absurd hk h4
    · exact ⟨h4.1.1, h4.1.2, h4.2⟩
/-- Where a value is of a type of numbers or days, its unit is exact and lies in the range. -/
theorem inT_unit {K sc : Int} {any not : Bool} {l : List Tst} {v : Val} (hK : K = 1 ∨ K = 4) (h : inT K sc any not l v = true) (hk : v.kind = K) : (unP sc v).2 = true ∧ SMem (allS K).sp (unP sc v).1 := by
  obtain ⟨hv, h0 | ⟨_, _, h1⟩⟩ := inT_parts h
  · omega
  · rcases hK with rfl | rfl
    · have := h1 rfl
      exact ⟨this.1, _, List.mem_singleton.2 rfl, this.2.1, this.2.2⟩
    · have e : unP sc v = (v.num, true) := by unfold unP; rw [if_neg (by omega)]
      rw [e]
      refine ⟨rfl, _, List.mem_singleton.2 rfl, ?_⟩
      unfold vsnd at hv
      rw [if_neg (by omega), if_neg (by omega), if_neg (by omega), if_neg (by omega), if_pos hk] at hv
      simp only [Bool.and_eq_true, decide_eq_true_eq] at hv
      exact hv.2
theorem memH_iff {K sc : Int} {any not any2 not2 : Bool} {l m : List Tst} {v : Val} (hK : K = 1 ∨ K = 4) (h0 : 0 ≤ sc ∧ sc ≤ 6) (hu : usnd any2 not2 m = true) (h : inT K sc any not l v = true) (hk : v.kind = K) :
    MemH K sc any2 not2 m (unP sc v).1 ↔ mall any2 not2 m v = true := by
  have hl := link_num hK h0 (usnd_all hu).2 (inT_parts h).1 hk (inT_unit hK h hk).1
  have hr := (inT_unit hK h hk).2
  unfold MemH mall
  cases any2 with
  | true => simp [hr]
  | false =>
    cases not2 with
    | false => simp only [hr, hl]; simp
    | true => simp only [hr, hl]; simp
/-- Do tests hold of a value of the type, or of null? -/
def holdsV (any not : Bool) (l : List Tst) (v : Val) : Bool := if v.kind = 0 then nulH any not l else mall any not l v
theorem inT_mall {K sc : Int} {any not : Bool} {l : List Tst} {v : Val} (h : inT K sc any not l v = true) (hk : v.kind ≠ 0) : v.kind = K ∧ mall any not l v = true := by
  obtain ⟨_, h0 | ⟨h1, h2, _⟩⟩ := inT_parts h
  · exact absurd h0 hk
  · exact ⟨h1, h2⟩
def PaN (K sc : Int) (any not : Bool) (l : List Tst) (any2 not2 : Bool) (m : List Tst) (a : St) : Prop := ∃ q, a = ⟨K, q, false, [], 0, nulH any2 not2 m⟩ ∧ (∀ s ∈ q, Rng s) ∧ (∀ n, SMem q n ↔ MemH K sc any not l n ∧ MemH K sc any2 not2 m n) ∧ q.length ≤ 100
def PbN (K sc : Int) (any not : Bool) (l : List Tst) (any2 not2 : Bool) (m : List Tst) (a : St) : Prop := ∃ q, a = ⟨K, q, false, [], 0, !nulH any2 not2 m⟩ ∧ (∀ s ∈ q, Rng s) ∧ (∀ n, SMem q n ↔ MemH K sc any not l n ∧ ¬ (MemH K sc any not l n ∧ MemH K sc any2 not2 m n)) ∧ q.length ≤ 200
def PmN (K : Int) (a : St) : Prop := ∃ q, a = ⟨K, q, false, [], 0, false⟩ ∧ (∀ s ∈ q, Rng s) ∧ (∀ n, ¬ SMem q n) ∧ q.length ≤ 300
theorem hasA_num {K sc : Int} {any not any2 not2 : Bool} {l m : List Tst} {a : St} {v : Val} (hK : K = 1 ∨ K = 4) (h0 : 0 ≤ sc ∧ sc ≤ 6) (hu : usnd any not l = true) (hu2 : usnd any2 not2 m = true) (ha : PaN K sc any not l any2 not2 m a) :
    hasT K sc any not l a v = (inT K sc any not l v && holdsV any2 not2 m v) := by
  obtain ⟨q, rfl, _, hm, _⟩ := ha
  unfold hasT
  simp only [decide_true, Bool.true_and]
  cases hi : inT K sc any not l v with
  | false => rfl
  | true =>
    simp only [Bool.true_and]
    unfold hasV holdsV
    by_cases hk : v.kind = 0
    · rw [if_neg (by omega), if_neg (by omega), if_neg (by omega), if_pos hk]
    · obtain ⟨hkK, hml⟩ := inT_mall hi hk
      rw [if_pos (by omega), if_neg hk, Bool.eq_iff_iff, smemB_iff, hm, memH_iff hK h0 hu hi hkK, memH_iff hK h0 hu2 hi hkK]
      simp [hml]
theorem hasB_num {K sc : Int} {any not any2 not2 : Bool} {l m : List Tst} {a : St} {v : Val} (hK : K = 1 ∨ K = 4) (h0 : 0 ≤ sc ∧ sc ≤ 6) (hu : usnd any not l = true) (hu2 : usnd any2 not2 m = true) (ha : PbN K sc any not l any2 not2 m a) :
    hasT K sc any not l a v = (inT K sc any not l v && !holdsV any2 not2 m v) := by
  obtain ⟨q, rfl, _, hm, _⟩ := ha
  unfold hasT
  simp only [decide_true, Bool.true_and]
  cases hi : inT K sc any not l v with
  | false => rfl
  | true =>
    simp only [Bool.true_and]
    unfold hasV holdsV
    by_cases hk : v.kind = 0
    · rw [if_neg (by omega), if_neg (by omega), if_neg (by omega), if_pos hk]
    · obtain ⟨hkK, hml⟩ := inT_mall hi hk
      rw [if_pos (by omega), if_neg hk, Bool.eq_iff_iff, smemB_iff, hm, memH_iff hK h0 hu hi hkK, memH_iff hK h0 hu2 hi hkK]
      simp [hml]
theorem split_in (i h : Bool) : (i && h || i && !h) = i ∧ (i && h && (i && !h)) = false := by cases i <;> cases h <;> exact ⟨rfl, rfl⟩
set_option maxHeartbeats 4000000 in
theorem splitN_any (K sc : Int) (any not : Bool) (l : List Tst) (A : Option Addr) (c : Nat) (any2 not2 : Bool) (m : List Tst) (B : Option Addr) (d : Nat) (v : Val) (w : World) (hK : K = 1 ∨ K = 4) (hs : Tsts w A l) (hm : Tsts w B m) (ht : ∀ t ∈ l, TOk t) (ht2 : ∀ t ∈ m, TOk t) (hv : v.text.size ≤ 9223372036854775807) (hy : tysnd K sc any not l = true) (hu2 : usnd any2 not2 m = true) :
    Calls Tryz.prog 8 #[tyv K sc any not (.slice A l.length c), tsv any2 not2 (.slice B m.length d), v.val] w fun e w' => e = .returned (.bool true) ∧ Bel w w' := by
  obtain ⟨hkn, _, hu, h0⟩ := tysnd_parts hy
  obtain ⟨hl, hsn⟩ := usnd_all hu
  obtain ⟨hml, hsn2⟩ := usnd_all hu2
  have hd := split_in (inT K sc any not l v) (holdsV any2 not2 m v)
  refine splitG_any (PaN K sc any not l any2 not2 m) (PbN K sc any not l any2 not2 m) (PmN K) (inT K sc any not l v && holdsV any2 not2 m v) (inT K sc any not l v && !holdsV any2 not2 m v) K sc any not l A c any2 not2 m B d v w ?_ ?_ ?_ ?_ ?_ ?_ ?_ hd.2
  · intro W hW
    refine (ofN_any K sc any not l A c any2 not2 m B d W hK (hs.keep hW) (by omega) (hm.keep hW) (by omega) ht ht2 hsn hsn2 hy hu2).mono ?_
    rintro e w' ⟨q, A1, c1, A2, c2, rfl, h1, h2, h3, _, h5, h6, h7⟩
    exact ⟨_, A1, c1, A2, c2, rfl, setIn_of h1 h2, h3, q, rfl, h5, h6, by omega⟩
  · rintro W a A1 c1 A2 c2 hW ⟨q, rfl, hr, hq, hql⟩ hin
    refine (otherG_any (fun p => ∃ q, p = ⟨K, q, false, [], 0, true⟩ ∧ (∀ s ∈ q, Rng s) ∧ (∀ n, SMem q n ↔ MemH K sc any not l n) ∧ q.length ≤ 100) (fun _ q => PbN K sc any not l any2 not2 m q) K sc any not l A c q false [] 0 (nulH any2 not2 m) A1 c1 A2 c2 W (hs.keep hW) (by omega) hin ht hy ?_ ?_).mono ?_
    · intro X hX
      refine (fullN_any K sc any not l A c X hK (hs.keep (hW.trans hX)) (by omega) hsn).mono ?_
      rintro e w' ⟨r, h1, _, h3, h4, h5⟩
      exact ⟨_, h1, r, rfl, h3, h4, by omega⟩
    · rintro X s bA bc bA2 bc2 hX ⟨r, rfl, hr2, hr3, hr4⟩ i1 i2
      have hmem : ∀ t : List Sp, (∀ n, SMem t n ↔ SMem r n ∧ ¬ SMem q n) → ∀ n, SMem t n ↔ MemH K sc any not l n ∧ ¬ (MemH K sc any not l n ∧ MemH K sc any2 not2 m n) := fun t h n => by rw [h, hr3, hq]
      rcases hK with rfl | rfl
      · refine (withoutS1_any r false [] 0 true q false [] 0 (nulH any2 not2 m) bA bc bA2 bc2 A1 c1 A2 c2 X i1.1 i2.1 (by omega) (by omega) hr2 hr).mono ?_
        rintro e w' ⟨t, h1, _, h3, h4, h5⟩
        exact ⟨_, h1, t, by simp, h3, hmem t h4, by omega⟩
      · refine (withoutS4_any r false [] 0 true q false [] 0 (nulH any2 not2 m) bA bc bA2 bc2 A1 c1 A2 c2 X i1.1 i2.1 (by omega) (by omega) hr2 hr).mono ?_
        rintro e w' ⟨t, h1, _, h3, h4, h5⟩
        exact ⟨_, h1, t, by simp, h3, hmem t h4, by omega⟩
    · rintro e w' ⟨p, b, B1, d1, B2, d2, rfl, h1, h2, h3, _, h5⟩
      exact ⟨b, B1, d1, B2, d2, rfl, setIn_of h1 h2, h3, h5⟩
  · rintro W a A1 c1 A2 c2 b B1 d1 B2 d2 ⟨q, rfl, hr, hq, hql⟩ i1 ⟨r, rfl, hr2, hr3, hr4⟩ i2
    have hmem : ∀ t : List Sp, (∀ n, SMem t n ↔ SMem q n ∧ SMem r n) → ∀ n, ¬ SMem t n := fun t h n hn => by
      have := (h n).1 hn
      rw [hq, hr3] at this
      exact this.2.2 this.1
    refine (MeetG_any (PmN K) K q false [] 0 (nulH any2 not2 m) r false [] 0 (!nulH any2 not2 m) A1 c1 A2 c2 B1 d1 B2 d2 W hkn ?_).mono ?_
    · intro X hX
      have j1 := i1.keep hX
      have j2 := i2.keep hX
      rcases hK with rfl | rfl
      · refine (meetS1_any q false [] 0 (nulH any2 not2 m) r false [] 0 (!nulH any2 not2 m) A1 c1 A2 c2 B1 d1 B2 d2 X j1.1 j2.1 (by omega) (by omega) hr hr2).mono ?_
        rintro e w' ⟨t, h1, _, h3, h4, h5⟩
        exact ⟨_, h1, t, by simp, h3, hmem t h4, by omega⟩
      · refine (meetS4_any q false [] 0 (nulH any2 not2 m) r false [] 0 (!nulH any2 not2 m) A1 c1 A2 c2 B1 d1 B2 d2 X j1.1 j2.1 (by omega) (by omega) hr hr2).mono ?_
        rintro e w' ⟨t, h1, _, h3, h4, h5⟩
        exact ⟨_, h1, t, by simp, h3, hmem t h4, by omega⟩
    · rintro e w' ⟨p, E1, e1, E2, e2, rfl, h1, h2, h3, h4⟩
      exact ⟨p, E1, e1, E2, e2, rfl, setIn_of h1 h2, h3, h4⟩
  · rintro W p E1 e1 E2 e2 ⟨q, rfl, hr, hq, hql⟩ hin
    refine (emptyN_any K q false E1 e1 E2 e2 W hK hin.1 (by omega) hr).mono ?_
    rintro e w' ⟨b, rfl, h2, h3⟩
    rw [h2.2 ⟨rfl, hq⟩]
    exact ⟨rfl, h3⟩
  · intro W a A1 c1 A2 c2 hW ha hin
    rw [← hasA_num hK h0 hu hu2 ha]
    obtain ⟨q, rfl, hr, hq, hql⟩ := ha
    exact shas_any K sc any not l A c _ A1 c1 A2 c2 v W (hs.keep hW) (by omega) ht hv hin (by simp only; omega) (by simp)
  · intro W a A1 c1 A2 c2 hW ha hin
    rw [← hasB_num hK h0 hu hu2 ha]
    obtain ⟨q, rfl, hr, hq, hql⟩ := ha
    exact shas_any K sc any not l A c _ A1 c1 A2 c2 v W (hs.keep hW) (by omega) ht hv hin (by simp only; omega) (by simp)
  · intro W hW
    rw [hd.1]
    exact tin_any K sc any not l A c v W (hs.keep hW) (by omega) ht hv
end Go.Proofs.YtpmmbcobjibpeaaGreatDoor
namespace Go.Proofs.YtpmmbcobjibpeaaGreatDoor
set_option linter.unusedSimpArgs false
set_option linter.unusedVariables false
open Go.RowKit Go.Lib Go.Deep

/-! SetsSplit, of texts. -/
/-- A set of texts: all or none but some, of good texts; what it has. -/
def PT (al : Bool) (F : ByteArray → Bool) (nu : Bool) (N : Nat) (s : St) : Prop := ∃ ws, s = ⟨2, [], al, ws, 0, nu⟩ ∧ ws.length ≤ N ∧ (∀ x ∈ ws, okw x = true) ∧ ∀ x, okw x = true → hasw al ws x = F x
theorem okw_fits {x : ByteArray} (h : okw x = true) : Fits x := by
  unfold okw at h
  simp only [Bool.and_eq_true, decide_eq_true_eq] at h
  unfold Fits; omega
theorem inl_keptl (p : ByteArray → Bool) (l : List ByteArray) (x : ByteArray) : inl (keptl p l) x = (inl l x && p x) := by
  rw [Bool.eq_iff_iff, inl_iff, keptl_mem, Bool.and_eq_true, inl_iff]
theorem inl_app (l m : List ByteArray) (x : ByteArray) : inl (l ++ m) x = (inl l x || inl m x) := by
  unfold inl; rw [List.any_append]
theorem hasw_meetl (a : Bool) (l : List ByteArray) (b : Bool) (m : List ByteArray) (x : ByteArray) : hasw (a && b) (meetl a l b m) x = (hasw a l x && hasw b m x) := by
  unfold hasw
  cases a <;> cases b
  · rw [meetl3, inl_keptl]; cases inl l x <;> cases inl m x <;> cases okw x <;> rfl
  · rw [meetl3, inl_keptl]; cases inl l x <;> cases inl m x <;> cases okw x <;> rfl
  · rw [meetl2, inl_keptl]; cases inl l x <;> cases inl m x <;> cases okw x <;> rfl
  · rw [meetl1, inl_keptl, inl_app]; cases inl l x <;> cases inl m x <;> cases okw x <;> rfl
theorem meetl_len (a : Bool) (l : List ByteArray) (b : Bool) (m : List ByteArray) : (meetl a l b m).length ≤ l.length + m.length := by
  unfold meetl
  split
  · have := keptl_len okw (l ++ m); rw [List.length_append] at this; exact this
  · split
    · have := keptl_len (fun s => okw s && !inl l s) m; omega
    · have := keptl_len (fun s => okw s && !(inl m s == b)) l; omega
theorem meetl_ok (a : Bool) (l : List ByteArray) (b : Bool) (m : List ByteArray) : ∀ x ∈ meetl a l b m, okw x = true := by
  unfold meetl
  intro x hx
  split at hx
  · exact ((keptl_mem _ _ _).1 hx).2
  · split at hx
    · have := ((keptl_mem _ _ _).1 hx).2; simp only [Bool.and_eq_true] at this; exact this.1
    · have := ((keptl_mem _ _ _).1 hx).2; simp only [Bool.and_eq_true] at this; exact this.1
theorem hasw_other (b : Bool) (m : List ByteArray) (x : ByteArray) (hx : okw x = true) : hasw (!b) (keptl okw m) x = !hasw b m x := by
  unfold hasw
  rw [inl_keptl, hx]
  cases inl m x <;> cases b <;> rfl
set_option maxHeartbeats 1000000 in
theorem meetT_any {al bl : Bool} {F G : ByteArray → Bool} {nu mu : Bool} {N M : Nat} {a b : St} (hN : N ≤ 1000) (hM : M ≤ 1000) (ha : PT al F nu N a) (hb : PT bl G mu M b) (X : World) (aA : Option Addr) (ac : Nat) (aA2 : Option Addr) (ac2 : Nat) (bA : Option Addr) (bc : Nat) (bA2 : Option Addr) (bc2 : Nat) (i1 : SetIn X aA ac aA2 ac2 a) (i2 : SetIn X bA bc bA2 bc2 b) :
    Calls Tryz.prog 35 #[a.val aA ac aA2 ac2, b.val bA bc bA2 bc2] X fun e w' => ∃ q, SetOut X q e w' ∧ PT (al && bl) (fun x => F x && G x) (nu && mu) (N + M) q := by
  obtain ⟨ws, rfl, h1, h2, h3⟩ := ha
  obtain ⟨ms, rfl, g1, g2, g3⟩ := hb
  refine (meetS2_any [] al ws 0 nu [] bl ms 0 mu aA ac aA2 ac2 bA bc bA2 bc2 X i1.2.1 i2.2.1 i1.2.2 i2.2.2 (by omega) (by omega) (fun _ _ => by omega) (fun x hx => okw_fits (h2 x hx)) (fun x hx => okw_fits (g2 x hx))).mono ?_
  intro e w' h
  exact ⟨_, h, _, rfl, Nat.le_trans (meetl_len ..) (by omega), meetl_ok _ _ _ _, fun x hx => by rw [hasw_meetl, h3 x hx, g3 x hx]⟩
set_option maxHeartbeats 1000000 in
theorem withoutT_any {al bl : Bool} {F G : ByteArray → Bool} {nu mu : Bool} {N M : Nat} {a b : St} (hN : N ≤ 1000) (hM : M ≤ 1000) (ha : PT al F nu N a) (hb : PT bl G mu M b) (X : World) (aA : Option Addr) (ac : Nat) (aA2 : Option Addr) (ac2 : Nat) (bA : Option Addr) (bc : Nat) (bA2 : Option Addr) (bc2 : Nat) (i1 : SetIn X aA ac aA2 ac2 a) (i2 : SetIn X bA bc bA2 bc2 b) :
    Calls Tryz.prog 49 #[a.val aA ac aA2 ac2, b.val bA bc bA2 bc2] X fun e w' => ∃ q, SetOut X q e w' ∧ PT (al && !bl) (fun x => F x && !G x) (nu && !mu) (N + M) q := by
  obtain ⟨ws, rfl, h1, h2, h3⟩ := ha
  obtain ⟨ms, rfl, g1, g2, g3⟩ := hb
  refine (withoutS2_any [] al ws 0 nu [] bl ms 0 mu aA ac aA2 ac2 bA bc bA2 bc2 X i1.2.1 i2.2.1 i1.2.2 i2.2.2 (by omega) (by omega) (fun x hx => okw_fits (h2 x hx)) (fun x hx => okw_fits (g2 x hx))).mono ?_
  intro e w' h
  have := keptl_len okw ms
  exact ⟨_, h, _, rfl, Nat.le_trans (meetl_len ..) (by omega), meetl_ok _ _ _ _, fun x hx => by rw [hasw_meetl, h3 x hx, hasw_other _ _ _ hx, g3 x hx]⟩
/-- Of which texts tests hold. -/
def HT (any not : Bool) (l : List Tst) (x : ByteArray) : Bool := any || (not != inl (txk l) x)
theorem PT.eq {al al' : Bool} {F G : ByteArray → Bool} {nu nu' : Bool} {N M : Nat} {s : St} (h : PT al F nu N s) (ha : al = al') (hn : nu = nu') (hf : ∀ x, okw x = true → F x = G x) (hN : N ≤ M) : PT al' G nu' M s := by
  subst ha; subst hn
  obtain ⟨ws, h1, h2, h3, h4⟩ := h
  exact ⟨ws, h1, Nat.le_trans h2 hN, h3, fun x hx => (h4 x hx).trans (hf x hx)⟩
theorem allT : PT true (fun _ => true) true 0 (allS 2) := ⟨[], rfl, Nat.le_refl _, fun x hx => absurd hx (List.not_mem_nil), fun x hx => by unfold hasw; rw [hx]; rfl⟩
theorem someT (m : List Tst) : PT false (inl (txk m)) (nulk m) m.length ⟨2, [], false, keptl okw (txk m), 0, nulk m⟩ :=
  ⟨_, rfl, Nat.le_trans (keptl_len ..) (txk_len m), fun x hx => ((keptl_mem _ _ _).1 hx).2, fun x hx => by unfold hasw; rw [inl_keptl, hx]; cases inl (txk m) x <;> rfl⟩
set_option maxHeartbeats 1000000 in
theorem holdT_any (sc : Int) (any0 not0 : Bool) (A0 : Option Addr) (n0 c0 : Nat) (any not : Bool) (m : List Tst) (B : Option Addr) (d : Nat) (w : World) (hm : Tsts w B m) (hml : m.length ≤ 100) (ht : ∀ t ∈ m, TOk t) :
    Calls Tryz.prog 37 #[tyv 2 sc any0 not0 (.slice A0 n0 c0), tsv any not (.slice B m.length d)] w fun e w' => ∃ q, SetOut w q e w' ∧ PT (any || not) (HT any not m) (nulH any not m) 100 q := by
  cases any with
  | true =>
    refine (holdGA_any 2 sc any0 not0 A0 n0 c0 not m.length B d w (by omega) (by omega)).mono fun e w' h => ⟨_, h, ?_⟩
    exact allT.eq rfl (by unfold nulH; simp) (fun x hx => rfl) (by omega)
  | false =>
    have H2 : ∀ W, Bel w W → Calls Tryz.prog 45 #[tyv 2 sc any0 not0 (.slice A0 n0 c0), .slice B m.length d] W fun e w' => ∃ s, SetOut W s e w' ∧ PT false (inl (txk m)) (nulk m) 100 s := fun W hW =>
      (someT_any sc any0 not0 A0 n0 c0 m B d W (hm.keep hW) (by omega) ht).mono fun e w' h => ⟨_, h, (someT m).eq rfl rfl (fun _ _ => rfl) hml⟩
    cases not with
    | false =>
      refine (holdGM_any _ (fun _ q => PT (false || false) (HT false false m) (nulH false false m) 100 q) 2 sc any0 not0 A0 n0 c0 m B d w (by omega) (by omega) H2 ?_).mono fun e w' ⟨s, q, h1, _, h2⟩ => ⟨q, h1, h2⟩
      intro X s bA bc bA2 bc2 cA cc cA2 cc2 hs i1 i2
      refine (meetT_any (by omega) (by omega) allT hs X bA bc bA2 bc2 cA cc cA2 cc2 i1 i2).mono fun e w' ⟨q, h1, h2⟩ => ⟨q, h1, h2.eq rfl ?_ ?_ (by omega)⟩
      · unfold nulH; cases nulk m <;> rfl
      · intro x hx; unfold HT; cases inl (txk m) x <;> rfl
    | true =>
      refine (holdGW_any _ (fun _ q => PT (false || true) (HT false true m) (nulH false true m) 100 q) 2 sc any0 not0 A0 n0 c0 m B d w (by omega) (by omega) H2 ?_).mono fun e w' ⟨s, q, h1, _, h2⟩ => ⟨q, h1, h2⟩
      intro X s bA bc bA2 bc2 cA cc cA2 cc2 hs i1 i2
      refine (withoutT_any (by omega) (by omega) allT hs X bA bc bA2 bc2 cA cc cA2 cc2 i1 i2).mono fun e w' ⟨q, h1, h2⟩ => ⟨q, h1, h2.eq rfl ?_ ?_ (by omega)⟩
      · unfold nulH; cases nulk m <;> rfl
      · intro x hx; unfold HT; cases inl (txk m) x <;> rfl
theorem fullT_any (sc : Int) (any not : Bool) (l : List Tst) (A : Option Addr) (c : Nat) (w : World) (hm : Tsts w A l) (hml : l.length ≤ 100) (ht : ∀ t ∈ l, TOk t) :
    Calls Tryz.prog 36 #[tyv 2 sc any not (.slice A l.length c)] w fun e w' => ∃ q, SetOut w q e w' ∧ PT (any || not) (HT any not l) true 100 q :=
  (fullG_any _ 2 sc any not l A c w fun W hW => holdT_any sc any not A l.length c any not l A c W (hm.keep hW) hml ht).mono fun e w' ⟨q, h1, h2⟩ => ⟨_, h1, by
    obtain ⟨ws, rfl, g⟩ := h2
    exact ⟨ws, rfl, g⟩⟩
/-- Of texts: the text of a value is one of those for which tests hold just if they hold of the value. -/
theorem link_text {any not : Bool} {l : List Tst} {v : Val} (hu : usnd any not l = true) (hv : vsnd v = true) (hk : v.kind = 2) : okw v.text = true ∧ HT any not l v.text = mall any not l v := by
  have hsn := (usnd_all hu).2
  have hok : ∀ {u : Val}, vsnd u = true → u.kind = 2 → okw u.text = true ∧ u = ⟨2, 0, 0, u.text, 0⟩ := by
    intro u hu2 hk2
    obtain ⟨k, n, s, t, m⟩ := u
    simp only at hk2
    subst hk2
    rw [vsnd2, Bool.and_eq_true, veq_iff] at hu2
    exact ⟨hu2.2, hu2.1⟩
  refine ⟨(hok hv hk).1, ?_⟩
  have key : inl (txk l) v.text = l.any fun t => mone t v := by
    rw [Bool.eq_iff_iff, inl_iff, List.any_eq_true]
    unfold txk
    have one : ∀ t ∈ l, t.low.kind = 2 → (mone t v = true ↔ t.low.text = v.text) := fun t ht h2 => by
      have hts := hsn t ht
      have hlo := tsnd_low hts
      have h1 : t.kind = 1 := by
        unfold tsnd at hts
        by_cases h1 : t.kind = 1
        · exact h1
        · rw [if_neg h1] at hts
          split at hts
          · rw [h2] at hts; simp [ordk] at hts
          · split at hts
            · rw [h2] at hts; simp [ordk] at hts
            · cases hts
      unfold mone
      rw [if_neg (by omega), if_neg (by omega), if_neg (by omega), if_neg (by omega), if_neg (by omega), if_neg (by omega), decide_eq_true_eq, vcmp_zero hv hlo]
      constructor
      · intro h; rw [h]
      · intro h; rw [(hok hv hk).2, (hok hlo h2).2, h]
    constructor
    · intro h
      obtain ⟨t, ht, he⟩ := List.mem_map.1 h
      rw [List.mem_filter, decide_eq_true_eq] at ht
      exact ⟨t, ht.1, (one t ht.1 ht.2).2 he⟩
    · rintro ⟨t, ht, hmo⟩
      have h2 : t.low.kind = 2 := (mone_kind hmo).symm.trans hk
      exact List.mem_map.2 ⟨t, List.mem_filter.2 ⟨ht, by simpa using h2⟩, (one t ht h2).1 hmo⟩
  unfold HT mall
  rw [key]
  cases any <;> simp
theorem has_text {K sc : Int} {any not : Bool} {l : List Tst} {al : Bool} {F : ByteArray → Bool} {nu : Bool} {N : Nat} {a : St} {v : Val} (ha : PT al F nu N a) :
    hasT 2 sc any not l a v = (inT 2 sc any not l v && if v.kind = 0 then nu else F v.text) := by
  obtain ⟨ws, rfl, _, _, hF⟩ := ha
  unfold hasT
  simp only [decide_true, Bool.true_and]
  cases hi : inT 2 sc any not l v with
  | false => rfl
  | true =>
    simp only [Bool.true_and]
    unfold hasV
    by_cases hk : v.kind = 0
    · rw [if_neg (by omega), if_neg (by omega), if_neg (by omega), if_pos hk]
    · obtain ⟨hkK, hml⟩ := inT_mall hi hk
      have hok : okw v.text = true := by
        have hv := (inT_parts hi).1
        obtain ⟨k, n, s, t, m⟩ := v
        simp only at hkK
        subst hkK
        rw [vsnd2, Bool.and_eq_true] at hv
        exact hv.2
      rw [if_neg (by omega), if_pos hkK, if_neg hk]
      exact hF _ hok
set_option maxHeartbeats 4000000 in
theorem splitT_any (sc : Int) (any not : Bool) (l : List Tst) (A : Option Addr) (c : Nat) (any2 not2 : Bool) (m : List Tst) (B : Option Addr) (d : Nat) (v : Val) (w : World) (hs : Tsts w A l) (hm : Tsts w B m) (ht : ∀ t ∈ l, TOk t) (ht2 : ∀ t ∈ m, TOk t) (hv : v.text.size ≤ 9223372036854775807) (hy : tysnd 2 sc any not l = true) (hu2 : usnd any2 not2 m = true) :
    Calls Tryz.prog 8 #[tyv 2 sc any not (.slice A l.length c), tsv any2 not2 (.slice B m.length d), v.val] w fun e w' => e = .returned (.bool true) ∧ Bel w w' := by
  obtain ⟨hkn, _, hu, h0⟩ := tysnd_parts hy
  obtain ⟨hl, hsn⟩ := usnd_all hu
  obtain ⟨hml, hsn2⟩ := usnd_all hu2
  have hd := split_in (inT 2 sc any not l v) (holdsV any2 not2 m v)
  have hA : ∀ a, PT ((any || not) && (any2 || not2)) (fun x => HT any not l x && HT any2 not2 m x) (true && nulH any2 not2 m) 200 a → hasT 2 sc any not l a v = (inT 2 sc any not l v && holdsV any2 not2 m v) := fun a ha => by
    rw [has_text (K := 2) ha]
    cases hi : inT 2 sc any not l v with
    | false => rfl
    | true =>
      simp only [Bool.true_and]
      unfold holdsV
      by_cases hk : v.kind = 0
      · rw [if_pos hk, if_pos hk]
      · obtain ⟨hkK, hml⟩ := inT_mall hi hk
        rw [if_neg hk, if_neg hk, (link_text hu (inT_parts hi).1 hkK).2, (link_text hu2 (inT_parts hi).1 hkK).2, hml, Bool.true_and]
  have hB : ∀ a, PT ((any || not) && !((any || not) && (any2 || not2))) (fun x => HT any not l x && !(HT any not l x && HT any2 not2 m x)) (true && !(true && nulH any2 not2 m)) 300 a → hasT 2 sc any not l a v = (inT 2 sc any not l v && !holdsV any2 not2 m v) := fun a ha => by
    rw [has_text (K := 2) ha]
    cases hi : inT 2 sc any not l v with
    | false => rfl
    | true =>
      simp only [Bool.true_and]
      unfold holdsV
      by_cases hk : v.kind = 0
      · rw [if_pos hk, if_pos hk]
      · obtain ⟨hkK, hml⟩ := inT_mall hi hk
        rw [if_neg hk, if_neg hk, (link_text hu (inT_parts hi).1 hkK).2, (link_text hu2 (inT_parts hi).1 hkK).2, hml, Bool.true_and, Bool.true_and]
  refine splitG_any (PT ((any || not) && (any2 || not2)) (fun x => HT any not l x && HT any2 not2 m x) (true && nulH any2 not2 m) 200) (PT ((any || not) && !((any || not) && (any2 || not2))) (fun x => HT any not l x && !(HT any not l x && HT any2 not2 m x)) (true && !(true && nulH any2 not2 m)) 300) (PT false (fun _ => false) false 500) (inT 2 sc any not l v && holdsV any2 not2 m v) (inT 2 sc any not l v && !holdsV any2 not2 m v) 2 sc any not l A c any2 not2 m B d v w ?_ ?_ ?_ ?_ ?_ ?_ ?_ hd.2
  · intro W hW
    refine (ofG_any _ _ (fun _ _ q => PT ((any || not) && (any2 || not2)) (fun x => HT any not l x && HT any2 not2 m x) (true && nulH any2 not2 m) 200 q) 2 sc any not l A c any2 not2 m B d W (hs.keep hW) (by omega) (hm.keep hW) (by omega) ht ht2 hy hu2 (fun X hX => fullT_any sc any not l A c X (hs.keep (hW.trans hX)) (by omega) ht) (fun X hX => holdT_any sc any not A l.length c any2 not2 m B d X (hm.keep (hW.trans hX)) (by omega) ht2) ?_).mono ?_
    · intro X s t bA bc bA2 bc2 cA cc cA2 cc2 p1 p2 i1 i2
      exact (meetT_any (by omega) (by omega) p1 p2 X bA bc bA2 bc2 cA cc cA2 cc2 i1 i2).mono fun e w' ⟨q, h1, h2⟩ => ⟨q, h1, h2.eq rfl rfl (fun _ _ => rfl) (by omega)⟩
    · rintro e w' ⟨_, _, q, A1, c1, A2, c2, rfl, h1, h2, h3, _, _, h4⟩
      exact ⟨q, A1, c1, A2, c2, rfl, setIn_of h1 h2, h3, h4⟩
  · rintro W a A1 c1 A2 c2 hW ha hin
    have ha' := ha
    obtain ⟨ws, rfl, _⟩ := ha
    refine (otherG_any _ (fun _ q => PT ((any || not) && !((any || not) && (any2 || not2))) (fun x => HT any not l x && !(HT any not l x && HT any2 not2 m x)) (true && !(true && nulH any2 not2 m)) 300 q) 2 sc any not l A c [] _ ws 0 _ A1 c1 A2 c2 W (hs.keep hW) (by omega) hin ht hy (fun X hX => fullT_any sc any not l A c X (hs.keep (hW.trans hX)) (by omega) ht) ?_).mono ?_
    · rintro X s bA bc bA2 bc2 hX p1 i1 i2
      exact (withoutT_any (by omega) (by omega) p1 ha' X bA bc bA2 bc2 A1 c1 A2 c2 i1 i2).mono fun e w' ⟨q, h1, h2⟩ => ⟨q, h1, h2.eq rfl rfl (fun _ _ => rfl) (by omega)⟩
    · rintro e w' ⟨p, b, B1, d1, B2, d2, rfl, h1, h2, h3, _, h5⟩
      exact ⟨b, B1, d1, B2, d2, rfl, setIn_of h1 h2, h3, h5⟩
  · rintro W a A1 c1 A2 c2 b B1 d1 B2 d2 ha i1 hb i2
    have ha' := ha
    have hb' := hb
    obtain ⟨ws, rfl, _⟩ := ha
    obtain ⟨ms, rfl, _⟩ := hb
    refine (MeetG_any (PT false (fun _ => false) false 500) 2 [] _ ws 0 _ [] _ ms 0 _ A1 c1 A2 c2 B1 d1 B2 d2 W hkn ?_).mono ?_
    · intro X hX
      refine (meetT_any (by omega) (by omega) ha' hb' X A1 c1 A2 c2 B1 d1 B2 d2 (i1.keep hX) (i2.keep hX)).mono fun e w' ⟨q, h1, h2⟩ => ⟨q, h1, h2.eq ?_ ?_ ?_ (by omega)⟩
      · cases any <;> cases not <;> cases any2 <;> cases not2 <;> rfl
      · cases nulH any2 not2 m <;> rfl
      · intro x hx
        cases HT any not l x <;> cases HT any2 not2 m x <;> rfl
    · rintro e w' ⟨p, E1, e1, E2, e2, rfl, h1, h2, h3, h4⟩
      exact ⟨p, E1, e1, E2, e2, rfl, setIn_of h1 h2, h3, h4⟩
  · rintro W p E1 e1 E2 e2 ⟨ws, rfl, h1, h2, h3⟩ hin
    refine (emptyT_any [] false ws 0 false E1 e1 E2 e2 W hin.2.1 (by omega) (fun x hx => okw_fits (h2 x hx))).mono ?_
    rintro e w' ⟨rfl, hb⟩
    have : emptyw false ws = true := by
      cases ws with
      | nil => rfl
      | cons x t =>
        have hx := h2 x (List.mem_cons_self ..)
        have := h3 x hx
        unfold hasw inl at this
        rw [hx] at this
        simp at this
    rw [this]
    exact ⟨rfl, hb⟩
  · intro W a A1 c1 A2 c2 hW ha hin
    rw [← hA a ha]
    obtain ⟨ws, rfl, g1, _⟩ := ha
    exact shas_any 2 sc any not l A c _ A1 c1 A2 c2 v W (hs.keep hW) (by omega) ht hv hin (by simp) (by simp only; omega)
  · intro W a A1 c1 A2 c2 hW ha hin
    rw [← hB a ha]
    obtain ⟨ws, rfl, g1, _⟩ := ha
    exact shas_any 2 sc any not l A c _ A1 c1 A2 c2 v W (hs.keep hW) (by omega) ht hv hin (by simp) (by simp only; omega)
  · intro W hW
    rw [hd.1]
    exact tin_any 2 sc any not l A c v W (hs.keep hW) (by omega) ht hv
end Go.Proofs.YtpmmbcobjibpeaaGreatDoor
namespace Go.Proofs.YtpmmbcobjibpeaaGreatDoor
set_option linter.unusedSimpArgs false
set_option linter.unusedVariables false
open Go.RowKit Go.Lib Go.Deep

/-! SetsSplit, of truths; and whole. -/
/-- A set of truths: whether it has false, true, null. -/
def PB (x y : Bool) (nu : Bool) (s : St) : Prop := s = ⟨3, [], false, [], bitsOf x y, nu⟩
theorem bits_meet (x y z u : Bool) : bits BinOp.and IntKind.i64 (bits BinOp.and IntKind.i64 (bitsOf x y) (bitsOf z u)) 3 = bitsOf (x && z) (y && u) := by
  cases x <;> cases y <;> cases z <;> cases u <;> decide +kernel
theorem bits_without (x y z u : Bool) : bits BinOp.and IntKind.i64 (bits BinOp.andNot IntKind.i64 (bitsOf x y) (bitsOf z u)) 3 = bitsOf (x && !z) (y && !u) := by
  cases x <;> cases y <;> cases z <;> cases u <;> decide +kernel
theorem bits_has (x y : Bool) (v : Val) : (!(bits BinOp.and IntKind.i64 (bitsOf x y) (bitV v) == 0)) = if v.num = 0 then x else y := by
  unfold bitV
  by_cases h : v.num = 0
  · rw [if_pos h, if_pos h]; cases x <;> cases y <;> decide +kernel
  · rw [if_neg h, if_neg h]; cases x <;> cases y <;> decide +kernel
theorem meetB_any {x y nu z u mu : Bool} {a b : St} (ha : PB x y nu a) (hb : PB z u mu b) (X : World) (aA : Option Addr) (ac : Nat) (aA2 : Option Addr) (ac2 : Nat) (bA : Option Addr) (bc : Nat) (bA2 : Option Addr) (bc2 : Nat) :
    Calls Tryz.prog 35 #[a.val aA ac aA2 ac2, b.val bA bc bA2 bc2] X fun e w' => ∃ q, SetOut X q e w' ∧ PB (x && z) (y && u) (nu && mu) q := by
  unfold PB at ha hb
  subst ha; subst hb
  refine (meetS3_any [] false [] _ nu [] false [] _ mu aA ac aA2 ac2 bA bc bA2 bc2 X).mono ?_
  intro e w' h
  rw [bits_meet] at h
  exact ⟨_, h, rfl⟩
theorem withoutB_any {x y nu z u mu : Bool} {a b : St} (ha : PB x y nu a) (hb : PB z u mu b) (X : World) (aA : Option Addr) (ac : Nat) (aA2 : Option Addr) (ac2 : Nat) (bA : Option Addr) (bc : Nat) (bA2 : Option Addr) (bc2 : Nat) :
    Calls Tryz.prog 49 #[a.val aA ac aA2 ac2, b.val bA bc bA2 bc2] X fun e w' => ∃ q, SetOut X q e w' ∧ PB (x && !z) (y && !u) (nu && !mu) q := by
  unfold PB at ha hb
  subst ha; subst hb
  refine (withoutS3_any [] false [] _ nu [] false [] _ mu aA ac aA2 ac2 bA bc bA2 bc2 X).mono ?_
  intro e w' h
  rw [bits_without] at h
  exact ⟨_, h, rfl⟩
/-- Of which truths tests hold. -/
def HB0 (any not : Bool) (l : List Tst) : Bool := any || (not != b0k l)
def HB1 (any not : Bool) (l : List Tst) : Bool := any || (not != b1k l)
theorem PB.eq {x y nu x' y' nu' : Bool} {s : St} (h : PB x y nu s) (h1 : x = x') (h2 : y = y') (h3 : nu = nu') : PB x' y' nu' s := by
  subst h1; subst h2; subst h3; exact h
theorem allB : PB true true true (allS 3) := rfl
set_option maxHeartbeats 1000000 in
theorem holdB_any (sc : Int) (any0 not0 : Bool) (A0 : Option Addr) (n0 c0 : Nat) (any not : Bool) (m : List Tst) (B : Option Addr) (d : Nat) (w : World) (hm : Tsts w B m) (hml : m.length ≤ 100) (ht : ∀ t ∈ m, tsnd t = true) :
    Calls Tryz.prog 37 #[tyv 3 sc any0 not0 (.slice A0 n0 c0), tsv any not (.slice B m.length d)] w fun e w' => ∃ q, SetOut w q e w' ∧ PB (HB0 any not m) (HB1 any not m) (nulH any not m) q := by
  cases any with
  | true =>
    refine (holdGA_any 3 sc any0 not0 A0 n0 c0 not m.length B d w (by omega) (by omega)).mono fun e w' h => ⟨_, h, ?_⟩
    exact allB.eq rfl rfl (by unfold nulH; simp)
  | false =>
    have H2 : ∀ W, Bel w W → Calls Tryz.prog 45 #[tyv 3 sc any0 not0 (.slice A0 n0 c0), .slice B m.length d] W fun e w' => ∃ s, SetOut W s e w' ∧ PB (b0k m) (b1k m) (nulk m) s := fun W hW =>
      (someB_any sc any0 not0 A0 n0 c0 m B d W (hm.keep hW) (by omega) ht).mono fun e w' h => ⟨_, h, rfl⟩
    cases not with
    | false =>
      refine (holdGM_any _ (fun _ q => PB (HB0 false false m) (HB1 false false m) (nulH false false m) q) 3 sc any0 not0 A0 n0 c0 m B d w (by omega) (by omega) H2 ?_).mono fun e w' ⟨s, q, h1, _, h2⟩ => ⟨q, h1, h2⟩
      intro X s bA bc bA2 bc2 cA cc cA2 cc2 hs i1 i2
      refine (meetB_any allB hs X bA bc bA2 bc2 cA cc cA2 cc2).mono fun e w' ⟨q, h1, h2⟩ => ⟨q, h1, h2.eq ?_ ?_ ?_⟩
      · unfold HB0; cases b0k m <;> rfl
      · unfold HB1; cases b1k m <;> rfl
      · unfold nulH; cases nulk m <;> rfl
    | true =>
      refine (holdGW_any _ (fun _ q => PB (HB0 false true m) (HB1 false true m) (nulH false true m) q) 3 sc any0 not0 A0 n0 c0 m B d w (by omega) (by omega) H2 ?_).mono fun e w' ⟨s, q, h1, _, h2⟩ => ⟨q, h1, h2⟩
      intro X s bA bc bA2 bc2 cA cc cA2 cc2 hs i1 i2
      refine (withoutB_any allB hs X bA bc bA2 bc2 cA cc cA2 cc2).mono fun e w' ⟨q, h1, h2⟩ => ⟨q, h1, h2.eq ?_ ?_ ?_⟩
      · unfold HB0; cases b0k m <;> rfl
      · unfold HB1; cases b1k m <;> rfl
      · unfold nulH; cases nulk m <;> rfl
theorem fullB_any (sc : Int) (any not : Bool) (l : List Tst) (A : Option Addr) (c : Nat) (w : World) (hm : Tsts w A l) (hml : l.length ≤ 100) (ht : ∀ t ∈ l, tsnd t = true) :
    Calls Tryz.prog 36 #[tyv 3 sc any not (.slice A l.length c)] w fun e w' => ∃ q, SetOut w q e w' ∧ PB (HB0 any not l) (HB1 any not l) true q :=
  (fullG_any _ 3 sc any not l A c w fun W hW => holdB_any sc any not A l.length c any not l A c W (hm.keep hW) hml ht).mono fun e w' ⟨q, h1, h2⟩ => ⟨_, h1, by
    unfold PB at h2
    subst h2
    rfl⟩
theorem vsnd_bool {u : Val} (h : vsnd u = true) (hk : u.kind = 3) : u = ⟨3, 0, 0, ⟨#[]⟩, u.num⟩ ∧ (u.num = 0 ∨ u.num = 1) := by
  obtain ⟨k, n, s, t, m⟩ := u
  simp only at hk
  subst hk
  rw [vsnd3, Bool.and_eq_true, veq_iff, Bool.or_eq_true, decide_eq_true_eq, decide_eq_true_eq] at h
  exact h
/-- Of truths: a value is one of those for which tests hold just if they hold of it. -/
theorem link_bool {any not : Bool} {l : List Tst} {v : Val} (hu : usnd any not l = true) (hv : vsnd v = true) (hk : v.kind = 3) : (if v.num = 0 then HB0 any not l else HB1 any not l) = mall any not l v := by
  have hsn := (usnd_all hu).2
  have one : ∀ t ∈ l, t.low.kind = 3 → (mone t v = true ↔ t.low.num = v.num) := fun t ht h2 => by
    have hts := hsn t ht
    have hlo := tsnd_low hts
    have h1 : t.kind = 1 := by
      unfold tsnd at hts
      by_cases h1 : t.kind = 1
      · exact h1
      · rw [if_neg h1] at hts
        split at hts
        · rw [h2] at hts; simp [ordk] at hts
        · split at hts
          · rw [h2] at hts; simp [ordk] at hts
          · cases hts
    unfold mone
    rw [if_neg (by omega), if_neg (by omega), if_neg (by omega), if_neg (by omega), if_neg (by omega), if_neg (by omega), decide_eq_true_eq, vcmp_zero hv hlo]
    constructor
    · intro h; rw [h]
    · intro h; rw [(vsnd_bool hv hk).1, (vsnd_bool hlo h2).1, h]
  have key : (if v.num = 0 then b0k l else b1k l) = l.any fun t => mone t v := by
    have hn := (vsnd_bool hv hk).2
    unfold b0k b1k
    by_cases h0 : v.num = 0
    · rw [if_pos h0, Bool.eq_iff_iff, List.any_eq_true, List.any_eq_true]
      constructor
      · rintro ⟨t, ht, h⟩
        simp only [Bool.and_eq_true, decide_eq_true_eq] at h
        exact ⟨t, ht, (one t ht h.1).2 (by omega)⟩
      · rintro ⟨t, ht, h⟩
        have h2 : t.low.kind = 3 := (mone_kind h).symm.trans hk
        exact ⟨t, ht, by simp only [Bool.and_eq_true, decide_eq_true_eq]; exact ⟨h2, by have := (one t ht h2).1 h; omega⟩⟩
    · rw [if_neg h0, Bool.eq_iff_iff, List.any_eq_true, List.any_eq_true]
      constructor
      · rintro ⟨t, ht, h⟩
        simp only [Bool.and_eq_true, decide_eq_true_eq, Bool.not_eq_true', decide_eq_false_iff_not] at h
        have := (vsnd_bool (tsnd_low (hsn t ht)) h.1).2
        exact ⟨t, ht, (one t ht h.1).2 (by omega)⟩
      · rintro ⟨t, ht, h⟩
        have h2 : t.low.kind = 3 := (mone_kind h).symm.trans hk
        exact ⟨t, ht, by simp only [Bool.and_eq_true, decide_eq_true_eq, Bool.not_eq_true', decide_eq_false_iff_not]; exact ⟨h2, by have := (one t ht h2).1 h; omega⟩⟩
  unfold HB0 HB1 mall
  rw [← key]
  cases any <;> by_cases h0 : v.num = 0 <;> simp [h0]
theorem has_bool {sc : Int} {any not : Bool} {l : List Tst} {x y nu : Bool} {a : St} {v : Val} (ha : PB x y nu a) :
    hasT 3 sc any not l a v = (inT 3 sc any not l v && if v.kind = 0 then nu else if v.num = 0 then x else y) := by
  unfold PB at ha
  subst ha
  unfold hasT
  simp only [decide_true, Bool.true_and]
  cases hi : inT 3 sc any not l v with
  | false => rfl
  | true =>
    simp only [Bool.true_and]
    unfold hasV
    by_cases hk : v.kind = 0
    · rw [if_neg (by omega), if_neg (by omega), if_neg (by omega), if_pos hk]
    · obtain ⟨hkK, hml⟩ := inT_mall hi hk
      rw [if_neg (by omega), if_neg (by omega), if_pos hkK, if_neg hk]
      exact bits_has _ _ _
set_option maxHeartbeats 4000000 in
theorem splitB_any (sc : Int) (any not : Bool) (l : List Tst) (A : Option Addr) (c : Nat) (any2 not2 : Bool) (m : List Tst) (B : Option Addr) (d : Nat) (v : Val) (w : World) (hs : Tsts w A l) (hm : Tsts w B m) (ht : ∀ t ∈ l, TOk t) (ht2 : ∀ t ∈ m, TOk t) (hv : v.text.size ≤ 9223372036854775807) (hy : tysnd 3 sc any not l = true) (hu2 : usnd any2 not2 m = true) :
    Calls Tryz.prog 8 #[tyv 3 sc any not (.slice A l.length c), tsv any2 not2 (.slice B m.length d), v.val] w fun e w' => e = .returned (.bool true) ∧ Bel w w' := by
  obtain ⟨hkn, _, hu, h0⟩ := tysnd_parts hy
  obtain ⟨hl, hsn⟩ := usnd_all hu
  obtain ⟨hml, hsn2⟩ := usnd_all hu2
  have hd := split_in (inT 3 sc any not l v) (holdsV any2 not2 m v)
  have hA : ∀ a, PB (HB0 any not l && HB0 any2 not2 m) (HB1 any not l && HB1 any2 not2 m) (true && nulH any2 not2 m) a → hasT 3 sc any not l a v = (inT 3 sc any not l v && holdsV any2 not2 m v) := fun a ha => by
    rw [has_bool ha]
    cases hi : inT 3 sc any not l v with
    | false => rfl
    | true =>
      simp only [Bool.true_and]
      unfold holdsV
      by_cases hk : v.kind = 0
      · rw [if_pos hk, if_pos hk]
      · obtain ⟨hkK, hml⟩ := inT_mall hi hk
        have k1 := link_bool hu (inT_parts hi).1 hkK
        have k2 := link_bool hu2 (inT_parts hi).1 hkK
        rw [if_neg hk, if_neg hk, ← k2]
        rw [hml] at k1
        by_cases hn : v.num = 0
        · rw [if_pos hn] at k1 ⊢; rw [if_pos hn, k1, Bool.true_and]
        · rw [if_neg hn] at k1 ⊢; rw [if_neg hn, k1, Bool.true_and]
  have hB : ∀ a, PB (HB0 any not l && !(HB0 any not l && HB0 any2 not2 m)) (HB1 any not l && !(HB1 any not l && HB1 any2 not2 m)) (true && !(true && nulH any2 not2 m)) a → hasT 3 sc any not l a v = (inT 3 sc any not l v && !holdsV any2 not2 m v) := fun a ha => by
    rw [has_bool ha]
    cases hi : inT 3 sc any not l v with
    | false => rfl
    | true =>
      simp only [Bool.true_and]
      unfold holdsV
      by_cases hk : v.kind = 0
      · rw [if_pos hk, if_pos hk]
      · obtain ⟨hkK, hml⟩ := inT_mall hi hk
        have k1 := link_bool hu (inT_parts hi).1 hkK
        have k2 := link_bool hu2 (inT_parts hi).1 hkK
        rw [if_neg hk, if_neg hk, ← k2]
        rw [hml] at k1
        by_cases hn : v.num = 0
        · rw [if_pos hn] at k1 ⊢; rw [if_pos hn, k1, Bool.true_and, Bool.true_and]
        · rw [if_neg hn] at k1 ⊢; rw [if_neg hn, k1, Bool.true_and, Bool.true_and]
  refine splitG_any (PB (HB0 any not l && HB0 any2 not2 m) (HB1 any not l && HB1 any2 not2 m) (true && nulH any2 not2 m)) (PB (HB0 any not l && !(HB0 any not l && HB0 any2 not2 m)) (HB1 any not l && !(HB1 any not l && HB1 any2 not2 m)) (true && !(true && nulH any2 not2 m))) (PB false false false) (inT 3 sc any not l v && holdsV any2 not2 m v) (inT 3 sc any not l v && !holdsV any2 not2 m v) 3 sc any not l A c any2 not2 m B d v w ?_ ?_ ?_ ?_ ?_ ?_ ?_ hd.2
  · intro W hW
    refine (ofG_any _ _ (fun _ _ q => PB (HB0 any not l && HB0 any2 not2 m) (HB1 any not l && HB1 any2 not2 m) (true && nulH any2 not2 m) q) 3 sc any not l A c any2 not2 m B d W (hs.keep hW) (by omega) (hm.keep hW) (by omega) ht ht2 hy hu2 (fun X hX => fullB_any sc any not l A c X (hs.keep (hW.trans hX)) (by omega) hsn) (fun X hX => holdB_any sc any not A l.length c any2 not2 m B d X (hm.keep (hW.trans hX)) (by omega) hsn2) ?_).mono ?_
    · intro X s t bA bc bA2 bc2 cA cc cA2 cc2 p1 p2 i1 i2
      exact meetB_any p1 p2 X bA bc bA2 bc2 cA cc cA2 cc2
    · rintro e w' ⟨_, _, q, A1, c1, A2, c2, rfl, h1, h2, h3, _, _, h4⟩
      exact ⟨q, A1, c1, A2, c2, rfl, setIn_of h1 h2, h3, h4⟩
  · rintro W a A1 c1 A2 c2 hW ha hin
    have ha' := ha
    unfold PB at ha
    subst ha
    refine (otherG_any _ (fun _ q => PB (HB0 any not l && !(HB0 any not l && HB0 any2 not2 m)) (HB1 any not l && !(HB1 any not l && HB1 any2 not2 m)) (true && !(true && nulH any2 not2 m)) q) 3 sc any not l A c [] _ [] _ _ A1 c1 A2 c2 W (hs.keep hW) (by omega) hin ht hy (fun X hX => fullB_any sc any not l A c X (hs.keep (hW.trans hX)) (by omega) hsn) ?_).mono ?_
    · rintro X s bA bc bA2 bc2 hX p1 i1 i2
      exact withoutB_any p1 ha' X bA bc bA2 bc2 A1 c1 A2 c2
    · rintro e w' ⟨p, b, B1, d1, B2, d2, rfl, h1, h2, h3, _, h5⟩
      exact ⟨b, B1, d1, B2, d2, rfl, setIn_of h1 h2, h3, h5⟩
  · rintro W a A1 c1 A2 c2 b B1 d1 B2 d2 ha i1 hb i2
    have ha' := ha
    have hb' := hb
    unfold PB at ha hb
    subst ha
    subst hb
    refine (MeetG_any (PB false false false) 3 [] _ [] _ _ [] _ [] _ _ A1 c1 A2 c2 B1 d1 B2 d2 W hkn ?_).mono ?_
    · intro X hX
      refine (meetB_any ha' hb' X A1 c1 A2 c2 B1 d1 B2 d2).mono fun e w' ⟨q, h1, h2⟩ => ⟨q, h1, h2.eq ?_ ?_ ?_⟩
      · cases HB0 any not l <;> cases HB0 any2 not2 m <;> rfl
      · cases HB1 any not l <;> cases HB1 any2 not2 m <;> rfl
      · cases nulH any2 not2 m <;> rfl
    · rintro e w' ⟨p, E1, e1, E2, e2, rfl, h1, h2, h3, h4⟩
      exact ⟨p, E1, e1, E2, e2, rfl, setIn_of h1 h2, h3, h4⟩
  · rintro W p E1 e1 E2 e2 hp hin
    unfold PB at hp
    subst hp
    refine (emptyB_any [] false [] _ false E1 e1 E2 e2 W).mono ?_
    rintro e w' ⟨rfl, hb⟩
    exact ⟨by rw [show (!false && (bits BinOp.and IntKind.i64 (bitsOf false false) 3 == 0)) = true from by decide +kernel], hb⟩
  · intro W a A1 c1 A2 c2 hW ha hin
    rw [← hA a ha]
    unfold PB at ha
    subst ha
    exact shas_any 3 sc any not l A c _ A1 c1 A2 c2 v W (hs.keep hW) (by omega) ht hv hin (by simp) (by simp)
  · intro W a A1 c1 A2 c2 hW ha hin
    rw [← hB a ha]
    unfold PB at ha
    subst ha
    exact shas_any 3 sc any not l A c _ A1 c1 A2 c2 v W (hs.keep hW) (by omega) ht hv hin (by simp) (by simp)
  · intro W hW
    rw [hd.1]
    exact tin_any 3 sc any not l A c v W (hs.keep hW) (by omega) ht hv
end Go.Proofs.YtpmmbcobjibpeaaGreatDoor
namespace Go.Proofs.YtpmmbcobjibpeaaGreatDoor
set_option linter.unusedSimpArgs false
set_option linter.unusedVariables false
open Go.RowKit Go.Lib Go.Deep

/-! SetsSplit, where type or tests are unsound; and for every input. -/
set_option maxRecDepth 100000 in
set_option maxHeartbeats 8000000 in
theorem splitZ_any (K sc : Int) (any not : Bool) (l : List Tst) (A : Option Addr) (c : Nat) (any2 not2 : Bool) (m : List Tst) (B : Option Addr) (d : Nat) (v : Val) (w : World) (hs : Tsts w A l) (hl : l.length ≤ 9223372036854775807) (hm : Tsts w B m) (hml : m.length ≤ 9223372036854775807) (ht : ∀ t ∈ l, TOk t) (ht2 : ∀ t ∈ m, TOk t) (hy : (tysnd K sc any not l && usnd any2 not2 m) = false) :
    Calls Tryz.prog 8 #[tyv K sc any not (.slice A l.length c), tsv any2 not2 (.slice B m.length d), v.val] w fun e w' => e = .returned (.bool true) ∧ Bel w w' := by
  have C1 := Lib.hid fun W (hW : Bel w W) => ofZ_any K sc any not l A c any2 not2 m B d W (hs.keep hW) hl (hm.keep hW) hml ht ht2 hy
  have C2 := Lib.hid fun W (hW : Bel w W) => otherZ_any K sc any not l A c W (hs.keep hW) hl ht
  clear hs hl hm hml ht ht2 hy
  unfold zeroV zeroS at C1 C2
  obtain ⟨v0, v1, v2, v3, v4⟩ := v
  go_enter Tryz.func8, Tryz.ntmps8
  go_upto_region 1 with fail
  refine under_name (w0 := w) (by (repeat (first | with_reducible exact Bel.refl _ | with_reducible refine Bel.setCell ?_ (by first | exact Nat.le_refl _ | (dsimp only; omega)) _ | with_reducible refine Bel.alloc ?_ _ | with_reducible refine Bel.drew ?_ | with_reducible assumption | with_reducible refine Bel.trans ?_ (by assumption)))) fun V hc hf hz hb => ?_
  have m0 : V.cell? ⟨w.heap.size, 0, none⟩ = some (.int .i64 K) := by simp [hc, go_sem]
  have m1 : V.cell? ⟨w.heap.size, 1, none⟩ = some (.int .i64 sc) := by simp [hc, go_sem]
  have m2 : V.cell? ⟨w.heap.size, 2, none⟩ = some (.bool any) := by simp [hc, go_sem]
  have m3 : V.cell? ⟨w.heap.size, 3, none⟩ = some (.bool not) := by simp [hc, go_sem]
  have m4 : V.cell? ⟨w.heap.size, 4, none⟩ = some (.slice A l.length c) := by simp [hc, go_sem]
  have x0 : V.cell? ⟨w.heap.size + 1, 0, none⟩ = some (.bool any2) := by simp [hc, go_sem]
  have x1 : V.cell? ⟨w.heap.size + 1, 1, none⟩ = some (.bool not2) := by simp [hc, go_sem]
  have x2 : V.cell? ⟨w.heap.size + 1, 2, none⟩ = some (.slice B m.length d) := by simp [hc, go_sem]
  have y0 : V.cell? ⟨w.heap.size + 2, 0, none⟩ = some (.int .i64 v0) := by simp [hc, go_sem]
  have y1 : V.cell? ⟨w.heap.size + 2, 1, none⟩ = some (.int .i64 v1) := by simp [hc, go_sem]
  have y2 : V.cell? ⟨w.heap.size + 2, 2, none⟩ = some (.int .i64 v2) := by simp [hc, go_sem]
  have y3 : V.cell? ⟨w.heap.size + 2, 3, none⟩ = some (.string v3) := by simp [hc, go_sem]
  have y4 : V.cell? ⟨w.heap.size + 2, 4, none⟩ = some (.int .i64 v4) := by simp [hc, go_sem]
  have z0 : w.heap.size + 3 ≤ V.heap.size := by simp [hz]
  clear hc hf hz
  go_upto_region 2 with (go_at_call 14; (with_reducible refine Calls.mono (C1.out _ hb) ?_); rintro e X1 ⟨rfl, hx1⟩; have zx1 : w.heap.size + 3 ≤ X1.heap.size := (Nat.le_trans z0 hx1.size); have hbX := hb.trans hx1; replace m0 := (hx1.cells _ _ (by omega)).trans m0; replace m1 := (hx1.cells _ _ (by omega)).trans m1; replace m2 := (hx1.cells _ _ (by omega)).trans m2; replace m3 := (hx1.cells _ _ (by omega)).trans m3; replace m4 := (hx1.cells _ _ (by omega)).trans m4; replace x0 := (hx1.cells _ _ (by omega)).trans x0; replace x1 := (hx1.cells _ _ (by omega)).trans x1; replace x2 := (hx1.cells _ _ (by omega)).trans x2; replace y0 := (hx1.cells _ _ (by omega)).trans y0; replace y1 := (hx1.cells _ _ (by omega)).trans y1; replace y2 := (hx1.cells _ _ (by omega)).trans y2; replace y3 := (hx1.cells _ _ (by omega)).trans y3; replace y4 := (hx1.cells _ _ (by omega)).trans y4)
  refine under_name (w0 := X1) (by (repeat (first | with_reducible exact Bel.refl _ | with_reducible refine Bel.setCell ?_ (by first | exact Nat.le_refl _ | (dsimp only; omega)) _ | with_reducible refine Bel.alloc ?_ _ | with_reducible refine Bel.drew ?_ | with_reducible assumption | with_reducible refine Bel.trans ?_ (by assumption)))) fun Y hc hf hz hy => ?_
  have g0 : Y.cell? ⟨X1.heap.size, 0, none⟩ = some (.int .i64 0) := by simp [hc, go_sem, zeroS, St.val]
  have g1 : Y.cell? ⟨X1.heap.size, 1, none⟩ = some (.slice none 0 0) := by simp [hc, go_sem, zeroS, St.val]
  have g2 : Y.cell? ⟨X1.heap.size, 2, none⟩ = some (.bool false) := by simp [hc, go_sem, zeroS, St.val]
  have g3 : Y.cell? ⟨X1.heap.size, 3, none⟩ = some (.slice none 0 0) := by simp [hc, go_sem, zeroS, St.val]
  have g4 : Y.cell? ⟨X1.heap.size, 4, none⟩ = some (.int .i64 0) := by simp [hc, go_sem, zeroS, St.val]
  have g5 : Y.cell? ⟨X1.heap.size, 5, none⟩ = some (.bool false) := by simp [hc, go_sem, zeroS, St.val]
  have zy : X1.heap.size < Y.heap.size := by simp [hz]
  clear hc hf hz
  replace m0 := (hy.cells _ _ (by omega)).trans m0; replace m1 := (hy.cells _ _ (by omega)).trans m1; replace m2 := (hy.cells _ _ (by omega)).trans m2; replace m3 := (hy.cells _ _ (by omega)).trans m3; replace m4 := (hy.cells _ _ (by omega)).trans m4; replace x0 := (hy.cells _ _ (by omega)).trans x0; replace x1 := (hy.cells _ _ (by omega)).trans x1; replace x2 := (hy.cells _ _ (by omega)).trans x2; replace y0 := (hy.cells _ _ (by omega)).trans y0; replace y1 := (hy.cells _ _ (by omega)).trans y1; replace y2 := (hy.cells _ _ (by omega)).trans y2; replace y3 := (hy.cells _ _ (by omega)).trans y3; replace y4 := (hy.cells _ _ (by omega)).trans y4
  have hbY := hbX.trans hy
  clear hx1 hy hb hbX z0 C1
  go_upto_region 3 with (go_at_call 25; (with_reducible refine Calls.mono (C2.out _ hbY) ?_); rintro e X2 ⟨⟨er, rfl⟩, hx2⟩; have hbX := hbY.trans hx2)
  refine under_name (w0 := X2) (by (repeat (first | with_reducible exact Bel.refl _ | with_reducible refine Bel.setCell ?_ (by first | exact Nat.le_refl _ | (dsimp only; omega)) _ | with_reducible refine Bel.alloc ?_ _ | with_reducible refine Bel.drew ?_ | with_reducible assumption | with_reducible refine Bel.trans ?_ (by assumption)))) fun Z hc hf hz hy => ?_
  have hbZ := hbX.trans hy
  clear hc hf hz hx2 hy hbY hbX C2
  go_upto_region 4 with (go_at_call 9; (with_reducible refine Calls.mono (sawake_any _) ?_); rintro e X3 ⟨rfl, hx3⟩; have hb3 := hbZ.trans hx3)
  go_wp2_with (go_at_call 9; (with_reducible refine Calls.mono (sawake_any _) ?_); rintro e X4 ⟨rfl, hx4⟩; have hb4 := hb3.trans hx4)
  go_ret
  exact ⟨rfl, hb4⟩
theorem law_Split (K sc : Int) (any not : Bool) (l : List Tst) (A : Option Addr) (c : Nat) (any2 not2 : Bool) (m : List Tst) (B : Option Addr) (d : Nat) (v : Val) (w : World) (hs : Tsts w A l) (hl : l.length ≤ 9223372036854775807) (hm : Tsts w B m) (hml : m.length ≤ 9223372036854775807) (ht : ∀ t ∈ l, TOk t) (ht2 : ∀ t ∈ m, TOk t) (hv : v.text.size ≤ 9223372036854775807) :
    Calls Tryz.prog 8 #[tyv K sc any not (.slice A l.length c), tsv any2 not2 (.slice B m.length d), v.val] w fun e w' => e = .returned (.bool true) ∧ Bel w w' := by
  cases hy : (tysnd K sc any not l && usnd any2 not2 m) with
  | false => exact splitZ_any K sc any not l A c any2 not2 m B d v w hs hl hm hml ht ht2 hy
  | true =>
    rw [Bool.and_eq_true] at hy
    obtain ⟨hy, hu2⟩ := hy
    have hk := (tysnd_parts hy).2.1
    by_cases h2 : K = 2
    · subst h2
      exact splitT_any sc any not l A c any2 not2 m B d v w hs hm ht ht2 hv hy hu2
    by_cases h3 : K = 3
    · subst h3
      exact splitB_any sc any not l A c any2 not2 m B d v w hs hm ht ht2 hv hy hu2
    exact splitN_any K sc any not l A c any2 not2 m B d v w (by omega) hs hm ht ht2 hv hy hu2
end Go.Proofs.YtpmmbcobjibpeaaGreatDoor
