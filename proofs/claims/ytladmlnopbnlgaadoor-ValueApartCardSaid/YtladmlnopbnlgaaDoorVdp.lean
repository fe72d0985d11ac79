import Derived.Test.YtladmlnopbnlgaaDoorVdo
namespace Go.Proofs.YtladmlnopbnlgaaDoor
set_option linter.unusedSimpArgs false
set_option linter.unusedVariables false
open Go.RowKit

/-! Values: the law Apart. -/
theorem cmp_ex (a b : Val) : ∃ n e : Int, vcmpV a b = .tuple #[.int .i64 n, .int .i64 e] := by
  unfold vcmpV
  split
  · exact ⟨_, _, rfl⟩
  · exact ⟨_, _, rfl⟩
theorem txt_ex (a : Val) : ∃ (x : ByteArray) (e : Int), vtxV a = .tuple #[.string x, .int .i64 e] := by
  unfold vtxV
  split
  · exact ⟨_, _, rfl⟩
  · exact ⟨_, _, rfl⟩
theorem cmp_no {a b : Val} (h : ¬ (vsnd a = true ∧ vsnd b = true)) : vcmpV a b = .tuple #[.int .i64 0, .int .i64 2] := if_neg h
theorem cmp_ok {a b : Val} (ha : vsnd a = true) (hb : vsnd b = true) {n : Int} (hn : vcmp a b = n) : vcmpV a b = .tuple #[.int .i64 n, .int .i64 0] := by
  subst hn
  exact if_pos ⟨ha, hb⟩
theorem txt_no {a : Val} (h : ¬ vsnd a = true) : vtxV a = .tuple #[.string ⟨#[]⟩, .int .i64 2] := if_neg h
theorem txt_ok {a : Val} (h : vsnd a = true) : vtxV a = .tuple #[.string (vtx a), .int .i64 0] := if_pos h
theorem tl_ne {x y : ByteArray} (h : x ≠ y) : (x.toList == y.toList) = false := by
  rw [beq_eq_false_iff_ne]
  exact fun e => h ((toList_inj _ _).1 e)
theorem veq_same (a : Val) : veq a a = true := (veq_iff _ _).2 rfl
theorem veq_ne {a b : Val} (h : a ≠ b) : veq a b = false := by
  cases hq : veq a b with
  | false => rfl
  | true => exact absurd ((veq_iff _ _).1 hq) h
theorem law_Apart (a b c : Val) (ha : a.text.size ≤ 9223372036854775807) (hb : b.text.size ≤ 9223372036854775807) (hc : c.text.size ≤ 9223372036854775807) (w : World) (ht : Tab w) (hm : Mx w) : Calls Tryd.prog 6 #[a.val, b.val, c.val] w fun e w' => e = .returned (.bool true) ∧ Bel w w' := by
  have ta := fun w ht hm => vtext_any a ha w ht hm
  have tb := fun w ht hm => vtext_any b hb w ht hm
  have cab := fun w => vcompare_any a b ha hb w
  have cba := fun w => vcompare_any b a hb ha w
  have cbc := fun w => vcompare_any b c hb hc w
  have cac := fun w => vcompare_any a c ha hc w
  clear ha hb hc
  obtain ⟨x1, e1, h1⟩ := txt_ex a
  obtain ⟨x2, e2, h2⟩ := txt_ex b
  obtain ⟨n3, e3, h3⟩ := cmp_ex a b
  obtain ⟨n4, e4, h4⟩ := cmp_ex b a
  obtain ⟨n5, e5, h5⟩ := cmp_ex b c
  obtain ⟨n6, e6, h6⟩ := cmp_ex a c
  by_cases sa : vsnd a = true
  · rw [txt_ok sa] at ta
    by_cases sb : vsnd b = true
    · rw [txt_ok sb] at tb
      by_cases sc : vsnd c = true
      · have d1 := vcmp_bd a b
        have ez := vcmp_zero sa sb
        have et := vtx_inj sa sb
        have an := vcmp_anti a b
        obtain ⟨n, hn⟩ : ∃ n, vcmp a b = n := ⟨_, rfl⟩
        obtain ⟨m, hm1⟩ : ∃ m, vcmp b c = m := ⟨_, rfl⟩
        obtain ⟨p, hp⟩ : ∃ p, vcmp a c = p := ⟨_, rfl⟩
        rw [cmp_ok sa sb hn] at cab
        rw [cmp_ok sb sc hm1] at cbc
        rw [cmp_ok sa sc hp] at cac
        have tr2 : n ≤ 0 → m ≤ 0 → p ≤ 0 := fun h1 h2 => by
          rw [← hp]
          exact vcmp_trans (b := b) (by rw [hn]; exact h1) (by rw [hm1]; exact h2)
        rw [hn] at d1 ez an
        have hq0 : n = 0 → veq a b = true := fun h => by rw [ez.1 h]; exact veq_same b
        have hq1 : n ≠ 0 → veq a b = false := fun h => veq_ne fun e => h (ez.2 e)
        have hx0 : n = 0 → ((vtx a).toList == (vtx b).toList) = true := fun h => by rw [ez.1 h]; exact beq_self_eq_true _
        have hx1 : n ≠ 0 → ((vtx a).toList == (vtx b).toList) = false := fun h => tl_ne fun e => h (ez.2 (et.1 e))
        rw [cmp_ok sb sa an] at cba
        have h9 : n = 1 ∨ n = -1 ∨ n = 0 := by omega
        generalize vtx a = x at ta hx0 hx1
        generalize vtx b = y at tb hx0 hx1
        clear ez et an h1 h2 h3 h4 h5 h6 hn hm1 hp d1 sa sb sc
        obtain ⟨ka, na, sa, xa, ma⟩ := a
        obtain ⟨kb, nb, sb, xb, mb⟩ := b
        obtain ⟨kc, nc, sc, xc, mc⟩ := c
        rcases h9 with rfl | rfl | rfl
        · exact apart_d1 (m := m) (p := p) (Ta0 := ta) (Tb0 := tb) (Cab0 := cab) (Cba0 := cba) (Cbc0 := cbc) (Cac0 := cac) (hv := hq1 (by decide)) (hx := hx1 (by decide)) (w := w) (ht := ht) (hm := hm)
        · by_cases hm0 : 0 < m
          · exact apart_d2 (m := m) (p := p) (Ta0 := ta) (Tb0 := tb) (Cab0 := cab) (Cba0 := cba) (Cbc0 := cbc) (Cac0 := cac) (hv := hq1 (by decide)) (hx := hx1 (by decide)) (hm0 := decide_eq_true hm0) (w := w) (ht := ht) (hm := hm)
          · exact apart_d3 (m := m) (p := p) (Ta0 := ta) (Tb0 := tb) (Cab0 := cab) (Cba0 := cba) (Cbc0 := cbc) (Cac0 := cac) (hv := hq1 (by decide)) (hx := hx1 (by decide)) (hm0 := decide_eq_false hm0) (hp0 := decide_eq_true (tr2 (by decide) (by omega))) (w := w) (ht := ht) (hm := hm)
        · by_cases hm0 : 0 < m
          · exact apart_d4 (m := m) (p := p) (Ta0 := ta) (Tb0 := tb) (Cab0 := cab) (Cba0 := cba) (Cbc0 := cbc) (Cac0 := cac) (hv := hq0 rfl) (hx := hx0 rfl) (hm0 := decide_eq_true hm0) (w := w) (ht := ht) (hm := hm)
          · exact apart_d5 (m := m) (p := p) (Ta0 := ta) (Tb0 := tb) (Cab0 := cab) (Cba0 := cba) (Cbc0 := cbc) (Cac0 := cac) (hv := hq0 rfl) (hx := hx0 rfl) (hm0 := decide_eq_false hm0) (hp0 := decide_eq_true (tr2 (by decide) (by omega))) (w := w) (ht := ht) (hm := hm)
      · rw [h3] at cab
        rw [h4] at cba
        rw [cmp_no (fun h => sc h.2)] at cbc
        rw [h6] at cac
        clear h1 h2 h3 h4 h5 h6 sa sb sc
        generalize vtx a = x at ta
        generalize vtx b = y at tb
        obtain ⟨ka, na, sa, xa, ma⟩ := a
        obtain ⟨kb, nb, sb, xb, mb⟩ := b
        obtain ⟨kc, nc, sc, xc, mc⟩ := c
        exact apart_c (Ta0 := ta) (Tb0 := tb) (Cab0 := cab) (Cba0 := cba) (Cbc0 := cbc) (Cac0 := cac) (w := w) (ht := ht) (hm := hm)
    · rw [txt_no sb] at tb
      rw [h3] at cab
      rw [h4] at cba
      rw [h5] at cbc
      rw [h6] at cac
      clear h1 h2 h3 h4 h5 h6 sa sb
      generalize vtx a = x at ta
      obtain ⟨ka, na, sa, xa, ma⟩ := a
      obtain ⟨kb, nb, sb, xb, mb⟩ := b
      obtain ⟨kc, nc, sc, xc, mc⟩ := c
      exact apart_b (Ta0 := ta) (Tb0 := tb) (Cab0 := cab) (Cba0 := cba) (Cbc0 := cbc) (Cac0 := cac) (w := w) (ht := ht) (hm := hm)
  · rw [txt_no sa] at ta
    rw [h2] at tb
    rw [h3] at cab
    rw [h4] at cba
    rw [h5] at cbc
    rw [h6] at cac
    clear h1 h2 h3 h4 h5 h6 sa
    obtain ⟨ka, na, sa, xa, ma⟩ := a
    obtain ⟨kb, nb, sb, xb, mb⟩ := b
    obtain ⟨kc, nc, sc, xc, mc⟩ := c
    exact apart_a (Ta0 := ta) (Tb0 := tb) (Cab0 := cab) (Cba0 := cba) (Cbc0 := cbc) (Cac0 := cac) (w := w) (ht := ht) (hm := hm)
end Go.Proofs.YtladmlnopbnlgaaDoor
