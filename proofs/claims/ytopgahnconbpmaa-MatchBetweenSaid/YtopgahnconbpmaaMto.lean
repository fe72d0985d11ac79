import Derived.Test.YtopgahnconbpmaaMtn
namespace Go.Proofs.Ytopgahnconbpmaa
set_option linter.unusedSimpArgs false
set_option linter.unusedVariables false
open Go.RowKit Go.Lib
attribute [local go_sem ↓] eql_val neq_val eql_tst neq_tst

/-! The laws of match: Between. -/
theorem bet_ok {low high v : Val} {ol oh : Bool} (h : tsnd ⟨6, low, high, ol, oh⟩ = true) :
    tsnd (cutT (if ol then 4 else 5) low) = true ∧ tsnd (cutT (if oh then 2 else 3) high) = true ∧ mone ⟨6, low, high, ol, oh⟩ v = (mone (cutT (if ol then 4 else 5) low) v && mone (cutT (if oh then 2 else 3) high) v) := by
  unfold tsnd at h
  simp only [show ¬ (6 : Int) = 1 by omega, show ¬ ((6 : Int) = 2 ∨ (6 : Int) = 3 ∨ (6 : Int) = 4 ∨ (6 : Int) = 5) by omega, if_false, if_true] at h
  simp only [Bool.and_eq_true, decide_eq_true_iff] at h
  obtain ⟨⟨⟨h1, h2⟩, h3⟩, h4⟩ := h
  refine ⟨?_, ?_, ?_⟩
  · rw [cut_snd (by cases ol <;> simp), h1, h3]; rfl
  · rw [cut_snd (by cases oh <;> simp), h2, h4, h3]; rfl
  · by_cases hk : v.kind = low.kind
    · have hk2 : v.kind = high.kind := hk.trans h4.symm
      have e : mone ⟨6, low, high, ol, oh⟩ v = mbet ⟨6, low, high, ol, oh⟩ (vcmp v low) (vcmp v high) := by simp [mone, hk]
      rw [e]
      unfold mbet
      cases ol <;> cases oh
      all_goals
        simp only [Bool.false_eq_true, if_false, if_true, cut_2 hk2, cut_3 hk2, cut_4 hk, cut_5 hk]
        rw [Bool.eq_iff_iff]
        simp
        try omega
    · rw [cut_none hk]
      simp [mone, hk]
set_option maxRecDepth 100000 in
set_option maxHeartbeats 16000000 in
theorem between_walk (low high v : Val) (ol oh : Bool) (q1 q2 m a b : Bool) (fk tk : Int) (hf : fk = if ol then 4 else 5) (ht : tk = if oh then 2 else 3) (hm : q1 = true → m = (a && b)) (w : World)
    (C1 : ∀ W, Calls Try.prog 8 #[(⟨6, low, high, ol, oh⟩ : Tst).val, v.val] W fun e w' => e = .returned (ifV (q1 && q2) m) ∧ Bel W w')
    (C2 : ∀ (W : World) (n : Nat), n = W.heap.size → Calls Try.prog 15 #[tsv false false (.slice (some ⟨n, 0, none⟩) 1 1)] (W.alloc (.cells #[.int .i64 6, .int .i64 low.kind, .int .i64 low.n, .int .i64 low.scale, .string low.text, .int .i64 low.num, .int .i64 high.kind, .int .i64 high.n, .int .i64 high.scale, .string high.text, .int .i64 high.num, .bool ol, .bool oh] 27)) fun e w' => e = .returned (.bool q1) ∧ Bel W w')
    (C3 : ∀ W, Calls Try.prog 16 #[v.val] W fun e w' => e = .returned (.bool q2) ∧ Bel W w')
    (C4 : q1 = true → q2 = true → ∀ W, Calls Try.prog 8 #[(cutT fk low).val, v.val] W fun e w' => e = .returned (.tuple #[.bool a, .int .i64 0]) ∧ Bel W w')
    (C5 : q1 = true → q2 = true → ∀ W, Calls Try.prog 8 #[(cutT tk high).val, v.val] W fun e w' => e = .returned (.tuple #[.bool b, .int .i64 0]) ∧ Bel W w') :
    Calls Try.prog 7 #[low.val, high.val, v.val, .bool ol, .bool oh] w fun e w' => e = .returned (.bool true) ∧ Bel w w' := by
  have C6 := Lib.hid fun W => awake_any W
  obtain ⟨v0, v1, v2, v3, v4⟩ := v
  obtain ⟨l0, l1, l2, l3, l4⟩ := low
  obtain ⟨h0, h1, h2, h3, h4⟩ := high
  simp only [cutT, zv] at C1 C2 C3 C4 C5
  cases q1 with
  | false =>
    simp only [Bool.false_and, ifV_f] at C1
    clear C4 C5 hm hf ht
    replace C1 := Lib.hid C1
    replace C2 := Lib.hid C2
    replace C3 := Lib.hid C3
    go_enter Try.func7, Try.ntmps7
    go_upto_region 2 with fail
    refine under_name (by (first | exact ((((Bel.refl w).alloc _).alloc _).alloc _).alloc _ | ((repeat (first | with_reducible exact Bel.refl _ | with_reducible refine Bel.setCell ?_ (by first | exact Nat.le_refl _ | (dsimp only; omega)) _ | with_reducible refine Bel.alloc ?_ _ | with_reducible refine Bel.drew ?_ | with_reducible assumption | with_reducible refine Bel.trans ?_ (by assumption)))))) fun W hc hf hz hbW => ?_
    have n0 : ValAt W w.heap.size 0 ⟨l0, l1, l2, l3, l4⟩ := by simp [ValAt, hc, go_sem]
    have n1 : ValAt W (w.heap.size + 1) 0 ⟨h0, h1, h2, h3, h4⟩ := by simp [ValAt, hc, go_sem]
    have n2 : ValAt W (w.heap.size + 2) 0 ⟨v0, v1, v2, v3, v4⟩ := by simp [ValAt, hc, go_sem]
    have n3 : TstAt W (w.heap.size + 3) 0 ⟨6, ⟨l0, l1, l2, l3, l4⟩, ⟨h0, h1, h2, h3, h4⟩, ol, oh⟩ := by simp [TstAt, hc, go_sem]
    have z0 : w.heap.size < W.heap.size := by simp [hz] <;> omega
    have z1 : w.heap.size + 1 < W.heap.size := by simp [hz] <;> omega
    have z2 : w.heap.size + 2 < W.heap.size := by simp [hz] <;> omega
    have z3 : w.heap.size + 3 < W.heap.size := by simp [hz] <;> omega
    clear hc hf hz
    obtain ⟨n00, n01, n02, n03, n04⟩ := n0
    obtain ⟨n10, n11, n12, n13, n14⟩ := n1
    obtain ⟨n20, n21, n22, n23, n24⟩ := n2
    obtain ⟨n30, n31, n32, n33, n34, n35, n36, n37, n38, n39, n3a, n3b, n3c⟩ := n3
    simp only [Nat.zero_add] at n00 n01 n02 n03 n04 n10 n11 n12 n13 n14 n20 n21 n22 n23 n24 n30 n31 n32 n33 n34 n35 n36 n37 n38 n39 n3a n3b n3c
    have tok : True := trivial
    go_wp2_with (first
      | (go_at_call 8; with_reducible refine Calls.mono (C1.out _) ?_; rintro e W1 ⟨rfl, hb1⟩; have hc1 := hb1.cells; have hs1 := hb1.size; have z10 := Nat.lt_of_lt_of_le z0 hs1; have z11 := Nat.lt_of_lt_of_le z1 hs1; have z12 := Nat.lt_of_lt_of_le z2 hs1; have z13 := Nat.lt_of_lt_of_le z3 hs1)
      | (go_at_call 10; have _u := tok; clear tok; with_reducible refine Calls.mono (C6.out _) ?_; rintro e W3 ⟨rfl, hb3⟩; have hc3 := hb3.cells; have hs3 := hb3.size; have z30 := Nat.lt_of_lt_of_le z10 hs3; have z31 := Nat.lt_of_lt_of_le z11 hs3; have z32 := Nat.lt_of_lt_of_le z12 hs3; have z33 := Nat.lt_of_lt_of_le z13 hs3)
      | (go_at_call 15; refine Calls.mono (C2.out _ _ (by simp)) ?_; rintro e W4 ⟨rfl, hb4⟩; have hc4 := hb4.cells; have hs4 := hb4.size; have z40 := Nat.lt_of_lt_of_le z30 hs4; have z41 := Nat.lt_of_lt_of_le z31 hs4; have z42 := Nat.lt_of_lt_of_le z32 hs4; have z43 := Nat.lt_of_lt_of_le z33 hs4)
      | (go_at_call 10; with_reducible refine Calls.mono (C6.out _) ?_; rintro e W8 ⟨rfl, hb8⟩))
    go_ret
    have HB := (hb3.trans hb4).trans hb8
    refine ⟨rfl, ?_⟩
    exact (hbW.trans hb1).trans HB
  | true =>
    obtain rfl := hm rfl
    cases q2 with
    | false =>
      simp only [Bool.and_false, ifV_f] at C1
      clear C4 C5 hm hf ht
      replace C1 := Lib.hid C1
      replace C2 := Lib.hid C2
      replace C3 := Lib.hid C3
      go_enter Try.func7, Try.ntmps7
      go_upto_region 2 with fail
      refine under_name (by (first | exact ((((Bel.refl w).alloc _).alloc _).alloc _).alloc _ | ((repeat (first | with_reducible exact Bel.refl _ | with_reducible refine Bel.setCell ?_ (by first | exact Nat.le_refl _ | (dsimp only; omega)) _ | with_reducible refine Bel.alloc ?_ _ | with_reducible refine Bel.drew ?_ | with_reducible assumption | with_reducible refine Bel.trans ?_ (by assumption)))))) fun W hc hf hz hbW => ?_
      have n0 : ValAt W w.heap.size 0 ⟨l0, l1, l2, l3, l4⟩ := by simp [ValAt, hc, go_sem]
      have n1 : ValAt W (w.heap.size + 1) 0 ⟨h0, h1, h2, h3, h4⟩ := by simp [ValAt, hc, go_sem]
      have n2 : ValAt W (w.heap.size + 2) 0 ⟨v0, v1, v2, v3, v4⟩ := by simp [ValAt, hc, go_sem]
      have n3 : TstAt W (w.heap.size + 3) 0 ⟨6, ⟨l0, l1, l2, l3, l4⟩, ⟨h0, h1, h2, h3, h4⟩, ol, oh⟩ := by simp [TstAt, hc, go_sem]
      have z0 : w.heap.size < W.heap.size := by simp [hz] <;> omega
      have z1 : w.heap.size + 1 < W.heap.size := by simp [hz] <;> omega
      have z2 : w.heap.size + 2 < W.heap.size := by simp [hz] <;> omega
      have z3 : w.heap.size + 3 < W.heap.size := by simp [hz] <;> omega
      clear hc hf hz
      obtain ⟨n00, n01, n02, n03, n04⟩ := n0
      obtain ⟨n10, n11, n12, n13, n14⟩ := n1
      obtain ⟨n20, n21, n22, n23, n24⟩ := n2
      obtain ⟨n30, n31, n32, n33, n34, n35, n36, n37, n38, n39, n3a, n3b, n3c⟩ := n3
      simp only [Nat.zero_add] at n00 n01 n02 n03 n04 n10 n11 n12 n13 n14 n20 n21 n22 n23 n24 n30 n31 n32 n33 n34 n35 n36 n37 n38 n39 n3a n3b n3c
      have tok : True := trivial
      go_wp2_with (first
        | (go_at_call 8; with_reducible refine Calls.mono (C1.out _) ?_; rintro e W1 ⟨rfl, hb1⟩; have hc1 := hb1.cells; have hs1 := hb1.size; have z10 := Nat.lt_of_lt_of_le z0 hs1; have z11 := Nat.lt_of_lt_of_le z1 hs1; have z12 := Nat.lt_of_lt_of_le z2 hs1; have z13 := Nat.lt_of_lt_of_le z3 hs1)
        | (go_at_call 10; have _u := tok; clear tok; with_reducible refine Calls.mono (C6.out _) ?_; rintro e W3 ⟨rfl, hb3⟩; have hc3 := hb3.cells; have hs3 := hb3.size; have z30 := Nat.lt_of_lt_of_le z10 hs3; have z31 := Nat.lt_of_lt_of_le z11 hs3; have z32 := Nat.lt_of_lt_of_le z12 hs3; have z33 := Nat.lt_of_lt_of_le z13 hs3)
        | (go_at_call 15; refine Calls.mono (C2.out _ _ (by simp)) ?_; rintro e W4 ⟨rfl, hb4⟩; have hc4 := hb4.cells; have hs4 := hb4.size; have z40 := Nat.lt_of_lt_of_le z30 hs4; have z41 := Nat.lt_of_lt_of_le z31 hs4; have z42 := Nat.lt_of_lt_of_le z32 hs4; have z43 := Nat.lt_of_lt_of_le z33 hs4)
        | (go_at_call 16; with_reducible refine Calls.mono (C3.out _) ?_; rintro e W5 ⟨rfl, hb5⟩; have hc5 := hb5.cells; have hs5 := hb5.size; have z50 := Nat.lt_of_lt_of_le z40 hs5; have z51 := Nat.lt_of_lt_of_le z41 hs5; have z52 := Nat.lt_of_lt_of_le z42 hs5)
        | (go_at_call 10; with_reducible refine Calls.mono (C6.out _) ?_; rintro e W8 ⟨rfl, hb8⟩))
      go_ret
      have HB := ((hb3.trans hb4).trans hb5).trans hb8
      refine ⟨rfl, ?_⟩
      exact (hbW.trans hb1).trans HB
    | true =>
      simp only [Bool.and_true, ifV_t] at C1
      replace C1 := Lib.hid C1
      replace C2 := Lib.hid C2
      replace C3 := Lib.hid C3
      replace C4 := Lib.hid (C4 rfl rfl)
      replace C5 := Lib.hid (C5 rfl rfl)
      clear hm
      cases ol with
      | false =>
        cases oh with
        | false =>
          simp only [Bool.false_eq_true, if_false, if_true] at hf ht
          subst hf ht
          go_enter Try.func7, Try.ntmps7
          go_upto_region 2 with fail
          refine under_name (by (first | exact ((((Bel.refl w).alloc _).alloc _).alloc _).alloc _ | ((repeat (first | with_reducible exact Bel.refl _ | with_reducible refine Bel.setCell ?_ (by first | exact Nat.le_refl _ | (dsimp only; omega)) _ | with_reducible refine Bel.alloc ?_ _ | with_reducible refine Bel.drew ?_ | with_reducible assumption | with_reducible refine Bel.trans ?_ (by assumption)))))) fun W hc hf hz hbW => ?_
          have n0 : ValAt W w.heap.size 0 ⟨l0, l1, l2, l3, l4⟩ := by simp [ValAt, hc, go_sem]
          have n1 : ValAt W (w.heap.size + 1) 0 ⟨h0, h1, h2, h3, h4⟩ := by simp [ValAt, hc, go_sem]
          have n2 : ValAt W (w.heap.size + 2) 0 ⟨v0, v1, v2, v3, v4⟩ := by simp [ValAt, hc, go_sem]
          have n3 : TstAt W (w.heap.size + 3) 0 ⟨6, ⟨l0, l1, l2, l3, l4⟩, ⟨h0, h1, h2, h3, h4⟩, false, false⟩ := by simp [TstAt, hc, go_sem]
          have z0 : w.heap.size < W.heap.size := by simp [hz] <;> omega
          have z1 : w.heap.size + 1 < W.heap.size := by simp [hz] <;> omega
          have z2 : w.heap.size + 2 < W.heap.size := by simp [hz] <;> omega
          have z3 : w.heap.size + 3 < W.heap.size := by simp [hz] <;> omega
          clear hc hf hz
          obtain ⟨n00, n01, n02, n03, n04⟩ := n0
          obtain ⟨n10, n11, n12, n13, n14⟩ := n1
          obtain ⟨n20, n21, n22, n23, n24⟩ := n2
          obtain ⟨n30, n31, n32, n33, n34, n35, n36, n37, n38, n39, n3a, n3b, n3c⟩ := n3
          simp only [Nat.zero_add] at n00 n01 n02 n03 n04 n10 n11 n12 n13 n14 n20 n21 n22 n23 n24 n30 n31 n32 n33 n34 n35 n36 n37 n38 n39 n3a n3b n3c
          go_wp2_with (first
            | (go_at_call 8; with_reducible refine Calls.mono (C1.out _) ?_; rintro e W1 ⟨rfl, hb1⟩; have hc1 := hb1.cells; have hs1 := hb1.size; have z10 := Nat.lt_of_lt_of_le z0 hs1; have z11 := Nat.lt_of_lt_of_le z1 hs1; have z12 := Nat.lt_of_lt_of_le z2 hs1; have z13 := Nat.lt_of_lt_of_le z3 hs1)
            | (go_at_call 10; with_reducible refine Calls.mono (C6.out _) ?_; rintro e W3 ⟨rfl, hb3⟩; have hc3 := hb3.cells; have hs3 := hb3.size; have z30 := Nat.lt_of_lt_of_le z10 hs3; have z31 := Nat.lt_of_lt_of_le z11 hs3; have z32 := Nat.lt_of_lt_of_le z12 hs3; have z33 := Nat.lt_of_lt_of_le z13 hs3)
            | (go_at_call 15; refine Calls.mono (C2.out _ _ (by simp)) ?_; rintro e W4 ⟨rfl, hb4⟩; have hc4 := hb4.cells; have hs4 := hb4.size; have z40 := Nat.lt_of_lt_of_le z30 hs4; have z41 := Nat.lt_of_lt_of_le z31 hs4; have z42 := Nat.lt_of_lt_of_le z32 hs4; have z43 := Nat.lt_of_lt_of_le z33 hs4)
            | (go_at_call 16; with_reducible refine Calls.mono (C3.out _) ?_; rintro e W5 ⟨rfl, hb5⟩; have hc5 := hb5.cells; have hs5 := hb5.size; have z50 := Nat.lt_of_lt_of_le z40 hs5; have z51 := Nat.lt_of_lt_of_le z41 hs5; have z52 := Nat.lt_of_lt_of_le z42 hs5)
            | (go_at_call 8; with_reducible refine Calls.mono (C4.out _) ?_; rintro e W6 ⟨rfl, hb6⟩; have hc6 := hb6.cells; have hs6 := hb6.size; have z60 := Nat.lt_of_lt_of_le z50 hs6; have z61 := Nat.lt_of_lt_of_le z51 hs6; have z62 := Nat.lt_of_lt_of_le z52 hs6)
            | (go_at_call 8; with_reducible refine Calls.mono (C5.out _) ?_; rintro e W7 ⟨rfl, hb7⟩))
          all_goals
            go_ret
            exact ⟨by simp, ((hbW.trans hb1).trans ((hb3.trans hb4).trans hb5)).trans (hb6.trans hb7)⟩
        | true =>
          simp only [Bool.false_eq_true, if_false, if_true] at hf ht
          subst hf ht
          go_enter Try.func7, Try.ntmps7
          go_upto_region 2 with fail
          refine under_name (by (first | exact ((((Bel.refl w).alloc _).alloc _).alloc _).alloc _ | ((repeat (first | with_reducible exact Bel.refl _ | with_reducible refine Bel.setCell ?_ (by first | exact Nat.le_refl _ | (dsimp only; omega)) _ | with_reducible refine Bel.alloc ?_ _ | with_reducible refine Bel.drew ?_ | with_reducible assumption | with_reducible refine Bel.trans ?_ (by assumption)))))) fun W hc hf hz hbW => ?_
          have n0 : ValAt W w.heap.size 0 ⟨l0, l1, l2, l3, l4⟩ := by simp [ValAt, hc, go_sem]
          have n1 : ValAt W (w.heap.size + 1) 0 ⟨h0, h1, h2, h3, h4⟩ := by simp [ValAt, hc, go_sem]
          have n2 : ValAt W (w.heap.size + 2) 0 ⟨v0, v1, v2, v3, v4⟩ := by simp [ValAt, hc, go_sem]
          have n3 : TstAt W (w.heap.size + 3) 0 ⟨6, ⟨l0, l1, l2, l3, l4⟩, ⟨h0, h1, h2, h3, h4⟩, false, true⟩ := by simp [TstAt, hc, go_sem]
          have z0 : w.heap.size < W.heap.size := by simp [hz] <;> omega
          have z1 : w.heap.size + 1 < W.heap.size := by simp [hz] <;> omega
          have z2 : w.heap.size + 2 < W.heap.size := by simp [hz] <;> omega
          have z3 : w.heap.size + 3 < W.heap.size := by simp [hz] <;> omega
          clear hc hf hz
          obtain ⟨n00, n01, n02, n03, n04⟩ := n0
          obtain ⟨n10, n11, n12, n13, n14⟩ := n1
          obtain ⟨n20, n21, n22, n23, n24⟩ := n2
          obtain ⟨n30, n31, n32, n33, n34, n35, n36, n37, n38, n39, n3a, n3b, n3c⟩ := n3
          simp only [Nat.zero_add] at n00 n01 n02 n03 n04 n10 n11 n12 n13 n14 n20 n21 n22 n23 n24 n30 n31 n32 n33 n34 n35 n36 n37 n38 n39 n3a n3b n3c
          go_wp2_with (first
            | (go_at_call 8; with_reducible refine Calls.mono (C1.out _) ?_; rintro e W1 ⟨rfl, hb1⟩; have hc1 := hb1.cells; have hs1 := hb1.size; have z10 := Nat.lt_of_lt_of_le z0 hs1; have z11 := Nat.lt_of_lt_of_le z1 hs1; have z12 := Nat.lt_of_lt_of_le z2 hs1; have z13 := Nat.lt_of_lt_of_le z3 hs1)
            | (go_at_call 10; with_reducible refine Calls.mono (C6.out _) ?_; rintro e W3 ⟨rfl, hb3⟩; have hc3 := hb3.cells; have hs3 := hb3.size; have z30 := Nat.lt_of_lt_of_le z10 hs3; have z31 := Nat.lt_of_lt_of_le z11 hs3; have z32 := Nat.lt_of_lt_of_le z12 hs3; have z33 := Nat.lt_of_lt_of_le z13 hs3)
            | (go_at_call 15; refine Calls.mono (C2.out _ _ (by simp)) ?_; rintro e W4 ⟨rfl, hb4⟩; have hc4 := hb4.cells; have hs4 := hb4.size; have z40 := Nat.lt_of_lt_of_le z30 hs4; have z41 := Nat.lt_of_lt_of_le z31 hs4; have z42 := Nat.lt_of_lt_of_le z32 hs4; have z43 := Nat.lt_of_lt_of_le z33 hs4)
            | (go_at_call 16; with_reducible refine Calls.mono (C3.out _) ?_; rintro e W5 ⟨rfl, hb5⟩; have hc5 := hb5.cells; have hs5 := hb5.size; have z50 := Nat.lt_of_lt_of_le z40 hs5; have z51 := Nat.lt_of_lt_of_le z41 hs5; have z52 := Nat.lt_of_lt_of_le z42 hs5)
            | (go_at_call 8; with_reducible refine Calls.mono (C4.out _) ?_; rintro e W6 ⟨rfl, hb6⟩; have hc6 := hb6.cells; have hs6 := hb6.size; have z60 := Nat.lt_of_lt_of_le z50 hs6; have z61 := Nat.lt_of_lt_of_le z51 hs6; have z62 := Nat.lt_of_lt_of_le z52 hs6)
            | (go_at_call 8; with_reducible refine Calls.mono (C5.out _) ?_; rintro e W7 ⟨rfl, hb7⟩))
          all_goals
            go_ret
            exact ⟨by simp, ((hbW.trans hb1).trans ((hb3.trans hb4).trans hb5)).trans (hb6.trans hb7)⟩
      | true =>
        cases oh with
        | false =>
          simp only [Bool.false_eq_true, if_false, if_true] at hf ht
          subst hf ht
          go_enter Try.func7, Try.ntmps7
          go_upto_region 2 with fail
          refine under_name (by (first | exact ((((Bel.refl w).alloc _).alloc _).alloc _).alloc _ | ((repeat (first | with_reducible exact Bel.refl _ | with_reducible refine Bel.setCell ?_ (by first | exact Nat.le_refl _ | (dsimp only; omega)) _ | with_reducible refine Bel.alloc ?_ _ | with_reducible refine Bel.drew ?_ | with_reducible assumption | with_reducible refine Bel.trans ?_ (by assumption)))))) fun W hc hf hz hbW => ?_
          have n0 : ValAt W w.heap.size 0 ⟨l0, l1, l2, l3, l4⟩ := by simp [ValAt, hc, go_sem]
          have n1 : ValAt W (w.heap.size + 1) 0 ⟨h0, h1, h2, h3, h4⟩ := by simp [ValAt, hc, go_sem]
          have n2 : ValAt W (w.heap.size + 2) 0 ⟨v0, v1, v2, v3, v4⟩ := by simp [ValAt, hc, go_sem]
          have n3 : TstAt W (w.heap.size + 3) 0 ⟨6, ⟨l0, l1, l2, l3, l4⟩, ⟨h0, h1, h2, h3, h4⟩, true, false⟩ := by simp [TstAt, hc, go_sem]
          have z0 : w.heap.size < W.heap.size := by simp [hz] <;> omega
          have z1 : w.heap.size + 1 < W.heap.size := by simp [hz] <;> omega
          have z2 : w.heap.size + 2 < W.heap.size := by simp [hz] <;> omega
          have z3 : w.heap.size + 3 < W.heap.size := by simp [hz] <;> omega
          clear hc hf hz
          obtain ⟨n00, n01, n02, n03, n04⟩ := n0
          obtain ⟨n10, n11, n12, n13, n14⟩ := n1
          obtain ⟨n20, n21, n22, n23, n24⟩ := n2
          obtain ⟨n30, n31, n32, n33, n34, n35, n36, n37, n38, n39, n3a, n3b, n3c⟩ := n3
          simp only [Nat.zero_add] at n00 n01 n02 n03 n04 n10 n11 n12 n13 n14 n20 n21 n22 n23 n24 n30 n31 n32 n33 n34 n35 n36 n37 n38 n39 n3a n3b n3c
          go_wp2_with (first
            | (go_at_call 8; with_reducible refine Calls.mono (C1.out _) ?_; rintro e W1 ⟨rfl, hb1⟩; have hc1 := hb1.cells; have hs1 := hb1.size; have z10 := Nat.lt_of_lt_of_le z0 hs1; have z11 := Nat.lt_of_lt_of_le z1 hs1; have z12 := Nat.lt_of_lt_of_le z2 hs1; have z13 := Nat.lt_of_lt_of_le z3 hs1)
            | (go_at_call 10; with_reducible refine Calls.mono (C6.out _) ?_; rintro e W3 ⟨rfl, hb3⟩; have hc3 := hb3.cells; have hs3 := hb3.size; have z30 := Nat.lt_of_lt_of_le z10 hs3; have z31 := Nat.lt_of_lt_of_le z11 hs3; have z32 := Nat.lt_of_lt_of_le z12 hs3; have z33 := Nat.lt_of_lt_of_le z13 hs3)
            | (go_at_call 15; refine Calls.mono (C2.out _ _ (by simp)) ?_; rintro e W4 ⟨rfl, hb4⟩; have hc4 := hb4.cells; have hs4 := hb4.size; have z40 := Nat.lt_of_lt_of_le z30 hs4; have z41 := Nat.lt_of_lt_of_le z31 hs4; have z42 := Nat.lt_of_lt_of_le z32 hs4; have z43 := Nat.lt_of_lt_of_le z33 hs4)
            | (go_at_call 16; with_reducible refine Calls.mono (C3.out _) ?_; rintro e W5 ⟨rfl, hb5⟩; have hc5 := hb5.cells; have hs5 := hb5.size; have z50 := Nat.lt_of_lt_of_le z40 hs5; have z51 := Nat.lt_of_lt_of_le z41 hs5; have z52 := Nat.lt_of_lt_of_le z42 hs5)
            | (go_at_call 8; with_reducible refine Calls.mono (C4.out _) ?_; rintro e W6 ⟨rfl, hb6⟩; have hc6 := hb6.cells; have hs6 := hb6.size; have z60 := Nat.lt_of_lt_of_le z50 hs6; have z61 := Nat.lt_of_lt_of_le z51 hs6; have z62 := Nat.lt_of_lt_of_le z52 hs6)
            | (go_at_call 8; with_reducible refine Calls.mono (C5.out _) ?_; rintro e W7 ⟨rfl, hb7⟩))
          all_goals
            go_ret
            exact ⟨by simp, ((hbW.trans hb1).trans ((hb3.trans hb4).trans hb5)).trans (hb6.trans hb7)⟩
        | true =>
          simp only [Bool.false_eq_true, if_false, if_true] at hf ht
          subst hf ht
          go_enter Try.func7, Try.ntmps7
          go_upto_region 2 with fail
          refine under_name (by (first | exact ((((Bel.refl w).alloc _).alloc _).alloc _).alloc _ | ((repeat (first | with_reducible exact Bel.refl _ | with_reducible refine Bel.setCell ?_ (by first | exact Nat.le_refl _ | (dsimp only; omega)) _ | with_reducible refine Bel.alloc ?_ _ | with_reducible refine Bel.drew ?_ | with_reducible assumption | with_reducible refine Bel.trans ?_ (by assumption)))))) fun W hc hf hz hbW => ?_
          have n0 : ValAt W w.heap.size 0 ⟨l0, l1, l2, l3, l4⟩ := by simp [ValAt, hc, go_sem]
          have n1 : ValAt W (w.heap.size + 1) 0 ⟨h0, h1, h2, h3, h4⟩ := by simp [ValAt, hc, go_sem]
          have n2 : ValAt W (w.heap.size + 2) 0 ⟨v0, v1, v2, v3, v4⟩ := by simp [ValAt, hc, go_sem]
          have n3 : TstAt W (w.heap.size + 3) 0 ⟨6, ⟨l0, l1, l2, l3, l4⟩, ⟨h0, h1, h2, h3, h4⟩, true, true⟩ := by simp [TstAt, hc, go_sem]
          have z0 : w.heap.size < W.heap.size := by simp [hz] <;> omega
          have z1 : w.heap.size + 1 < W.heap.size := by simp [hz] <;> omega
          have z2 : w.heap.size + 2 < W.heap.size := by simp [hz] <;> omega
          have z3 : w.heap.size + 3 < W.heap.size := by simp [hz] <;> omega
          clear hc hf hz
          obtain ⟨n00, n01, n02, n03, n04⟩ := n0
          obtain ⟨n10, n11, n12, n13, n14⟩ := n1
          obtain ⟨n20, n21, n22, n23, n24⟩ := n2
          obtain ⟨n30, n31, n32, n33, n34, n35, n36, n37, n38, n39, n3a, n3b, n3c⟩ := n3
          simp only [Nat.zero_add] at n00 n01 n02 n03 n04 n10 n11 n12 n13 n14 n20 n21 n22 n23 n24 n30 n31 n32 n33 n34 n35 n36 n37 n38 n39 n3a n3b n3c
          go_wp2_with (first
            | (go_at_call 8; with_reducible refine Calls.mono (C1.out _) ?_; rintro e W1 ⟨rfl, hb1⟩; have hc1 := hb1.cells; have hs1 := hb1.size; have z10 := Nat.lt_of_lt_of_le z0 hs1; have z11 := Nat.lt_of_lt_of_le z1 hs1; have z12 := Nat.lt_of_lt_of_le z2 hs1; have z13 := Nat.lt_of_lt_of_le z3 hs1)
            | (go_at_call 10; with_reducible refine Calls.mono (C6.out _) ?_; rintro e W3 ⟨rfl, hb3⟩; have hc3 := hb3.cells; have hs3 := hb3.size; have z30 := Nat.lt_of_lt_of_le z10 hs3; have z31 := Nat.lt_of_lt_of_le z11 hs3; have z32 := Nat.lt_of_lt_of_le z12 hs3; have z33 := Nat.lt_of_lt_of_le z13 hs3)
            | (go_at_call 15; refine Calls.mono (C2.out _ _ (by simp)) ?_; rintro e W4 ⟨rfl, hb4⟩; have hc4 := hb4.cells; have hs4 := hb4.size; have z40 := Nat.lt_of_lt_of_le z30 hs4; have z41 := Nat.lt_of_lt_of_le z31 hs4; have z42 := Nat.lt_of_lt_of_le z32 hs4; have z43 := Nat.lt_of_lt_of_le z33 hs4)
            | (go_at_call 16; with_reducible refine Calls.mono (C3.out _) ?_; rintro e W5 ⟨rfl, hb5⟩; have hc5 := hb5.cells; have hs5 := hb5.size; have z50 := Nat.lt_of_lt_of_le z40 hs5; have z51 := Nat.lt_of_lt_of_le z41 hs5; have z52 := Nat.lt_of_lt_of_le z42 hs5)
            | (go_at_call 8; with_reducible refine Calls.mono (C4.out _) ?_; rintro e W6 ⟨rfl, hb6⟩; have hc6 := hb6.cells; have hs6 := hb6.size; have z60 := Nat.lt_of_lt_of_le z50 hs6; have z61 := Nat.lt_of_lt_of_le z51 hs6; have z62 := Nat.lt_of_lt_of_le z52 hs6)
            | (go_at_call 8; with_reducible refine Calls.mono (C5.out _) ?_; rintro e W7 ⟨rfl, hb7⟩))
          all_goals
            go_ret
            exact ⟨by simp, ((hbW.trans hb1).trans ((hb3.trans hb4).trans hb5)).trans (hb6.trans hb7)⟩
theorem law_Between (low high v : Val) (ol oh : Bool) (w : World) (hl : low.text.size ≤ 9223372036854775807) (hh : high.text.size ≤ 9223372036854775807) (hv : v.text.size ≤ 9223372036854775807) :
    Calls Try.prog 7 #[low.val, high.val, v.val, .bool ol, .bool oh] w fun e w' => e = .returned (.bool true) ∧ Bel w w' := by
  have k1 := fun W => mOne_any ⟨6, low, high, ol, oh⟩ v ⟨hl, hh⟩ hv W
  simp only [oneV_if] at k1
  refine between_walk low high v ol oh _ _ _ _ _ _ _ rfl rfl (fun h => (bet_ok h).2.2) w k1 (fun W n hn => ?_) (fun W => rvsound_any v hv W) (fun h1 h2 W => ?_) (fun h1 h2 W => ?_)
  · have k := rusound_any false false [⟨6, low, high, ol, oh⟩] (some ⟨n, 0, none⟩) 1 _ (tst_one W ⟨6, low, high, ol, oh⟩ hn) (by simp) (fun u hu => by simp at hu; subst hu; exact ⟨hl, hh⟩)
    have e : usnd false false [⟨6, low, high, ol, oh⟩] = tsnd ⟨6, low, high, ol, oh⟩ := by simp [usnd]
    rw [e] at k
    exact k.mono fun e w' ⟨he, hb⟩ => ⟨he, (Bel.alloc (Bel.refl W) _).trans hb⟩
  · have k := mOne_any (cutT (if ol then 4 else 5) low) v (cut_ok hl) hv W
    rw [oneV_if, (bet_ok (v := v) h1).1, h2] at k
    exact k
  · have k := mOne_any (cutT (if oh then 2 else 3) high) v (cut_ok hh) hv W
    rw [oneV_if, (bet_ok (v := v) h1).2.1, h2] at k
    exact k
end Go.Proofs.Ytopgahnconbpmaa
