import Derived.Test.YtabplogknipjiaaDoorDyl
namespace Go.Proofs.YtabplogknipjiaaDoor
set_option linter.unusedSimpArgs false
set_option linter.unusedVariables false
open Go.RowKit

theorem far_date (n : Int) (h1 : 0 ≤ n) (h2 : n + 146097 ≤ 3652058) : dY (n + 146097) = dY n + 400 ∧ dM (n + 146097) = dM n ∧ dD (n + 146097) = dD n := by
  obtain ⟨⟨s1, s2, s3, s4, s5, s6⟩, hn⟩ := date_spec n h1 (by omega)
  have hL : leapB (dY n + 400) = leapB (dY n) := by rw [Bool.eq_iff_iff, leap_iff, leap_iff]; omega
  have hB : bef (dY n + 400) = bef (dY n) + 146097 := by unfold bef; omega
  have hC : cumM (dY n + 400) (dM n) = cumM (dY n) (dM n) := by unfold cumM feb; rw [hL]
  have hl : lenM (dY n + 400) (dM n) = lenM (dY n) (dM n) := by unfold lenM; rw [hL]
  have hN : numD (dY n + 400) (dM n) (dD n) = n + 146097 := by unfold numD at hn ⊢; omega
  have hy : dY n + 400 ≤ 9999 := by
    by_cases hh : dY n + 400 ≤ 9999
    · exact hh
    · exfalso
      have h5 := bef_mono 10000 (dY n + 400) (by omega)
      have h6 : bef 10000 = 3652059 := by decide
      have h7 := cum_bd (dY n) (dM n) s4
      unfold numD at hn
      omega
  obtain ⟨a, b, c⟩ := date_is (n := n + 146097) ⟨by omega, hy, s3, s4, s5, by rw [hl]; exact s6⟩ hN
  exact ⟨a.symm, b.symm, c.symm⟩

theorem bl_dig (a b : Nat) (ha : a < 10) (hb : b < 10) (l r : List UInt8) : Op.bytesLess (UInt8.ofNat (48 + a) :: l) (UInt8.ofNat (48 + b) :: r) = if a < b then true else if a = b then Op.bytesLess l r else false := by
  have h1 : (UInt8.ofNat (48 + a)).toNat = 48 + a := by rw [UInt8.toNat_ofNat']; omega
  have h2 : (UInt8.ofNat (48 + b)).toNat = 48 + b := by rw [UInt8.toNat_ofNat']; omega
  have h3 : (UInt8.ofNat (48 + a) < UInt8.ofNat (48 + b)) ↔ a < b := by rw [UInt8.lt_iff_toNat_lt, h1, h2]; omega
  have h4 : (UInt8.ofNat (48 + a) = UInt8.ofNat (48 + b)) ↔ a = b := by rw [← UInt8.toNat_inj, h1, h2]; omega
  rw [Op.bytesLess]
  by_cases x : a < b
  · rw [if_pos x, decide_eq_true (h3.mpr x)]; rfl
  · by_cases y : a = b
    · subst y; simp
    · rw [if_neg x, if_neg y]
      simp only [h3, x, decide_false, Bool.false_or, Bool.and_eq_false_iff, beq_eq_false_iff_ne, ne_eq, h4, y, not_false_eq_true, true_or]
theorem bl_sep (l r : List UInt8) : Op.bytesLess (45 :: l) (45 :: r) = Op.bytesLess l r := by rw [Op.bytesLess]; simp
theorem bl_2 (m m' : Nat) (h : m < 100) (h' : m' < 100) (l r : List UInt8) : Op.bytesLess (dgt m 10 :: dgt m 1 :: l) (dgt m' 10 :: dgt m' 1 :: r) = if m < m' then true else if m = m' then Op.bytesLess l r else false := by
  unfold dgt
  rw [bl_dig _ _ (by omega) (by omega), bl_dig _ _ (by omega) (by omega)]
  by_cases x : m < m'
  · rw [if_pos x]
    by_cases a : m / 10 % 10 < m' / 10 % 10
    · rw [if_pos a]
    · rw [if_neg a, if_pos (by omega), if_pos (by omega)]
  · rw [if_neg x]
    by_cases y : m = m'
    · subst y; simp
    · rw [if_neg y, if_neg (by omega)]
      by_cases a : m / 10 % 10 = m' / 10 % 10
      · rw [if_pos a, if_neg (by omega), if_neg (by omega)]
      · rw [if_neg a]
theorem dgt_hi (y : Nat) (h : y < 10000) : dgt y 1000 = dgt (y / 100) 10 ∧ dgt y 100 = dgt (y / 100) 1 ∧ dgt y 10 = dgt (y % 100) 10 ∧ dgt y 1 = dgt (y % 100) 1 := by
  unfold dgt
  refine ⟨?_, ?_, ?_, ?_⟩ <;> congr 2 <;> omega
theorem bl_4 (y y' : Nat) (h : y < 10000) (h' : y' < 10000) (l r : List UInt8) : Op.bytesLess (dgt y 1000 :: dgt y 100 :: dgt y 10 :: dgt y 1 :: l) (dgt y' 1000 :: dgt y' 100 :: dgt y' 10 :: dgt y' 1 :: r) =
    if y < y' then true else if y = y' then Op.bytesLess l r else false := by
  obtain ⟨a1, a2, a3, a4⟩ := dgt_hi y h
  obtain ⟨b1, b2, b3, b4⟩ := dgt_hi y' h'
  rw [a1, a2, a3, a4, b1, b2, b3, b4, bl_2 _ _ (by omega) (by omega), bl_2 _ _ (by omega) (by omega)]
  by_cases x : y < y'
  · rw [if_pos x]
    by_cases a : y / 100 < y' / 100
    · rw [if_pos a]
    · rw [if_neg a, if_pos (by omega), if_pos (by omega)]
  · rw [if_neg x]
    by_cases z : y = y'
    · subst z; simp
    · rw [if_neg z, if_neg (by omega)]
      by_cases a : y / 100 = y' / 100
      · rw [if_pos a, if_neg (by omega), if_neg (by omega)]
      · rw [if_neg a]
theorem bl_txt (y m d y' m' d' : Nat) (hy : y < 10000) (hm : m < 100) (hd : d < 100) (hy' : y' < 10000) (hm' : m' < 100) (hd' : d' < 100) :
    Op.bytesLess (txt y m d).toList (txt y' m' d').toList = if y < y' then true else if y = y' then (if m < m' then true else if m = m' then (if d < d' then true else false) else false) else false := by
  rw [ByteArray.toList_eq, ByteArray.toList_eq]
  show Op.bytesLess [dgt y 1000, dgt y 100, dgt y 10, dgt y 1, 45, dgt m 10, dgt m 1, 45, dgt d 10, dgt d 1] [dgt y' 1000, dgt y' 100, dgt y' 10, dgt y' 1, 45, dgt m' 10, dgt m' 1, 45, dgt d' 10, dgt d' 1] = _
  rw [bl_4 y y' hy hy', bl_sep, bl_2 m m' hm hm', bl_sep, bl_2 d d' hd hd']
  simp [Op.bytesLess]
theorem order (k j : Int) (k0 : 0 ≤ k) (k1 : k ≤ 3652058) (j0 : 0 ≤ j) (j1 : j ≤ 3652058) : Op.bytesLess (dtx k).toList (dtx j).toList = decide (k < j) := by
  obtain ⟨hs, hn⟩ := date_spec k k0 k1
  obtain ⟨hs', hn'⟩ := date_spec j j0 j1
  have hs0 := hs
  have hs0' := hs'
  obtain ⟨s1, s2, s3, s4, s5, s6⟩ := hs0
  obtain ⟨t1, t2, t3, t4, t5, t6⟩ := hs0'
  have s7 := lenM_bd (dY k) (dM k)
  have t7 := lenM_bd (dY j) (dM j)
  unfold dtx
  rw [bl_txt _ _ _ _ _ _ (by omega) (by omega) (by omega) (by omega) (by omega) (by omega)]
  by_cases a : (dY k).toNat < (dY j).toNat
  · rw [if_pos a]
    have := num_lt _ _ _ _ _ _ hs hs' (.inl (by omega))
    simp; omega
  · rw [if_neg a]
    by_cases a' : (dY k).toNat = (dY j).toNat
    · rw [if_pos a']
      by_cases b : (dM k).toNat < (dM j).toNat
      · rw [if_pos b]
        have := num_lt _ _ _ _ _ _ hs hs' (.inr ⟨by omega, .inl (by omega)⟩)
        simp; omega
      · rw [if_neg b]
        by_cases b' : (dM k).toNat = (dM j).toNat
        · rw [if_pos b']
          by_cases c : (dD k).toNat < (dD j).toNat
          · rw [if_pos c]
            have := num_lt _ _ _ _ _ _ hs hs' (.inr ⟨by omega, .inr ⟨by omega, by omega⟩⟩)
            simp; omega
          · rw [if_neg c]
            by_cases c' : dD k = dD j
            · have : k = j := by rw [← hn, ← hn', show dY k = dY j by omega, show dM k = dM j by omega, c']
              simp; omega
            · have := num_lt _ _ _ _ _ _ hs' hs (.inr ⟨by omega, .inr ⟨by omega, by omega⟩⟩)
              simp; omega
        · rw [if_neg b']
          have := num_lt _ _ _ _ _ _ hs' hs (.inr ⟨by omega, .inl (by omega)⟩)
          simp; omega
    · rw [if_neg a']
      have := num_lt _ _ _ _ _ _ hs' hs (.inl (by omega))
      simp; omega

set_option maxRecDepth 100000 in
set_option maxHeartbeats 4000000 in
/-- Of two days the later one has the later text; and 400 years have 146,097 days. -/
theorem law_Order (x y : Int) (h0 : 0 ≤ x) (h1 : x ≤ 4294967295) (g0 : 0 ≤ y) (g1 : y ≤ 4294967295) (w : World) (ht : Tab w) : Calls Tryd.prog 6 #[.int .u32 x, .int .u32 y] w fun e w' => e = .returned (.bool true) ∧ Bel w w' := by
  obtain ⟨k, hk⟩ : ∃ k, x % 3652059 = k := ⟨_, rfl⟩
  obtain ⟨j, hj⟩ : ∃ j, y % 3652059 = j := ⟨_, rfl⟩
  have k0 : 0 ≤ k := by omega
  have k1 : k ≤ 3652058 := by omega
  have j0 : 0 ≤ j := by omega
  have j1 : j ≤ 3652058 := by omega
  have hord := order k j k0 k1 j0 j1
  obtain ⟨e1, e2, e3, e4, e5⟩ := back k k0 k1
  obtain ⟨f1, f2, f3, f4, f5⟩ := back j j0 j1
  have hb : Bel w w := Bel.refl _
  generalize dtx k = S at *
  generalize dtx j = T at *
  have E3 := Lib.hid e3
  have F3 := Lib.hid f3
  have E1 := Lib.hid e1
  clear e1 e2 e3 e4 e5 f1 f2 f3 f4 f5
  have hor : Op.bytesLess S.toList T.toList = true ∧ decide (k < j) = true ∨ Op.bytesLess S.toList T.toList = false ∧ decide (k < j) = false := by
    rw [hord]; cases decide (k < j) <;> simp
  clear hord
  rcases hor with ⟨o1, o2⟩ | ⟨o1, o2⟩
  all_goals
    by_cases hf : k + 146097 ≤ 3652058
    · have b1 : decide (3652058 < k + 146097) = false := by simp; omega
      obtain ⟨p1, p2, p3⟩ := far_date k k0 hf
      have e6 : dateV (k + 146097) = .tuple #[.int .i64 (dY k + 400), .int .i64 (dM k), .int .i64 (dD k), .int .i64 0] := by rw [← p1, ← p2, ← p3]; exact if_pos ⟨by omega, hf⟩
      obtain ⟨⟨s1, s2, -⟩, -⟩ := date_spec k k0 k1
      generalize dY k = Y at *
      generalize dM k = M at *
      generalize dD k = D at *
      have E6 := Lib.hid e6
      clear e6 p1 p2 p3
      go_enter Tryd.func6, Tryd.ntmps6
      go_wp2_with (first
        | (go_at_call 13; refine (text_any _ _ (ht.keep hb)).mono ?_; rintro e w1 ⟨rfl, hb1⟩; (first | rw [E3.out] | rw [F3.out]); replace hb := hb.trans hb1; clear hb1)
        | (go_at_call 10; refine (date_any _ _).mono ?_; rintro e w1 ⟨rfl, hb1⟩; (first | rw [E1.out] | rw [E6.out]); replace hb := hb.trans hb1; clear hb1)
        | (go_at_call 12; refine (awake_any _ (ht.keep hb)).mono ?_; rintro e w1 ⟨rfl, hb1⟩; replace hb := hb.trans hb1; clear hb1))
      go_ret
      exact ⟨rfl, hb⟩
    · have b1 : decide (3652058 < k + 146097) = true := by simp; omega
      clear hf
      go_enter Tryd.func6, Tryd.ntmps6
      go_wp2_with (first
        | (go_at_call 13; refine (text_any _ _ (ht.keep hb)).mono ?_; rintro e w1 ⟨rfl, hb1⟩; (first | rw [E3.out] | rw [F3.out]); replace hb := hb.trans hb1; clear hb1)
        | (go_at_call 12; refine (awake_any _ (ht.keep hb)).mono ?_; rintro e w1 ⟨rfl, hb1⟩; replace hb := hb.trans hb1; clear hb1))
      go_ret
      exact ⟨rfl, hb⟩
end Go.Proofs.YtabplogknipjiaaDoor
