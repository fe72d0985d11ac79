import Derived.Test.YtofcjdbodhoacaaGreatDoorLzi
namespace Go.Proofs.YtofcjdbodhoacaaGreatDoor
set_option linter.unusedSimpArgs false
set_option linter.unusedVariables false
open Go.RowKit

/-! The document: a token written. -/
set_option maxRecDepth 100000 in
set_option maxHeartbeats 4000000 in
theorem rquoted_big (s : ByteArray) (hs : s.size ≤ 1048576) (w : World) : Calls Tryz.prog 51 #[.string s] w fun e w' => e = .returned (.string ⟨(quoL s.data.toList).toArray⟩) ∧ w' = w := by
  have hsi : (s.size : Int) ≤ 1048576 := by omega
  go_enter Tryz.func51, Tryz.ntmps51
  go_wp2_with fail
  go_loopg [3, 4] s.size (fun g v i wr => ∃ (k : Nat) (o : ByteArray), v = .string o ∧ i = .int .i64 k ∧ k ≤ s.size ∧ Hid (o = ⟨([34] ++ qtL (s.data.toList.take k)).toArray⟩ ∧ g = s.size - k) ∧ wr = w)
  case atStart => exact ⟨0, ⟨#[34]⟩, rfl, rfl, Nat.zero_le _, ⟨rfl, rfl⟩, rfl⟩
  case round =>
    obtain ⟨k, o, rfl, rfl, hk, hh, rfl⟩ := hrel
    have hoz : (o.size : Int) ≤ 2097153 := by
      have h1 := qt_len (s.data.toList.take k)
      have h2 : (s.data.toList.take k).length ≤ k := by rw [List.length_take]; omega
      have h3 : o.size = ([34] ++ qtL (s.data.toList.take k)).length := by rw [hh.out.1, bsize]
      rw [List.length_append] at h3
      simp at h3
      omega
    by_cases hp : k < s.size
    · have j1 : (k : Int) < s.size := by omega
      have hsn := qt_snoc s k hp
      have hex := ext_1 s k hp
      have HX := Lib.hid hex
      have hxz : ((s.extract k (k + 1)).size : Int) ≤ 1 := by
        have h1 : (s.extract k (k + 1)).size = 1 := by rw [hex, bsize]; rfl
        omega
      clear hex
      by_cases hq : s[k].toNat = 34
      · have e1 : ((s[k].toNat : Int) == 34) = true := by rw [beq_iff_eq]; omega
        have HS := Lib.hid (show qtL (s.data.toList.take (k + 1)) = qtL (s.data.toList.take k) ++ [92, s[k]] by rw [hsn, byte_is (n := 34) (by decide) hq]; rfl)
        clear hsn hq
        go_wp2_with fail
        go_roundg (s.size - (k + 1))
        case measure => have := hh.out.2; omega
        case rel => exact ⟨k + 1, _, rfl, by go_num, by omega, ⟨by
          rw [HX.out, hh.out.1, HS.out]
          exact (congrArg (· ++ (⟨[s[k]].toArray⟩ : ByteArray)) (app_b _ [92])).trans ((app_b _ _).trans (by simp)), rfl⟩, rfl⟩
      · have e1 : ((s[k].toNat : Int) == 34) = false := by rw [beq_eq_false_iff_ne]; omega
        by_cases hq2 : s[k].toNat = 92
        · have e2 : ((s[k].toNat : Int) == 92) = true := by rw [beq_iff_eq]; omega
          have HS := Lib.hid (show qtL (s.data.toList.take (k + 1)) = qtL (s.data.toList.take k) ++ [92, s[k]] by rw [hsn, byte_is (n := 92) (by decide) hq2]; rfl)
          clear hsn hq hq2
          go_wp2_with fail
          go_roundg (s.size - (k + 1))
          case measure => have := hh.out.2; omega
          case rel => exact ⟨k + 1, _, rfl, by go_num, by omega, ⟨by
            rw [HX.out, hh.out.1, HS.out]
            exact (congrArg (· ++ (⟨[s[k]].toArray⟩ : ByteArray)) (app_b _ [92])).trans ((app_b _ _).trans (by simp)), rfl⟩, rfl⟩
        · have e2 : ((s[k].toNat : Int) == 92) = false := by rw [beq_eq_false_iff_ne]; omega
          have HS := Lib.hid (show qtL (s.data.toList.take (k + 1)) = qtL (s.data.toList.take k) ++ [s[k]] by
            rw [hsn]
            unfold qtB
            rw [if_neg (by rintro (h | h) <;> rw [h] at hq hq2 <;> simp at hq hq2)])
          clear hsn hq hq2
          go_wp2_with fail
          go_roundg (s.size - (k + 1))
          case measure => have := hh.out.2; omega
          case rel => exact ⟨k + 1, _, rfl, by go_num, by omega, ⟨by
            rw [HX.out, hh.out.1, HS.out]
            exact (app_b _ _).trans (by simp), rfl⟩, rfl⟩
    · have L := Lib.hid (show o ++ ⟨#[34]⟩ = (⟨(quoL s.data.toList).toArray⟩ : ByteArray) by
        rw [hh.out.1, List.take_of_length_le (by rw [size_list_C]; omega)]
        exact app_b _ [34])
      go_wp2_with fail
      go_ret
      exact ⟨by (rw [← L.out]) <;> rfl, rfl⟩
def WrOut (t : Tok) (w : World) (e : Ending) (w' : World) : Prop := Bel w w' ∧ ∃ x, e = .returned (.tuple #[.string x, .bool (tsnd t)]) ∧ (tsnd t = true → x = bytesOf (wrT t))
section
variable {p a b d : Int} {x : List UInt8}
theorem ts1 : tsnd ⟨1, p, x, a, b, d⟩ = true ↔ x = [] ∧ d = 0 ∧ SndD a b ∧ 0 ≤ a := by
  rw [tsnd1, Bool.and_eq_true, teqv_iff, Bool.and_eq_true, decide_eq_true_eq]
  constructor
  · rintro ⟨⟨_, _, h1, _, _, h2⟩, h3, h4⟩
    exact ⟨bytesOf_inj (b := []) h1, h2, of_decide_eq_true h3, h4⟩
  · rintro ⟨rfl, h2, h3, h4⟩
    exact ⟨⟨rfl, rfl, rfl, rfl, rfl, h2⟩, decide_eq_true h3, h4⟩
theorem ts2 : tsnd ⟨2, p, x, a, b, d⟩ = true ↔ a = 0 ∧ b = 0 ∧ d = 0 ∧ strOk x = true := by
  rw [tsnd2, Bool.and_eq_true, teqv_iff]
  constructor
  · rintro ⟨⟨_, _, _, h1, h2, h3⟩, h4⟩
    exact ⟨h1, h2, h3, h4⟩
  · rintro ⟨h1, h2, h3, h4⟩
    exact ⟨⟨rfl, rfl, rfl, h1, h2, h3⟩, h4⟩
theorem ts3 : tsnd ⟨3, p, x, a, b, d⟩ = true ↔ a = 0 ∧ b = 0 ∧ x = [] ∧ (0 ≤ d ∧ d ≤ 3652058) := by
  rw [tsnd3, Bool.and_eq_true, teqv_iff, decide_eq_true_eq]
  constructor
  · rintro ⟨⟨_, _, h1, h2, h3, _⟩, h4⟩
    exact ⟨h2, h3, bytesOf_inj (b := []) h1, h4⟩
  · rintro ⟨h1, h2, rfl, h4⟩
    exact ⟨⟨rfl, rfl, rfl, h1, h2, rfl⟩, h4⟩
theorem ts4 : tsnd ⟨4, p, x, a, b, d⟩ = true ↔ a = 0 ∧ b = 0 ∧ d = 0 ∧ nmOk x = true := by
  rw [tsnd4, Bool.and_eq_true, teqv_iff]
  constructor
  · rintro ⟨⟨_, _, _, h1, h2, h3⟩, h4⟩
    exact ⟨h1, h2, h3, h4⟩
  · rintro ⟨h1, h2, h3, h4⟩
    exact ⟨⟨rfl, rfl, rfl, h1, h2, h3⟩, h4⟩
theorem ts5 : tsnd ⟨5, p, x, a, b, d⟩ = true ↔ a = 0 ∧ b = 0 ∧ d = 0 ∧ x ∈ signsL := by
  rw [tsnd5, Bool.and_eq_true, teqv_iff, List.contains_iff_mem]
  constructor
  · rintro ⟨⟨_, _, _, h1, h2, h3⟩, h4⟩
    exact ⟨h1, h2, h3, h4⟩
  · rintro ⟨h1, h2, h3, h4⟩
    exact ⟨⟨rfl, rfl, rfl, h1, h2, h3⟩, h4⟩
end
theorem wr_no {t : Tok} {w w' : World} {e : Ending} {x : ByteArray} (h : tsnd t = false) (he : e = .returned (.tuple #[.string x, .bool false])) (hb : Bel w w') : WrOut t w e w' :=
  ⟨hb, x, by rw [he, h], fun h' => by rw [h] at h'; cases h'⟩
theorem wr_yes {t : Tok} {w w' : World} {e : Ending} {x : ByteArray} (h : tsnd t = true) (he : e = .returned (.tuple #[.string x, .bool true])) (hx : x = bytesOf (wrT t)) (hb : Bel w w') : WrOut t w e w' :=
  ⟨hb, x, by rw [he, h], fun _ => hx⟩
theorem emp_t {x : List UInt8} (h : x = []) : (bytesOf x).toList.isEmpty = true ∧ (bytesOf x).toList = [] ∧ ((bytesOf x).toList == []) = true := by
  subst h
  have e : (bytesOf []).toList = [] := by rw [ByteArray.toList_eq]; rfl
  rw [e]
  decide
theorem emp_f {x : List UInt8} (h : ¬ x = []) : (bytesOf x).toList.isEmpty = false ∧ ¬ (bytesOf x).toList = [] ∧ ((bytesOf x).toList == []) = false := by
  have e : (bytesOf x).toList = x := by rw [ByteArray.toList_eq, bytes_toList]
  rw [e]
  cases x with
  | nil => exact absurd rfl h
  | cons _ _ => simp
set_option maxRecDepth 100000 in
set_option maxHeartbeats 8000000 in
theorem rwritten1 (p : Int) (x : List UInt8) (a b d : Int) (hx : x.length ≤ 1048576) (w : World) : Calls Tryz.prog 29 #[.agg #[.int .i64 1, .int .i64 p, .string (bytesOf x), .int .i64 a, .int .i64 b, .int .i64 d]] w (WrOut ⟨1, p, x, a, b, d⟩ w) := by
  by_cases ha : a = 0
  · have e1 : (a == 0) = true := beq_iff_eq.2 ha
    by_cases hb0 : b = 0
    · have e2 : (b == 0) = true := beq_iff_eq.2 hb0
      by_cases hs : SndD a b
      · have CT := Lib.hid fun W => rtext_any a b W
        rw [show textV a b = .tuple #[.string ⟨(txtL (decide (a < 0)) a.natAbs b.toNat).toArray⟩, .int .i64 0] from if_pos hs] at CT
        by_cases h0 : 0 ≤ a
        · have g0 : decide (a ≥ 0) = true := decide_eq_true h0
          by_cases hxe : x = []
          · obtain ⟨q1, q2, q3⟩ := emp_t hxe
            by_cases hd : d = 0
            · have g3 : (d == 0) = true := beq_iff_eq.2 hd
              have TS := Lib.hid ((ts1 (p := p)).2 ⟨hxe, hd, hs, h0⟩)
              have TX := Lib.hid (show (⟨(txtL (decide (a < 0)) a.natAbs b.toNat).toArray⟩ : ByteArray) = bytesOf (wrT ⟨1, p, x, a, b, d⟩) from rfl)
              generalize (⟨(txtL (decide (a < 0)) a.natAbs b.toNat).toArray⟩ : ByteArray) = TXT at CT TX
              (try clear hs)
              (try clear h0)
              (try clear hxe)
              (try clear hd)
              (try clear ha)
              (try clear hb0)
              (try clear hx)
              go_enter Tryz.func29, Tryz.ntmps29
              go_upto_region 1 with fail
              refine under_name ((Bel.refl w).alloc _) fun W hc hf hz hb => ?_
              have T : TSlot W w.heap.size ⟨1, p, x, a, b, d⟩ := by simp [TSlot, hc, hf, hz, go_sem]
              clear hc hf hz
              generalize w.heap.size = N at T ⊢
              have TT := Lib.hid T
              obtain ⟨s0, ⟨s1, s2, s3, s4, s5, s6⟩, _⟩ := T
              simp only at s1 s2 s3 s4 s5 s6
              go_wp2_with (go_at_call 50; (with_reducible refine Calls.mono (CT.out _) ?_); rintro ee W1 ⟨rfl, hb1⟩; obtain ⟨t0, ⟨t1, t2, t3, t4, t5, t6⟩, _⟩ := TT.out.keep hb1; simp only at t1 t2 t3 t4 t5 t6; clear s0 s1 s2 s3 s4 s5 s6)
              go_quiet (fail)
              go_wp2_with fail
              go_ret2
              exact wr_yes TS.out rfl (by rw [TX.out]) ((hb.trans hb1).trans (bel_drewN _ _))
            · have g3 : (d == 0) = false := beq_eq_false_iff_ne.2 hd
              have TS := Lib.hid (show tsnd ⟨1, p, x, a, b, d⟩ = false from by rw [Bool.eq_false_iff]; exact fun h => hd (ts1.1 h).2.1)
              generalize (⟨(txtL (decide (a < 0)) a.natAbs b.toNat).toArray⟩ : ByteArray) = TXT at CT
              (try clear hs)
              (try clear h0)
              (try clear hxe)
              (try clear hd)
              (try clear ha)
              (try clear hb0)
              (try clear hx)
              go_enter Tryz.func29, Tryz.ntmps29
              go_upto_region 1 with fail
              refine under_name ((Bel.refl w).alloc _) fun W hc hf hz hb => ?_
              have T : TSlot W w.heap.size ⟨1, p, x, a, b, d⟩ := by simp [TSlot, hc, hf, hz, go_sem]
              clear hc hf hz
              generalize w.heap.size = N at T ⊢
              have TT := Lib.hid T
              obtain ⟨s0, ⟨s1, s2, s3, s4, s5, s6⟩, _⟩ := T
              simp only at s1 s2 s3 s4 s5 s6
              go_wp2_with (go_at_call 50; (with_reducible refine Calls.mono (CT.out _) ?_); rintro ee W1 ⟨rfl, hb1⟩; obtain ⟨t0, ⟨t1, t2, t3, t4, t5, t6⟩, _⟩ := TT.out.keep hb1; simp only at t1 t2 t3 t4 t5 t6; clear s0 s1 s2 s3 s4 s5 s6)
              go_quiet (fail)
              go_wp2_with fail
              go_ret2
              exact wr_no TS.out rfl ((hb.trans hb1).trans (bel_drewN _ _))
          · obtain ⟨q1, q2, q3⟩ := emp_f hxe
            have TS := Lib.hid (show tsnd ⟨1, p, x, a, b, d⟩ = false from by rw [Bool.eq_false_iff]; exact fun h => hxe (ts1.1 h).1)
            generalize (⟨(txtL (decide (a < 0)) a.natAbs b.toNat).toArray⟩ : ByteArray) = TXT at CT
            clear q2
            (try clear hs)
            (try clear h0)
            (try clear hxe)
            (try clear hd)
            (try clear ha)
            (try clear hb0)
            (try clear hx)
            go_enter Tryz.func29, Tryz.ntmps29
            go_upto_region 1 with fail
            refine under_name ((Bel.refl w).alloc _) fun W hc hf hz hb => ?_
            have T : TSlot W w.heap.size ⟨1, p, x, a, b, d⟩ := by simp [TSlot, hc, hf, hz, go_sem]
            clear hc hf hz
            generalize w.heap.size = N at T ⊢
            have TT := Lib.hid T
            obtain ⟨s0, ⟨s1, s2, s3, s4, s5, s6⟩, _⟩ := T
            simp only at s1 s2 s3 s4 s5 s6
            go_wp2_with (go_at_call 50; (with_reducible refine Calls.mono (CT.out _) ?_); rintro ee W1 ⟨rfl, hb1⟩; obtain ⟨t0, ⟨t1, t2, t3, t4, t5, t6⟩, _⟩ := TT.out.keep hb1; simp only at t1 t2 t3 t4 t5 t6; clear s0 s1 s2 s3 s4 s5 s6)
            go_quiet (fail)
            go_wp2_with fail
            go_ret2
            exact wr_no TS.out rfl ((hb.trans hb1).trans (bel_drewN _ _))
        · have g0 : decide (a ≥ 0) = false := decide_eq_false h0
          have TS := Lib.hid (show tsnd ⟨1, p, x, a, b, d⟩ = false from by rw [Bool.eq_false_iff]; exact fun h => h0 (ts1.1 h).2.2.2)
          have h0' : a < 0 := by omega
          generalize (⟨(txtL (decide (a < 0)) a.natAbs b.toNat).toArray⟩ : ByteArray) = TXT at CT
          (try clear hs)
          (try clear h0)
          (try clear hxe)
          (try clear hd)
          (try clear ha)
          (try clear hb0)
          (try clear hx)
          go_enter Tryz.func29, Tryz.ntmps29
          go_upto_region 1 with fail
          refine under_name ((Bel.refl w).alloc _) fun W hc hf hz hb => ?_
          have T : TSlot W w.heap.size ⟨1, p, x, a, b, d⟩ := by simp [TSlot, hc, hf, hz, go_sem]
          clear hc hf hz
          generalize w.heap.size = N at T ⊢
          have TT := Lib.hid T
          obtain ⟨s0, ⟨s1, s2, s3, s4, s5, s6⟩, _⟩ := T
          simp only at s1 s2 s3 s4 s5 s6
          go_wp2_with (go_at_call 50; (with_reducible refine Calls.mono (CT.out _) ?_); rintro ee W1 ⟨rfl, hb1⟩; obtain ⟨t0, ⟨t1, t2, t3, t4, t5, t6⟩, _⟩ := TT.out.keep hb1; simp only at t1 t2 t3 t4 t5 t6; clear s0 s1 s2 s3 s4 s5 s6)
          go_quiet (fail)
          go_wp2_with fail
          go_ret2
          exact wr_no TS.out rfl ((hb.trans hb1).trans (bel_drewN _ _))
      · have CT := Lib.hid fun W => rtext_any a b W
        rw [show textV a b = .tuple #[.string ⟨#[]⟩, .int .i64 2] from if_neg hs] at CT
        have TS := Lib.hid (show tsnd ⟨1, p, x, a, b, d⟩ = false from by rw [Bool.eq_false_iff]; exact fun h => hs (ts1.1 h).2.2.1)
        (try clear hs)
        (try clear h0)
        (try clear hxe)
        (try clear hd)
        (try clear ha)
        (try clear hb0)
        (try clear hx)
        go_enter Tryz.func29, Tryz.ntmps29
        go_upto_region 1 with fail
        refine under_name ((Bel.refl w).alloc _) fun W hc hf hz hb => ?_
        have T : TSlot W w.heap.size ⟨1, p, x, a, b, d⟩ := by simp [TSlot, hc, hf, hz, go_sem]
        clear hc hf hz
        generalize w.heap.size = N at T ⊢
        have TT := Lib.hid T
        obtain ⟨s0, ⟨s1, s2, s3, s4, s5, s6⟩, _⟩ := T
        simp only at s1 s2 s3 s4 s5 s6
        go_wp2_with (go_at_call 50; (with_reducible refine Calls.mono (CT.out _) ?_); rintro ee W1 ⟨rfl, hb1⟩; obtain ⟨t0, ⟨t1, t2, t3, t4, t5, t6⟩, _⟩ := TT.out.keep hb1; simp only at t1 t2 t3 t4 t5 t6; clear s0 s1 s2 s3 s4 s5 s6)
        go_quiet (fail)
        go_wp2_with fail
        go_ret2
        exact wr_no TS.out rfl ((hb.trans hb1).trans (bel_drewN _ _))
    · have e2 : (b == 0) = false := beq_eq_false_iff_ne.2 hb0
      by_cases hs : SndD a b
      · have CT := Lib.hid fun W => rtext_any a b W
        rw [show textV a b = .tuple #[.string ⟨(txtL (decide (a < 0)) a.natAbs b.toNat).toArray⟩, .int .i64 0] from if_pos hs] at CT
        by_cases h0 : 0 ≤ a
        · have g0 : decide (a ≥ 0) = true := decide_eq_true h0
          by_cases hxe : x = []
          · obtain ⟨q1, q2, q3⟩ := emp_t hxe
            by_cases hd : d = 0
            · have g3 : (d == 0) = true := beq_iff_eq.2 hd
              have TS := Lib.hid ((ts1 (p := p)).2 ⟨hxe, hd, hs, h0⟩)
              have TX := Lib.hid (show (⟨(txtL (decide (a < 0)) a.natAbs b.toNat).toArray⟩ : ByteArray) = bytesOf (wrT ⟨1, p, x, a, b, d⟩) from rfl)
              generalize (⟨(txtL (decide (a < 0)) a.natAbs b.toNat).toArray⟩ : ByteArray) = TXT at CT TX
              (try clear hs)
              (try clear h0)
              (try clear hxe)
              (try clear hd)
              (try clear ha)
              (try clear hb0)
              (try clear hx)
              go_enter Tryz.func29, Tryz.ntmps29
              go_upto_region 1 with fail
              refine under_name ((Bel.refl w).alloc _) fun W hc hf hz hb => ?_
              have T : TSlot W w.heap.size ⟨1, p, x, a, b, d⟩ := by simp [TSlot, hc, hf, hz, go_sem]
              clear hc hf hz
              generalize w.heap.size = N at T ⊢
              have TT := Lib.hid T
              obtain ⟨s0, ⟨s1, s2, s3, s4, s5, s6⟩, _⟩ := T
              simp only at s1 s2 s3 s4 s5 s6
              go_wp2_with (go_at_call 50; (with_reducible refine Calls.mono (CT.out _) ?_); rintro ee W1 ⟨rfl, hb1⟩; obtain ⟨t0, ⟨t1, t2, t3, t4, t5, t6⟩, _⟩ := TT.out.keep hb1; simp only at t1 t2 t3 t4 t5 t6; clear s0 s1 s2 s3 s4 s5 s6)
              go_quiet (fail)
              go_wp2_with fail
              go_ret2
              exact wr_yes TS.out rfl (by rw [TX.out]) ((hb.trans hb1).trans (bel_drewN _ _))
            · have g3 : (d == 0) = false := beq_eq_false_iff_ne.2 hd
              have TS := Lib.hid (show tsnd ⟨1, p, x, a, b, d⟩ = false from by rw [Bool.eq_false_iff]; exact fun h => hd (ts1.1 h).2.1)
              generalize (⟨(txtL (decide (a < 0)) a.natAbs b.toNat).toArray⟩ : ByteArray) = TXT at CT
              (try clear hs)
              (try clear h0)
              (try clear hxe)
              (try clear hd)
              (try clear ha)
              (try clear hb0)
              (try clear hx)
              go_enter Tryz.func29, Tryz.ntmps29
              go_upto_region 1 with fail
              refine under_name ((Bel.refl w).alloc _) fun W hc hf hz hb => ?_
              have T : TSlot W w.heap.size ⟨1, p, x, a, b, d⟩ := by simp [TSlot, hc, hf, hz, go_sem]
              clear hc hf hz
              generalize w.heap.size = N at T ⊢
              have TT := Lib.hid T
              obtain ⟨s0, ⟨s1, s2, s3, s4, s5, s6⟩, _⟩ := T
              simp only at s1 s2 s3 s4 s5 s6
              go_wp2_with (go_at_call 50; (with_reducible refine Calls.mono (CT.out _) ?_); rintro ee W1 ⟨rfl, hb1⟩; obtain ⟨t0, ⟨t1, t2, t3, t4, t5, t6⟩, _⟩ := TT.out.keep hb1; simp only at t1 t2 t3 t4 t5 t6; clear s0 s1 s2 s3 s4 s5 s6)
              go_quiet (fail)
              go_wp2_with fail
              go_ret2
              exact wr_no TS.out rfl ((hb.trans hb1).trans (bel_drewN _ _))
          · obtain ⟨q1, q2, q3⟩ := emp_f hxe
            have TS := Lib.hid (show tsnd ⟨1, p, x, a, b, d⟩ = false from by rw [Bool.eq_false_iff]; exact fun h => hxe (ts1.1 h).1)
            generalize (⟨(txtL (decide (a < 0)) a.natAbs b.toNat).toArray⟩ : ByteArray) = TXT at CT
            clear q2
            (try clear hs)
            (try clear h0)
            (try clear hxe)
            (try clear hd)
            (try clear ha)
            (try clear hb0)
            (try clear hx)
            go_enter Tryz.func29, Tryz.ntmps29
            go_upto_region 1 with fail
            refine under_name ((Bel.refl w).alloc _) fun W hc hf hz hb => ?_
            have T : TSlot W w.heap.size ⟨1, p, x, a, b, d⟩ := by simp [TSlot, hc, hf, hz, go_sem]
            clear hc hf hz
            generalize w.heap.size = N at T ⊢
            have TT := Lib.hid T
            obtain ⟨s0, ⟨s1, s2, s3, s4, s5, s6⟩, _⟩ := T
            simp only at s1 s2 s3 s4 s5 s6
            go_wp2_with (go_at_call 50; (with_reducible refine Calls.mono (CT.out _) ?_); rintro ee W1 ⟨rfl, hb1⟩; obtain ⟨t0, ⟨t1, t2, t3, t4, t5, t6⟩, _⟩ := TT.out.keep hb1; simp only at t1 t2 t3 t4 t5 t6; clear s0 s1 s2 s3 s4 s5 s6)
            go_quiet (fail)
            go_wp2_with fail
            go_ret2
            exact wr_no TS.out rfl ((hb.trans hb1).trans (bel_drewN _ _))
        · have g0 : decide (a ≥ 0) = false := decide_eq_false h0
          have TS := Lib.hid (show tsnd ⟨1, p, x, a, b, d⟩ = false from by rw [Bool.eq_false_iff]; exact fun h => h0 (ts1.1 h).2.2.2)
          have h0' : a < 0 := by omega
          generalize (⟨(txtL (decide (a < 0)) a.natAbs b.toNat).toArray⟩ : ByteArray) = TXT at CT
          (try clear hs)
          (try clear h0)
          (try clear hxe)
          (try clear hd)
          (try clear ha)
          (try clear hb0)
          (try clear hx)
          go_enter Tryz.func29, Tryz.ntmps29
          go_upto_region 1 with fail
          refine under_name ((Bel.refl w).alloc _) fun W hc hf hz hb => ?_
          have T : TSlot W w.heap.size ⟨1, p, x, a, b, d⟩ := by simp [TSlot, hc, hf, hz, go_sem]
          clear hc hf hz
          generalize w.heap.size = N at T ⊢
          have TT := Lib.hid T
          obtain ⟨s0, ⟨s1, s2, s3, s4, s5, s6⟩, _⟩ := T
          simp only at s1 s2 s3 s4 s5 s6
          go_wp2_with (go_at_call 50; (with_reducible refine Calls.mono (CT.out _) ?_); rintro ee W1 ⟨rfl, hb1⟩; obtain ⟨t0, ⟨t1, t2, t3, t4, t5, t6⟩, _⟩ := TT.out.keep hb1; simp only at t1 t2 t3 t4 t5 t6; clear s0 s1 s2 s3 s4 s5 s6)
          go_quiet (fail)
          go_wp2_with fail
          go_ret2
          exact wr_no TS.out rfl ((hb.trans hb1).trans (bel_drewN _ _))
      · have CT := Lib.hid fun W => rtext_any a b W
        rw [show textV a b = .tuple #[.string ⟨#[]⟩, .int .i64 2] from if_neg hs] at CT
        have TS := Lib.hid (show tsnd ⟨1, p, x, a, b, d⟩ = false from by rw [Bool.eq_false_iff]; exact fun h => hs (ts1.1 h).2.2.1)
        (try clear hs)
        (try clear h0)
        (try clear hxe)
        (try clear hd)
        (try clear ha)
        (try clear hb0)
        (try clear hx)
        go_enter Tryz.func29, Tryz.ntmps29
        go_upto_region 1 with fail
        refine under_name ((Bel.refl w).alloc _) fun W hc hf hz hb => ?_
        have T : TSlot W w.heap.size ⟨1, p, x, a, b, d⟩ := by simp [TSlot, hc, hf, hz, go_sem]
        clear hc hf hz
        generalize w.heap.size = N at T ⊢
        have TT := Lib.hid T
        obtain ⟨s0, ⟨s1, s2, s3, s4, s5, s6⟩, _⟩ := T
        simp only at s1 s2 s3 s4 s5 s6
        go_wp2_with (go_at_call 50; (with_reducible refine Calls.mono (CT.out _) ?_); rintro ee W1 ⟨rfl, hb1⟩; obtain ⟨t0, ⟨t1, t2, t3, t4, t5, t6⟩, _⟩ := TT.out.keep hb1; simp only at t1 t2 t3 t4 t5 t6; clear s0 s1 s2 s3 s4 s5 s6)
        go_quiet (fail)
        go_wp2_with fail
        go_ret2
        exact wr_no TS.out rfl ((hb.trans hb1).trans (bel_drewN _ _))
  · have e1 : (a == 0) = false := beq_eq_false_iff_ne.2 ha
    by_cases hs : SndD a b
    · have CT := Lib.hid fun W => rtext_any a b W
      rw [show textV a b = .tuple #[.string ⟨(txtL (decide (a < 0)) a.natAbs b.toNat).toArray⟩, .int .i64 0] from if_pos hs] at CT
      by_cases h0 : 0 ≤ a
      · have g0 : decide (a ≥ 0) = true := decide_eq_true h0
        by_cases hxe : x = []
        · obtain ⟨q1, q2, q3⟩ := emp_t hxe
          by_cases hd : d = 0
          · have g3 : (d == 0) = true := beq_iff_eq.2 hd
            have TS := Lib.hid ((ts1 (p := p)).2 ⟨hxe, hd, hs, h0⟩)
            have TX := Lib.hid (show (⟨(txtL (decide (a < 0)) a.natAbs b.toNat).toArray⟩ : ByteArray) = bytesOf (wrT ⟨1, p, x, a, b, d⟩) from rfl)
            generalize (⟨(txtL (decide (a < 0)) a.natAbs b.toNat).toArray⟩ : ByteArray) = TXT at CT TX
            (try clear hs)
            (try clear h0)
            (try clear hxe)
            (try clear hd)
            (try clear ha)
            (try clear hb0)
            (try clear hx)
            go_enter Tryz.func29, Tryz.ntmps29
            go_upto_region 1 with fail
            refine under_name ((Bel.refl w).alloc _) fun W hc hf hz hb => ?_
            have T : TSlot W w.heap.size ⟨1, p, x, a, b, d⟩ := by simp [TSlot, hc, hf, hz, go_sem]
            clear hc hf hz
            generalize w.heap.size = N at T ⊢
            have TT := Lib.hid T
            obtain ⟨s0, ⟨s1, s2, s3, s4, s5, s6⟩, _⟩ := T
            simp only at s1 s2 s3 s4 s5 s6
            go_wp2_with (go_at_call 50; (with_reducible refine Calls.mono (CT.out _) ?_); rintro ee W1 ⟨rfl, hb1⟩; obtain ⟨t0, ⟨t1, t2, t3, t4, t5, t6⟩, _⟩ := TT.out.keep hb1; simp only at t1 t2 t3 t4 t5 t6; clear s0 s1 s2 s3 s4 s5 s6)
            go_quiet (fail)
            go_wp2_with fail
            go_ret2
            exact wr_yes TS.out rfl (by rw [TX.out]) ((hb.trans hb1).trans (bel_drewN _ _))
          · have g3 : (d == 0) = false := beq_eq_false_iff_ne.2 hd
            have TS := Lib.hid (show tsnd ⟨1, p, x, a, b, d⟩ = false from by rw [Bool.eq_false_iff]; exact fun h => hd (ts1.1 h).2.1)
            generalize (⟨(txtL (decide (a < 0)) a.natAbs b.toNat).toArray⟩ : ByteArray) = TXT at CT
            (try clear hs)
            (try clear h0)
            (try clear hxe)
            (try clear hd)
            (try clear ha)
            (try clear hb0)
            (try clear hx)
            go_enter Tryz.func29, Tryz.ntmps29
            go_upto_region 1 with fail
            refine under_name ((Bel.refl w).alloc _) fun W hc hf hz hb => ?_
            have T : TSlot W w.heap.size ⟨1, p, x, a, b, d⟩ := by simp [TSlot, hc, hf, hz, go_sem]
            clear hc hf hz
            generalize w.heap.size = N at T ⊢
            have TT := Lib.hid T
            obtain ⟨s0, ⟨s1, s2, s3, s4, s5, s6⟩, _⟩ := T
            simp only at s1 s2 s3 s4 s5 s6
            go_wp2_with (go_at_call 50; (with_reducible refine Calls.mono (CT.out _) ?_); rintro ee W1 ⟨rfl, hb1⟩; obtain ⟨t0, ⟨t1, t2, t3, t4, t5, t6⟩, _⟩ := TT.out.keep hb1; simp only at t1 t2 t3 t4 t5 t6; clear s0 s1 s2 s3 s4 s5 s6)
            go_quiet (fail)
            go_wp2_with fail
            go_ret2
            exact wr_no TS.out rfl ((hb.trans hb1).trans (bel_drewN _ _))
        · obtain ⟨q1, q2, q3⟩ := emp_f hxe
          have TS := Lib.hid (show tsnd ⟨1, p, x, a, b, d⟩ = false from by rw [Bool.eq_false_iff]; exact fun h => hxe (ts1.1 h).1)
          generalize (⟨(txtL (decide (a < 0)) a.natAbs b.toNat).toArray⟩ : ByteArray) = TXT at CT
          clear q2
          (try clear hs)
          (try clear h0)
          (try clear hxe)
          (try clear hd)
          (try clear ha)
          (try clear hb0)
          (try clear hx)
          go_enter Tryz.func29, Tryz.ntmps29
          go_upto_region 1 with fail
          refine under_name ((Bel.refl w).alloc _) fun W hc hf hz hb => ?_
          have T : TSlot W w.heap.size ⟨1, p, x, a, b, d⟩ := by simp [TSlot, hc, hf, hz, go_sem]
          clear hc hf hz
          generalize w.heap.size = N at T ⊢
          have TT := Lib.hid T
          obtain ⟨s0, ⟨s1, s2, s3, s4, s5, s6⟩, _⟩ := T
          simp only at s1 s2 s3 s4 s5 s6
          go_wp2_with (go_at_call 50; (with_reducible refine Calls.mono (CT.out _) ?_); rintro ee W1 ⟨rfl, hb1⟩; obtain ⟨t0, ⟨t1, t2, t3, t4, t5, t6⟩, _⟩ := TT.out.keep hb1; simp only at t1 t2 t3 t4 t5 t6; clear s0 s1 s2 s3 s4 s5 s6)
          go_quiet (fail)
          go_wp2_with fail
          go_ret2
          exact wr_no TS.out rfl ((hb.trans hb1).trans (bel_drewN _ _))
      · have g0 : decide (a ≥ 0) = false := decide_eq_false h0
        have TS := Lib.hid (show tsnd ⟨1, p, x, a, b, d⟩ = false from by rw [Bool.eq_false_iff]; exact fun h => h0 (ts1.1 h).2.2.2)
        have h0' : a < 0 := by omega
        generalize (⟨(txtL (decide (a < 0)) a.natAbs b.toNat).toArray⟩ : ByteArray) = TXT at CT
        (try clear hs)
        (try clear h0)
        (try clear hxe)
        (try clear hd)
        (try clear ha)
        (try clear hb0)
        (try clear hx)
        go_enter Tryz.func29, Tryz.ntmps29
        go_upto_region 1 with fail
        refine under_name ((Bel.refl w).alloc _) fun W hc hf hz hb => ?_
        have T : TSlot W w.heap.size ⟨1, p, x, a, b, d⟩ := by simp [TSlot, hc, hf, hz, go_sem]
        clear hc hf hz
        generalize w.heap.size = N at T ⊢
        have TT := Lib.hid T
        obtain ⟨s0, ⟨s1, s2, s3, s4, s5, s6⟩, _⟩ := T
        simp only at s1 s2 s3 s4 s5 s6
        go_wp2_with (go_at_call 50; (with_reducible refine Calls.mono (CT.out _) ?_); rintro ee W1 ⟨rfl, hb1⟩; obtain ⟨t0, ⟨t1, t2, t3, t4, t5, t6⟩, _⟩ := TT.out.keep hb1; simp only at t1 t2 t3 t4 t5 t6; clear s0 s1 s2 s3 s4 s5 s6)
        go_quiet (fail)
        go_wp2_with fail
        go_ret2
        exact wr_no TS.out rfl ((hb.trans hb1).trans (bel_drewN _ _))
    · have CT := Lib.hid fun W => rtext_any a b W
      rw [show textV a b = .tuple #[.string ⟨#[]⟩, .int .i64 2] from if_neg hs] at CT
      have TS := Lib.hid (show tsnd ⟨1, p, x, a, b, d⟩ = false from by rw [Bool.eq_false_iff]; exact fun h => hs (ts1.1 h).2.2.1)
      (try clear hs)
      (try clear h0)
      (try clear hxe)
      (try clear hd)
      (try clear ha)
      (try clear hb0)
      (try clear hx)
      go_enter Tryz.func29, Tryz.ntmps29
      go_upto_region 1 with fail
      refine under_name ((Bel.refl w).alloc _) fun W hc hf hz hb => ?_
      have T : TSlot W w.heap.size ⟨1, p, x, a, b, d⟩ := by simp [TSlot, hc, hf, hz, go_sem]
      clear hc hf hz
      generalize w.heap.size = N at T ⊢
      have TT := Lib.hid T
      obtain ⟨s0, ⟨s1, s2, s3, s4, s5, s6⟩, _⟩ := T
      simp only at s1 s2 s3 s4 s5 s6
      go_wp2_with (go_at_call 50; (with_reducible refine Calls.mono (CT.out _) ?_); rintro ee W1 ⟨rfl, hb1⟩; obtain ⟨t0, ⟨t1, t2, t3, t4, t5, t6⟩, _⟩ := TT.out.keep hb1; simp only at t1 t2 t3 t4 t5 t6; clear s0 s1 s2 s3 s4 s5 s6)
      go_quiet (fail)
      go_wp2_with fail
      go_ret2
      exact wr_no TS.out rfl ((hb.trans hb1).trans (bel_drewN _ _))
set_option maxRecDepth 100000 in
set_option maxHeartbeats 8000000 in
theorem rwritten2 (p : Int) (x : List UInt8) (a b d : Int) (hx : x.length ≤ 1048576) (w : World) : Calls Tryz.prog 29 #[.agg #[.int .i64 2, .int .i64 p, .string (bytesOf x), .int .i64 a, .int .i64 b, .int .i64 d]] w (WrOut ⟨2, p, x, a, b, d⟩ w) := by
  have CQ := Lib.hid (show ∀ W, Calls Tryz.prog 51 #[.string (bytesOf x)] W fun e w' => e = .returned (.string (bytesOf (wrT ⟨2, p, x, a, b, d⟩))) ∧ w' = W from fun W => by
    have h := rquoted_big (bytesOf x) (by rw [bytesOf_size]; exact hx) W
    rw [bytes_toList] at h
    exact h)
  have CG := Lib.hid fun W => rgood_any (bytesOf x) (by rw [bytesOf_size]; omega) W
  have hsz := bytesOf_size x
  by_cases ha : a = 0
  · have e1 : (a == 0) = true := beq_iff_eq.2 ha
    by_cases hb0 : b = 0
    · have e2 : (b == 0) = true := beq_iff_eq.2 hb0
      by_cases hd : d = 0
      · have g3 : (d == 0) = true := beq_iff_eq.2 hd
        by_cases hl : x.length ≤ 256
        · have g4 : decide ((x.length : Int) ≤ 256) = true := decide_eq_true (by omega)
          have g5 : (x.length : Int) ≤ 256 := by omega
          cases hg : goodB (bytesOf x) with
          | true =>
            rw [hg] at CG
            have TS := Lib.hid ((ts2 (p := p)).2 ⟨ha, hb0, hd, by unfold strOk; rw [hg, decide_eq_true hl]; rfl⟩)
            (try clear hd)
            (try clear hl)
            (try clear hg)
            (try clear ha)
            (try clear hb0)
            (try clear hx)
            go_enter Tryz.func29, Tryz.ntmps29
            go_upto_region 1 with fail
            refine under_name ((Bel.refl w).alloc _) fun W hc hf hz hb => ?_
            have T : TSlot W w.heap.size ⟨2, p, x, a, b, d⟩ := by simp [TSlot, hc, hf, hz, go_sem]
            clear hc hf hz
            generalize w.heap.size = N at T ⊢
            have TT := Lib.hid T
            obtain ⟨s0, ⟨s1, s2, s3, s4, s5, s6⟩, _⟩ := T
            simp only at s1 s2 s3 s4 s5 s6
            go_wp2_with (first
              | (go_at_call 51; (with_reducible refine Calls.mono (CQ.out _) ?_); rintro ee W1 ⟨rfl, rfl⟩)
              | (go_at_call 41; (with_reducible refine Calls.mono (CG.out _) ?_); rintro ee W2 ⟨rfl, rfl⟩))
            go_ret2
            exact wr_yes TS.out rfl rfl hb
          | false =>
            rw [hg] at CG
            have TS := Lib.hid (show tsnd ⟨2, p, x, a, b, d⟩ = false from by rw [Bool.eq_false_iff]; exact fun h => by have h4 := (ts2.1 h).2.2.2; unfold strOk at h4; rw [hg, Bool.and_false] at h4; cases h4)
            (try clear hd)
            (try clear hl)
            (try clear hg)
            (try clear ha)
            (try clear hb0)
            (try clear hx)
            go_enter Tryz.func29, Tryz.ntmps29
            go_upto_region 1 with fail
            refine under_name ((Bel.refl w).alloc _) fun W hc hf hz hb => ?_
            have T : TSlot W w.heap.size ⟨2, p, x, a, b, d⟩ := by simp [TSlot, hc, hf, hz, go_sem]
            clear hc hf hz
            generalize w.heap.size = N at T ⊢
            have TT := Lib.hid T
            obtain ⟨s0, ⟨s1, s2, s3, s4, s5, s6⟩, _⟩ := T
            simp only at s1 s2 s3 s4 s5 s6
            go_wp2_with (first
              | (go_at_call 51; (with_reducible refine Calls.mono (CQ.out _) ?_); rintro ee W1 ⟨rfl, rfl⟩)
              | (go_at_call 41; (with_reducible refine Calls.mono (CG.out _) ?_); rintro ee W2 ⟨rfl, rfl⟩))
            go_ret2
            exact wr_no TS.out rfl hb
        · have g4 : decide ((x.length : Int) ≤ 256) = false := decide_eq_false (by omega)
          have g5 : ¬ (x.length : Int) ≤ 256 := by omega
          have TS := Lib.hid (show tsnd ⟨2, p, x, a, b, d⟩ = false from by rw [Bool.eq_false_iff]; exact fun h => hl (str_len (ts2.1 h).2.2.2))
          (try clear hd)
          (try clear hl)
          (try clear hg)
          (try clear ha)
          (try clear hb0)
          (try clear hx)
          go_enter Tryz.func29, Tryz.ntmps29
          go_upto_region 1 with fail
          refine under_name ((Bel.refl w).alloc _) fun W hc hf hz hb => ?_
          have T : TSlot W w.heap.size ⟨2, p, x, a, b, d⟩ := by simp [TSlot, hc, hf, hz, go_sem]
          clear hc hf hz
          generalize w.heap.size = N at T ⊢
          have TT := Lib.hid T
          obtain ⟨s0, ⟨s1, s2, s3, s4, s5, s6⟩, _⟩ := T
          simp only at s1 s2 s3 s4 s5 s6
          go_wp2_with (first
            | (go_at_call 51; (with_reducible refine Calls.mono (CQ.out _) ?_); rintro ee W1 ⟨rfl, rfl⟩)
            | (go_at_call 41; (with_reducible refine Calls.mono (CG.out _) ?_); rintro ee W2 ⟨rfl, rfl⟩))
          go_ret2
          exact wr_no TS.out rfl hb
      · have g3 : (d == 0) = false := beq_eq_false_iff_ne.2 hd
        have TS := Lib.hid (show tsnd ⟨2, p, x, a, b, d⟩ = false from by rw [Bool.eq_false_iff]; exact fun h => hd (ts2.1 h).2.2.1)
        (try clear hd)
        (try clear hl)
        (try clear hg)
        (try clear ha)
        (try clear hb0)
        (try clear hx)
        go_enter Tryz.func29, Tryz.ntmps29
        go_upto_region 1 with fail
        refine under_name ((Bel.refl w).alloc _) fun W hc hf hz hb => ?_
        have T : TSlot W w.heap.size ⟨2, p, x, a, b, d⟩ := by simp [TSlot, hc, hf, hz, go_sem]
        clear hc hf hz
        generalize w.heap.size = N at T ⊢
        have TT := Lib.hid T
        obtain ⟨s0, ⟨s1, s2, s3, s4, s5, s6⟩, _⟩ := T
        simp only at s1 s2 s3 s4 s5 s6
        go_wp2_with (first
          | (go_at_call 51; (with_reducible refine Calls.mono (CQ.out _) ?_); rintro ee W1 ⟨rfl, rfl⟩)
          | (go_at_call 41; (with_reducible refine Calls.mono (CG.out _) ?_); rintro ee W2 ⟨rfl, rfl⟩))
        go_ret2
        exact wr_no TS.out rfl hb
    · have e2 : (b == 0) = false := beq_eq_false_iff_ne.2 hb0
      have TS := Lib.hid (show tsnd ⟨2, p, x, a, b, d⟩ = false from by rw [Bool.eq_false_iff]; exact fun h => hb0 (ts2.1 h).2.1)
      (try clear hd)
      (try clear hl)
      (try clear hg)
      (try clear ha)
      (try clear hb0)
      (try clear hx)
      go_enter Tryz.func29, Tryz.ntmps29
      go_upto_region 1 with fail
      refine under_name ((Bel.refl w).alloc _) fun W hc hf hz hb => ?_
      have T : TSlot W w.heap.size ⟨2, p, x, a, b, d⟩ := by simp [TSlot, hc, hf, hz, go_sem]
      clear hc hf hz
      generalize w.heap.size = N at T ⊢
      have TT := Lib.hid T
      obtain ⟨s0, ⟨s1, s2, s3, s4, s5, s6⟩, _⟩ := T
      simp only at s1 s2 s3 s4 s5 s6
      go_wp2_with (first
        | (go_at_call 51; (with_reducible refine Calls.mono (CQ.out _) ?_); rintro ee W1 ⟨rfl, rfl⟩)
        | (go_at_call 41; (with_reducible refine Calls.mono (CG.out _) ?_); rintro ee W2 ⟨rfl, rfl⟩))
      go_ret2
      exact wr_no TS.out rfl hb
  · have e1 : (a == 0) = false := beq_eq_false_iff_ne.2 ha
    have TS := Lib.hid (show tsnd ⟨2, p, x, a, b, d⟩ = false from by rw [Bool.eq_false_iff]; exact fun h => ha (ts2.1 h).1)
    (try clear hd)
    (try clear hl)
    (try clear hg)
    (try clear ha)
    (try clear hb0)
    (try clear hx)
    go_enter Tryz.func29, Tryz.ntmps29
    go_upto_region 1 with fail
    refine under_name ((Bel.refl w).alloc _) fun W hc hf hz hb => ?_
    have T : TSlot W w.heap.size ⟨2, p, x, a, b, d⟩ := by simp [TSlot, hc, hf, hz, go_sem]
    clear hc hf hz
    generalize w.heap.size = N at T ⊢
    have TT := Lib.hid T
    obtain ⟨s0, ⟨s1, s2, s3, s4, s5, s6⟩, _⟩ := T
    simp only at s1 s2 s3 s4 s5 s6
    go_wp2_with (first
      | (go_at_call 51; (with_reducible refine Calls.mono (CQ.out _) ?_); rintro ee W1 ⟨rfl, rfl⟩)
      | (go_at_call 41; (with_reducible refine Calls.mono (CG.out _) ?_); rintro ee W2 ⟨rfl, rfl⟩))
    go_ret2
    exact wr_no TS.out rfl hb
set_option maxRecDepth 100000 in
set_option maxHeartbeats 8000000 in
theorem rwritten3 (p : Int) (x : List UInt8) (a b d : Int) (hx : x.length ≤ 1048576) (w : World) : Calls Tryz.prog 29 #[.agg #[.int .i64 3, .int .i64 p, .string (bytesOf x), .int .i64 a, .int .i64 b, .int .i64 d]] w (WrOut ⟨3, p, x, a, b, d⟩ w) := by
  by_cases ha : a = 0
  · have e1 : (a == 0) = true := beq_iff_eq.2 ha
    by_cases hb0 : b = 0
    · have e2 : (b == 0) = true := beq_iff_eq.2 hb0
      by_cases hd : 0 ≤ d ∧ d ≤ 3652058
      · have CT := Lib.hid fun W => rtext_any_Y d W
        rw [textY_ok hd] at CT
        have hdz : ((dtx d).size : Int) = 10 := rfl
        have TX := Lib.hid (show (⟨#[64, 34]⟩ : ByteArray) ++ dtx d ++ (⟨#[34]⟩ : ByteArray) = bytesOf (wrT ⟨3, p, x, a, b, d⟩) from by
          have e : wrT ⟨3, p, x, a, b, d⟩ = 64 :: 34 :: ((dtx d).data.toList ++ [34]) := by
            unfold wrT
            rw [if_neg (show ¬ (3 : Int) = 1 by decide), if_neg (show ¬ (3 : Int) = 2 by decide), if_pos rfl]
            simp only
            rw [dtx_quo]
            rfl
          rw [e, ← bytesOf_data (dtx d), show (⟨#[64, 34]⟩ : ByteArray) = bytesOf [64, 34] from rfl, show (⟨#[34]⟩ : ByteArray) = bytesOf [34] from rfl, bytes_app, bytes_app]
          simp [bytes_toList])
        generalize dtx d = DT at CT TX hdz
        by_cases hxe : x = []
        · obtain ⟨q1, q2, q3⟩ := emp_t hxe
          have TS := Lib.hid ((ts3 (p := p)).2 ⟨ha, hb0, hxe, hd⟩)
          (try clear hxe)
          (try clear hd)
          (try clear ha)
          (try clear hb0)
          (try clear hx)
          go_enter Tryz.func29, Tryz.ntmps29
          go_upto_region 1 with fail
          refine under_name ((Bel.refl w).alloc _) fun W hc hf hz hb => ?_
          have T : TSlot W w.heap.size ⟨3, p, x, a, b, d⟩ := by simp [TSlot, hc, hf, hz, go_sem]
          clear hc hf hz
          generalize w.heap.size = N at T ⊢
          have TT := Lib.hid T
          obtain ⟨s0, ⟨s1, s2, s3, s4, s5, s6⟩, _⟩ := T
          simp only at s1 s2 s3 s4 s5 s6
          go_wp2_with (go_at_call 52; (with_reducible refine Calls.mono (CT.out _) ?_); rintro ee W1 ⟨rfl, hb1⟩; obtain ⟨t0, ⟨t1, t2, t3, t4, t5, t6⟩, _⟩ := TT.out.keep hb1; simp only at t1 t2 t3 t4 t5 t6; clear s0 s1 s2 s3 s4 s5 s6)
          go_quiet (fail)
          go_wp2_with fail
          go_ret2
          exact wr_yes TS.out rfl (by rw [TX.out]) ((hb.trans hb1).trans (bel_drewN _ _))
        · obtain ⟨q1, q2, q3⟩ := emp_f hxe
          clear q2
          have TS := Lib.hid (show tsnd ⟨3, p, x, a, b, d⟩ = false from by rw [Bool.eq_false_iff]; exact fun h => hxe (ts3.1 h).2.2.1)
          (try clear hxe)
          (try clear hd)
          (try clear ha)
          (try clear hb0)
          (try clear hx)
          go_enter Tryz.func29, Tryz.ntmps29
          go_upto_region 1 with fail
          refine under_name ((Bel.refl w).alloc _) fun W hc hf hz hb => ?_
          have T : TSlot W w.heap.size ⟨3, p, x, a, b, d⟩ := by simp [TSlot, hc, hf, hz, go_sem]
          clear hc hf hz
          generalize w.heap.size = N at T ⊢
          have TT := Lib.hid T
          obtain ⟨s0, ⟨s1, s2, s3, s4, s5, s6⟩, _⟩ := T
          simp only at s1 s2 s3 s4 s5 s6
          go_wp2_with (go_at_call 52; (with_reducible refine Calls.mono (CT.out _) ?_); rintro ee W1 ⟨rfl, hb1⟩; obtain ⟨t0, ⟨t1, t2, t3, t4, t5, t6⟩, _⟩ := TT.out.keep hb1; simp only at t1 t2 t3 t4 t5 t6; clear s0 s1 s2 s3 s4 s5 s6)
          go_quiet (fail)
          go_wp2_with fail
          go_ret2
          exact wr_no TS.out rfl ((hb.trans hb1).trans (bel_drewN _ _))
      · have CT := Lib.hid fun W => rtext_any_Y d W
        rw [show textV_Y d = .tuple #[.string ⟨#[]⟩, .int .i64 3] from if_neg hd] at CT
        have TS := Lib.hid (show tsnd ⟨3, p, x, a, b, d⟩ = false from by rw [Bool.eq_false_iff]; exact fun h => hd (ts3.1 h).2.2.2)
        (try clear hxe)
        (try clear hd)
        (try clear ha)
        (try clear hb0)
        (try clear hx)
        go_enter Tryz.func29, Tryz.ntmps29
        go_upto_region 1 with fail
        refine under_name ((Bel.refl w).alloc _) fun W hc hf hz hb => ?_
        have T : TSlot W w.heap.size ⟨3, p, x, a, b, d⟩ := by simp [TSlot, hc, hf, hz, go_sem]
        clear hc hf hz
        generalize w.heap.size = N at T ⊢
        have TT := Lib.hid T
        obtain ⟨s0, ⟨s1, s2, s3, s4, s5, s6⟩, _⟩ := T
        simp only at s1 s2 s3 s4 s5 s6
        go_wp2_with (go_at_call 52; (with_reducible refine Calls.mono (CT.out _) ?_); rintro ee W1 ⟨rfl, hb1⟩; obtain ⟨t0, ⟨t1, t2, t3, t4, t5, t6⟩, _⟩ := TT.out.keep hb1; simp only at t1 t2 t3 t4 t5 t6; clear s0 s1 s2 s3 s4 s5 s6)
        go_quiet (fail)
        go_wp2_with fail
        go_ret2
        exact wr_no TS.out rfl ((hb.trans hb1).trans (bel_drewN _ _))
    · have e2 : (b == 0) = false := beq_eq_false_iff_ne.2 hb0
      by_cases hd : 0 ≤ d ∧ d ≤ 3652058
      · have CT := Lib.hid fun W => rtext_any_Y d W
        rw [textY_ok hd] at CT
        have hdz : ((dtx d).size : Int) = 10 := rfl
        have TX := Lib.hid (show (⟨#[64, 34]⟩ : ByteArray) ++ dtx d ++ (⟨#[34]⟩ : ByteArray) = bytesOf (wrT ⟨3, p, x, a, b, d⟩) from by
          have e : wrT ⟨3, p, x, a, b, d⟩ = 64 :: 34 :: ((dtx d).data.toList ++ [34]) := by
            unfold wrT
            rw [if_neg (show ¬ (3 : Int) = 1 by decide), if_neg (show ¬ (3 : Int) = 2 by decide), if_pos rfl]
            simp only
            rw [dtx_quo]
            rfl
          rw [e, ← bytesOf_data (dtx d), show (⟨#[64, 34]⟩ : ByteArray) = bytesOf [64, 34] from rfl, show (⟨#[34]⟩ : ByteArray) = bytesOf [34] from rfl, bytes_app, bytes_app]
          simp [bytes_toList])
        generalize dtx d = DT at CT TX hdz
        have TS := Lib.hid (show tsnd ⟨3, p, x, a, b, d⟩ = false from by rw [Bool.eq_false_iff]; exact fun h => hb0 (ts3.1 h).2.1)
        (try clear hxe)
        (try clear hd)
        (try clear ha)
        (try clear hb0)
        (try clear hx)
        go_enter Tryz.func29, Tryz.ntmps29
        go_upto_region 1 with fail
        refine under_name ((Bel.refl w).alloc _) fun W hc hf hz hb => ?_
        have T : TSlot W w.heap.size ⟨3, p, x, a, b, d⟩ := by simp [TSlot, hc, hf, hz, go_sem]
        clear hc hf hz
        generalize w.heap.size = N at T ⊢
        have TT := Lib.hid T
        obtain ⟨s0, ⟨s1, s2, s3, s4, s5, s6⟩, _⟩ := T
        simp only at s1 s2 s3 s4 s5 s6
        go_wp2_with (go_at_call 52; (with_reducible refine Calls.mono (CT.out _) ?_); rintro ee W1 ⟨rfl, hb1⟩; obtain ⟨t0, ⟨t1, t2, t3, t4, t5, t6⟩, _⟩ := TT.out.keep hb1; simp only at t1 t2 t3 t4 t5 t6; clear s0 s1 s2 s3 s4 s5 s6)
        go_quiet (fail)
        go_wp2_with fail
        go_ret2
        exact wr_no TS.out rfl ((hb.trans hb1).trans (bel_drewN _ _))
      · have CT := Lib.hid fun W => rtext_any_Y d W
        rw [show textV_Y d = .tuple #[.string ⟨#[]⟩, .int .i64 3] from if_neg hd] at CT
        have TS := Lib.hid (show tsnd ⟨3, p, x, a, b, d⟩ = false from by rw [Bool.eq_false_iff]; exact fun h => hb0 (ts3.1 h).2.1)
        (try clear hxe)
        (try clear hd)
        (try clear ha)
        (try clear hb0)
        (try clear hx)
        go_enter Tryz.func29, Tryz.ntmps29
        go_upto_region 1 with fail
        refine under_name ((Bel.refl w).alloc _) fun W hc hf hz hb => ?_
        have T : TSlot W w.heap.size ⟨3, p, x, a, b, d⟩ := by simp [TSlot, hc, hf, hz, go_sem]
        clear hc hf hz
        generalize w.heap.size = N at T ⊢
        have TT := Lib.hid T
        obtain ⟨s0, ⟨s1, s2, s3, s4, s5, s6⟩, _⟩ := T
        simp only at s1 s2 s3 s4 s5 s6
        go_wp2_with (go_at_call 52; (with_reducible refine Calls.mono (CT.out _) ?_); rintro ee W1 ⟨rfl, hb1⟩; obtain ⟨t0, ⟨t1, t2, t3, t4, t5, t6⟩, _⟩ := TT.out.keep hb1; simp only at t1 t2 t3 t4 t5 t6; clear s0 s1 s2 s3 s4 s5 s6)
        go_quiet (fail)
        go_wp2_with fail
        go_ret2
        exact wr_no TS.out rfl ((hb.trans hb1).trans (bel_drewN _ _))
  · have e1 : (a == 0) = false := beq_eq_false_iff_ne.2 ha
    by_cases hd : 0 ≤ d ∧ d ≤ 3652058
    · have CT := Lib.hid fun W => rtext_any_Y d W
      rw [textY_ok hd] at CT
      have hdz : ((dtx d).size : Int) = 10 := rfl
      have TX := Lib.hid (show (⟨#[64, 34]⟩ : ByteArray) ++ dtx d ++ (⟨#[34]⟩ : ByteArray) = bytesOf (wrT ⟨3, p, x, a, b, d⟩) from by
        have e : wrT ⟨3, p, x, a, b, d⟩ = 64 :: 34 :: ((dtx d).data.toList ++ [34]) := by
          unfold wrT
          rw [if_neg (show ¬ (3 : Int) = 1 by decide), if_neg (show ¬ (3 : Int) = 2 by decide), if_pos rfl]
          simp only
          rw [dtx_quo]
          rfl
        rw [e, ← bytesOf_data (dtx d), show (⟨#[64, 34]⟩ : ByteArray) = bytesOf [64, 34] from rfl, show (⟨#[34]⟩ : ByteArray) = bytesOf [34] from rfl, bytes_app, bytes_app]
        simp [bytes_toList])
      generalize dtx d = DT at CT TX hdz
      have TS := Lib.hid (show tsnd ⟨3, p, x, a, b, d⟩ = false from by rw [Bool.eq_false_iff]; exact fun h => ha (ts3.1 h).1)
      (try clear hxe)
      (try clear hd)
      (try clear ha)
      (try clear hb0)
      (try clear hx)
      go_enter Tryz.func29, Tryz.ntmps29
      go_upto_region 1 with fail
      refine under_name ((Bel.refl w).alloc _) fun W hc hf hz hb => ?_
      have T : TSlot W w.heap.size ⟨3, p, x, a, b, d⟩ := by simp [TSlot, hc, hf, hz, go_sem]
      clear hc hf hz
      generalize w.heap.size = N at T ⊢
      have TT := Lib.hid T
      obtain ⟨s0, ⟨s1, s2, s3, s4, s5, s6⟩, _⟩ := T
      simp only at s1 s2 s3 s4 s5 s6
      go_wp2_with (go_at_call 52; (with_reducible refine Calls.mono (CT.out _) ?_); rintro ee W1 ⟨rfl, hb1⟩; obtain ⟨t0, ⟨t1, t2, t3, t4, t5, t6⟩, _⟩ := TT.out.keep hb1; simp only at t1 t2 t3 t4 t5 t6; clear s0 s1 s2 s3 s4 s5 s6)
      go_quiet (fail)
      go_wp2_with fail
      go_ret2
      exact wr_no TS.out rfl ((hb.trans hb1).trans (bel_drewN _ _))
    · have CT := Lib.hid fun W => rtext_any_Y d W
      rw [show textV_Y d = .tuple #[.string ⟨#[]⟩, .int .i64 3] from if_neg hd] at CT
      have TS := Lib.hid (show tsnd ⟨3, p, x, a, b, d⟩ = false from by rw [Bool.eq_false_iff]; exact fun h => ha (ts3.1 h).1)
      (try clear hxe)
      (try clear hd)
      (try clear ha)
      (try clear hb0)
      (try clear hx)
      go_enter Tryz.func29, Tryz.ntmps29
      go_upto_region 1 with fail
      refine under_name ((Bel.refl w).alloc _) fun W hc hf hz hb => ?_
      have T : TSlot W w.heap.size ⟨3, p, x, a, b, d⟩ := by simp [TSlot, hc, hf, hz, go_sem]
      clear hc hf hz
      generalize w.heap.size = N at T ⊢
      have TT := Lib.hid T
      obtain ⟨s0, ⟨s1, s2, s3, s4, s5, s6⟩, _⟩ := T
      simp only at s1 s2 s3 s4 s5 s6
      go_wp2_with (go_at_call 52; (with_reducible refine Calls.mono (CT.out _) ?_); rintro ee W1 ⟨rfl, hb1⟩; obtain ⟨t0, ⟨t1, t2, t3, t4, t5, t6⟩, _⟩ := TT.out.keep hb1; simp only at t1 t2 t3 t4 t5 t6; clear s0 s1 s2 s3 s4 s5 s6)
      go_quiet (fail)
      go_wp2_with fail
      go_ret2
      exact wr_no TS.out rfl ((hb.trans hb1).trans (bel_drewN _ _))
set_option maxRecDepth 100000 in
set_option maxHeartbeats 8000000 in
theorem rwritten4 (p : Int) (x : List UInt8) (a b d : Int) (hx : x.length ≤ 1048576) (w : World) : Calls Tryz.prog 29 #[.agg #[.int .i64 4, .int .i64 p, .string (bytesOf x), .int .i64 a, .int .i64 b, .int .i64 d]] w (WrOut ⟨4, p, x, a, b, d⟩ w) := by
  have CN := Lib.hid (show ∀ W, Calls Tryz.prog 21 #[.string (bytesOf x)] W fun e w' => e = .returned (.bool (nmOk x)) ∧ Bel W w' from fun W => (rname_any (bytesOf x) (by rw [bytesOf_size]; omega) W).mono fun e w' ⟨h1, h2⟩ => ⟨h1, h2 ▸ Bel.refl _⟩)
  by_cases ha : a = 0
  · have e1 : (a == 0) = true := beq_iff_eq.2 ha
    by_cases hb0 : b = 0
    · have e2 : (b == 0) = true := beq_iff_eq.2 hb0
      by_cases hd : d = 0
      · have g3 : (d == 0) = true := beq_iff_eq.2 hd
        cases hn : nmOk x with
        | true =>
          rw [hn] at CN
          have TS := Lib.hid ((ts4 (p := p)).2 ⟨ha, hb0, hd, hn⟩)
          (try clear hn)
          (try clear hd)
          (try clear ha)
          (try clear hb0)
          (try clear hx)
          go_enter Tryz.func29, Tryz.ntmps29
          go_upto_region 1 with fail
          refine under_name ((Bel.refl w).alloc _) fun W hc hf hz hb => ?_
          have T : TSlot W w.heap.size ⟨4, p, x, a, b, d⟩ := by simp [TSlot, hc, hf, hz, go_sem]
          clear hc hf hz
          generalize w.heap.size = N at T ⊢
          have TT := Lib.hid T
          obtain ⟨s0, ⟨s1, s2, s3, s4, s5, s6⟩, _⟩ := T
          simp only at s1 s2 s3 s4 s5 s6
          go_wp2_with fail
          go_region_held3 (fun w' => Bel W w' ∧ (∀ b o, b < W.heap.size → w'.cell? ⟨b, o, none⟩ = W.cell? ⟨b, o, none⟩)) (first | exact keep0 | exact keep1 ‹_› ‹_›) ((go_at_call 21; refine (CN.out _).mono ?_; rintro r W2 ⟨rfl, hb2⟩))
          go_wp2_with fail
          go_ret2
          exact wr_yes TS.out rfl rfl (hb.trans ((Bel.refl W).drew.trans hb2))
        | false =>
          rw [hn] at CN
          have TS := Lib.hid (show tsnd ⟨4, p, x, a, b, d⟩ = false from by rw [Bool.eq_false_iff]; exact fun h => by have h4 := (ts4.1 h).2.2.2; rw [hn] at h4; cases h4)
          (try clear hn)
          (try clear hd)
          (try clear ha)
          (try clear hb0)
          (try clear hx)
          go_enter Tryz.func29, Tryz.ntmps29
          go_upto_region 1 with fail
          refine under_name ((Bel.refl w).alloc _) fun W hc hf hz hb => ?_
          have T : TSlot W w.heap.size ⟨4, p, x, a, b, d⟩ := by simp [TSlot, hc, hf, hz, go_sem]
          clear hc hf hz
          generalize w.heap.size = N at T ⊢
          have TT := Lib.hid T
          obtain ⟨s0, ⟨s1, s2, s3, s4, s5, s6⟩, _⟩ := T
          simp only at s1 s2 s3 s4 s5 s6
          go_wp2_with fail
          go_region_held3 (fun w' => Bel W w' ∧ (∀ b o, b < W.heap.size → w'.cell? ⟨b, o, none⟩ = W.cell? ⟨b, o, none⟩)) (first | exact keep0 | exact keep1 ‹_› ‹_›) ((go_at_call 21; refine (CN.out _).mono ?_; rintro r W2 ⟨rfl, hb2⟩))
          go_wp2_with fail
          go_ret2
          exact wr_no TS.out rfl (hb.trans ((Bel.refl W).drew.trans hb2))
      · have g3 : (d == 0) = false := beq_eq_false_iff_ne.2 hd
        have TS := Lib.hid (show tsnd ⟨4, p, x, a, b, d⟩ = false from by rw [Bool.eq_false_iff]; exact fun h => hd (ts4.1 h).2.2.1)
        (try clear hn)
        (try clear hd)
        (try clear ha)
        (try clear hb0)
        (try clear hx)
        go_enter Tryz.func29, Tryz.ntmps29
        go_upto_region 1 with fail
        refine under_name ((Bel.refl w).alloc _) fun W hc hf hz hb => ?_
        have T : TSlot W w.heap.size ⟨4, p, x, a, b, d⟩ := by simp [TSlot, hc, hf, hz, go_sem]
        clear hc hf hz
        generalize w.heap.size = N at T ⊢
        have TT := Lib.hid T
        obtain ⟨s0, ⟨s1, s2, s3, s4, s5, s6⟩, _⟩ := T
        simp only at s1 s2 s3 s4 s5 s6
        go_wp2_with fail
        go_quiet (fail)
        go_wp2_with fail
        go_ret2
        exact wr_no TS.out rfl (hb.trans (bel_drewN _ _))
    · have e2 : (b == 0) = false := beq_eq_false_iff_ne.2 hb0
      have TS := Lib.hid (show tsnd ⟨4, p, x, a, b, d⟩ = false from by rw [Bool.eq_false_iff]; exact fun h => hb0 (ts4.1 h).2.1)
      (try clear hn)
      (try clear hd)
      (try clear ha)
      (try clear hb0)
      (try clear hx)
      go_enter Tryz.func29, Tryz.ntmps29
      go_upto_region 1 with fail
      refine under_name ((Bel.refl w).alloc _) fun W hc hf hz hb => ?_
      have T : TSlot W w.heap.size ⟨4, p, x, a, b, d⟩ := by simp [TSlot, hc, hf, hz, go_sem]
      clear hc hf hz
      generalize w.heap.size = N at T ⊢
      have TT := Lib.hid T
      obtain ⟨s0, ⟨s1, s2, s3, s4, s5, s6⟩, _⟩ := T
      simp only at s1 s2 s3 s4 s5 s6
      go_wp2_with fail
      go_quiet (fail)
      go_wp2_with fail
      go_ret2
      exact wr_no TS.out rfl (hb.trans (bel_drewN _ _))
  · have e1 : (a == 0) = false := beq_eq_false_iff_ne.2 ha
    have TS := Lib.hid (show tsnd ⟨4, p, x, a, b, d⟩ = false from by rw [Bool.eq_false_iff]; exact fun h => ha (ts4.1 h).1)
    (try clear hn)
    (try clear hd)
    (try clear ha)
    (try clear hb0)
    (try clear hx)
    go_enter Tryz.func29, Tryz.ntmps29
    go_upto_region 1 with fail
    refine under_name ((Bel.refl w).alloc _) fun W hc hf hz hb => ?_
    have T : TSlot W w.heap.size ⟨4, p, x, a, b, d⟩ := by simp [TSlot, hc, hf, hz, go_sem]
    clear hc hf hz
    generalize w.heap.size = N at T ⊢
    have TT := Lib.hid T
    obtain ⟨s0, ⟨s1, s2, s3, s4, s5, s6⟩, _⟩ := T
    simp only at s1 s2 s3 s4 s5 s6
    go_wp2_with fail
    go_quiet (fail)
    go_wp2_with fail
    go_ret2
    exact wr_no TS.out rfl (hb.trans (bel_drewN _ _))
set_option maxRecDepth 100000 in
set_option maxHeartbeats 8000000 in
theorem rwritten6 (p : Int) (x : List UInt8) (a b d : Int) (hx : x.length ≤ 1048576) (k : Int) (hk : k ≠ 1 ∧ k ≠ 2 ∧ k ≠ 3 ∧ k ≠ 4 ∧ k ≠ 5) (w : World) : Calls Tryz.prog 29 #[.agg #[.int .i64 k, .int .i64 p, .string (bytesOf x), .int .i64 a, .int .i64 b, .int .i64 d]] w (WrOut ⟨k, p, x, a, b, d⟩ w) := by
  have TS := Lib.hid (tsnd6 k p x a b d hk)
  obtain ⟨h1, h2, h3, h4, h5⟩ := hk
  have k1 : (k == 1) = false := beq_eq_false_iff_ne.2 h1
  have k2 : (k == 2) = false := beq_eq_false_iff_ne.2 h2
  have k3 : (k == 3) = false := beq_eq_false_iff_ne.2 h3
  have k4 : (k == 4) = false := beq_eq_false_iff_ne.2 h4
  have k5 : (k == 5) = false := beq_eq_false_iff_ne.2 h5
  clear h1 h2 h3 h4 h5
  by_cases ha : a = 0
  · have e1 : (a == 0) = true := beq_iff_eq.2 ha
    by_cases hb0 : b = 0
    · have e2 : (b == 0) = true := beq_iff_eq.2 hb0
      (try clear ha)
      (try clear hb0)
      go_enter Tryz.func29, Tryz.ntmps29
      go_upto_region 1 with fail
      refine under_name ((Bel.refl w).alloc _) fun W hc hf hz hb => ?_
      have T : TSlot W w.heap.size ⟨k, p, x, a, b, d⟩ := by simp [TSlot, hc, hf, hz, go_sem]
      clear hc hf hz
      generalize w.heap.size = N at T ⊢
      have TT := Lib.hid T
      obtain ⟨s0, ⟨s1, s2, s3, s4, s5, s6⟩, _⟩ := T
      simp only at s1 s2 s3 s4 s5 s6
      go_wp2_with fail
      go_ret2
      exact wr_no TS.out rfl hb
    · have e2 : (b == 0) = false := beq_eq_false_iff_ne.2 hb0
      (try clear ha)
      (try clear hb0)
      go_enter Tryz.func29, Tryz.ntmps29
      go_upto_region 1 with fail
      refine under_name ((Bel.refl w).alloc _) fun W hc hf hz hb => ?_
      have T : TSlot W w.heap.size ⟨k, p, x, a, b, d⟩ := by simp [TSlot, hc, hf, hz, go_sem]
      clear hc hf hz
      generalize w.heap.size = N at T ⊢
      have TT := Lib.hid T
      obtain ⟨s0, ⟨s1, s2, s3, s4, s5, s6⟩, _⟩ := T
      simp only at s1 s2 s3 s4 s5 s6
      go_wp2_with fail
      go_ret2
      exact wr_no TS.out rfl hb
  · have e1 : (a == 0) = false := beq_eq_false_iff_ne.2 ha
    (try clear ha)
    (try clear hb0)
    go_enter Tryz.func29, Tryz.ntmps29
    go_upto_region 1 with fail
    refine under_name ((Bel.refl w).alloc _) fun W hc hf hz hb => ?_
    have T : TSlot W w.heap.size ⟨k, p, x, a, b, d⟩ := by simp [TSlot, hc, hf, hz, go_sem]
    clear hc hf hz
    generalize w.heap.size = N at T ⊢
    have TT := Lib.hid T
    obtain ⟨s0, ⟨s1, s2, s3, s4, s5, s6⟩, _⟩ := T
    simp only at s1 s2 s3 s4 s5 s6
    go_wp2_with fail
    go_ret2
    exact wr_no TS.out rfl hb
end Go.Proofs.YtofcjdbodhoacaaGreatDoor
