import Derived.Test.YtcknjhgolajclaaDoorDep
namespace Go.Proofs.YtcknjhgolajclaaDoor
set_option linter.unusedSimpArgs false
set_option linter.unusedVariables false
open Go.RowKit

/-! Deci: a text cut at a byte; digits. -/
def bef46 (l : List UInt8) : List UInt8 := l.takeWhile (· != 46)
def aft46 (l : List UInt8) : List UInt8 := (l.dropWhile (· != 46)).drop 1
def has46 (l : List UInt8) : Bool := !(l.dropWhile (· != 46)).isEmpty
theorem idx46 (l : List UInt8) : Lib.indexByte l 46 = if has46 l = true then ((bef46 l).length : Int) else -1 := by
  induction l with
  | nil => rfl
  | cons c r ih =>
    unfold Lib.indexByte bef46 has46
    by_cases h : c = 46
    · subst h; simp
    · have hc : (c == 46) = false := by simpa using h
      have hc2 : (c != 46) = true := by simpa using h
      simp only [hc, Bool.false_eq_true, if_false, List.takeWhile_cons, hc2, if_true, List.dropWhile_cons]
      rw [ih]
      unfold has46 bef46
      cases hd : (r.dropWhile (· != 46)).isEmpty
      · simp
      · simp
theorem bef_aft (l : List UInt8) (h : has46 l = true) : l = bef46 l ++ 46 :: aft46 l := by
  have h1 := List.takeWhile_append_dropWhile (p := (· != (46 : UInt8))) (l := l)
  unfold has46 at h
  unfold bef46 aft46
  cases hd : l.dropWhile (· != 46) with
  | nil => rw [hd] at h; cases h
  | cons c r =>
    have hc : c = 46 := by
      have := List.head_dropWhile_not (p := (· != (46 : UInt8))) (l := l) (by rw [hd]; simp)
      simp [hd] at this
      exact this
    subst hc
    rw [hd] at h1
    simpa using h1.symm
theorem bef_all (l : List UInt8) (h : has46 l = false) : bef46 l = l := by
  have h1 := List.takeWhile_append_dropWhile (p := (· != (46 : UInt8))) (l := l)
  unfold has46 at h
  have : l.dropWhile (· != 46) = [] := by simpa using h
  rw [this, List.append_nil] at h1
  exact h1
theorem idxByte_any (s : ByteArray) (w : World) : Calls Tryd.prog 91 #[.string s, .int .u8 46] w fun e w' => e = .returned (.int .i64 (if has46 s.data.toList = true then ((bef46 s.data.toList).length : Int) else -1)) ∧ w' = w :=
  (Tryd.stringslite_IndexByte s 46 w).mono fun e w' ⟨he, hw⟩ => ⟨by rw [he, ← idx46]; rfl, hw⟩
theorem index_any (s : ByteArray) (w : World) : Calls Tryd.prog 75 #[.string s, .string ⟨#[46]⟩] w fun e w' => e = .returned (.int .i64 (if has46 s.data.toList = true then ((bef46 s.data.toList).length : Int) else -1)) ∧ Bel w w' := by
  have c1 := Lib.hid fun w => idxByte_any s w
  by_cases h : s = ⟨#[46]⟩
  · subst h
    have k1 : ([46] == (⟨#[46]⟩ : ByteArray).toList) = true := by rw [ByteArray.toList_eq]; decide
    have hv : Hid ((if has46 ((⟨#[46]⟩ : ByteArray).data.toList) = true then ((bef46 ((⟨#[46]⟩ : ByteArray).data.toList)).length : Int) else -1) = 0) := by
      show _ = _
      decide
    rw [hv.out]
    set_option maxRecDepth 100000 in
    go_enter Tryd.func75, Tryd.ntmps75
    set_option maxRecDepth 100000 in
    go_wp2_with (go_at_call 91; refine (c1.out _).mono ?_; rintro e W1 ⟨rfl, rfl⟩)
    go_ret
    exact ⟨rfl, Bel.refl _⟩
  · have k1 : ([46] == s.toList) = false := by
      rw [Bool.eq_false_iff]
      intro h2
      rw [beq_iff_eq] at h2
      exact h ((toList_inj s ⟨#[46]⟩).1 (by rw [← h2, ByteArray.toList_eq]))
    generalize (if has46 s.data.toList = true then ((bef46 s.data.toList).length : Int) else -1) = v at *
    clear h
    set_option maxRecDepth 100000 in
    go_enter Tryd.func75, Tryd.ntmps75
    set_option maxRecDepth 100000 in
    go_wp2_with (go_at_call 91; refine (c1.out _).mono ?_; rintro e W1 ⟨rfl, rfl⟩)
    go_ret
    exact ⟨rfl, Bel.refl _⟩
set_option maxRecDepth 100000 in
set_option maxHeartbeats 2000000 in
theorem cut_any (s : ByteArray) (hsz : s.size ≤ 9223372036854775807) (w : World) : Calls Tryd.prog 43 #[.string s, .string ⟨#[46]⟩] w fun e w' =>
    e = .returned (.tuple #[.string ⟨(bef46 s.data.toList).toArray⟩, .string ⟨(aft46 s.data.toList).toArray⟩, .bool (has46 s.data.toList)]) ∧ Bel w w' := by
  have c1 := index_any s
  have inner : ∀ w, Calls Tryd.prog 62 #[.string s, .string ⟨#[46]⟩] w fun e w' =>
      e = .returned (.tuple #[.string ⟨(bef46 s.data.toList).toArray⟩, .string ⟨(aft46 s.data.toList).toArray⟩, .bool (has46 s.data.toList)]) ∧ Bel w w' := by
    intro w
    cases h : has46 s.data.toList with
    | false =>
      rw [h] at c1
      have C1 := Lib.hid c1
      have hv : Hid ((⟨(bef46 s.data.toList).toArray⟩ : ByteArray) = s ∧ (aft46 s.data.toList) = []) := ⟨by rw [bef_all _ h], by
        unfold has46 at h
        unfold aft46
        have : s.data.toList.dropWhile (· != 46) = [] := by simpa using h
        rw [this]; rfl⟩
      clear c1 h
      rw [hv.out.1, hv.out.2]
      go_enter Tryd.func62, Tryd.ntmps62
      go_wp2_with (go_at_call 75; refine (C1.out _).mono ?_; rintro e W1 ⟨rfl, hb1⟩)
      go_ret3
      exact ⟨rfl, hb1⟩
    | true =>
      rw [h] at c1
      have hba := bef_aft _ h
      obtain ⟨i, hi⟩ : ∃ i, i = (bef46 s.data.toList).length := ⟨_, rfl⟩
      have C1 := Lib.hid (show ∀ w, Calls Tryd.prog 75 #[.string s, .string ⟨#[46]⟩] w fun e w' => e = .returned (.int .i64 (i : Int)) ∧ Bel w w' by rw [hi]; exact c1)
      have hlen : s.size = i + 1 + (aft46 s.data.toList).length := by
        have h2 := congrArg List.length hba
        rw [List.length_append, List.length_cons, Array.length_toList] at h2
        rw [hi]
        show s.data.size = _
        omega
      have hv1 : Hid (s.extract 0 i = ⟨(bef46 s.data.toList).toArray⟩) := by
        refine ByteArray.ext ?_
        rw [ByteArray.data_extract]
        apply Array.toList_inj.1
        rw [Array.toList_extract]
        conv => lhs; rw [hba]
        simp [hi]
      have hv2 : Hid (s.extract (i + 1) s.size = ⟨(aft46 s.data.toList).toArray⟩) := by
        refine ByteArray.ext ?_
        rw [ByteArray.data_extract]
        apply Array.toList_inj.1
        rw [Array.toList_extract]
        conv => lhs; rw [hba]
        rw [hlen, hi]
        simp
      have i1 : i + 1 ≤ s.size := by omega
      have i2 : (i : Int) + 1 ≤ s.size := by omega
      have i3 : (i : Int) ≤ s.size := by omega
      have i4 : (0 : Int) ≤ (i : Int) := by omega
      have w1 : IntKind.i64.wrap ((i : Int) + 1) = (i : Int) + 1 := by rw [IntKind.wrap_i64]; omega
      have i5 : ((i : Int) + 1).toNat = i + 1 := by omega
      clear c1 h hba hi hlen
      go_enter Tryd.func62, Tryd.ntmps62
      go_wp2_with (go_at_call 75; refine (C1.out _).mono ?_; rintro e W1 ⟨rfl, hb1⟩)
      go_region
      all_goals
        go_wp2
        go_ret3
        exact ⟨by rw [hv1.out, hv2.out]; rfl, hb1.drew⟩
  have IN := Lib.hid inner
  clear inner c1
  go_enter Tryd.func43, Tryd.ntmps43
  go_wp2_with (go_at_call 62; refine (IN.out _).mono ?_; rintro e W1 ⟨rfl, hb1⟩)
  go_ret3
  exact ⟨rfl, hb1⟩
def dB (c : UInt8) : Bool := decide (48 ≤ c.toNat ∧ c.toNat ≤ 57)
def dOk (l : List UInt8) : Bool := l.all dB
def digB (l : List UInt8) : Bool := dOk l && !l.isEmpty
theorem digB_no {l : List UInt8} (h : dOk l = false) : digB l = false := by rw [digB, h]; rfl
theorem dOk_no (l : List UInt8) (k : Nat) (h : k < l.length) (hf : dB l[k] = false) : dOk l = false := all_false _ _ _ h hf
set_option maxHeartbeats 800000 in
theorem digits_any (s : ByteArray) (hsz : s.size ≤ 9223372036854775807) (w : World) : Calls Tryd.prog 44 #[.string s] w fun e w' => e = .returned (.bool (digB s.data.toList)) ∧ Bel w w' := by
  go_enter Tryd.func44, Tryd.ntmps44
  go_wp2
  go_loop [6] (fun i => ∃ k : Nat, k ≤ s.size ∧ i = .int .i64 k ∧ Hid ((s.data.toList.take k).all dB = true)) (fun i => s.size - (intOf i).toNat)
  case atStart => exact ⟨0, Nat.zero_le _, rfl, rfl⟩
  case round =>
    obtain ⟨k, hk, rfl, hh⟩ := hrel
    by_cases hlt : k < s.size
    · have hlt' : k < s.data.toList.length := by rw [Array.length_toList]; exact hlt
      have hg : s.data.toList[k] = s[k] := rfl
      have HO := Lib.hid (all_take_succ dB s.data.toList k hlt')
      have HN := Lib.hid (dOk_no s.data.toList k hlt')
      rw [hg] at HO HN
      by_cases h1 : 48 ≤ s[k].toNat
      · have b1 : decide ((s[k].toNat : Int) < 48) = false := by simp; omega
        by_cases h2 : s[k].toNat ≤ 57
        · have b2 : decide (57 < (s[k].toNat : Int)) = false := by simp; omega
          have HB := Lib.hid (show dB s[k] = true by simp [dB, h1, h2])
          clear h1 h2 hg
          go_wp2
          go_round
          case rel => exact ⟨k + 1, by omega, by go_num, by rw [Hid, HO.out, hh.out, HB.out]; rfl⟩
          case measure => simp [intOf]; omega
        · have b2 : decide (57 < (s[k].toNat : Int)) = true := by simp; omega
          have HB := Lib.hid (digB_no (HN.out (by simp [dB]; omega)))
          clear h1 h2 hg
          go_wp2
          go_ret
          exact ⟨by rw [HB.out]; rfl, Bel.refl _⟩
      · have b1 : decide ((s[k].toNat : Int) < 48) = true := by simp; omega
        have HB := Lib.hid (digB_no (HN.out (by simp [dB]; omega)))
        clear h1 hg
        go_wp2
        go_ret
        exact ⟨by rw [HB.out]; rfl, Bel.refl _⟩
    · have HD := Lib.hid (show dOk s.data.toList = true by
        have h := hh.out
        rw [List.take_of_length_le (by rw [Array.length_toList]; show s.size ≤ k; omega)] at h
        exact h)
      have HE : Hid ((!s.toList.isEmpty) = digB s.data.toList) := by rw [Hid, digB, HD.out, ByteArray.toList_eq]; rfl
      go_wp2
      go_ret
      exact ⟨by rw [← HE.out]; rfl, Bel.refl _⟩
end Go.Proofs.YtcknjhgolajclaaDoor
