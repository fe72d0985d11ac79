import Derived.Test.YthcpgbbmgabpnaaCkg
import Derived.Test.YthcpgbbmgabpnaaShelf
namespace Go.Proofs.Ythcpgbbmgabpnaa
set_option linter.unusedSimpArgs false
set_option linter.unusedVariables false
open Go.RowKit

/-! Chars: a text cut at a semicolon. -/
def bef59 (l : List UInt8) : List UInt8 := l.takeWhile (· != 59)
def aft59 (l : List UInt8) : List UInt8 := (l.dropWhile (· != 59)).drop 1
def has59 (l : List UInt8) : Bool := !(l.dropWhile (· != 59)).isEmpty
theorem idx59 (l : List UInt8) : Lib.indexByte l 59 = if has59 l = true then ((bef59 l).length : Int) else -1 := by
  induction l with
  | nil => rfl
  | cons c r ih =>
    unfold Lib.indexByte bef59 has59
    by_cases h : c = 59
    · subst h; simp
    · have hc : (c == 59) = false := by simpa using h
      have hc2 : (c != 59) = true := by simpa using h
      simp only [hc, Bool.false_eq_true, if_false, List.takeWhile_cons, hc2, if_true, List.dropWhile_cons]
      rw [ih]
      unfold has59 bef59
      cases hd : (r.dropWhile (· != 59)).isEmpty
      · simp
      · simp
theorem bef_aft (l : List UInt8) (h : has59 l = true) : l = bef59 l ++ 59 :: aft59 l := by
  have h1 := List.takeWhile_append_dropWhile (p := (· != (59 : UInt8))) (l := l)
  unfold has59 at h
  unfold bef59 aft59
  cases hd : l.dropWhile (· != 59) with
  | nil => rw [hd] at h; cases h
  | cons c r =>
    have hc : c = 59 := by
      have := List.head_dropWhile_not (p := (· != (59 : UInt8))) (l := l) (by rw [hd]; simp)
      simp [hd] at this
      exact this
    subst hc
    rw [hd] at h1
    simpa using h1.symm
theorem bef_all (l : List UInt8) (h : has59 l = false) : bef59 l = l := by
  have h1 := List.takeWhile_append_dropWhile (p := (· != (59 : UInt8))) (l := l)
  unfold has59 at h
  have : l.dropWhile (· != 59) = [] := by simpa using h
  rw [this, List.append_nil] at h1
  exact h1
theorem idxByte_any (s : ByteArray) (w : World) : Calls Try.prog 46 #[.string s, .int .u8 59] w fun e w' => e = .returned (.int .i64 (if has59 s.data.toList = true then ((bef59 s.data.toList).length : Int) else -1)) ∧ w' = w :=
  (Try.stringslite_IndexByte s 59 w).mono fun e w' ⟨he, hw⟩ => ⟨by rw [he, ← idx59]; rfl, hw⟩
theorem index_any (s : ByteArray) (w : World) : Calls Try.prog 43 #[.string s, .string ⟨#[59]⟩] w fun e w' => e = .returned (.int .i64 (if has59 s.data.toList = true then ((bef59 s.data.toList).length : Int) else -1)) ∧ Bel w w' := by
  have c1 := Lib.hid fun w => idxByte_any s w
  by_cases h : s = ⟨#[59]⟩
  · subst h
    have k1 : ([59] == (⟨#[59]⟩ : ByteArray).toList) = true := by rw [ByteArray.toList_eq]; decide
    have hv : Hid ((if has59 ((⟨#[59]⟩ : ByteArray).data.toList) = true then ((bef59 ((⟨#[59]⟩ : ByteArray).data.toList)).length : Int) else -1) = 0) := by
      show _ = _
      decide
    rw [hv.out]
    set_option maxRecDepth 100000 in
    go_enter Try.func43, Try.ntmps43
    set_option maxRecDepth 100000 in
    go_wp2_with (go_at_call 46; refine (c1.out _).mono ?_; rintro e W1 ⟨rfl, rfl⟩)
    go_ret
    exact ⟨rfl, Bel.refl _⟩
  · have k1 : ([59] == s.toList) = false := by
      rw [Bool.eq_false_iff]
      intro h2
      rw [beq_iff_eq] at h2
      exact h ((toList_inj s ⟨#[59]⟩).1 (by rw [← h2, ByteArray.toList_eq]))
    generalize (if has59 s.data.toList = true then ((bef59 s.data.toList).length : Int) else -1) = v at *
    clear h
    set_option maxRecDepth 100000 in
    go_enter Try.func43, Try.ntmps43
    set_option maxRecDepth 100000 in
    go_wp2_with (go_at_call 46; refine (c1.out _).mono ?_; rintro e W1 ⟨rfl, rfl⟩)
    go_ret
    exact ⟨rfl, Bel.refl _⟩
set_option maxRecDepth 100000 in
set_option maxHeartbeats 2000000 in
theorem cut_any (s : ByteArray) (hsz : s.size ≤ 9223372036854775807) (w : World) : Calls Try.prog 30 #[.string s, .string ⟨#[59]⟩] w fun e w' =>
    e = .returned (.tuple #[.string ⟨(bef59 s.data.toList).toArray⟩, .string ⟨(aft59 s.data.toList).toArray⟩, .bool (has59 s.data.toList)]) ∧ Bel w w' := by
  have c1 := index_any s
  have inner : ∀ w, Calls Try.prog 36 #[.string s, .string ⟨#[59]⟩] w fun e w' =>
      e = .returned (.tuple #[.string ⟨(bef59 s.data.toList).toArray⟩, .string ⟨(aft59 s.data.toList).toArray⟩, .bool (has59 s.data.toList)]) ∧ Bel w w' := by
    intro w
    cases h : has59 s.data.toList with
    | false =>
      rw [h] at c1
      have C1 := Lib.hid c1
      have hv : Hid ((⟨(bef59 s.data.toList).toArray⟩ : ByteArray) = s ∧ (aft59 s.data.toList) = []) := ⟨by rw [bef_all _ h], by
        unfold has59 at h
        unfold aft59
        have : s.data.toList.dropWhile (· != 59) = [] := by simpa using h
        rw [this]; rfl⟩
      clear c1 h
      rw [hv.out.1, hv.out.2]
      go_enter Try.func36, Try.ntmps36
      go_wp2_with (go_at_call 43; refine (C1.out _).mono ?_; rintro e W1 ⟨rfl, hb1⟩)
      go_ret3
      exact ⟨rfl, hb1⟩
    | true =>
      rw [h] at c1
      have hba := bef_aft _ h
      obtain ⟨i, hi⟩ : ∃ i, i = (bef59 s.data.toList).length := ⟨_, rfl⟩
      have C1 := Lib.hid (show ∀ w, Calls Try.prog 43 #[.string s, .string ⟨#[59]⟩] w fun e w' => e = .returned (.int .i64 (i : Int)) ∧ Bel w w' by rw [hi]; exact c1)
      have hlen : s.size = i + 1 + (aft59 s.data.toList).length := by
        have h2 := congrArg List.length hba
        rw [List.length_append, List.length_cons, Array.length_toList] at h2
        rw [hi]
        show s.data.size = _
        omega
      have hv1 : Hid (s.extract 0 i = ⟨(bef59 s.data.toList).toArray⟩) := by
        refine ByteArray.ext ?_
        rw [ByteArray.data_extract]
        apply Array.toList_inj.1
        rw [Array.toList_extract]
        conv => lhs; rw [hba]
        simp [hi]
      have hv2 : Hid (s.extract (i + 1) s.size = ⟨(aft59 s.data.toList).toArray⟩) := by
        refine ByteArray.ext ?_
        rw [ByteArray.data_extract]
        apply Array.toList_inj.1
        rw [Array.toList_extract]
        conv => lhs; rw [hba]
        rw [hlen, hi]
        simp
      have i1 : i + 1 ≤ s.size := by omega
      have i2 : (i : Int) + 1 ≤ s.size := by omega
      have i3 : (i : Int) ≤ s.size := by omega
      have i4 : (0 : Int) ≤ (i : Int) := by omega
      have w1 : IntKind.i64.wrap ((i : Int) + 1) = (i : Int) + 1 := by rw [IntKind.wrap_i64]; omega
      have i5 : ((i : Int) + 1).toNat = i + 1 := by omega
      clear c1 h hba hi hlen
      go_enter Try.func36, Try.ntmps36
      go_wp2_with (go_at_call 43; refine (C1.out _).mono ?_; rintro e W1 ⟨rfl, hb1⟩)
      go_region
      all_goals
        go_wp2
        go_ret3
        exact ⟨by rw [hv1.out, hv2.out]; rfl, hb1.drew⟩
  have IN := Lib.hid inner
  clear inner c1
  go_enter Try.func30, Try.ntmps30
  go_wp2_with (go_at_call 36; refine (IN.out _).mono ?_; rintro e W1 ⟨rfl, hb1⟩)
  go_ret3
  exact ⟨rfl, hb1⟩
end Go.Proofs.Ythcpgbbmgabpnaa
