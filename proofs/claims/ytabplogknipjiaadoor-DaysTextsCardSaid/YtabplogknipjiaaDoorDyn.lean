import Derived.Test.YtabplogknipjiaaDoorDym
import Derived.Lib.SlBytesRow
namespace Go.Proofs.YtabplogknipjiaaDoor
set_option linter.unusedSimpArgs false
set_option linter.unusedVariables false
open Go.RowKit

/-! Days: the document's texts. -/
def decI (m : Nat) : List UInt8 := if m < 10 then [] else Lib.decDigits (m / 10)
theorem decI_eq (m : Nat) : Lib.decDigits m = decI m ++ [dgt m 1] := by
  unfold decI
  by_cases h : m < 10
  · rw [if_pos h, dec1 m h]; rfl
  · rw [if_neg h, decS m (by omega)]
theorem conv1 (m : Nat) (z : Int) (hz : z = 48 + (m : Int) % 10) (w : World) : Sem.run Tryd.prog (convert 55 9 (.slice (some ⟨w.heap.size, 0, none⟩) 1 1)) (w.alloc (.cells #[.int .u8 z] 5)) =
    .ok (.string ⟨#[dgt m 1]⟩) (w.alloc (.cells #[.int .u8 z] 5)) := by
  refine Lib.run_convert_whole (P := Tryd.prog) (w.alloc (.cells #[.int .u8 z] 5)) 55 5 9 (by kernel_rfl) (by kernel_rfl) (by kernel_rfl) w.heap.size 0 ⟨#[dgt m 1]⟩ ?_ 1
  intro i hi
  obtain rfl : i = 0 := by simp [ByteArray.size] at hi; omega
  have h : (((⟨#[dgt m 1]⟩ : ByteArray)[0]'hi).toNat : Int) = z := by
    show ((dgt m 1).toNat : Int) = z
    rw [dgt_nat, hz]; omega
  rw [h]
  simp [go_sem]
set_option maxHeartbeats 2000000 in
theorem rnum_any (n : Nat) (hn : n < 10000) (w : World) : Calls Tryd.prog 31 #[.int .i64 n] w fun e w' => e = .returned (.string ⟨(Lib.decDigits n).toArray⟩) ∧ Bel w w' := by
  have hc := fun w => conv1 n (48 + (n : Int) % 10) rfl w
  have hlen := dec_len n hn
  have hlen4 := hlen.2.1
  clear hlen
  go_enter Tryd.func31, Tryd.ntmps31
  go_wp2_with fail
  clear hc
  go_loopg [0, 3] n (fun g v s wr => ∃ (m : Nat) (tl : List UInt8), v = .int .i64 m ∧ s = .string ⟨(dgt m 1 :: tl).toArray⟩ ∧ Hid (Lib.decDigits n = decI m ++ dgt m 1 :: tl) ∧ m < 10000 ∧ Bel w wr ∧ g = m)
  case atStart => exact ⟨n, [], rfl, rfl, decI_eq n, hn, (Bel.refl w).alloc _, rfl⟩
  case round =>
    obtain ⟨m, tl, rfl, rfl, hd, hm, hb, hg⟩ := hrel
    have Hg := Lib.hid hg
    clear hg
    have htl : tl.length ≤ 3 := by
      have h := congrArg List.length hd.out
      simp at h; omega
    by_cases hm10 : m < 10
    · have hfin : Hid ((⟨(dgt m 1 :: tl).toArray⟩ : ByteArray) = ⟨(Lib.decDigits n).toArray⟩) := by
        simp only [Hid]; rw [hd.out, decI, if_pos hm10]; rfl
      go_wp2
      go_ret
      exact ⟨by rw [← hfin.out]; rfl, hb⟩
    · have hc := fun w => conv1 (m / 10) (48 + (m : Int) / 10 % 10) (by omega) w
      have hs : ¬ 9223372036854775807 < 1 + (tl.length + 1) := by omega
      have hnext : Hid (Lib.decDigits n = decI (m / 10) ++ dgt (m / 10) 1 :: (dgt m 1 :: tl)) := by
        simp only [Hid]; rw [hd.out]
        have : decI m = decI (m / 10) ++ [dgt (m / 10) 1] := by rw [← decI_eq]; unfold decI; rw [if_neg hm10]
        rw [this]; simp
      go_wp2_with fail
      go_roundg (m / 10)
      case measure => have := Hg.out; omega
      case rel => exact ⟨m / 10, dgt m 1 :: tl, by go_num, by rw [show dgt (m / 10) 1 :: dgt m 1 :: tl = [dgt (m / 10) 1] ++ (dgt m 1 :: tl) from rfl, ← app_bytes], hnext, by omega, hb.alloc _, rfl⟩

set_option maxHeartbeats 2000000 in
theorem rpadded_t (n k : Nat) (hn : n < 10000) (hk : (Lib.decDigits n).length ≤ k) (hk4 : k ≤ 4) (w : World) : Calls Tryd.prog 25 #[.int .i64 n, .int .i64 k] w fun e w' =>
    e = .returned (.string ⟨(padL k n).toArray⟩) ∧ Bel w w' := by
  have Hk := Lib.hid hk
  clear hk
  have hlen := (dec_len n hn).2.1
  go_enter Tryd.func25, Tryd.ntmps25
  go_wp2_with (go_at_call 31; refine (rnum_any n hn _).mono ?_; rintro e w1 ⟨rfl, hb1⟩)
  go_loopg [5] (k - (Lib.decDigits n).length) (fun g s wr => ∃ (L : List UInt8) (c : Nat), s = .string ⟨L.toArray⟩ ∧ Hid (L = Lib.repeatL [48] c ++ Lib.decDigits n ∧ L.length = c + (Lib.decDigits n).length ∧ L.length ≤ k ∧ g = k - L.length) ∧ Bel w wr)
  case atStart => exact ⟨Lib.decDigits n, 0, rfl, ⟨rfl, by omega, Hk.out, rfl⟩, hb1⟩
  case round =>
    obtain ⟨L, c, rfl, hL, hb⟩ := hrel
    clear hb1
    have hL4 : L.length ≤ 4 := by have := hL.out.2.2.1; omega
    by_cases hlt : L.length < k
    · have hs : ¬ 9223372036854775807 < 1 + L.length := by omega
      have hcon : Hid ((⟨#[48]⟩ : ByteArray) ++ ⟨L.toArray⟩ = ⟨(48 :: L).toArray⟩) := app_bytes [48] L
      go_wp2_with fail
      go_roundg (gk - 1)
      case measure => have := hL.out.2.2.2; omega
      case rel => exact ⟨48 :: L, c + 1, by rw [← hcon.out], ⟨by rw [hL.out.1]; rfl, by have := hL.out.2.1; simp; omega, by simp; omega, by have := hL.out.2.2.2; simp; omega⟩, hb⟩
    · have hfin : Hid (L = padL k n) := by
        have h1 := hL.out.1
        have h2 := hL.out.2.1
        have h3 := hL.out.2.2.1
        simp only [Hid]; rw [h1, padL, show c = k - (Lib.decDigits n).length by omega]
      go_wp2
      go_ret
      exact ⟨by rw [← hfin.out]; rfl, hb⟩
def padZ (z k : Int) : ByteArray := ⟨(padL k.toNat z.toNat).toArray⟩
theorem padZ_4 (z : Int) (h0 : 0 ≤ z) (h1 : z < 10000) : padZ z 4 = ⟨#[dgt z.toNat 1000, dgt z.toNat 100, dgt z.toNat 10, dgt z.toNat 1]⟩ := by
  unfold padZ
  rw [show (4 : Int).toNat = 4 from rfl, padL_4 _ (by omega)]; rfl
theorem padZ_2 (z : Int) (h0 : 0 ≤ z) (h1 : z < 100) : padZ z 2 = ⟨#[dgt z.toNat 10, dgt z.toNat 1]⟩ := by
  unfold padZ
  rw [show (2 : Int).toNat = 2 from rfl, padL_2 _ (by omega)]; rfl
theorem rpadded_z (z k : Int) (h0 : 0 ≤ z) (h1 : z < 10000) (hk : k = 4 ∨ (k = 2 ∧ z < 100)) (w : World) : Calls Tryd.prog 25 #[.int .i64 z, .int .i64 k] w fun e w' => e = .returned (.string (padZ z k)) ∧ Bel w w' := by
  obtain ⟨n, rfl⟩ : ∃ n : Nat, z = n := ⟨z.toNat, by omega⟩
  obtain ⟨q, rfl⟩ : ∃ q : Nat, k = q := ⟨k.toNat, by omega⟩
  have := dec_len n (by omega)
  exact rpadded_t n q (by omega) (by omega) (by omega) w
set_option maxHeartbeats 2000000 in
theorem rtext_any (n : Int) (w : World) : Calls Tryd.prog 14 #[.int .i64 n] w fun e w' => e = .returned (textV n) ∧ Bel w w' := by
  have hb : Bel w w := Bel.refl _
  by_cases h : 0 ≤ n ∧ n ≤ 3652058
  · rw [show textV n = _ from if_pos h]
    obtain ⟨h1, h2⟩ := h
    have hl : Hid (txt (dY n).toNat (dM n).toNat (dD n).toNat = dtx n) := rfl
    obtain ⟨⟨s1, s2, s3, s4, s5, s6⟩, -⟩ := date_spec n h1 h2
    have s7 := lenM_bd (dY n) (dM n)
    have hd := Lib.hid (back n h1 h2).1
    generalize dY n = y at *
    generalize dM n = m at *
    generalize dD n = d at *
    have p1 := Lib.hid (padZ_4 y (by omega) (by omega))
    have p2 := Lib.hid (padZ_2 m (by omega) (by omega))
    have p3 := Lib.hid (padZ_2 d (by omega) (by omega))
    go_enter Tryd.func14, Tryd.ntmps14
    go_wp2_with (first
      | (go_at_call 11; refine (rdate_any _ _).mono ?_; rintro e w1 ⟨rfl, hb1⟩; rw [hd.out]; replace hb := hb.trans hb1; clear hb1)
      | (go_at_call 25; refine (rpadded_z _ _ (by omega) (by omega) (by omega) _).mono ?_; rintro e w1 ⟨rfl, hb1⟩; (first | rw [p1.out] | rw [p2.out] | rw [p3.out]); replace hb := hb.trans hb1; clear hb1))
    go_ret2
    exact ⟨by rw [txt_eq, hl.out]; rfl, hb⟩
  · rw [show textV n = _ from if_neg h]
    have hd := Lib.hid (show dateV n = _ from if_neg h)
    clear h
    go_enter Tryd.func14, Tryd.ntmps14
    go_wp2_with (go_at_call 11; refine (rdate_any _ _).mono ?_; rintro e w1 ⟨rfl, hb1⟩; rw [hd.out]; replace hb := hb.trans hb1; clear hb1)
    go_ret2
    exact ⟨rfl, hb⟩
end Go.Proofs.YtabplogknipjiaaDoor
