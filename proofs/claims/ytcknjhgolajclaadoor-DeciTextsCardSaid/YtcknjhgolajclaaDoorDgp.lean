import Derived.Test.YtcknjhgolajclaaDoorDgo
import Derived.Test.YtcknjhgolajclaaDoorDfb
import Derived.Test.YtcknjhgolajclaaDoorDet
import Derived.Lib.SlBytesRow
namespace Go.Proofs.YtcknjhgolajclaaDoor
set_option linter.unusedSimpArgs false
set_option linter.unusedVariables false
open Go.RowKit

/-! Deci: the document's text of a number. -/
theorem conv1 (m : Nat) (z : Int) (hz : z = 48 + (m : Int) % 10) (w : World) : Sem.run Tryd.prog (convert 59 9 (.slice (some ⟨w.heap.size, 0, none⟩) 1 1)) (w.alloc (.cells #[.int .u8 z] 5)) =
    .ok (.string ⟨#[dgt m 1]⟩) (w.alloc (.cells #[.int .u8 z] 5)) := by
  refine Lib.run_convert_whole (P := Tryd.prog) (w.alloc (.cells #[.int .u8 z] 5)) 59 5 9 (by kernel_rfl) (by kernel_rfl) (by kernel_rfl) w.heap.size 0 ⟨#[dgt m 1]⟩ ?_ 1
  intro i hi
  obtain rfl : i = 0 := by simp [ByteArray.size] at hi; omega
  have h : (((⟨#[dgt m 1]⟩ : ByteArray)[0]'hi).toNat : Int) = z := by
    show ((dgt m 1).toNat : Int) = z
    rw [dgt_val, hz]; omega
  rw [h]
  simp [go_sem]
set_option maxRecDepth 100000 in
set_option maxHeartbeats 8000000 in
theorem rtext_raw (n : Int) (s : Nat) (h : SndD n s) (w : World) : Calls Tryd.prog 20 #[decA n s] w fun e w' => e = .returned (.tuple #[.string ⟨(txtL (decide (n < 0)) n.natAbs s).toArray⟩, .int .i64 0]) ∧ Bel w w' := by
  have c1 := Lib.hid fun w => rsound_any n s w
  have h1 := Lib.hid (sndB_t h)
  have sz := fun w => rsize_any n h.2.2.1 w
  have hx : n.natAbs ≤ 999999999999 := by have := h.2.2.1.1; have := h.2.2.1.2; omega
  have hv := txt_low (decide (n < 0)) n.natAbs s
  have hs6 : (s : Int) ≤ 6 := h.2.1
  obtain ⟨x, hxx⟩ : ∃ x, x = n.natAbs := ⟨_, rfl⟩
  rw [← hxx] at sz hx hv ⊢
  have HV := Lib.hid hv
  have HX := Lib.hid hx
  have SZ := Lib.hid sz
  clear h hx hv hxx sz
  go_enter Tryd.func20, Tryd.ntmps20
  go_wp2_with fail
  refine under_call ((Bel.refl w).alloc _) fun W hc hf hz hb => ?_
  have hA : Arr2 W w.heap.size n s := by simp [Arr2, hz, hc, hf, go_sem]
  clear hc hf hz
  go_wp2_with (first
    | (go_at_call 14; refine (c1.out _).mono ?_; rintro e W1 ⟨rfl, hb1⟩; rw [h1.out]; replace hA := hA.keep hb1; replace hb := hb.trans hb1; clear hb1)
    | (go_at_call 35; refine (SZ.out _).mono ?_; rintro e W2 ⟨rfl, rfl⟩))
  go_loopg [4, 5, 6] s (fun g v4 v5 v6 wr => ∃ k : Nat, v4 = .int .i64 ((x / 10 ^ k : Nat) : Int) ∧ v5 = .string ⟨(lowL x k).toArray⟩ ∧ v6 = .int .i64 k ∧ Hid (g = s - k ∧ k ≤ s) ∧ Arr2 wr w.heap.size n s ∧ Bel w wr)
  case atStart => exact ⟨0, by simp, rfl, rfl, ⟨rfl, Nat.zero_le _⟩, hA, hb⟩
  case round =>
    clear hA hb
    obtain ⟨k, rfl, rfl, rfl, hh, hA, hb⟩ := hrel
    by_cases hlt : (k : Int) < s
    · have hle : ((x / 10 ^ k : Nat) : Int) ≤ 999999999999 := by have := Nat.div_le_self x (10 ^ k); have := HX.out; omega
      have hll := lowL_len x k
      have hl6 : (lowL x k).length ≤ 6 := by omega
      have NL := Lib.hid (show lowL x (k + 1) = dgt (x / 10 ^ k) 1 :: lowL x k from rfl)
      have ND := Lib.hid (show ((x / 10 ^ k : Nat) : Int) / 10 = ((x / 10 ^ (k + 1) : Nat) : Int) by rw [div_succ]; omega)
      obtain ⟨y, hy⟩ : ∃ y, y = x / 10 ^ k := ⟨_, rfl⟩
      obtain ⟨L, hL⟩ : ∃ L, L = lowL x k := ⟨_, rfl⟩
      rw [← hy] at hle NL ND ⊢
      rw [← hL] at hl6 NL ⊢
      have hcv := fun w => conv1 y (48 + (y : Int) % 10) rfl w
      have hsz : ¬ 9223372036854775807 < 1 + L.length := by omega
      clear hll hy hL
      go_wp2_with fail
      go_roundg (gk - 1)
      case measure => have := hh.out; omega
      case rel => exact ⟨k + 1, by rw [ND.out], by rw [NL.out, show dgt y 1 :: L = [dgt y 1] ++ L from rfl, ← app_bytes], by go_num, ⟨by have := hh.out; omega, by omega⟩, hA.keep ((Bel.refl _).alloc _), hb.alloc _⟩
    · obtain rfl : k = s := by have := hh.out.2; omega
      have hle : ((x / 10 ^ k : Nat) : Int) ≤ 999999999999 := by have := Nat.div_le_self x (10 ^ k); have := HX.out; omega
      have LEN := Lib.hid (show (Lib.decDigits (x / 10 ^ k) ++ tailL x k).length ≤ 25 by
        have h1 := dec_len_le 11 (x / 10 ^ k) (by omega)
        have h2 := lowL_len x k
        unfold tailL
        by_cases h : k = 0
        · rw [if_pos h]; simp; omega
        · rw [if_neg h]; simp; omega)
      obtain ⟨y, hy⟩ : ∃ y, y = x / 10 ^ k := ⟨_, rfl⟩
      rw [← hy] at hle LEN HV ⊢
      clear hy
      have hcv := fun w => conv1 y (48 + (y : Int) % 10) rfl w
      have hlow := lowL_len x k
      by_cases h0 : (0 : Int) < k
      · have HT := Lib.hid (show tailL x k = 46 :: lowL x k from if_neg (by omega))
        have hl6 : (lowL x k).length ≤ 6 := by omega
        have hsz1 : ¬ 9223372036854775807 < 1 + (lowL x k).length := by omega
        have hsz2 : ¬ 9223372036854775807 < 1 + (1 + (lowL x k).length) := by omega
        obtain ⟨L, hL⟩ : ∃ L, L = lowL x k := ⟨_, rfl⟩
        rw [← hL] at hl6 HT hsz1 hsz2 ⊢
        clear hlow hL
        go_wp2_with fail
        clear hcv hsz1 hsz2
        go_loopg [4, 5] y (fun g v4 v5 wr => ∃ (m : Nat) (tl : List UInt8), v4 = .int .i64 m ∧ v5 = .string ⟨(dgt m 1 :: tl).toArray⟩ ∧ Hid (Lib.decDigits y ++ tailL x k = decI m ++ dgt m 1 :: tl ∧ g = m) ∧ (m : Int) ≤ 999999999999 ∧ Arr2 wr w.heap.size n k ∧ Bel w wr)
        case atStart => exact ⟨y, tailL x k, rfl, by rw [HT.out, show dgt y 1 :: 46 :: L = [dgt y 1] ++ ([46] ++ L) from rfl, ← app_bytes, ← app_bytes], ⟨by rw [decI_eq]; simp, rfl⟩, hle, hA.keep ((Bel.refl _).alloc _), hb.alloc _⟩
        case round =>
          clear hA hb hle
          obtain ⟨m, tl, rfl, rfl, hh2, hm, hA, hb⟩ := hrel
          have htl : tl.length ≤ 30 := by
            have h := congrArg List.length hh2.out.1
            have := LEN.out
            simp at h this; omega
          by_cases hm10 : (m : Int) < 10
          · have hfin := Lib.hid (show Lib.decDigits y ++ tailL x k = dgt m 1 :: tl by rw [hh2.out.1, decI, if_pos (by omega)]; rfl)
            by_cases hn : n < 0
            · have hd := Lib.hid (show decide (n < 0) = true from decide_eq_true hn)
              have hsz : ¬ 9223372036854775807 < 1 + (tl.length + 1) := by omega
              go_wp2_with fail
              go_ret2
              refine ⟨?_, hb⟩
              rw [HV.out, hd.out, hfin.out, if_pos rfl, ← app_bytes]
              rfl
            · have hd := Lib.hid (show decide (n < 0) = false from decide_eq_false hn)
              go_wp2_with fail
              go_ret2
              refine ⟨?_, hb⟩
              rw [HV.out, hd.out, hfin.out, if_neg (by decide)]
              rfl
          · have hcv := fun w => conv1 (m / 10) (48 + (m : Int) / 10 % 10) (by omega) w
            have hsz : ¬ 9223372036854775807 < 1 + (tl.length + 1) := by omega
            have hnext := Lib.hid (show Lib.decDigits y ++ tailL x k = decI (m / 10) ++ dgt (m / 10) 1 :: (dgt m 1 :: tl) by
              rw [hh2.out.1, decI_next m (by omega)]; simp)
            go_wp2_with fail
            go_roundg (m / 10)
            case measure => have := hh2.out.2; omega
            case rel => exact ⟨m / 10, dgt m 1 :: tl, by go_num, by rw [show dgt (m / 10) 1 :: dgt m 1 :: tl = [dgt (m / 10) 1] ++ (dgt m 1 :: tl) from rfl, ← app_bytes], ⟨hnext.out, rfl⟩, by omega, hA.keep ((Bel.refl _).alloc _), hb.alloc _⟩
      · have HT := Lib.hid (show tailL x k = [] from if_pos (by omega))
        have hL : lowL x k = [] := List.eq_nil_of_length_eq_zero (by omega)
        rw [hL]
        clear hlow hL
        go_wp2_with fail
        clear hcv
        go_loopg [4, 5] y (fun g v4 v5 wr => ∃ (m : Nat) (tl : List UInt8), v4 = .int .i64 m ∧ v5 = .string ⟨(dgt m 1 :: tl).toArray⟩ ∧ Hid (Lib.decDigits y ++ tailL x k = decI m ++ dgt m 1 :: tl ∧ g = m) ∧ (m : Int) ≤ 999999999999 ∧ Arr2 wr w.heap.size n k ∧ Bel w wr)
        case atStart => exact ⟨y, tailL x k, rfl, by rw [HT.out]; rfl, ⟨by rw [decI_eq]; simp, rfl⟩, hle, hA.keep ((Bel.refl _).alloc _), hb.alloc _⟩
        case round =>
          clear hA hb hle
          obtain ⟨m, tl, rfl, rfl, hh2, hm, hA, hb⟩ := hrel
          have htl : tl.length ≤ 30 := by
            have h := congrArg List.length hh2.out.1
            have := LEN.out
            simp at h this; omega
          by_cases hm10 : (m : Int) < 10
          · have hfin := Lib.hid (show Lib.decDigits y ++ tailL x k = dgt m 1 :: tl by rw [hh2.out.1, decI, if_pos (by omega)]; rfl)
            by_cases hn : n < 0
            · have hd := Lib.hid (show decide (n < 0) = true from decide_eq_true hn)
              have hsz : ¬ 9223372036854775807 < 1 + (tl.length + 1) := by omega
              go_wp2_with fail
              go_ret2
              refine ⟨?_, hb⟩
              rw [HV.out, hd.out, hfin.out, if_pos rfl, ← app_bytes]
              rfl
            · have hd := Lib.hid (show decide (n < 0) = false from decide_eq_false hn)
              go_wp2_with fail
              go_ret2
              refine ⟨?_, hb⟩
              rw [HV.out, hd.out, hfin.out, if_neg (by decide)]
              rfl
          · have hcv := fun w => conv1 (m / 10) (48 + (m : Int) / 10 % 10) (by omega) w
            have hsz : ¬ 9223372036854775807 < 1 + (tl.length + 1) := by omega
            have hnext := Lib.hid (show Lib.decDigits y ++ tailL x k = decI (m / 10) ++ dgt (m / 10) 1 :: (dgt m 1 :: tl) by
              rw [hh2.out.1, decI_next m (by omega)]; simp)
            go_wp2_with fail
            go_roundg (m / 10)
            case measure => have := hh2.out.2; omega
            case rel => exact ⟨m / 10, dgt m 1 :: tl, by go_num, by rw [show dgt (m / 10) 1 :: dgt m 1 :: tl = [dgt (m / 10) 1] ++ (dgt m 1 :: tl) from rfl, ← app_bytes], ⟨hnext.out, rfl⟩, by omega, hA.keep ((Bel.refl _).alloc _), hb.alloc _⟩
end Go.Proofs.YtcknjhgolajclaaDoor
