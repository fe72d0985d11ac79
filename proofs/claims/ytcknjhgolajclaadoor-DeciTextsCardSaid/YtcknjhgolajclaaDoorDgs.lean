import Derived.Test.YtcknjhgolajclaaDoorDgr
import Derived.Test.YtcknjhgolajclaaDoorDgh
import Derived.Deep.QuietTactic
import Derived.BigQuiet
namespace Go.Proofs.YtcknjhgolajclaaDoor
set_option linter.unusedSimpArgs false
set_option linter.unusedVariables false
open Go.RowKit

/-! Deci: the document's reading of a number. -/
theorem u8_eq46 {b : UInt8} : ((b.toNat : Int) == 46) = decide (b = 46) := by
  rw [Bool.eq_iff_iff]
  simp only [beq_iff_eq, decide_eq_true_eq]
  constructor
  · intro h
    exact UInt8.toNat_inj.mp (by have : b.toNat = 46 := by omega
                                 rw [this]; rfl)
  · rintro rfl; rfl
theorem u8_eq45 {b : UInt8} : ((b.toNat : Int) == 45) = decide (b = 45) := by
  rw [Bool.eq_iff_iff]
  simp only [beq_iff_eq, decide_eq_true_eq]
  constructor
  · intro h
    exact UInt8.toNat_inj.mp (by have : b.toNat = 45 := by omega
                                 rw [this]; rfl)
  · rintro rfl; rfl
set_option maxRecDepth 100000 in
set_option maxHeartbeats 16000000 in
theorem rparse_any (s : ByteArray) (hs : s.size ≤ 9223372036854775807) (w : World) : Calls Tryd.prog 22 #[.string s] w fun e w' => e = .returned (parseV s.data.toList) ∧ Bel w w' := by
  obtain ⟨mn, B, hm1, hm2, hBs, hmt, hmf⟩ := pre_cases s
  have PV := Lib.hid (show parseV s.data.toList = partsV mn (bef46 B.data.toList) (aft46 B.data.toList) (has46 B.data.toList) by rw [parseV, hm1, hm2])
  have HMT := Lib.hid hmt
  have HMF := Lib.hid hmf
  have hBi : (B.size : Int) ≤ 9223372036854775807 := by omega
  have hBB : B.size ≤ 9223372036854775807 := by omega
  clear hm1 hm2 hmt hmf hBs
  go_enter Tryd.func22, Tryd.ntmps22
  go_upto_region 1 with (fail)
  refine under_name ((Bel.refl w).alloc _) fun W hc hf hz hb => ?_
  have hR : Sl2 W w.heap.size 0 0 := by simp [Sl2, Arr2, Fr2, hz, hc, hf, go_sem]
  clear hc hf hz
  go_cut [4] (fun v wx => v = .bool mn ∧ W = wx)
  case first =>
    cases mn with
    | true =>
      obtain ⟨h0, h1, -⟩ := HMT.out rfl
      have e1 : ((s[0].toNat : Int) == 45) = true := by rw [u8_eq45, h1]; rfl
      have i0 : (0 : Int) < s.size := by omega
      clear h1
      go_wp2
      go_meet
      exact ⟨rfl, rfl⟩
    | false =>
      obtain ⟨-, h1⟩ := HMF.out rfl
      by_cases h0 : 0 < s.size
      · have e1 : ((s[0].toNat : Int) == 45) = false := by rw [u8_eq45]; exact decide_eq_false (h1 h0)
        have i0 : (0 : Int) < s.size := by omega
        clear h1
        go_wp2
        go_meet
        exact ⟨rfl, rfl⟩
      · have i0 : ¬ (0 : Int) < s.size := by omega
        clear h1
        go_wp2
        go_meet
        exact ⟨rfl, rfl⟩
  case rest =>
    obtain ⟨rfl, rfl⟩ := hcut
    go_upto_if 20 with (fail)
    go_cut [0] (fun v wx => v = .string B ∧ W = wx)
    case first =>
      cases mn with
      | true =>
        obtain ⟨h0, -, rfl⟩ := HMT.out rfl
        have i0 : (1 : Int) ≤ s.size := by omega
        go_wp2
        go_meet
        exact ⟨rfl, rfl⟩
      | false =>
        obtain ⟨rfl, -⟩ := HMF.out rfl
        go_wp2
        go_meet
        exact ⟨rfl, rfl⟩
    case rest =>
      obtain ⟨rfl, rfl⟩ := hcut
      clear HMT HMF
      go_wp2_with fail
      go_loopg [5, 6] B.size (fun g v5 v6 wr => ∃ (k : Nat) (z : Int), v6 = .int .i64 k ∧ v5 = .int .i64 z ∧ k ≤ B.size ∧ Hid (((z = -1 ∧ StA B.data.toList k) ∨ (∃ d : Nat, z = d ∧ StB B.data.toList d k)) ∧ g = B.size - k) ∧ wr = W)
      case atStart => exact ⟨0, -1, rfl, rfl, by omega, ⟨.inl ⟨rfl, stA_0 _⟩, rfl⟩, rfl⟩
      case round =>
        obtain ⟨k, z, rfl, rfl, hk, hh, rfl⟩ := hrel
        by_cases hlt : k < B.size
        · have hkl : k < B.data.toList.length := by rw [size_list]; exact hlt
          have hg : B.data.toList[k] = B[k] := rfl
          have hki : (k : Int) < B.size := by omega
          rcases hh.out.1 with ⟨rfl, st⟩ | ⟨d, rfl, st⟩
          · by_cases h46 : B[k] = 46
            · have e1 : ((B[k].toNat : Int) == 46) = true := by rw [u8_eq46, h46]; rfl
              have NX := Lib.hid (stA_dot st hkl (by rw [hg]; exact h46))
              clear h46 hg
              go_wp2
              go_roundg (gk - 1)
              case measure => have := hh.out.2; omega
              case rel => exact ⟨k + 1, _, by go_num, rfl, by omega, ⟨.inr ⟨k, rfl, NX.out⟩, by have := hh.out.2; omega⟩, rfl⟩
            · have e1 : ((B[k].toNat : Int) == 46) = false := by rw [u8_eq46]; exact decide_eq_false h46
              by_cases d1 : 48 ≤ B[k].toNat
              · have b1 : decide ((B[k].toNat : Int) < 48) = false := by simp; omega
                by_cases d2 : B[k].toNat ≤ 57
                · have b2 : decide (57 < (B[k].toNat : Int)) = false := by simp; omega
                  have NX := Lib.hid (stA_next st hkl (by rw [hg]; simp [dB, d1, d2]))
                  clear d1 d2 hg h46
                  go_wp2
                  go_roundg (gk - 1)
                  case measure => have := hh.out.2; omega
                  case rel => exact ⟨k + 1, _, by go_num, rfl, by omega, ⟨.inl ⟨rfl, NX.out⟩, by have := hh.out.2; omega⟩, rfl⟩
                · have b2 : decide (57 < (B[k].toNat : Int)) = true := by simp; omega
                  have BAD := Lib.hid (PV.out.trans (parts_bad (.inl (stA_bad st hkl (by rw [hg]; exact h46) (by rw [hg]; simp [dB]; omega)))))
                  clear d1 d2 hg h46
                  go_wp2
                  refine bodyPost_ret (by simp [results, Tryd.results22, go_sem, hR]; try rfl) rfl ⟨by (rw [BAD.out]) <;> rfl, ?_⟩
                  (repeat (first | with_reducible exact Bel.refl _ | with_reducible refine Bel.setCell ?_ (by first | exact Nat.le_refl _ | (dsimp only; omega)) _ | with_reducible refine Bel.alloc ?_ _ | with_reducible refine Bel.drew ?_ | with_reducible assumption | with_reducible refine Bel.trans ?_ (by assumption)))
              · have b1 : decide ((B[k].toNat : Int) < 48) = true := by simp; omega
                have BAD := Lib.hid (PV.out.trans (parts_bad (.inl (stA_bad st hkl (by rw [hg]; exact h46) (by rw [hg]; simp [dB]; omega)))))
                clear d1 hg h46
                go_wp2
                refine bodyPost_ret (by simp [results, Tryd.results22, go_sem, hR]; try rfl) rfl ⟨by (rw [BAD.out]) <;> rfl, ?_⟩
                (repeat (first | with_reducible exact Bel.refl _ | with_reducible refine Bel.setCell ?_ (by first | exact Nat.le_refl _ | (dsimp only; omega)) _ | with_reducible refine Bel.alloc ?_ _ | with_reducible refine Bel.drew ?_ | with_reducible assumption | with_reducible refine Bel.trans ?_ (by assumption)))
          · by_cases h46 : B[k] = 46
            · have e1 : ((B[k].toNat : Int) == 46) = true := by rw [u8_eq46, h46]; rfl
              have e46 : B[k].toNat = 46 := by rw [h46]; rfl
              have b1 : decide ((B[k].toNat : Int) < 48) = true := by simp; omega
              have BAD := Lib.hid (show parseV s.data.toList = errV 5 by
                rw [PV.out]
                obtain ⟨q1, q2⟩ := stB_bad st hkl (by rw [hg]; simp [dB]; omega)
                exact parts_bad (.inr (.inr ⟨q1, q2⟩)))
              clear h46 e46 hg
              go_wp2
              refine bodyPost_ret (by simp [results, Tryd.results22, go_sem, hR]; try rfl) rfl ⟨by (rw [BAD.out]) <;> rfl, ?_⟩
              (repeat (first | with_reducible exact Bel.refl _ | with_reducible refine Bel.setCell ?_ (by first | exact Nat.le_refl _ | (dsimp only; omega)) _ | with_reducible refine Bel.alloc ?_ _ | with_reducible refine Bel.drew ?_ | with_reducible assumption | with_reducible refine Bel.trans ?_ (by assumption)))
            · have e1 : ((B[k].toNat : Int) == 46) = false := by rw [u8_eq46]; exact decide_eq_false h46
              by_cases d1 : 48 ≤ B[k].toNat
              · have b1 : decide ((B[k].toNat : Int) < 48) = false := by simp; omega
                by_cases d2 : B[k].toNat ≤ 57
                · have b2 : decide (57 < (B[k].toNat : Int)) = false := by simp; omega
                  have NX := Lib.hid (stB_next st hkl (by rw [hg]; simp [dB, d1, d2]))
                  clear d1 d2 hg h46
                  go_wp2
                  go_roundg (gk - 1)
                  case measure => have := hh.out.2; omega
                  case rel => exact ⟨k + 1, _, by go_num, rfl, by omega, ⟨.inr ⟨d, rfl, NX.out⟩, by have := hh.out.2; omega⟩, rfl⟩
                · have b2 : decide (57 < (B[k].toNat : Int)) = true := by simp; omega
                  have BAD := Lib.hid (show parseV s.data.toList = errV 5 by
                    rw [PV.out]
                    obtain ⟨q1, q2⟩ := stB_bad st hkl (by rw [hg]; simp [dB]; omega)
                    exact parts_bad (.inr (.inr ⟨q1, q2⟩)))
                  clear d1 d2 hg h46
                  go_wp2
                  refine bodyPost_ret (by simp [results, Tryd.results22, go_sem, hR]; try rfl) rfl ⟨by (rw [BAD.out]) <;> rfl, ?_⟩
                  (repeat (first | with_reducible exact Bel.refl _ | with_reducible refine Bel.setCell ?_ (by first | exact Nat.le_refl _ | (dsimp only; omega)) _ | with_reducible refine Bel.alloc ?_ _ | with_reducible refine Bel.drew ?_ | with_reducible assumption | with_reducible refine Bel.trans ?_ (by assumption)))
              · have b1 : decide ((B[k].toNat : Int) < 48) = true := by simp; omega
                have BAD := Lib.hid (show parseV s.data.toList = errV 5 by
                  rw [PV.out]
                  obtain ⟨q1, q2⟩ := stB_bad st hkl (by rw [hg]; simp [dB]; omega)
                  exact parts_bad (.inr (.inr ⟨q1, q2⟩)))
                clear d1 hg h46
                go_wp2
                refine bodyPost_ret (by simp [results, Tryd.results22, go_sem, hR]; try rfl) rfl ⟨by (rw [BAD.out]) <;> rfl, ?_⟩
                (repeat (first | with_reducible exact Bel.refl _ | with_reducible refine Bel.setCell ?_ (by first | exact Nat.le_refl _ | (dsimp only; omega)) _ | with_reducible refine Bel.alloc ?_ _ | with_reducible refine Bel.drew ?_ | with_reducible assumption | with_reducible refine Bel.trans ?_ (by assumption)))
        · obtain rfl : k = B.size := by omega
          have hle : B.data.toList.length ≤ B.size := by rw [size_list]; exact Nat.le_refl _
          rcases hh.out.1 with ⟨rfl, st⟩ | ⟨d, rfl, st⟩
          · obtain ⟨q1, q2, q3, q4⟩ := stA_end st hle
            have P2 := Lib.hid (show parseV s.data.toList = partsV mn B.data.toList (⟨#[]⟩ : ByteArray).data.toList false by rw [PV.out, q1, q2, q3])
            have WK := Lib.hid q4
            have PK := Lib.hid (show dOk (⟨#[]⟩ : ByteArray).data.toList = true from rfl)
            have PT := Lib.hid (show false = true → ¬ digB (⟨#[]⟩ : ByteArray).data.toList = false from fun h => by cases h)
            have PSZ : ((⟨#[]⟩ : ByteArray).size : Int) ≤ 9223372036854775807 := by decide
            clear q1 q2 q3 q4 st
            by_cases w0 : B.size = 0
            · have e0 : B.toList.isEmpty = true := by
                rw [ByteArray.toList_eq, List.isEmpty_iff]
                exact List.eq_nil_of_length_eq_zero (by rw [size_list]; exact w0)
              have BAD := Lib.hid (P2.out.trans (parts_bad (.inl (by
                have e : B.data.toList = [] := List.eq_nil_of_length_eq_zero (by rw [size_list]; exact w0)
                rw [e]; rfl))))
              clear w0
              go_wp2
              refine bodyPost_ret (by simp [results, Tryd.results22, go_sem, hR]; try rfl) rfl ⟨by (rw [BAD.out]) <;> rfl, ?_⟩
              (repeat (first | with_reducible exact Bel.refl _ | with_reducible refine Bel.setCell ?_ (by first | exact Nat.le_refl _ | (dsimp only; omega)) _ | with_reducible refine Bel.alloc ?_ _ | with_reducible refine Bel.drew ?_ | with_reducible assumption | with_reducible refine Bel.trans ?_ (by assumption)))
            · have w00 : 0 < B.size := by omega
              have e0 : B.toList.isEmpty = false := by
                rw [ByteArray.toList_eq, Bool.eq_false_iff, ne_eq, List.isEmpty_iff]
                intro h
                have := size_list B
                rw [h] at this
                simp at this; omega
              by_cases w1 : 1 < B.size ∧ B[0] = 48
              · obtain ⟨w2, w3⟩ := w1
                have e1 : ((B[0].toNat : Int) == 48) = true := by rw [u8_eq48, w3]; rfl
                have BAD := Lib.hid (P2.out.trans (parts_bad (.inr (.inl ⟨by rw [size_list]; exact w2, by rw [idx0 w00, w3]⟩))))
                have i1 : (1 : Int) < B.size := by omega
                clear w0 w3
                go_wp2
                refine bodyPost_ret (by simp [results, Tryd.results22, go_sem, hR]; try rfl) rfl ⟨by (rw [BAD.out]) <;> rfl, ?_⟩
                (repeat (first | with_reducible exact Bel.refl _ | with_reducible refine Bel.setCell ?_ (by first | exact Nat.le_refl _ | (dsimp only; omega)) _ | with_reducible refine Bel.alloc ?_ _ | with_reducible refine Bel.drew ?_ | with_reducible assumption | with_reducible refine Bel.trans ?_ (by assumption)))
              · have GP := Lib.hid (show GoodP (B.data.toList) ((⟨#[]⟩ : ByteArray).data.toList) false by
                  unfold GoodP
                  rintro (h | ⟨h, h'⟩ | ⟨h, h'⟩)
                  · have hne : (B.data.toList).isEmpty = false := by rw [← ByteArray.toList_eq]; exact e0
                    rw [digB, WK.out, hne] at h; cases h
                  · rw [size_list] at h
                    rw [idx0 w00] at h'
                    exact w1 ⟨h, Option.some.inj h'⟩
                  · exact PT.out h h')
                have hvar : ((1 : Int) < B.size ∧ ((B[0].toNat : Int) == 48) = false) ∨ ¬ (1 : Int) < B.size := by
                  by_cases h : 1 < B.size
                  · exact .inl ⟨by omega, by rw [u8_eq48]; exact decide_eq_false fun h' => w1 ⟨h, h'⟩⟩
                  · exact .inr (by omega)
                clear w1 w0
                go_upto_region 17 with (fail)
                go_cut [73] (fun v wx => v = .bool false ∧ wr = wx)
                case first =>
                  rcases hvar with ⟨i1, e1⟩ | i1
                  · go_wp2
                    go_meet
                    exact ⟨rfl, rfl⟩
                  · go_wp2
                    go_meet
                    exact ⟨rfl, rfl⟩
                case rest =>
                  obtain ⟨rfl, rfl⟩ := hcut
                  clear hvar e0
                  go_wp2_with fail
                  obtain ⟨wo, rfl⟩ : ∃ wo : World, wo = wr := ⟨_, rfl⟩
                  go_loopg [8] (⟨#[]⟩ : ByteArray).size (fun g v8 wr => ∃ Pk : ByteArray, v8 = .string Pk ∧ Hid (trimR (⟨#[]⟩ : ByteArray).data.toList = trimR Pk.data.toList ∧ dOk Pk.data.toList = true ∧ g = Pk.size) ∧ (Pk.size : Int) ≤ 9223372036854775807 ∧ wr = wo)
                  case atStart => exact ⟨(⟨#[]⟩ : ByteArray), rfl, ⟨rfl, PK.out, rfl⟩, PSZ, rfl⟩
                  case round =>
                    obtain ⟨T, rfl, hh3, hTi, rfl⟩ := hrel
                    by_cases hgo : ∃ h : 0 < T.size, T[T.size - 1]'(by omega) = 48
                    · obtain ⟨t0, t1⟩ := hgo
                      have t2 : ((T[T.size - 1].toNat : Int) == 48) = true := by rw [u8_eq48, t1]; rfl
                      have t3 : (0 : Int) < T.size := by omega
                      have NX := Lib.hid (show trimR (⟨#[]⟩ : ByteArray).data.toList = trimR (T.extract 0 (T.size - 1)).data.toList ∧ dOk (T.extract 0 (T.size - 1)).data.toList = true by
                        obtain ⟨r1, r2, -⟩ := hh3.out
                        rw [ext_start]
                        have hl := size_list T
                        have hsp : T.data.toList = T.data.toList.take (T.size - 1) ++ [48] := by
                          have h1 := split_at (l := T.data.toList) (k := T.size - 1) (by omega)
                          have h2 : T.data.toList[T.size - 1]'(by omega) = T[T.size - 1] := rfl
                          rw [h2, t1, List.drop_of_length_le (by omega)] at h1
                          exact h1
                        constructor
                        · rw [r1]
                          conv => lhs; rw [hsp]
                          exact trimR_drop _
                        · rw [hsp, dOk_app, Bool.and_eq_true] at r2
                          exact r2.1)
                      clear t1
                      go_wp2
                      go_roundg (T.size - 1)
                      case measure => have := hh3.out.2.2; omega
                      case rel => exact ⟨T.extract 0 (T.size - 1), rfl, ⟨NX.out.1, NX.out.2, by simp [ByteArray.size_extract]⟩, by simp [ByteArray.size_extract]; omega, rfl⟩
                    · have hcase : (∃ h : 0 < T.size, (((T[T.size - 1]'(by omega)).toNat : Int) == 48) = false) ∨ T.size = 0 := by
                        by_cases h : 0 < T.size
                        · exact .inl ⟨h, by rw [u8_eq48]; exact decide_eq_false fun h' => hgo ⟨h, h'⟩⟩
                        · exact .inr (by omega)
                      have FT := Lib.hid (show trimR (⟨#[]⟩ : ByteArray).data.toList = T.data.toList by
                        obtain ⟨r1, r2, -⟩ := hh3.out
                        rw [r1]
                        by_cases h : 0 < T.size
                        · have hl := size_list T
                          have h1 := split_at (l := T.data.toList) (k := T.size - 1) (by omega)
                          have h2 : T.data.toList[T.size - 1]'(by omega) = T[T.size - 1]'(by omega) := rfl
                          rw [h2, List.drop_of_length_le (by omega)] at h1
                          have h3 : T[T.size - 1]'(by omega) ≠ 48 := fun h' => hgo ⟨h, h'⟩
                          rw [h1]
                          exact trimR_last _ _ h3
                        · have e : T.data.toList = [] := List.eq_nil_of_length_eq_zero (by rw [size_list]; omega)
                          rw [e]; rfl)
                      have TK := Lib.hid hh3.out.2.1
                      have hcase2 : (∃ h : 0 < T.size, (0 : Int) < T.size ∧ (((T[T.size - 1]'(by omega)).toNat : Int) == 48) = false) ∨ ¬ (0 : Int) < T.size := by
                        rcases hcase with ⟨h, h'⟩ | h
                        · exact .inl ⟨h, by omega, h'⟩
                        · exact .inr (by omega)
                      clear hgo hcase hh3
                      rcases hcase2 with ⟨t0, t3, t2⟩ | t3
                      all_goals
                        by_cases t6 : (6 : Int) < T.size
                        · have BAD := Lib.hid (P2.out.trans (parts_far GP.out (.inr (by rw [FT.out, size_list]; omega))))
                          go_wp2
                          all_goals (refine bodyPost_ret (by simp [results, Tryd.results22, go_sem, hR]; try rfl) rfl ⟨by (rw [BAD.out]) <;> rfl, ?_⟩; (repeat (first | with_reducible exact Bel.refl _ | with_reducible refine Bel.setCell ?_ (by first | exact Nat.le_refl _ | (dsimp only; omega)) _ | with_reducible refine Bel.alloc ?_ _ | with_reducible refine Bel.drew ?_ | with_reducible assumption | with_reducible refine Bel.trans ?_ (by assumption))))
                        · by_cases w12 : (12 : Int) < B.size
                          · have BAD := Lib.hid (P2.out.trans (parts_far GP.out (.inl (by rw [size_list]; omega))))
                            go_wp2
                            all_goals (refine bodyPost_ret (by simp [results, Tryd.results22, go_sem, hR]; try rfl) rfl ⟨by (rw [BAD.out]) <;> rfl, ?_⟩; (repeat (first | with_reducible exact Bel.refl _ | with_reducible refine Bel.setCell ?_ (by first | exact Nat.le_refl _ | (dsimp only; omega)) _ | with_reducible refine Bel.alloc ?_ _ | with_reducible refine Bel.drew ?_ | with_reducible assumption | with_reducible refine Bel.trans ?_ (by assumption))))
                          · obtain ⟨A, hA⟩ : ∃ A, A = B ++ T := ⟨_, rfl⟩
                            have hAl : A.data.toList = B.data.toList ++ T.data.toList := by rw [hA, ByteArray.data_append]; simp
                            have hAs : A.size = B.size + T.size := by rw [← size_list, hAl, List.length_append, size_list, size_list]
                            have hA18 : A.size ≤ 18 := by omega
                            have AK := Lib.hid (show dOk A.data.toList = true by rw [hAl, dOk_app, WK.out, TK.out]; rfl)
                            obtain ⟨V, hV⟩ : ∃ V, V = numL A.data.toList := ⟨_, rfl⟩
                            have FV := Lib.hid (show parseV s.data.toList = decV mn V T.size by
                              rw [P2.out, parts_good GP.out (by rw [FT.out, size_list, size_list]; omega), FT.out, ← hAl, size_list, hV])
                            have V18 := Lib.hid (show V < 10 ^ A.size by rw [hV]; have := numL_bd' _ AK.out; rwa [size_list] at this)
                            have hsz : ¬ 9223372036854775807 < B.size + T.size := by omega
                            have hT6 : T.size ≤ 6 := by omega
                            obtain ⟨r1, r2, r3, hsh⟩ := decV_sh mn V T.size
                            have HPS := Lib.hid (FV.out.trans hsh)
                            have HV := Lib.hid hV
                            have HAL := Lib.hid hA
                            clear hsh hV hA hAl hAs
                            go_upto_region 23 with (fail)
                            go_cut [9] (fun v wx => v = .string A ∧ wr = wx)
                            case first =>
                              go_wp2
                              go_meet
                              exact ⟨by rw [HAL.out], rfl⟩
                            case rest =>
                              obtain ⟨rfl, rfl⟩ := hcut
                              clear hsz
                              have hmk : ∀ w, (Instr.makeSlice 52 (.int .i64 60) (.int .i64 60)).run Tryd.prog w = .ok (.slice (some ⟨w.heap.size, 0, none⟩) 60 60) (w.alloc (.cells (madeCells #[.int .i64 0] 60) 3)) := make_row 60 (by omega)
                              have hMD := made_row wr 60 3
                              have HMD := Lib.hid hMD
                              have hlt2 := hR.1.1
                              clear hMD
                              go_upto_region 25 with (fail)
                              refine under_name (hb.alloc _) fun W4 hc hf hz hb4 => ?_
                              have hO := HMD.out.same hc hf hz
                              have hne : ¬ w.heap.size = wr.heap.size := by omega
                              have hne' : ¬ wr.heap.size = w.heap.size := by omega
                              have hR4 : Sl2 W4 w.heap.size 0 0 := by
                                refine ⟨⟨by rw [hz]; simp; omega, ?_, ?_⟩, ?_, ?_⟩
                                all_goals simp [hc, hf, go_sem, hR, hne, hne']
                              have NE := Lib.hid hne
                              have LT := Lib.hid (Nat.le_of_lt hlt2)
                              generalize wr.heap.size = g at *
                              clear hc hf hz hmk hR hb hne hne' hlt2 HMD
                              go_wp2_with fail
                              have hV50 : V < 10 ^ 50 := Nat.lt_of_lt_of_le V18.out (Nat.pow_le_pow_right (by omega) (by omega))
                              have HDC := Lib.hid (fun w' (hr : DRow w' g 0 60 (dg V)) => show Calls Tryd.prog 36 #[.slice (some ⟨g, 0, none⟩) 60 60, .int .i64 (T.size : Nat), .bool mn] w' (fun e w'' => e = .returned (parseV s.data.toList) ∧ Bel w' w'') by
                                have hd := rdec_any V T.size mn g hV50 (by omega) w' hr
                                rw [show rnd V T.size = V from if_neg (by omega), show min T.size 6 = T.size by omega, ← FV.out] at hd
                                exact hd)
                              clear hV50
                              go_loopg [11] A.size (fun g2 v11 wr => ∃ i : Nat, v11 = .int .i64 i ∧ i ≤ A.size ∧ Hid (g2 = A.size - i) ∧ DRow wr g 0 60 (above (dg V) (A.size - i)) ∧ Sl2 wr w.heap.size 0 0 ∧ Bel w wr)
                              case atStart =>
                                refine ⟨0, rfl, by omega, rfl, hO.ext fun i _ => ?_, hR4, hb4⟩
                                unfold above
                                by_cases h : A.size - 0 ≤ i
                                · rw [if_pos h, dg_big]
                                  exact Nat.lt_of_lt_of_le V18.out (Nat.pow_le_pow_right (by omega) (by omega))
                                · rw [if_neg h]
                              case round =>
                                clear hO hR4 hb4
                                obtain ⟨i, rfl, hi, hh4, hO, hR, hb⟩ := hrel
                                by_cases hlt3 : i < A.size
                                · have hal : i < A.data.toList.length := by rw [size_list]; exact hlt3
                                  have hga : A.data.toList[i] = A[i] := rfl
                                  have hdg := AK.out
                                  have hdi : dB A[i] = true := by
                                    rw [← hga]
                                    simp only [dOk, List.all_eq_true] at hdg
                                    exact hdg _ (List.getElem_mem hal)
                                  have hnum := numL_at A.data.toList AK.out i hal
                                  rw [size_list, hga, ← HV.out] at hnum
                                  simp only [dB, decide_eq_true_eq] at hdi
                                  have b1 : (48 : Int) ≤ A[i].toNat := by omega
                                  have b2 : (A[i].toNat : Int) ≤ 57 := by omega
                                  have E := Lib.hid (show (A[i].toNat : Int) - 48 = ((dg V (A.size - 1 - i) : Nat) : Int) by omega)
                                  have E2 := Lib.hid (show A.size - i = A.size - 1 - i + 1 by omega)
                                  obtain ⟨c1, c2⟩ := hO.at0 (show A.size - 1 - i < 60 by omega)
                                  have j1 : (i : Int) < A.size := by omega
                                  have j2 : (A.size : Int) ≤ 18 := by omega
                                  clear hga hdg hdi hnum
                                  go_wp2
                                  go_roundg (gk - 1)
                                  case measure => have := hh4.out; omega
                                  case rel =>
                                    refine ⟨i + 1, by go_num, by omega, (show _ = _ by have := hh4.out; omega), ?_, hR.other NE.out _, hb.setCell LT.out _⟩
                                    rw [E.out]
                                    rw [E2.out] at hO
                                    exact (hO.put (A.size - 1 - i) _ (by omega)).ext fun j _ => by rw [above_upd, show A.size - (i + 1) = A.size - 1 - i by omega]
                                · obtain rfl : i = A.size := by omega
                                  have hrow := hO.ext (g := dg V) fun j _ => by unfold above; rw [if_pos (by omega)]
                                  clear hO
                                  go_wp2_with (go_at_call 36; refine (HDC.out _ hrow).mono ?_; rintro e W5 ⟨rfl, hb1⟩; rw [HPS.out]; replace hR := hR.keep hb1; replace hb := hb.trans hb1; clear hb1 hrow)
                                  refine bodyPost_ret (by simp [results, Tryd.results22, go_sem, hR]; try rfl) rfl ⟨by (rw [HPS.out]) <;> rfl, ?_⟩
                                  (repeat (first | with_reducible exact Bel.refl _ | with_reducible refine Bel.setCell ?_ (by first | exact Nat.le_refl _ | (dsimp only; omega)) _ | with_reducible refine Bel.alloc ?_ _ | with_reducible refine Bel.drew ?_ | with_reducible assumption | with_reducible refine Bel.trans ?_ (by assumption)))
          · obtain ⟨q1, q2, q3, q4, q5⟩ := stB_end st hle
            have hd1 : d < B.size := by have := st.2.1; rwa [size_list] at this
            obtain ⟨Wb, hWb⟩ : ∃ Wb, Wb = B.extract 0 d := ⟨_, rfl⟩
            obtain ⟨Pb, hPb⟩ : ∃ Pb, Pb = B.extract (d + 1) B.size := ⟨_, rfl⟩
            have hWl : Wb.data.toList = B.data.toList.take d := by rw [hWb, ext_start]
            have hPl : Pb.data.toList = B.data.toList.drop (d + 1) := by rw [hPb, ext_end]
            have P2 := Lib.hid (show parseV s.data.toList = partsV mn Wb.data.toList Pb.data.toList true by rw [PV.out, q1, q2, q3, hWl, hPl])
            have WK := Lib.hid (show dOk Wb.data.toList = true by rw [hWl]; exact q4)
            have PK := Lib.hid (show dOk Pb.data.toList = true by rw [hPl]; exact q5)
            have PSZ : (Pb.size : Int) ≤ 9223372036854775807 := by
              have h := congrArg List.length hPl
              rw [size_list, List.length_drop, size_list] at h
              omega
            have WSZ : (Wb.size : Int) ≤ 9223372036854775807 := by
              have h := congrArg List.length hWl
              rw [size_list, List.length_take, size_list] at h
              omega
            have HWb := Lib.hid hWb
            have HPb := Lib.hid hPb
            have i3 : (d : Int) < B.size := by omega
            have i4 : (d : Int) + 1 ≤ B.size := by omega
            clear q1 q2 q3 q4 q5 st hWb hPb hWl hPl
            go_upto_region 14 with (fail)
            go_cut [7, 8] (fun v7 v8 wx => v7 = .string Wb ∧ v8 = .string Pb ∧ Sl2 wx w.heap.size 0 0 ∧ Bel w wx)
            case first =>
              go_quiet (fail)
              go_wp2
              go_meet
              exact ⟨by rw [HWb.out], by rw [HPb.out], hR.keep ((Bel.refl _).drewN _), hb.drewN _⟩
            case rest =>
              obtain ⟨rfl, rfl, hR, hb⟩ := hcut
              obtain ⟨wr, rfl⟩ : ∃ wr : World, wr = wc := ⟨_, rfl⟩
              by_cases p0 : Pb.size = 0
              · have e9 : Pb.toList.isEmpty = true := by
                  rw [ByteArray.toList_eq, List.isEmpty_iff]
                  exact List.eq_nil_of_length_eq_zero (by rw [size_list]; exact p0)
                have BAD := Lib.hid (P2.out.trans (parts_bad (.inr (.inr ⟨rfl, by
                  have e : Pb.data.toList = [] := List.eq_nil_of_length_eq_zero (by rw [size_list]; exact p0)
                  rw [e]; rfl⟩))))
                clear p0
                go_wp2
                refine bodyPost_ret (by simp [results, Tryd.results22, go_sem, hR]; try rfl) rfl ⟨by (rw [BAD.out]) <;> rfl, ?_⟩
                (repeat (first | with_reducible exact Bel.refl _ | with_reducible refine Bel.setCell ?_ (by first | exact Nat.le_refl _ | (dsimp only; omega)) _ | with_reducible refine Bel.alloc ?_ _ | with_reducible refine Bel.drew ?_ | with_reducible assumption | with_reducible refine Bel.trans ?_ (by assumption)))
              · have e9 : Pb.toList.isEmpty = false := by
                  rw [ByteArray.toList_eq, Bool.eq_false_iff, ne_eq, List.isEmpty_iff]
                  intro h
                  have := size_list Pb
                  rw [h] at this
                  simp at this; omega
                have PT := Lib.hid (show true = true → ¬ digB Pb.data.toList = false from fun _ h => by
                  have hne : (Pb.data.toList).isEmpty = false := by rw [← ByteArray.toList_eq]; exact e9
                  rw [digB, PK.out, hne] at h; cases h)
                clear p0
                by_cases w0 : Wb.size = 0
                · have e0 : Wb.toList.isEmpty = true := by
                    rw [ByteArray.toList_eq, List.isEmpty_iff]
                    exact List.eq_nil_of_length_eq_zero (by rw [size_list]; exact w0)
                  have BAD := Lib.hid (P2.out.trans (parts_bad (.inl (by
                    have e : Wb.data.toList = [] := List.eq_nil_of_length_eq_zero (by rw [size_list]; exact w0)
                    rw [e]; rfl))))
                  clear w0
                  go_wp2
                  refine bodyPost_ret (by simp [results, Tryd.results22, go_sem, hR]; try rfl) rfl ⟨by (rw [BAD.out]) <;> rfl, ?_⟩
                  (repeat (first | with_reducible exact Bel.refl _ | with_reducible refine Bel.setCell ?_ (by first | exact Nat.le_refl _ | (dsimp only; omega)) _ | with_reducible refine Bel.alloc ?_ _ | with_reducible refine Bel.drew ?_ | with_reducible assumption | with_reducible refine Bel.trans ?_ (by assumption)))
                · have w00 : 0 < Wb.size := by omega
                  have e0 : Wb.toList.isEmpty = false := by
                    rw [ByteArray.toList_eq, Bool.eq_false_iff, ne_eq, List.isEmpty_iff]
                    intro h
                    have := size_list Wb
                    rw [h] at this
                    simp at this; omega
                  by_cases w1 : 1 < Wb.size ∧ Wb[0] = 48
                  · obtain ⟨w2, w3⟩ := w1
                    have e1 : ((Wb[0].toNat : Int) == 48) = true := by rw [u8_eq48, w3]; rfl
                    have BAD := Lib.hid (P2.out.trans (parts_bad (.inr (.inl ⟨by rw [size_list]; exact w2, by rw [idx0 w00, w3]⟩))))
                    have i1 : (1 : Int) < Wb.size := by omega
                    clear w0 w3
                    go_wp2
                    refine bodyPost_ret (by simp [results, Tryd.results22, go_sem, hR]; try rfl) rfl ⟨by (rw [BAD.out]) <;> rfl, ?_⟩
                    (repeat (first | with_reducible exact Bel.refl _ | with_reducible refine Bel.setCell ?_ (by first | exact Nat.le_refl _ | (dsimp only; omega)) _ | with_reducible refine Bel.alloc ?_ _ | with_reducible refine Bel.drew ?_ | with_reducible assumption | with_reducible refine Bel.trans ?_ (by assumption)))
                  · have GP := Lib.hid (show GoodP (Wb.data.toList) (Pb.data.toList) true by
                      unfold GoodP
                      rintro (h | ⟨h, h'⟩ | ⟨h, h'⟩)
                      · have hne : (Wb.data.toList).isEmpty = false := by rw [← ByteArray.toList_eq]; exact e0
                        rw [digB, WK.out, hne] at h; cases h
                      · rw [size_list] at h
                        rw [idx0 w00] at h'
                        exact w1 ⟨h, Option.some.inj h'⟩
                      · exact PT.out h h')
                    have hvar : ((1 : Int) < Wb.size ∧ ((Wb[0].toNat : Int) == 48) = false) ∨ ¬ (1 : Int) < Wb.size := by
                      by_cases h : 1 < Wb.size
                      · exact .inl ⟨by omega, by rw [u8_eq48]; exact decide_eq_false fun h' => w1 ⟨h, h'⟩⟩
                      · exact .inr (by omega)
                    clear w1 w0
                    go_upto_region 17 with (fail)
                    go_cut [73] (fun v wx => v = .bool false ∧ wr = wx)
                    case first =>
                      rcases hvar with ⟨i1, e1⟩ | i1
                      · go_wp2
                        go_meet
                        exact ⟨rfl, rfl⟩
                      · go_wp2
                        go_meet
                        exact ⟨rfl, rfl⟩
                    case rest =>
                      obtain ⟨rfl, rfl⟩ := hcut
                      clear hvar e0
                      go_wp2_with fail
                      obtain ⟨wo, rfl⟩ : ∃ wo : World, wo = wr := ⟨_, rfl⟩
                      go_loopg [8] Pb.size (fun g v8 wr => ∃ Pk : ByteArray, v8 = .string Pk ∧ Hid (trimR Pb.data.toList = trimR Pk.data.toList ∧ dOk Pk.data.toList = true ∧ g = Pk.size) ∧ (Pk.size : Int) ≤ 9223372036854775807 ∧ wr = wo)
                      case atStart => exact ⟨Pb, rfl, ⟨rfl, PK.out, rfl⟩, PSZ, rfl⟩
                      case round =>
                        obtain ⟨T, rfl, hh3, hTi, rfl⟩ := hrel
                        by_cases hgo : ∃ h : 0 < T.size, T[T.size - 1]'(by omega) = 48
                        · obtain ⟨t0, t1⟩ := hgo
                          have t2 : ((T[T.size - 1].toNat : Int) == 48) = true := by rw [u8_eq48, t1]; rfl
                          have t3 : (0 : Int) < T.size := by omega
                          have NX := Lib.hid (show trimR Pb.data.toList = trimR (T.extract 0 (T.size - 1)).data.toList ∧ dOk (T.extract 0 (T.size - 1)).data.toList = true by
                            obtain ⟨r1, r2, -⟩ := hh3.out
                            rw [ext_start]
                            have hl := size_list T
                            have hsp : T.data.toList = T.data.toList.take (T.size - 1) ++ [48] := by
                              have h1 := split_at (l := T.data.toList) (k := T.size - 1) (by omega)
                              have h2 : T.data.toList[T.size - 1]'(by omega) = T[T.size - 1] := rfl
                              rw [h2, t1, List.drop_of_length_le (by omega)] at h1
                              exact h1
                            constructor
                            · rw [r1]
                              conv => lhs; rw [hsp]
                              exact trimR_drop _
                            · rw [hsp, dOk_app, Bool.and_eq_true] at r2
                              exact r2.1)
                          clear t1
                          go_wp2
                          go_roundg (T.size - 1)
                          case measure => have := hh3.out.2.2; omega
                          case rel => exact ⟨T.extract 0 (T.size - 1), rfl, ⟨NX.out.1, NX.out.2, by simp [ByteArray.size_extract]⟩, by simp [ByteArray.size_extract]; omega, rfl⟩
                        · have hcase : (∃ h : 0 < T.size, (((T[T.size - 1]'(by omega)).toNat : Int) == 48) = false) ∨ T.size = 0 := by
                            by_cases h : 0 < T.size
                            · exact .inl ⟨h, by rw [u8_eq48]; exact decide_eq_false fun h' => hgo ⟨h, h'⟩⟩
                            · exact .inr (by omega)
                          have FT := Lib.hid (show trimR Pb.data.toList = T.data.toList by
                            obtain ⟨r1, r2, -⟩ := hh3.out
                            rw [r1]
                            by_cases h : 0 < T.size
                            · have hl := size_list T
                              have h1 := split_at (l := T.data.toList) (k := T.size - 1) (by omega)
                              have h2 : T.data.toList[T.size - 1]'(by omega) = T[T.size - 1]'(by omega) := rfl
                              rw [h2, List.drop_of_length_le (by omega)] at h1
                              have h3 : T[T.size - 1]'(by omega) ≠ 48 := fun h' => hgo ⟨h, h'⟩
                              rw [h1]
                              exact trimR_last _ _ h3
                            · have e : T.data.toList = [] := List.eq_nil_of_length_eq_zero (by rw [size_list]; omega)
                              rw [e]; rfl)
                          have TK := Lib.hid hh3.out.2.1
                          have hcase2 : (∃ h : 0 < T.size, (0 : Int) < T.size ∧ (((T[T.size - 1]'(by omega)).toNat : Int) == 48) = false) ∨ ¬ (0 : Int) < T.size := by
                            rcases hcase with ⟨h, h'⟩ | h
                            · exact .inl ⟨h, by omega, h'⟩
                            · exact .inr (by omega)
                          clear hgo hcase hh3
                          rcases hcase2 with ⟨t0, t3, t2⟩ | t3
                          all_goals
                            by_cases t6 : (6 : Int) < T.size
                            · have BAD := Lib.hid (P2.out.trans (parts_far GP.out (.inr (by rw [FT.out, size_list]; omega))))
                              go_wp2
                              all_goals (refine bodyPost_ret (by simp [results, Tryd.results22, go_sem, hR]; try rfl) rfl ⟨by (rw [BAD.out]) <;> rfl, ?_⟩; (repeat (first | with_reducible exact Bel.refl _ | with_reducible refine Bel.setCell ?_ (by first | exact Nat.le_refl _ | (dsimp only; omega)) _ | with_reducible refine Bel.alloc ?_ _ | with_reducible refine Bel.drew ?_ | with_reducible assumption | with_reducible refine Bel.trans ?_ (by assumption))))
                            · by_cases w12 : (12 : Int) < Wb.size
                              · have BAD := Lib.hid (P2.out.trans (parts_far GP.out (.inl (by rw [size_list]; omega))))
                                go_wp2
                                all_goals (refine bodyPost_ret (by simp [results, Tryd.results22, go_sem, hR]; try rfl) rfl ⟨by (rw [BAD.out]) <;> rfl, ?_⟩; (repeat (first | with_reducible exact Bel.refl _ | with_reducible refine Bel.setCell ?_ (by first | exact Nat.le_refl _ | (dsimp only; omega)) _ | with_reducible refine Bel.alloc ?_ _ | with_reducible refine Bel.drew ?_ | with_reducible assumption | with_reducible refine Bel.trans ?_ (by assumption))))
                              · obtain ⟨A, hA⟩ : ∃ A, A = Wb ++ T := ⟨_, rfl⟩
                                have hAl : A.data.toList = Wb.data.toList ++ T.data.toList := by rw [hA, ByteArray.data_append]; simp
                                have hAs : A.size = Wb.size + T.size := by rw [← size_list, hAl, List.length_append, size_list, size_list]
                                have hA18 : A.size ≤ 18 := by omega
                                have AK := Lib.hid (show dOk A.data.toList = true by rw [hAl, dOk_app, WK.out, TK.out]; rfl)
                                obtain ⟨V, hV⟩ : ∃ V, V = numL A.data.toList := ⟨_, rfl⟩
                                have FV := Lib.hid (show parseV s.data.toList = decV mn V T.size by
                                  rw [P2.out, parts_good GP.out (by rw [FT.out, size_list, size_list]; omega), FT.out, ← hAl, size_list, hV])
                                have V18 := Lib.hid (show V < 10 ^ A.size by rw [hV]; have := numL_bd' _ AK.out; rwa [size_list] at this)
                                have hsz : ¬ 9223372036854775807 < Wb.size + T.size := by omega
                                have hT6 : T.size ≤ 6 := by omega
                                obtain ⟨r1, r2, r3, hsh⟩ := decV_sh mn V T.size
                                have HPS := Lib.hid (FV.out.trans hsh)
                                have HV := Lib.hid hV
                                have HAL := Lib.hid hA
                                clear hsh hV hA hAl hAs
                                go_upto_region 23 with (fail)
                                go_cut [9] (fun v wx => v = .string A ∧ wr = wx)
                                case first =>
                                  go_wp2
                                  go_meet
                                  exact ⟨by rw [HAL.out], rfl⟩
                                case rest =>
                                  obtain ⟨rfl, rfl⟩ := hcut
                                  clear hsz
                                  have hmk : ∀ w, (Instr.makeSlice 52 (.int .i64 60) (.int .i64 60)).run Tryd.prog w = .ok (.slice (some ⟨w.heap.size, 0, none⟩) 60 60) (w.alloc (.cells (madeCells #[.int .i64 0] 60) 3)) := make_row 60 (by omega)
                                  have hMD := made_row wr 60 3
                                  have HMD := Lib.hid hMD
                                  have hlt2 := hR.1.1
                                  clear hMD
                                  go_upto_region 25 with (fail)
                                  refine under_name (hb.alloc _) fun W4 hc hf hz hb4 => ?_
                                  have hO := HMD.out.same hc hf hz
                                  have hne : ¬ w.heap.size = wr.heap.size := by omega
                                  have hne' : ¬ wr.heap.size = w.heap.size := by omega
                                  have hR4 : Sl2 W4 w.heap.size 0 0 := by
                                    refine ⟨⟨by rw [hz]; simp; omega, ?_, ?_⟩, ?_, ?_⟩
                                    all_goals simp [hc, hf, go_sem, hR, hne, hne']
                                  have NE := Lib.hid hne
                                  have LT := Lib.hid (Nat.le_of_lt hlt2)
                                  generalize wr.heap.size = g at *
                                  clear hc hf hz hmk hR hb hne hne' hlt2 HMD
                                  go_wp2_with fail
                                  have hV50 : V < 10 ^ 50 := Nat.lt_of_lt_of_le V18.out (Nat.pow_le_pow_right (by omega) (by omega))
                                  have HDC := Lib.hid (fun w' (hr : DRow w' g 0 60 (dg V)) => show Calls Tryd.prog 36 #[.slice (some ⟨g, 0, none⟩) 60 60, .int .i64 (T.size : Nat), .bool mn] w' (fun e w'' => e = .returned (parseV s.data.toList) ∧ Bel w' w'') by
                                    have hd := rdec_any V T.size mn g hV50 (by omega) w' hr
                                    rw [show rnd V T.size = V from if_neg (by omega), show min T.size 6 = T.size by omega, ← FV.out] at hd
                                    exact hd)
                                  clear hV50
                                  go_loopg [11] A.size (fun g2 v11 wr => ∃ i : Nat, v11 = .int .i64 i ∧ i ≤ A.size ∧ Hid (g2 = A.size - i) ∧ DRow wr g 0 60 (above (dg V) (A.size - i)) ∧ Sl2 wr w.heap.size 0 0 ∧ Bel w wr)
                                  case atStart =>
                                    refine ⟨0, rfl, by omega, rfl, hO.ext fun i _ => ?_, hR4, hb4⟩
                                    unfold above
                                    by_cases h : A.size - 0 ≤ i
                                    · rw [if_pos h, dg_big]
                                      exact Nat.lt_of_lt_of_le V18.out (Nat.pow_le_pow_right (by omega) (by omega))
                                    · rw [if_neg h]
                                  case round =>
                                    clear hO hR4 hb4
                                    obtain ⟨i, rfl, hi, hh4, hO, hR, hb⟩ := hrel
                                    by_cases hlt3 : i < A.size
                                    · have hal : i < A.data.toList.length := by rw [size_list]; exact hlt3
                                      have hga : A.data.toList[i] = A[i] := rfl
                                      have hdg := AK.out
                                      have hdi : dB A[i] = true := by
                                        rw [← hga]
                                        simp only [dOk, List.all_eq_true] at hdg
                                        exact hdg _ (List.getElem_mem hal)
                                      have hnum := numL_at A.data.toList AK.out i hal
                                      rw [size_list, hga, ← HV.out] at hnum
                                      simp only [dB, decide_eq_true_eq] at hdi
                                      have b1 : (48 : Int) ≤ A[i].toNat := by omega
                                      have b2 : (A[i].toNat : Int) ≤ 57 := by omega
                                      have E := Lib.hid (show (A[i].toNat : Int) - 48 = ((dg V (A.size - 1 - i) : Nat) : Int) by omega)
                                      have E2 := Lib.hid (show A.size - i = A.size - 1 - i + 1 by omega)
                                      obtain ⟨c1, c2⟩ := hO.at0 (show A.size - 1 - i < 60 by omega)
                                      have j1 : (i : Int) < A.size := by omega
                                      have j2 : (A.size : Int) ≤ 18 := by omega
                                      clear hga hdg hdi hnum
                                      go_wp2
                                      go_roundg (gk - 1)
                                      case measure => have := hh4.out; omega
                                      case rel =>
                                        refine ⟨i + 1, by go_num, by omega, (show _ = _ by have := hh4.out; omega), ?_, hR.other NE.out _, hb.setCell LT.out _⟩
                                        rw [E.out]
                                        rw [E2.out] at hO
                                        exact (hO.put (A.size - 1 - i) _ (by omega)).ext fun j _ => by rw [above_upd, show A.size - (i + 1) = A.size - 1 - i by omega]
                                    · obtain rfl : i = A.size := by omega
                                      have hrow := hO.ext (g := dg V) fun j _ => by unfold above; rw [if_pos (by omega)]
                                      clear hO
                                      go_wp2_with (go_at_call 36; refine (HDC.out _ hrow).mono ?_; rintro e W5 ⟨rfl, hb1⟩; rw [HPS.out]; replace hR := hR.keep hb1; replace hb := hb.trans hb1; clear hb1 hrow)
                                      refine bodyPost_ret (by simp [results, Tryd.results22, go_sem, hR]; try rfl) rfl ⟨by (rw [HPS.out]) <;> rfl, ?_⟩
                                      (repeat (first | with_reducible exact Bel.refl _ | with_reducible refine Bel.setCell ?_ (by first | exact Nat.le_refl _ | (dsimp only; omega)) _ | with_reducible refine Bel.alloc ?_ _ | with_reducible refine Bel.drew ?_ | with_reducible assumption | with_reducible refine Bel.trans ?_ (by assumption)))
end Go.Proofs.YtcknjhgolajclaaDoor
