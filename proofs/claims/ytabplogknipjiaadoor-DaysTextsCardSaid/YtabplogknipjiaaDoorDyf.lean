import Derived.Test.YtabplogknipjiaaDoorDye
namespace Go.Proofs.YtabplogknipjiaaDoor
set_option linter.unusedSimpArgs false
set_option linter.unusedVariables false
open Go.RowKit

theorem feb_fun (y : Int) : bef (y + 1) = bef y + (337 + feb y) := by rw [bef_step]; omega
theorem bef_one : bef 1 = 0 := by decide
set_option maxHeartbeats 4000000 in
theorem rday_any (a b c : Int) (w : World) : Calls Tryd.prog 9 #[.int .i64 a, .int .i64 b, .int .i64 c] w fun e w' => e = .returned (dayV a b c) ∧ Bel w w' := by
  by_cases h : 1 ≤ a ∧ a ≤ 9999 ∧ 1 ≤ b ∧ b ≤ 12 ∧ 1 ≤ c
  · obtain ⟨h1, h2, h3, h4, h5⟩ := h
    have k1 : decide (a < 1) = false := by simp; omega
    have k2 : decide (9999 < a) = false := by simp; omega
    have k3 : decide (b < 1) = false := by simp; omega
    have k4 : decide (12 < b) = false := by simp; omega
    have k5 : decide (c < 1) = false := by simp; omega
    by_cases h6 : c ≤ lenM a b
    · rw [show dayV a b c = .tuple #[.int .i64 (numD a b c), .int .i64 0] from if_pos ⟨h1, h2, h3, h4, h5, h6⟩]
      have k6 : decide (lenM a b < c) = false := by simp; omega
      have hl : Hid (numD a b c = bef a + cumM a b + c - 1) := rfl
      have h7 := lenM_bd a b
      go_enter Tryd.func9, Tryd.ntmps9
      go_wp2_with (go_at_call 21; refine (rlength_any _ _ h3 h4 _).mono ?_; rintro e w1 ⟨rfl, hb1⟩)
      go_loopg [8, 9] 10000 (fun g n i wr => ∃ k : Int, 1 ≤ k ∧ k ≤ a ∧ i = .int .i64 k ∧ n = .int .i64 (bef k) ∧ Bel w wr ∧ (g : Int) = 10001 - k)
      case atStart => exact ⟨1, by omega, by omega, rfl, by rw [bef_one], hb1, by omega⟩
      case round =>
        clear hb1
        obtain ⟨k, hk1, hk2, rfl, rfl, hb, hg⟩ := hrel
        have hbb := bef_bd k hk1 (by omega)
        have hfb := feb_bd k
        by_cases hlt : k < a
        · have hs := Lib.hid (feb_fun k)
          go_wp2_with (go_at_call 22; refine (ryears_any _ _).mono ?_; rintro e w1 ⟨rfl, hb1⟩; replace hb := hb.trans hb1; clear hb1)
          go_roundg (gk - 1)
          case measure => omega
          case rel => exact ⟨k + 1, by omega, by omega, rfl, by rw [hs.out] <;> go_num, hb, by omega⟩
        · obtain rfl : k = a := by omega
          go_wp2_with fail
          go_loopg [8, 10] 12 (fun g n i wr => ∃ m : Int, 1 ≤ m ∧ m ≤ b ∧ i = .int .i64 m ∧ n = .int .i64 (bef k + cumM k m) ∧ Bel w wr ∧ (g : Int) = 13 - m)
          case atStart => exact ⟨1, by omega, by omega, rfl, by rw [cum_first]; go_num, hb, by omega⟩
          case round =>
            clear hb
            obtain ⟨m, hm1, hm2, rfl, rfl, hb, hg'⟩ := hrel
            have hcb := cum_bd k m (by omega)
            have hlb := lenM_bd k m
            by_cases hlt' : m < b
            · have hs := Lib.hid (cum_step k m hm1 (by omega))
              go_wp2_with (go_at_call 21; refine (rlength_any _ _ (by omega) (by omega) _).mono ?_; rintro e w1 ⟨rfl, hb1⟩; replace hb := hb.trans hb1; clear hb1)
              go_roundg (gk - 1)
              case measure => omega
              case rel => exact ⟨m + 1, by omega, by omega, rfl, by rw [hs.out] <;> go_num, hb, by omega⟩
            · obtain rfl : m = b := by omega
              go_wp2
              go_ret2
              exact ⟨by rw [hl.out]; go_num, hb⟩
    · rw [show dayV a b c = .tuple #[.int .i64 0, .int .i64 3] from if_neg fun hh => h6 hh.2.2.2.2.2]
      have k6 : decide (lenM a b < c) = true := by simp; omega
      clear h6
      go_enter Tryd.func9, Tryd.ntmps9
      go_wp2_with (go_at_call 21; refine (rlength_any _ _ h3 h4 _).mono ?_; rintro e w1 ⟨rfl, hb1⟩)
      go_ret2
      exact ⟨rfl, hb1⟩
  · rw [show dayV a b c = .tuple #[.int .i64 0, .int .i64 3] from if_neg fun hh => h ⟨hh.1, hh.2.1, hh.2.2.1, hh.2.2.2.1, hh.2.2.2.2.1⟩]
    by_cases h1 : 1 ≤ a
    · have k1 : decide (a < 1) = false := by simp; omega
      by_cases h2 : a ≤ 9999
      · have k2 : decide (9999 < a) = false := by simp; omega
        by_cases h3 : 1 ≤ b
        · have k3 : decide (b < 1) = false := by simp; omega
          by_cases h4 : b ≤ 12
          · have k4 : decide (12 < b) = false := by simp; omega
            have k5 : decide (c < 1) = true := by simp; omega
            clear h
            go_enter Tryd.func9, Tryd.ntmps9
            go_wp2
            go_ret2
            exact ⟨rfl, Bel.refl _⟩
          · have k4 : decide (12 < b) = true := by simp; omega
            clear h
            go_enter Tryd.func9, Tryd.ntmps9
            go_wp2
            go_ret2
            exact ⟨rfl, Bel.refl _⟩
        · have k3 : decide (b < 1) = true := by simp; omega
          clear h
          go_enter Tryd.func9, Tryd.ntmps9
          go_wp2
          go_ret2
          exact ⟨rfl, Bel.refl _⟩
      · have k2 : decide (9999 < a) = true := by simp; omega
        clear h
        go_enter Tryd.func9, Tryd.ntmps9
        go_wp2
        go_ret2
        exact ⟨rfl, Bel.refl _⟩
    · have k1 : decide (a < 1) = true := by simp; omega
      clear h
      go_enter Tryd.func9, Tryd.ntmps9
      go_wp2
      go_ret2
      exact ⟨rfl, Bel.refl _⟩

set_option maxHeartbeats 4000000 in
theorem rdate_any (n : Int) (w : World) : Calls Tryd.prog 11 #[.int .i64 n] w fun e w' => e = .returned (dateV n) ∧ Bel w w' := by
  by_cases h : 0 ≤ n ∧ n ≤ 3652058
  · rw [show dateV n = _ from if_pos h]
    obtain ⟨h1, h2⟩ := h
    have k1 : decide (n < 0) = false := by simp; omega
    have k2 : decide (3652058 < n) = false := by simp; omega
    go_enter Tryd.func11, Tryd.ntmps11
    go_wp2_with fail
    go_loopg [0, 6] 10000 (fun g r i wr => ∃ y : Int, 1 ≤ y ∧ y ≤ 9999 ∧ i = .int .i64 y ∧ r = .int .i64 (n - bef y) ∧ bef y ≤ n ∧ Bel w wr ∧ (g : Int) = 10001 - y)
    case atStart => exact ⟨1, by omega, by omega, rfl, by rw [bef_one]; go_num, by rw [bef_one]; omega, Bel.refl _, by omega⟩
    case round =>
      obtain ⟨y, hy1, hy2, rfl, rfl, hyn, hb, hg⟩ := hrel
      have hbb := bef_bd y hy1 (by omega)
      have hfb := feb_bd y
      have hs := Lib.hid (feb_fun y)
      by_cases hlt : 337 + feb y ≤ n - bef y
      · have hy3 : y ≤ 9998 := by
          by_cases hh : y = 9999
          · subst hh
            have : bef 9999 = 3651694 := by decide
            have : feb 9999 = 28 := by decide
            omega
          · omega
        go_wp2_with (go_at_call 22; refine (ryears_any _ _).mono ?_; rintro e w1 ⟨rfl, hb1⟩; replace hb := hb.trans hb1; clear hb1)
        go_roundg (gk - 1)
        case measure => omega
        case rel => exact ⟨y + 1, by omega, by omega, rfl, by rw [hs.out] <;> go_num, by rw [hs.out]; omega, hb, by omega⟩
      · have hl := Lib.hid (cum_last y)
        go_wp2_with (go_at_call 22; refine (ryears_any _ _).mono ?_; rintro e w1 ⟨rfl, hb1⟩; replace hb := hb.trans hb1; clear hb1)
        go_loopg [0, 7] 12 (fun g r i wr' => ∃ m : Int, 1 ≤ m ∧ m ≤ 12 ∧ i = .int .i64 m ∧ r = .int .i64 (n - bef y - cumM y m) ∧ 0 ≤ n - bef y - cumM y m ∧ Bel w wr' ∧ (g : Int) = 13 - m)
        case atStart => exact ⟨1, by omega, by omega, rfl, by rw [cum_first]; go_num, by rw [cum_first]; omega, hb, by omega⟩
        case round =>
          clear hb
          obtain ⟨m, hm1, hm2, rfl, rfl, hm3, hb, hg'⟩ := hrel
          have hm4 := cum_bd y m hm2
          have hm5 := lenM_bd y m
          by_cases hge : lenM y m ≤ n - bef y - cumM y m
          · have hm6 : m ≤ 11 := by
              by_cases hh : m = 12
              · subst hh; have h1 := hl.out; omega
              · omega
            have hcs := Lib.hid (cum_step y m hm1 hm6)
            go_wp2_with (go_at_call 21; refine (rlength_any _ _ hm1 hm2 _).mono ?_; rintro e w1 ⟨rfl, hb1⟩; replace hb := hb.trans hb1; clear hb1)
            go_roundg (gk - 1)
            case measure => omega
            case rel => exact ⟨m + 1, by omega, by omega, rfl, by rw [hcs.out] <;> go_num, by rw [hcs.out]; omega, hb, by omega⟩
          · have hS : SoundD y m (n - bef y - cumM y m + 1) := ⟨hy1, hy2, hm1, hm2, by omega, by omega⟩
            have hN : numD y m (n - bef y - cumM y m + 1) = n := by unfold numD; omega
            have H := Lib.hid (date_is hS hN)
            clear hS hN
            go_wp2_with (go_at_call 21; refine (rlength_any _ _ hm1 hm2 _).mono ?_; rintro e w1 ⟨rfl, hb1⟩; replace hb := hb.trans hb1; clear hb1)
            obtain ⟨e1, e2, e3⟩ := H.out
            rw [← e1, ← e2, ← e3]
            exact bodyPost_ret (by simp [results, Tryd.results11, go_sem]; try rfl) rfl ⟨rfl, hb⟩
  · rw [show dateV n = _ from if_neg h]
    by_cases h1 : 0 ≤ n
    · have k1 : decide (n < 0) = false := by simp; omega
      have k2 : decide (3652058 < n) = true := by simp; omega
      clear h
      go_enter Tryd.func11, Tryd.ntmps11
      go_wp2
      exact bodyPost_ret (by simp [results, Tryd.results11, go_sem]; try rfl) rfl ⟨rfl, Bel.refl _⟩
    · have k1 : decide (n < 0) = true := by simp; omega
      clear h
      go_enter Tryd.func11, Tryd.ntmps11
      go_wp2
      exact bodyPost_ret (by simp [results, Tryd.results11, go_sem]; try rfl) rfl ⟨rfl, Bel.refl _⟩
end Go.Proofs.YtabplogknipjiaaDoor
