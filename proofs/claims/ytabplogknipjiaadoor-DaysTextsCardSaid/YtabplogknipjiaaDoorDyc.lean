import Derived.Test.YtabplogknipjiaaDoorDyb
import Derived.Deep.LoopGhost
namespace Go.Proofs.YtabplogknipjiaaDoor
set_option linter.unusedSimpArgs false
set_option linter.unusedVariables false
open Go.RowKit

/-! Days: a date's number, the day, the date of a day. -/
def feb (y : Int) : Int := if leapB y = true then 29 else 28
theorem feb_bd (y : Int) : 28 ≤ feb y ∧ feb y ≤ 29 := by unfold feb; split <;> omega
/-- The days before a month of its year. -/
def cumM (y m : Int) : Int :=
  if m ≤ 1 then 0 else if m = 2 then 31 else if m = 3 then 31 + feb y else if m = 4 then 62 + feb y else if m = 5 then 92 + feb y else if m = 6 then 123 + feb y
  else if m = 7 then 153 + feb y else if m = 8 then 184 + feb y else if m = 9 then 215 + feb y else if m = 10 then 245 + feb y else if m = 11 then 276 + feb y else 306 + feb y
theorem lenM_feb (y m : Int) : lenM y m = if m = 2 then feb y else if m = 4 ∨ m = 6 ∨ m = 9 ∨ m = 11 then 30 else 31 := rfl
theorem twelve (m : Int) (h1 : 1 ≤ m) (h2 : m ≤ 12) : m = 1 ∨ m = 2 ∨ m = 3 ∨ m = 4 ∨ m = 5 ∨ m = 6 ∨ m = 7 ∨ m = 8 ∨ m = 9 ∨ m = 10 ∨ m = 11 ∨ m = 12 := by omega
theorem cum_step (y m : Int) (h1 : 1 ≤ m) (h2 : m ≤ 11) : cumM y (m + 1) = cumM y m + lenM y m := by
  rw [lenM_feb]
  rcases twelve m h1 (by omega) with rfl | rfl | rfl | rfl | rfl | rfl | rfl | rfl | rfl | rfl | rfl | rfl <;> simp [cumM] <;> omega
theorem cum_bd (y m : Int) (h2 : m ≤ 12) : 0 ≤ cumM y m ∧ cumM y m ≤ 335 := by
  have := feb_bd y
  by_cases h1 : 1 ≤ m
  · rcases twelve m h1 h2 with rfl | rfl | rfl | rfl | rfl | rfl | rfl | rfl | rfl | rfl | rfl | rfl <;> simp [cumM] <;> omega
  · simp [cumM, show m ≤ 1 by omega]
theorem cum_first (y : Int) : cumM y 1 = 0 := by simp [cumM]
theorem leap_iff (y : Int) : leapB y = true ↔ (y % 4 = 0 ∧ (y % 100 ≠ 0 ∨ y % 400 = 0)) := by simp [leapB]
theorem bef_step (y : Int) : bef (y + 1) = bef y + 337 + feb y := by
  unfold feb bef
  by_cases h : leapB y = true
  · rw [if_pos h]; rw [leap_iff] at h; omega
  · rw [if_neg h]; rw [leap_iff] at h; omega
theorem cum_last (y : Int) : cumM y 12 + lenM y 12 = 337 + feb y := by simp [cumM, lenM_feb]; omega
def numD (a b c : Int) : Int := bef a + cumM a b + c - 1

set_option maxHeartbeats 800000 in
theorem number_any (a b c : Int) (h : SoundD a b c) (w : World) : Calls Tryd.prog 20 #[.agg #[.int .i64 a, .int .i64 b, .int .i64 c]] w fun e w' => e = .returned (.int .i64 (numD a b c)) ∧ Bel w w' := by
  obtain ⟨h1, h2, h3, h4, h5, h6⟩ := h
  have h7 := lenM_bd a b
  have hb0 := bef_bd a h1 (by omega)
  have hl : Hid (numD a b c = bef a + cumM a b + c - 1) := rfl
  go_enter Tryd.func20, Tryd.ntmps20
  go_wp2_with (go_at_call 28; refine (before_any a h1 (by omega) _).mono ?_; rintro e W1 ⟨rfl, hb1⟩)
  have hw1 := (arr3_new w a b c).keep hb1
  replace hb1 := ((Bel.refl w).alloc _).trans hb1
  go_loopg [3, 4] 12 (fun g n i wr => ∃ k : Int, 1 ≤ k ∧ k ≤ b ∧ i = .int .i64 k ∧ n = .int .i64 (bef a + cumM a k) ∧ Bel W1 wr ∧ (g : Int) = 13 - k)
  case atStart => exact ⟨1, by omega, by omega, rfl, by rw [cum_first]; go_num, Bel.refl _, by omega⟩
  case round =>
    obtain ⟨k, hk1, hk2, rfl, rfl, hbr, hg⟩ := hrel
    have hwr := hw1.keep hbr
    have hcb := cum_bd a k (by omega)
    have hlb := lenM_bd a k
    by_cases hlt : k < b
    · have hs := Lib.hid (cum_step a k hk1 (by omega))
      go_wp2_with (go_at_call 27; refine (length_any a k _).mono ?_; rintro e W2 ⟨rfl, hb2⟩)
      go_roundg (gk - 1)
      case measure => omega
      case rel => exact ⟨k + 1, by omega, by omega, rfl, by rw [hs.out]; go_num, hbr.trans hb2, by omega⟩
    · obtain rfl : k = b := by omega
      go_wp2
      go_ret
      exact ⟨by rw [hl.out]; go_num, hb1.trans hbr⟩

theorem soundB_t {a b c : Int} (h : SoundD a b c) : soundB a b c = true := decide_eq_true h
theorem soundB_f {a b c : Int} (h : ¬ SoundD a b c) : soundB a b c = false := decide_eq_false h
/-- The day of a date, or none. -/
def dayV (a b c : Int) : Value := if SoundD a b c then .tuple #[.int .i64 (numD a b c), .int .i64 0] else .tuple #[.int .i64 0, .int .i64 3]
theorem day_any (a b c : Int) (w : World) : Calls Tryd.prog 8 #[.int .i64 a, .int .i64 b, .int .i64 c] w fun e w' => e = .returned (dayV a b c) ∧ Bel w w' := by
  by_cases h : SoundD a b c
  · rw [show dayV a b c = .tuple #[.int .i64 (numD a b c), .int .i64 0] from if_pos h]
    have hs := soundB_t h
    have H := Lib.hid h
    clear h
    go_enter Tryd.func8, Tryd.ntmps8
    go_wp2_with (first
      | (go_at_call 19; refine (sound_any a b c _).mono ?_; rintro e W1 ⟨rfl, hb1⟩
         have hw1 := (arr3_new w a b c).keep hb1; replace hb1 := ((Bel.refl w).alloc _).trans hb1)
      | (go_at_call 20; refine (number_any a b c H.out _).mono ?_; rintro e W2 ⟨rfl, hb2⟩))
    go_ret2
    exact ⟨rfl, hb1.trans hb2⟩
  · rw [show dayV a b c = .tuple #[.int .i64 0, .int .i64 3] from if_neg h]
    have hs := soundB_f h
    clear h
    go_enter Tryd.func8, Tryd.ntmps8
    go_wp2_with (go_at_call 19; refine (sound_any a b c _).mono ?_; rintro e W1 ⟨rfl, hb1⟩
                 replace hb1 := ((Bel.refl w).alloc _).trans hb1)
    go_ret2
    exact ⟨rfl, hb1⟩

abbrev Free3 (w : World) (b : Nat) : Prop := w.frozen? ⟨b, 0, none⟩ = false ∧ w.frozen? ⟨b, 1, none⟩ = false ∧ w.frozen? ⟨b, 2, none⟩ = false
theorem Free3.keep {w w' : World} {b : Nat} (h : Free3 w b) (hb : Bel w w') (hlt : b < w.heap.size) : Free3 w' b := by
  simp only [Free3, hb.frozens _ _ hlt]
  exact h
/-- A block of the call's own, free for a store. -/
abbrev Sl3 (w : World) (b : Nat) (x y z : Int) : Prop := Arr3 w b x y z ∧ Free3 w b
theorem Sl3.keep {w w' : World} {b : Nat} {x y z : Int} (h : Sl3 w b x y z) (hb : Bel w w') : Sl3 w' b x y z := ⟨h.1.keep hb, h.2.keep hb h.1.1⟩

set_option maxHeartbeats 2000000 in
theorem dateOf_any (n : Int) (h1 : 0 ≤ n) (h2 : n ≤ 3652058) (w : World) : Calls Tryd.prog 23 #[.int .i64 n] w fun e w' =>
    (∃ a b c, SoundD a b c ∧ numD a b c = n ∧ e = .returned (.agg #[.int .i64 a, .int .i64 b, .int .i64 c])) ∧ Bel w w' := by
  go_enter Tryd.func23, Tryd.ntmps23
  go_wp2_with fail
  refine under_name (((Bel.refl w).alloc _).alloc _) fun W hc hf hz hb => ?_
  have hw : Sl3 W w.heap.size 0 0 0 := by simp [Sl3, Arr3, Free3, hz, hc, hf, go_sem]
  have hv : Sl3 W (w.heap.size + 1) (n / 366 + 1) 1 1 := by simp [Sl3, Arr3, Free3, hz, hc, hf, go_sem]
  clear hc hf hz
  have q0 : bef (n / 366 + 1) ≤ n := by unfold bef; omega
  go_loopg [] (10000 - (n / 366 + 1)).toNat (fun g wr => ∃ y : Int, 1 ≤ y ∧ y ≤ 9999 ∧ bef y ≤ n ∧ Bel w wr ∧ Sl3 wr w.heap.size 0 0 0 ∧ Sl3 wr (w.heap.size + 1) y 1 1 ∧ (g : Int) = 10000 - y)
  case atStart => exact ⟨n / 366 + 1, by omega, by omega, q0, hb, hw, hv, by omega⟩
  case round =>
    clear hw hv hb q0
    obtain ⟨y, hy1, hy2, hyn, hb, hA, hB, hg⟩ := hrel
    by_cases hlt : bef (y + 1) ≤ n
    · have hy3 : y ≤ 9998 := by
        by_cases hh : y = 9999
        · subst hh; simp [bef] at hlt; omega
        · omega
      go_wp2_with (go_at_call 28; refine (before_any (y + 1) (by omega) (by omega) _).mono ?_; rintro e W2 ⟨rfl, hb2⟩
                   replace hA := hA.keep hb2; replace hB := hB.keep hb2; replace hb := hb.trans hb2; clear hb2)
      go_roundg (gk - 1)
      case measure => omega
      case rel => exact ⟨y + 1, by omega, by omega, hlt, hb.setCell (by simp) _, by simp [Sl3, Arr3, Free3, go_sem, hA], by simp [Sl3, Arr3, Free3, go_sem, hB], by omega⟩
    · have hy3 : n < bef (y + 1) := by omega
      have hbb := bef_bd y hy1 (by omega)
      go_wp2_with (go_at_call 28; refine (before_any _ (by omega) (by omega) _).mono ?_; rintro e W2 ⟨rfl, hb2⟩
                   replace hA := hA.keep hb2; replace hB := hB.keep hb2; replace hb := hb.trans hb2; clear hb2)
      have hl := Lib.hid (cum_last y)
      have hst := Lib.hid (bef_step y)
      go_loopg [0] 12 (fun g r wr' => ∃ m : Int, 1 ≤ m ∧ m ≤ 12 ∧ r = .int .i64 (n - bef y - cumM y m) ∧ 0 ≤ n - bef y - cumM y m ∧ Bel w wr' ∧ Sl3 wr' w.heap.size 0 0 0 ∧ Sl3 wr' (w.heap.size + 1) y m 1 ∧ (g : Int) = 13 - m)
      case atStart => exact ⟨1, by omega, by omega, by rw [cum_first]; go_num, by rw [cum_first]; omega, hb, hA, hB, by omega⟩
      case round =>
        clear hb hA hB
        obtain ⟨m, hm1, hm2, rfl, hm3, hb, hA, hB, hg⟩ := hrel
        have hm4 := cum_bd y m hm2
        have hm5 := lenM_bd y m
        by_cases hge : lenM y m ≤ n - bef y - cumM y m
        · have hm6 : m ≤ 11 := by
            by_cases hh : m = 12
            · subst hh; have h1 := hl.out; have h2 := hst.out; omega
            · omega
          have hcs := Lib.hid (cum_step y m hm1 hm6)
          go_wp2_with (go_at_call 27; refine (length_any _ _ _).mono ?_; rintro e W2 ⟨rfl, hb2⟩
                       replace hA := hA.keep hb2; replace hB := hB.keep hb2; replace hb := hb.trans hb2; clear hb2)
          go_roundg (gk - 1)
          case measure => omega
          case rel => exact ⟨m + 1, by omega, by omega, by rw [hcs.out]; go_num, by rw [hcs.out]; omega, hb.setCell (by simp) _, by simp [Sl3, Arr3, Free3, go_sem, hA], by simp [Sl3, Arr3, Free3, go_sem, hB], by omega⟩
        · have hS : SoundD y m (n - bef y - cumM y m + 1) := ⟨hy1, hy2, hm1, hm2, by omega, by omega⟩
          have hN : numD y m (n - bef y - cumM y m + 1) = n := by unfold numD; omega
          have HS := Lib.hid hS
          have HN := Lib.hid hN
          clear hS hN
          go_wp2_with (go_at_call 27; refine (length_any _ _ _).mono ?_; rintro e W2 ⟨rfl, hb2⟩
                       replace hA := hA.keep hb2; replace hB := hB.keep hb2; replace hb := hb.trans hb2; clear hb2)
          refine bodyPost_ret (by simp [results, Tryd.results23, go_sem, hA]; try rfl) rfl ⟨⟨y, m, n - bef y - cumM y m + 1, HS.out, HN.out, rfl⟩, ((((hb.setCell (by simp) _).setCell (by simp) _).setCell (by simp) _).setCell (by simp) _)⟩
end Go.Proofs.YtabplogknipjiaaDoor
