import Derived.Test.YtabplogknipjiaaDoorDyn
namespace Go.Proofs.YtabplogknipjiaaDoor
set_option linter.unusedSimpArgs false
set_option linter.unusedVariables false
open Go.RowKit

theorem dB_lo {x : UInt8} (h : dB x = true) : 48 ≤ x.toNat := by simp only [dB, decide_eq_true_eq] at h; exact h.1
theorem dB_hi {x : UInt8} (h : dB x = true) : x.toNat ≤ 57 := by simp only [dB, decide_eq_true_eq] at h; exact h.2

set_option maxRecDepth 100000 in
set_option maxHeartbeats 8000000 in
theorem rparse_any (s : ByteArray) (w : World) : Calls Tryd.prog 16 #[.string s] w fun e w' => e = .returned (parseV s) ∧ Bel w w' := by
  by_cases hs : s.size = 10
  · obtain ⟨a, b, c, d, e, f, g, h, i, j, hs'⟩ := ten s hs
    have i0 : s[0]'(by omega) = a := by subst hs'; rfl
    have i1 : s[1]'(by omega) = b := by subst hs'; rfl
    have i2 : s[2]'(by omega) = c := by subst hs'; rfl
    have i3 : s[3]'(by omega) = d := by subst hs'; rfl
    have i4 : s[4]'(by omega) = e := by subst hs'; rfl
    have i5 : s[5]'(by omega) = f := by subst hs'; rfl
    have i6 : s[6]'(by omega) = g := by subst hs'; rfl
    have i7 : s[7]'(by omega) = h := by subst hs'; rfl
    have i8 : s[8]'(by omega) = i := by subst hs'; rfl
    have i9 : s[9]'(by omega) = j := by subst hs'; rfl
    have hyes : (dB a = true ∧ dB b = true ∧ dB c = true ∧ dB d = true ∧ e = 45 ∧ dB f = true ∧ dB g = true ∧ h = 45 ∧ dB i = true ∧ dB j = true) → parseV s = dayV (numL [a, b, c, d]) (numL [f, g]) (numL [i, j]) := fun hh => by
      rw [hs', parseV]
      simp_all [parseL, dOk]
    have hno : ¬ (dB a = true ∧ dB b = true ∧ dB c = true ∧ dB d = true ∧ e = 45 ∧ dB f = true ∧ dB g = true ∧ h = 45 ∧ dB i = true ∧ dB j = true) → parseV s = badV := fun hh => by
      rw [hs', parseV]
      simp only
      by_cases h1 : e = 45 ∧ h = 45
      · rw [if_pos h1, parseL]
        refine if_neg fun h2 => hh ?_
        simp [dOk] at h2
        simp_all
      · exact if_neg h1
    clear hs'
    unfold badV at hno
    have HNO := Lib.hid hno
    have HYES := Lib.hid hyes
    clear hno hyes
    go_enter Tryd.func16, Tryd.ntmps16
    go_wp2_with fail
    refine under_name ((Bel.refl w).alloc _) fun W hc hf hz hb => ?_
    have hA : Sl3 W w.heap.size 0 0 0 := by simp [Sl3, Arr3, Free3, hz, hc, hf, go_sem]
    clear hc hf hz
    go_loopg [5, 6] 10 (fun g' k' i' wr => Bel w wr ∧
          ((i' = .int .i64 0 ∧ k' = .int .i64 0 ∧ g' = 10 ∧ Sl3 wr w.heap.size 0 0 0) ∨
           (i' = .int .i64 1 ∧ k' = .int .i64 0 ∧ g' = 9 ∧ Sl3 wr w.heap.size (numL [a]) 0 0 ∧ Hid (dB a = true)) ∨
           (i' = .int .i64 2 ∧ k' = .int .i64 0 ∧ g' = 8 ∧ Sl3 wr w.heap.size (numL [a, b]) 0 0 ∧ Hid (dB a = true ∧ dB b = true)) ∨
           (i' = .int .i64 3 ∧ k' = .int .i64 0 ∧ g' = 7 ∧ Sl3 wr w.heap.size (numL [a, b, c]) 0 0 ∧ Hid (dB a = true ∧ dB b = true ∧ dB c = true)) ∨
           (i' = .int .i64 4 ∧ k' = .int .i64 0 ∧ g' = 6 ∧ Sl3 wr w.heap.size (numL [a, b, c, d]) 0 0 ∧ Hid (dB a = true ∧ dB b = true ∧ dB c = true ∧ dB d = true)) ∨
           (i' = .int .i64 5 ∧ k' = .int .i64 1 ∧ g' = 5 ∧ Sl3 wr w.heap.size (numL [a, b, c, d]) 0 0 ∧ Hid (dB a = true ∧ dB b = true ∧ dB c = true ∧ dB d = true ∧ e = 45)) ∨
           (i' = .int .i64 6 ∧ k' = .int .i64 1 ∧ g' = 4 ∧ Sl3 wr w.heap.size (numL [a, b, c, d]) (numL [f]) 0 ∧ Hid (dB a = true ∧ dB b = true ∧ dB c = true ∧ dB d = true ∧ e = 45 ∧ dB f = true)) ∨
           (i' = .int .i64 7 ∧ k' = .int .i64 1 ∧ g' = 3 ∧ Sl3 wr w.heap.size (numL [a, b, c, d]) (numL [f, g]) 0 ∧ Hid (dB a = true ∧ dB b = true ∧ dB c = true ∧ dB d = true ∧ e = 45 ∧ dB f = true ∧ dB g = true)) ∨
           (i' = .int .i64 8 ∧ k' = .int .i64 2 ∧ g' = 2 ∧ Sl3 wr w.heap.size (numL [a, b, c, d]) (numL [f, g]) 0 ∧ Hid (dB a = true ∧ dB b = true ∧ dB c = true ∧ dB d = true ∧ e = 45 ∧ dB f = true ∧ dB g = true ∧ h = 45)) ∨
           (i' = .int .i64 9 ∧ k' = .int .i64 2 ∧ g' = 1 ∧ Sl3 wr w.heap.size (numL [a, b, c, d]) (numL [f, g]) (numL [i]) ∧ Hid (dB a = true ∧ dB b = true ∧ dB c = true ∧ dB d = true ∧ e = 45 ∧ dB f = true ∧ dB g = true ∧ h = 45 ∧ dB i = true)) ∨
           (i' = .int .i64 10 ∧ k' = .int .i64 2 ∧ g' = 0 ∧ Sl3 wr w.heap.size (numL [a, b, c, d]) (numL [f, g]) (numL [i, j]) ∧ Hid (dB a = true ∧ dB b = true ∧ dB c = true ∧ dB d = true ∧ e = 45 ∧ dB f = true ∧ dB g = true ∧ h = 45 ∧ dB i = true ∧ dB j = true))))
    case atStart => exact ⟨hb, .inl ⟨rfl, rfl, rfl, hA⟩⟩
    case round =>
          clear hb hA
          obtain ⟨hb, ⟨rfl, rfl, hg, hA⟩ | ⟨rfl, rfl, hg, hA, hd⟩ | ⟨rfl, rfl, hg, hA, hd⟩ | ⟨rfl, rfl, hg, hA, hd⟩ | ⟨rfl, rfl, hg, hA, hd⟩ | ⟨rfl, rfl, hg, hA, hd⟩ | ⟨rfl, rfl, hg, hA, hd⟩ | ⟨rfl, rfl, hg, hA, hd⟩ | ⟨rfl, rfl, hg, hA, hd⟩ | ⟨rfl, rfl, hg, hA, hd⟩ | ⟨rfl, rfl, hg, hA, hd⟩⟩ := hrel
          · have Hg := Lib.hid hg
            clear hg
            by_cases h1 : 48 ≤ a.toNat
            · by_cases h2 : a.toNat ≤ 57
              · have Hn : Hid (dB a = true) := by have hok : dB a = true := decide_eq_true (p := 48 ≤ a.toNat ∧ a.toNat ≤ 57) ⟨h1, h2⟩; exact hok
                have b1 : decide ((a.toNat : Int) < 48) = false := by simp; omega
                have b2 : decide (57 < (a.toNat : Int)) = false := by simp; omega
                have hnew := Lib.hid (show ((numL [a] : Nat) : Int) = ((a.toNat : Int) - 48) by rw [show numL [a] = 0 * 10 + (a.toNat - 48) from rfl]; omega)
                go_wp2_with fail
                go_region
                go_wp2_with fail
                go_roundg 9
                case measure => have := Hg.out; omega
                case rel => exact ⟨by repeat (first | exact hb | apply Bel.drew | refine Bel.setCell ?_ (by simp) _), (.inr (.inl ⟨rfl, rfl, rfl, by rw [hnew.out]; simp [Sl3, Arr3, Free3, go_sem, hA], Hn⟩))⟩
              · have hbad := Lib.hid (HNO.out (fun hh => h2 (dB_hi hh.1)))
                have b1 : decide ((a.toNat : Int) < 48) = false := by simp; omega
                have b2 : decide (57 < (a.toNat : Int)) = true := by simp; omega
                go_wp2
                go_ret2
                exact ⟨by rw [hbad.out]; rfl, hb⟩
            · have hbad := Lib.hid (HNO.out (fun hh => h1 (dB_lo hh.1)))
              have b1 : decide ((a.toNat : Int) < 48) = true := by simp; omega
              go_wp2
              go_ret2
              exact ⟨by rw [hbad.out]; rfl, hb⟩
          · have Hg := Lib.hid hg
            clear hg
            by_cases h1 : 48 ≤ b.toNat
            · by_cases h2 : b.toNat ≤ 57
              · have Hn : Hid (dB a = true ∧ dB b = true) := by have hok : dB b = true := decide_eq_true (p := 48 ≤ b.toNat ∧ b.toNat ≤ 57) ⟨h1, h2⟩; have q0 := hd.out; exact ⟨q0, hok⟩
                have b1 : decide ((b.toNat : Int) < 48) = false := by simp; omega
                have b2 : decide (57 < (b.toNat : Int)) = false := by simp; omega
                have hbd : numL [a] ≤ 9999 := by have q0 := hd.out; exact numL_bd _ (by simp [dOk, q0]) (by simp)
                have hnew := Lib.hid (show ((numL [a, b] : Nat) : Int) = ((numL [a] : Nat) : Int) * 10 + ((b.toNat : Int) - 48) by rw [show numL [a, b] = numL [a] * 10 + (b.toNat - 48) from rfl]; omega)
                go_wp2_with fail
                go_region
                go_wp2_with fail
                go_roundg 8
                case measure => have := Hg.out; omega
                case rel => exact ⟨by repeat (first | exact hb | apply Bel.drew | refine Bel.setCell ?_ (by simp) _), (.inr (.inr (.inl ⟨rfl, rfl, rfl, by rw [hnew.out]; simp [Sl3, Arr3, Free3, go_sem, hA], Hn⟩)))⟩
              · have hbad := Lib.hid (HNO.out (fun hh => h2 (dB_hi hh.2.1)))
                have b1 : decide ((b.toNat : Int) < 48) = false := by simp; omega
                have b2 : decide (57 < (b.toNat : Int)) = true := by simp; omega
                go_wp2
                go_ret2
                exact ⟨by rw [hbad.out]; rfl, hb⟩
            · have hbad := Lib.hid (HNO.out (fun hh => h1 (dB_lo hh.2.1)))
              have b1 : decide ((b.toNat : Int) < 48) = true := by simp; omega
              go_wp2
              go_ret2
              exact ⟨by rw [hbad.out]; rfl, hb⟩
          · have Hg := Lib.hid hg
            clear hg
            by_cases h1 : 48 ≤ c.toNat
            · by_cases h2 : c.toNat ≤ 57
              · have Hn : Hid (dB a = true ∧ dB b = true ∧ dB c = true) := by have hok : dB c = true := decide_eq_true (p := 48 ≤ c.toNat ∧ c.toNat ≤ 57) ⟨h1, h2⟩; obtain ⟨q0, q1⟩ := hd.out; exact ⟨q0, q1, hok⟩
                have b1 : decide ((c.toNat : Int) < 48) = false := by simp; omega
                have b2 : decide (57 < (c.toNat : Int)) = false := by simp; omega
                have hbd : numL [a, b] ≤ 9999 := by obtain ⟨q0, q1⟩ := hd.out; exact numL_bd _ (by simp [dOk, q0, q1]) (by simp)
                have hnew := Lib.hid (show ((numL [a, b, c] : Nat) : Int) = ((numL [a, b] : Nat) : Int) * 10 + ((c.toNat : Int) - 48) by rw [show numL [a, b, c] = numL [a, b] * 10 + (c.toNat - 48) from rfl]; omega)
                go_wp2_with fail
                go_region
                go_wp2_with fail
                go_roundg 7
                case measure => have := Hg.out; omega
                case rel => exact ⟨by repeat (first | exact hb | apply Bel.drew | refine Bel.setCell ?_ (by simp) _), (.inr (.inr (.inr (.inl ⟨rfl, rfl, rfl, by rw [hnew.out]; simp [Sl3, Arr3, Free3, go_sem, hA], Hn⟩))))⟩
              · have hbad := Lib.hid (HNO.out (fun hh => h2 (dB_hi hh.2.2.1)))
                have b1 : decide ((c.toNat : Int) < 48) = false := by simp; omega
                have b2 : decide (57 < (c.toNat : Int)) = true := by simp; omega
                go_wp2
                go_ret2
                exact ⟨by rw [hbad.out]; rfl, hb⟩
            · have hbad := Lib.hid (HNO.out (fun hh => h1 (dB_lo hh.2.2.1)))
              have b1 : decide ((c.toNat : Int) < 48) = true := by simp; omega
              go_wp2
              go_ret2
              exact ⟨by rw [hbad.out]; rfl, hb⟩
          · have Hg := Lib.hid hg
            clear hg
            by_cases h1 : 48 ≤ d.toNat
            · by_cases h2 : d.toNat ≤ 57
              · have Hn : Hid (dB a = true ∧ dB b = true ∧ dB c = true ∧ dB d = true) := by have hok : dB d = true := decide_eq_true (p := 48 ≤ d.toNat ∧ d.toNat ≤ 57) ⟨h1, h2⟩; obtain ⟨q0, q1, q2⟩ := hd.out; exact ⟨q0, q1, q2, hok⟩
                have b1 : decide ((d.toNat : Int) < 48) = false := by simp; omega
                have b2 : decide (57 < (d.toNat : Int)) = false := by simp; omega
                have hbd : numL [a, b, c] ≤ 9999 := by obtain ⟨q0, q1, q2⟩ := hd.out; exact numL_bd _ (by simp [dOk, q0, q1, q2]) (by simp)
                have hnew := Lib.hid (show ((numL [a, b, c, d] : Nat) : Int) = ((numL [a, b, c] : Nat) : Int) * 10 + ((d.toNat : Int) - 48) by rw [show numL [a, b, c, d] = numL [a, b, c] * 10 + (d.toNat - 48) from rfl]; omega)
                go_wp2_with fail
                go_region
                go_wp2_with fail
                go_roundg 6
                case measure => have := Hg.out; omega
                case rel => exact ⟨by repeat (first | exact hb | apply Bel.drew | refine Bel.setCell ?_ (by simp) _), (.inr (.inr (.inr (.inr (.inl ⟨rfl, rfl, rfl, by rw [hnew.out]; simp [Sl3, Arr3, Free3, go_sem, hA], Hn⟩)))))⟩
              · have hbad := Lib.hid (HNO.out (fun hh => h2 (dB_hi hh.2.2.2.1)))
                have b1 : decide ((d.toNat : Int) < 48) = false := by simp; omega
                have b2 : decide (57 < (d.toNat : Int)) = true := by simp; omega
                go_wp2
                go_ret2
                exact ⟨by rw [hbad.out]; rfl, hb⟩
            · have hbad := Lib.hid (HNO.out (fun hh => h1 (dB_lo hh.2.2.2.1)))
              have b1 : decide ((d.toNat : Int) < 48) = true := by simp; omega
              go_wp2
              go_ret2
              exact ⟨by rw [hbad.out]; rfl, hb⟩
          · have Hg := Lib.hid hg
            clear hg
            by_cases hok : e = 45
            · have Hn : Hid (dB a = true ∧ dB b = true ∧ dB c = true ∧ dB d = true ∧ e = 45) := by obtain ⟨q0, q1, q2, q3⟩ := hd.out; exact ⟨q0, q1, q2, q3, hok⟩
              have b1 : ((e.toNat : Int) != 45) = false := by rw [hok]; rfl
              clear hok
              go_wp2
              go_roundg 5
              case measure => have := Hg.out; omega
              case rel => exact ⟨hb, (.inr (.inr (.inr (.inr (.inr (.inl ⟨rfl, rfl, rfl, hA, Hn⟩))))))⟩
            · have hbad := Lib.hid (HNO.out (fun hh => hok hh.2.2.2.2.1))
              have b1 : ((e.toNat : Int) != 45) = true := u8_ne hok
              clear hok
              go_wp2
              go_ret2
              exact ⟨by rw [hbad.out]; rfl, hb⟩
          · have Hg := Lib.hid hg
            clear hg
            by_cases h1 : 48 ≤ f.toNat
            · by_cases h2 : f.toNat ≤ 57
              · have Hn : Hid (dB a = true ∧ dB b = true ∧ dB c = true ∧ dB d = true ∧ e = 45 ∧ dB f = true) := by have hok : dB f = true := decide_eq_true (p := 48 ≤ f.toNat ∧ f.toNat ≤ 57) ⟨h1, h2⟩; obtain ⟨q0, q1, q2, q3, q4⟩ := hd.out; exact ⟨q0, q1, q2, q3, q4, hok⟩
                have b1 : decide ((f.toNat : Int) < 48) = false := by simp; omega
                have b2 : decide (57 < (f.toNat : Int)) = false := by simp; omega
                have hnew := Lib.hid (show ((numL [f] : Nat) : Int) = ((f.toNat : Int) - 48) by rw [show numL [f] = 0 * 10 + (f.toNat - 48) from rfl]; omega)
                go_wp2_with fail
                go_region
                go_wp2_with fail
                go_roundg 4
                case measure => have := Hg.out; omega
                case rel => exact ⟨by repeat (first | exact hb | apply Bel.drew | refine Bel.setCell ?_ (by simp) _), (.inr (.inr (.inr (.inr (.inr (.inr (.inl ⟨rfl, rfl, rfl, by rw [hnew.out]; simp [Sl3, Arr3, Free3, go_sem, hA], Hn⟩)))))))⟩
              · have hbad := Lib.hid (HNO.out (fun hh => h2 (dB_hi hh.2.2.2.2.2.1)))
                have b1 : decide ((f.toNat : Int) < 48) = false := by simp; omega
                have b2 : decide (57 < (f.toNat : Int)) = true := by simp; omega
                go_wp2
                go_ret2
                exact ⟨by rw [hbad.out]; rfl, hb⟩
            · have hbad := Lib.hid (HNO.out (fun hh => h1 (dB_lo hh.2.2.2.2.2.1)))
              have b1 : decide ((f.toNat : Int) < 48) = true := by simp; omega
              go_wp2
              go_ret2
              exact ⟨by rw [hbad.out]; rfl, hb⟩
          · have Hg := Lib.hid hg
            clear hg
            by_cases h1 : 48 ≤ g.toNat
            · by_cases h2 : g.toNat ≤ 57
              · have Hn : Hid (dB a = true ∧ dB b = true ∧ dB c = true ∧ dB d = true ∧ e = 45 ∧ dB f = true ∧ dB g = true) := by have hok : dB g = true := decide_eq_true (p := 48 ≤ g.toNat ∧ g.toNat ≤ 57) ⟨h1, h2⟩; obtain ⟨q0, q1, q2, q3, q4, q5⟩ := hd.out; exact ⟨q0, q1, q2, q3, q4, q5, hok⟩
                have b1 : decide ((g.toNat : Int) < 48) = false := by simp; omega
                have b2 : decide (57 < (g.toNat : Int)) = false := by simp; omega
                have hbd : numL [f] ≤ 9999 := by obtain ⟨q0, q1, q2, q3, q4, q5⟩ := hd.out; exact numL_bd _ (by simp [dOk, q0, q1, q2, q3, q4, q5]) (by simp)
                have hnew := Lib.hid (show ((numL [f, g] : Nat) : Int) = ((numL [f] : Nat) : Int) * 10 + ((g.toNat : Int) - 48) by rw [show numL [f, g] = numL [f] * 10 + (g.toNat - 48) from rfl]; omega)
                go_wp2_with fail
                go_region
                go_wp2_with fail
                go_roundg 3
                case measure => have := Hg.out; omega
                case rel => exact ⟨by repeat (first | exact hb | apply Bel.drew | refine Bel.setCell ?_ (by simp) _), (.inr (.inr (.inr (.inr (.inr (.inr (.inr (.inl ⟨rfl, rfl, rfl, by rw [hnew.out]; simp [Sl3, Arr3, Free3, go_sem, hA], Hn⟩))))))))⟩
              · have hbad := Lib.hid (HNO.out (fun hh => h2 (dB_hi hh.2.2.2.2.2.2.1)))
                have b1 : decide ((g.toNat : Int) < 48) = false := by simp; omega
                have b2 : decide (57 < (g.toNat : Int)) = true := by simp; omega
                go_wp2
                go_ret2
                exact ⟨by rw [hbad.out]; rfl, hb⟩
            · have hbad := Lib.hid (HNO.out (fun hh => h1 (dB_lo hh.2.2.2.2.2.2.1)))
              have b1 : decide ((g.toNat : Int) < 48) = true := by simp; omega
              go_wp2
              go_ret2
              exact ⟨by rw [hbad.out]; rfl, hb⟩
          · have Hg := Lib.hid hg
            clear hg
            by_cases hok : h = 45
            · have Hn : Hid (dB a = true ∧ dB b = true ∧ dB c = true ∧ dB d = true ∧ e = 45 ∧ dB f = true ∧ dB g = true ∧ h = 45) := by obtain ⟨q0, q1, q2, q3, q4, q5, q6⟩ := hd.out; exact ⟨q0, q1, q2, q3, q4, q5, q6, hok⟩
              have b1 : ((h.toNat : Int) != 45) = false := by rw [hok]; rfl
              clear hok
              go_wp2
              go_roundg 2
              case measure => have := Hg.out; omega
              case rel => exact ⟨hb, (.inr (.inr (.inr (.inr (.inr (.inr (.inr (.inr (.inl ⟨rfl, rfl, rfl, hA, Hn⟩)))))))))⟩
            · have hbad := Lib.hid (HNO.out (fun hh => hok hh.2.2.2.2.2.2.2.1))
              have b1 : ((h.toNat : Int) != 45) = true := u8_ne hok
              clear hok
              go_wp2
              go_ret2
              exact ⟨by rw [hbad.out]; rfl, hb⟩
          · have Hg := Lib.hid hg
            clear hg
            by_cases h1 : 48 ≤ i.toNat
            · by_cases h2 : i.toNat ≤ 57
              · have Hn : Hid (dB a = true ∧ dB b = true ∧ dB c = true ∧ dB d = true ∧ e = 45 ∧ dB f = true ∧ dB g = true ∧ h = 45 ∧ dB i = true) := by have hok : dB i = true := decide_eq_true (p := 48 ≤ i.toNat ∧ i.toNat ≤ 57) ⟨h1, h2⟩; obtain ⟨q0, q1, q2, q3, q4, q5, q6, q7⟩ := hd.out; exact ⟨q0, q1, q2, q3, q4, q5, q6, q7, hok⟩
                have b1 : decide ((i.toNat : Int) < 48) = false := by simp; omega
                have b2 : decide (57 < (i.toNat : Int)) = false := by simp; omega
                have hnew := Lib.hid (show ((numL [i] : Nat) : Int) = ((i.toNat : Int) - 48) by rw [show numL [i] = 0 * 10 + (i.toNat - 48) from rfl]; omega)
                go_wp2_with fail
                go_region
                go_wp2_with fail
                go_roundg 1
                case measure => have := Hg.out; omega
                case rel => exact ⟨by repeat (first | exact hb | apply Bel.drew | refine Bel.setCell ?_ (by simp) _), (.inr (.inr (.inr (.inr (.inr (.inr (.inr (.inr (.inr (.inl ⟨rfl, rfl, rfl, by rw [hnew.out]; simp [Sl3, Arr3, Free3, go_sem, hA], Hn⟩))))))))))⟩
              · have hbad := Lib.hid (HNO.out (fun hh => h2 (dB_hi hh.2.2.2.2.2.2.2.2.1)))
                have b1 : decide ((i.toNat : Int) < 48) = false := by simp; omega
                have b2 : decide (57 < (i.toNat : Int)) = true := by simp; omega
                go_wp2
                go_ret2
                exact ⟨by rw [hbad.out]; rfl, hb⟩
            · have hbad := Lib.hid (HNO.out (fun hh => h1 (dB_lo hh.2.2.2.2.2.2.2.2.1)))
              have b1 : decide ((i.toNat : Int) < 48) = true := by simp; omega
              go_wp2
              go_ret2
              exact ⟨by rw [hbad.out]; rfl, hb⟩
          · have Hg := Lib.hid hg
            clear hg
            by_cases h1 : 48 ≤ j.toNat
            · by_cases h2 : j.toNat ≤ 57
              · have Hn : Hid (dB a = true ∧ dB b = true ∧ dB c = true ∧ dB d = true ∧ e = 45 ∧ dB f = true ∧ dB g = true ∧ h = 45 ∧ dB i = true ∧ dB j = true) := by have hok : dB j = true := decide_eq_true (p := 48 ≤ j.toNat ∧ j.toNat ≤ 57) ⟨h1, h2⟩; obtain ⟨q0, q1, q2, q3, q4, q5, q6, q7, q8⟩ := hd.out; exact ⟨q0, q1, q2, q3, q4, q5, q6, q7, q8, hok⟩
                have b1 : decide ((j.toNat : Int) < 48) = false := by simp; omega
                have b2 : decide (57 < (j.toNat : Int)) = false := by simp; omega
                have hbd : numL [i] ≤ 9999 := by obtain ⟨q0, q1, q2, q3, q4, q5, q6, q7, q8⟩ := hd.out; exact numL_bd _ (by simp [dOk, q0, q1, q2, q3, q4, q5, q6, q7, q8]) (by simp)
                have hnew := Lib.hid (show ((numL [i, j] : Nat) : Int) = ((numL [i] : Nat) : Int) * 10 + ((j.toNat : Int) - 48) by rw [show numL [i, j] = numL [i] * 10 + (j.toNat - 48) from rfl]; omega)
                go_wp2_with fail
                go_region
                go_wp2_with fail
                go_roundg 0
                case measure => have := Hg.out; omega
                case rel => exact ⟨by repeat (first | exact hb | apply Bel.drew | refine Bel.setCell ?_ (by simp) _), (.inr (.inr (.inr (.inr (.inr (.inr (.inr (.inr (.inr (.inr ⟨rfl, rfl, rfl, by rw [hnew.out]; simp [Sl3, Arr3, Free3, go_sem, hA], Hn⟩))))))))))⟩
              · have hbad := Lib.hid (HNO.out (fun hh => h2 (dB_hi hh.2.2.2.2.2.2.2.2.2)))
                have b1 : decide ((j.toNat : Int) < 48) = false := by simp; omega
                have b2 : decide (57 < (j.toNat : Int)) = true := by simp; omega
                go_wp2
                go_ret2
                exact ⟨by rw [hbad.out]; rfl, hb⟩
            · have hbad := Lib.hid (HNO.out (fun hh => h1 (dB_lo hh.2.2.2.2.2.2.2.2.2)))
              have b1 : decide ((j.toNat : Int) < 48) = true := by simp; omega
              go_wp2
              go_ret2
              exact ⟨by rw [hbad.out]; rfl, hb⟩
          · have hgood := Lib.hid (HYES.out hd.out)
            have hv := dayV_sh (numL [a, b, c, d]) (numL [f, g]) (numL [i, j])
            obtain ⟨x, y, hxy⟩ := hv
            have Hxy := Lib.hid hxy
            have hday := rday_any (numL [a, b, c, d]) (numL [f, g]) (numL [i, j])
            rw [hxy] at hday
            clear hxy
            go_wp2_with (go_at_call 9; refine (hday _).mono ?_; rintro e w2 ⟨rfl, hb2⟩
                         replace hb := hb.trans hb2; clear hb2)
            go_ret2
            exact ⟨by rw [hgood.out, Hxy.out]; rfl, hb⟩
  · rw [parseV_no s hs]
    have b1 : (((s.size : Nat) : Int) != 10) = true := by simp; omega
    clear hs
    unfold badV
    go_enter Tryd.func16, Tryd.ntmps16
    go_wp2
    go_ret2
    exact ⟨rfl, Bel.refl _⟩
end Go.Proofs.YtabplogknipjiaaDoor
