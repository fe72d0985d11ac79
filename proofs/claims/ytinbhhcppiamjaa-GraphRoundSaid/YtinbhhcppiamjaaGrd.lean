import Derived.Test.YtinbhhcppiamjaaGrc
import Derived.Deep.QuietTactic
import Derived.BigQuiet
import Derived.StringKeys
namespace Go.Proofs.Ytinbhhcppiamjaa
set_option linter.unusedSimpArgs false
set_option linter.unusedVariables false
open Go.RowKit Go.Lib Go.Maps

def smallB (n : Nat) (ls : List Sl) : Bool := decide (n ≤ 60) && decide (ls.length ≤ 60) && ls.all fun d => decide (d.l.length ≤ 60)
theorem smallB_iff {n : Nat} {ls : List Sl} : smallB n ls = true ↔ n ≤ 60 ∧ ls.length ≤ 60 ∧ ∀ d ∈ ls, d.l.length ≤ 60 := by
  simp [smallB, and_assoc]
theorem smallB_no {n : Nat} {ls : List Sl} (h : ¬ (n ≤ 60 ∧ ls.length ≤ 60 ∧ ∀ d ∈ ls, d.l.length ≤ 60)) : smallB n ls = false := by
  rw [Bool.eq_false_iff]
  intro h2
  exact h (smallB_iff.1 h2)
set_option maxRecDepth 100000 in
set_option maxHeartbeats 1000000 in
theorem small_any (d : Sl) (A : Option Addr) (c : Nat) (ls : List Sl) (w : World) (hd : SlOk w d) (hn : Nds w A ls) (hz : ls.length ≤ 9223372036854775807) :
    Calls Try.prog 7 #[d.val, .slice A ls.length c] w fun e w' => e = .returned (.bool (smallB d.l.length ls)) ∧ w' = w := by
  obtain ⟨A0, c0, l⟩ := d
  have hn0 := hd.len
  simp only at hn0
  clear hd
  have hli : (l.length : Int) ≤ 9223372036854775807 := by omega
  have hzi : (ls.length : Int) ≤ 9223372036854775807 := by omega
  simp only [Sl.val]
  by_cases h1 : l.length ≤ 60
  · by_cases h2 : ls.length ≤ 60
    · have e1 : decide (60 < l.length) = false := by simpa using h1
      have e2 : decide (60 < ls.length) = false := by simpa using h2
      have e3 : (l.length : Int) ≤ 60 := by omega
      have e4 : (ls.length : Int) ≤ 60 := by omega
      have H2 := Lib.hid (And.intro h1 h2)
      clear h1 h2
      go_enter Try.func7, Try.ntmps7
      go_wp2
      go_loopg [5] ls.length (fun g i wr => ∃ k : Nat, i = .int .i64 k ∧ k ≤ ls.length ∧ Hid (∀ j, j < k → ∀ d, ls[j]? = some d → d.l.length ≤ 60) ∧ Hid (g = ls.length - k) ∧ w = wr)
      case atStart => exact ⟨0, rfl, Nat.zero_le _, (fun j hj => absurd hj (Nat.not_lt_zero _)), rfl, rfl⟩
      case round =>
        obtain ⟨k, rfl, hk, hb, hg, rfl⟩ := hrel
        by_cases hlt : k < ls.length
        · obtain ⟨b, off, rfl, hltb, hat⟩ := hn.blk (by omega)
          obtain ⟨y, hyk⟩ : ∃ y, ls[k]? = some y := ⟨_, List.getElem?_eq_getElem hlt⟩
          have hcell := hat k y hyk
          have hy := hn.ok y (List.mem_of_getElem? hyk)
          have HY := Lib.hid hyk
          obtain ⟨A1, c1, m⟩ := y
          have hmn := hy.len
          simp only at hmn hcell
          have hmi : (m.length : Int) ≤ 9223372036854775807 := by omega
          have i1 : (k : Int) < ls.length := by omega
          have i2 : (0 : Int) ≤ (k : Int) := by omega
          clear hat hy hyk
          by_cases hm : m.length ≤ 60
          · have f1 : (m.length : Int) ≤ 60 := by omega
            have f2 : decide (60 < m.length) = false := by simpa using hm
            go_wp2
            go_roundg (ls.length - (k + 1))
            case measure => have := hg.out; omega
            case rel => exact ⟨k + 1, by go_num, by omega, upto_succ hb.out (fun d hd => by rw [HY.out] at hd; cases hd; exact hm), rfl, rfl⟩
          · have f1 : (60 : Int) < m.length := by omega
            have f2 : decide (60 < m.length) = true := by simpa using hm
            have HK := Lib.hid (smallB_no (n := l.length) (ls := ls) fun h => hm (h.2.2 _ (List.mem_of_getElem? HY.out)))
            go_wp2
            go_ret
            exact ⟨by rw [HK.out]; rfl, rfl⟩
        · obtain rfl : k = ls.length := by omega
          have HK := Lib.hid (smallB_iff.2 ⟨H2.out.1, H2.out.2, fun d hd => by
            obtain ⟨j, hj⟩ := List.getElem?_of_mem hd
            exact hb.out j (List.getElem?_eq_some_iff.1 hj).1 d hj⟩)
          go_wp2
          go_ret
          exact ⟨by rw [HK.out]; rfl, rfl⟩
    · have HK := Lib.hid (smallB_no (n := l.length) (ls := ls) fun h => h2 h.2.1)
      have e1 : decide (60 < l.length) = false := by simpa using h1
      have e2 : decide (60 < ls.length) = true := by simpa using h2
      have e3 : (l.length : Int) ≤ 60 := by omega
      have e4 : (60 : Int) < ls.length := by omega
      clear h1 h2
      go_enter Try.func7, Try.ntmps7
      go_wp2
      go_ret
      exact ⟨by rw [HK.out]; rfl, rfl⟩
  · have HK := Lib.hid (smallB_no (n := l.length) (ls := ls) fun h => h1 h.1)
    have e1 : decide (60 < l.length) = true := by simpa using h1
    have e3 : (60 : Int) < l.length := by omega
    clear h1
    go_enter Try.func7, Try.ntmps7
    go_wp2
    go_ret
    exact ⟨by rw [HK.out]; rfl, rfl⟩
theorem bel_drewN (w : World) (n : Nat) : Bel w (w.drewN n) := ⟨rfl, rfl, rfl, Nat.le_refl _, fun _ _ => rfl⟩
theorem ints_no {xs ys : List Int} {k : Nat} {x y : Int} (hx : xs[k]? = some x) (hy : ys[k]? = some y) (h : x ≠ y) : decide (xs = ys) = false := by
  rw [decide_eq_false_iff_not]
  rintro rfl
  rw [hx] at hy
  exact h (by injection hy)
set_option maxRecDepth 100000 in
set_option maxHeartbeats 1000000 in
theorem ints_any (A B : Option Addr) (c c' : Nat) (xs ys : List Int) (w : World) (hx : Ints w A xs) (hy : Ints w B ys) (h1 : xs.length ≤ 1000) (h2 : ys.length ≤ 1000) :
    Calls Try.prog 11 #[.slice A xs.length c, .slice B ys.length c'] w fun e w' => e = .returned (.bool (decide (xs = ys))) ∧ Bel w w' := by
  have e1 : (xs.length : Int) ≤ 1000 := by omega
  have e2 : (ys.length : Int) ≤ 1000 := by omega
  by_cases hl : xs.length = ys.length
  · have HL := Lib.hid hl
    have e3 : ((xs.length : Int) != (ys.length : Int)) = false := by simp; omega
    clear hl
    go_enter Try.func11, Try.ntmps11
    go_wp2
    go_loopg [5] xs.length (fun g i wr => ∃ k : Nat, i = .int .i64 k ∧ k ≤ xs.length ∧ Hid (∀ j, j < k → xs[j]? = ys[j]?) ∧ Hid (g = xs.length - k) ∧ Bel w wr)
    case atStart => exact ⟨0, rfl, Nat.zero_le _, (fun j hj => absurd hj (Nat.not_lt_zero _)), rfl, Bel.refl _⟩
    case round =>
      obtain ⟨k, rfl, hk, hp, hg, hb⟩ := hrel
      by_cases hlt : k < xs.length
      · have hlt2 : k < ys.length := by have := HL.out; omega
        obtain ⟨b, off, rfl, hb1, hc1⟩ := (hx.keep hb) (by simpa [nums] using (by omega : 0 < xs.length))
        obtain ⟨b2, off2, rfl, hb2, hc2⟩ := (hy.keep hb) (by simpa [nums] using (by omega : 0 < ys.length))
        obtain ⟨x, hxk⟩ : ∃ x, xs[k]? = some x := ⟨_, List.getElem?_eq_getElem hlt⟩
        obtain ⟨y, hyk⟩ : ∃ y, ys[k]? = some y := ⟨_, List.getElem?_eq_getElem hlt2⟩
        have hcell1 := hc1 k _ (show (nums xs)[k]? = some (.int .i64 x) by simp [nums, hxk])
        have hcell2 := hc2 k _ (show (nums ys)[k]? = some (.int .i64 y) by simp [nums, hyk])
        have i1 : (k : Int) < xs.length := by omega
        have i3 : (k : Int) < ys.length := by omega
        have i2 : (0 : Int) ≤ (k : Int) := by omega
        have HX := Lib.hid (And.intro hxk hyk)
        clear hx hy hc1 hc2 hxk hyk
        by_cases hq : x = y
        · have f1 : (x != y) = false := by simpa using hq
          have HQ := Lib.hid hq
          clear hq
          go_wp2
          go_quiet (fail)
          go_wp2
          go_roundg (xs.length - (k + 1))
          case measure => have := hg.out; omega
          case rel => exact ⟨k + 1, by go_num, by omega, upto_succ hp.out (by rw [HX.out.1, HX.out.2, HQ.out]), rfl, by first | exact hb | exact hb.trans (bel_drewN _ _)⟩
        · have f1 : (x != y) = true := by simpa using hq
          have HK := Lib.hid (ints_no HX.out.1 HX.out.2 hq)
          clear hq
          go_wp2
          go_quiet (fail)
          go_wp2
          go_ret
          exact ⟨by rw [HK.out]; rfl, by first | exact hb | exact hb.trans (bel_drewN _ _)⟩
      · obtain rfl : k = xs.length := by omega
        have HK := Lib.hid (show decide (xs = ys) = true from by
          rw [decide_eq_true_eq]
          refine List.ext_getElem? fun i => ?_
          rcases Nat.lt_or_ge i xs.length with h | h
          · exact hp.out i h
          · rw [List.getElem?_eq_none h, List.getElem?_eq_none (by have := HL.out; omega)])
        go_wp2
        go_ret
        exact ⟨by rw [HK.out]; rfl, hb⟩
  · have HK := Lib.hid (show decide (xs = ys) = false from by rw [decide_eq_false_iff_not]; rintro rfl; exact hl rfl)
    have e3 : ((xs.length : Int) != (ys.length : Int)) = true := by simp; omega
    clear hl
    go_enter Try.func11, Try.ntmps11
    go_wp2
    go_ret
    exact ⟨by rw [HK.out]; rfl, Bel.refl _⟩
end Go.Proofs.Ytinbhhcppiamjaa
