import Derived.Test.YtinbhhcppiamjaaGrb
namespace Go.Proofs.Ytinbhhcppiamjaa
set_option linter.unusedSimpArgs false
set_option linter.unusedVariables false
open Go.RowKit Go.Lib

def nsOf (ls : List Sl) : List (List ByteArray) := ls.map Sl.l
theorem nsOf_len (ls : List Sl) : (nsOf ls).length = ls.length := by simp [nsOf]
theorem nsOf_at {ls : List Sl} {i : Nat} {d : Sl} (h : ls[i]? = some d) : (nsOf ls)[i]? = some d.l := by simp [nsOf, h]
theorem lost_no {l m : List ByteArray} {ns : List (List ByteArray)} {i : Nat} (h : ns[i]? = some m) (hm : ∀ (j : Nat) (s : ByteArray), m[j]? = some s → 0 ≤ idxI l s) : lost l ns i = false := by
  unfold lost
  rw [h]
  simp only
  rw [Bool.eq_false_iff]
  intro ha
  obtain ⟨s, hs, hb⟩ := List.any_eq_true.1 ha
  obtain ⟨j, hj⟩ := List.getElem?_of_mem hs
  have := hm j s hj
  unfold idxI at this
  cases hi : idx l s with
  | none => rw [hi] at this; simp at this
  | some k => rw [hi] at hb; cases hb
theorem lost_yes {l m : List ByteArray} {ns : List (List ByteArray)} {i j : Nat} {s : ByteArray} (h : ns[i]? = some m) (hj : m[j]? = some s) (hs : idxI l s < 0) : lost l ns i = true := by
  unfold lost
  rw [h]
  simp only
  refine List.any_eq_true.2 ⟨s, List.mem_of_getElem? hj, ?_⟩
  unfold idxI at hs
  cases hi : idx l s with
  | none => rfl
  | some k => rw [hi] at hs; simp only at hs; omega
/-- What stands before a number grows by one. -/
theorem upto_succ {P : Nat → Prop} {k : Nat} (h : ∀ j, j < k → P j) (hk : P k) : ∀ j, j < k + 1 → P j := fun j hj => by
  rcases Nat.lt_or_ge j k with h1 | h1
  · exact h j h1
  · have : j = k := by omega
    rw [this]; exact hk
set_option maxRecDepth 100000 in
set_option maxHeartbeats 2000000 in
theorem check_any (d : Sl) (A : Option Addr) (c : Nat) (ls : List Sl) (w : World) (hd : SlOk w d) (hn : Nds w A ls) (hz : ls.length ≤ 9223372036854775807) :
    Calls Try.prog 18 #[d.val, .slice A ls.length c] w fun e w' => e = .returned (.tuple #[.int .i64 (chk d.l (nsOf ls)).1, .int .i64 (chk d.l (nsOf ls)).2]) ∧ w' = w := by
  have HF := Lib.hid fun s => find_any d s w hd
  obtain ⟨A0, c0, l⟩ := d
  have hl := hd.strs
  have hn0 := hd.len
  simp only at hl hn0
  clear hd
  have hli : (l.length : Int) ≤ 9223372036854775807 := by omega
  have hzi : (ls.length : Int) ≤ 9223372036854775807 := by omega
  simp only [Sl.val] at HF ⊢
  by_cases h1 : l.length = ls.length
  · have H1 := Lib.hid h1
    by_cases h2 : l.length ≤ 4096
    · have e1 : ((l.length : Int) != (ls.length : Int)) = false := by simp; omega
      have e2 : (l.length : Int) ≤ 4096 := by omega
      have e3 : decide (4096 < l.length) = false := by simpa using h2
      have H2 := Lib.hid h2
      clear h1 h2
      go_enter Try.func18, Try.ntmps18
      go_wp2
      go_loopg [6] l.length (fun g i wr => ∃ k : Nat, i = .int .i64 k ∧ k ≤ l.length ∧ Hid (∀ j, j < k → twice l j = false) ∧ Hid (g = l.length - k) ∧ w = wr)
      case atStart => exact ⟨0, rfl, Nat.zero_le _, (fun j hj => absurd hj (Nat.not_lt_zero _)), rfl, rfl⟩
      case round =>
        obtain ⟨k, rfl, hk, hh, hg, rfl⟩ := hrel
        by_cases hlt : k < l.length
        · obtain ⟨b, off, rfl, hltb, hat⟩ := hl.blk (by omega)
          obtain ⟨x, hxk⟩ : ∃ x, l[k]? = some x := ⟨_, List.getElem?_eq_getElem hlt⟩
          have hcell := hat k x hxk
          have i1 : (k : Int) < l.length := by omega
          have i2 : (0 : Int) ≤ (k : Int) := by omega
          have HT := Lib.hid (twice_iff hxk)
          have HC := HF.out x
          generalize idxI l x = z at HT HC
          clear hat hl hxk
          by_cases hx : z < k
          · have HK := Lib.hid (chk_dup (ns := nsOf ls) (by rw [nsOf_len]; exact H1.out) H2.out hlt (HT.out.2 hx) hh.out)
            go_wp2_with (go_at_call 19; refine HC.mono ?_; rintro e w' ⟨rfl, rfl⟩)
            go_ret2
            exact ⟨by rw [HK.out]; rfl, rfl⟩
          · have hx' : (k : Int) ≤ z := by omega
            have HN := Lib.hid (show twice l k = false from by rw [Bool.eq_false_iff]; intro h; have := HT.out.1 h; omega)
            clear hx
            go_wp2_with (go_at_call 19; refine HC.mono ?_; rintro e w' ⟨rfl, rfl⟩)
            go_roundg (l.length - (k + 1))
            case measure => have := hg.out; omega
            case rel => exact ⟨k + 1, by go_num, by omega, upto_succ hh.out HN.out, rfl, rfl⟩
        · obtain rfl : k = l.length := by omega
          clear hg hlt hk
          go_wp2
          go_loopg [7] ls.length (fun g i wr => ∃ k : Nat, i = .int .i64 k ∧ k ≤ ls.length ∧ Hid (∀ j, j < k → lost l (nsOf ls) j = false) ∧ Hid (g = ls.length - k) ∧ w = wr)
          case atStart => exact ⟨0, rfl, Nat.zero_le _, (fun j hj => absurd hj (Nat.not_lt_zero _)), rfl, rfl⟩
          case round =>
            obtain ⟨k, rfl, hk, hb, hg, rfl⟩ := hrel
            by_cases hlt : k < ls.length
            · obtain ⟨b, off, rfl, hltb, hat⟩ := hn.blk (by omega)
              obtain ⟨y, hyk⟩ : ∃ y, ls[k]? = some y := ⟨_, List.getElem?_eq_getElem hlt⟩
              have hcell := hat k y hyk
              have hy := hn.ok y (List.mem_of_getElem? hyk)
              have HY := Lib.hid (nsOf_at hyk)
              obtain ⟨A1, c1, m⟩ := y
              have hm := hy.strs
              have hmn := hy.len
              simp only at hm hmn hcell HY
              have hmi : (m.length : Int) ≤ 9223372036854775807 := by omega
              have i1 : (k : Int) < ls.length := by omega
              have i2 : (0 : Int) ≤ (k : Int) := by omega
              clear hat hy hyk hn hl
              go_wp2
              go_loopg [8] m.length (fun g i wr => ∃ t : Nat, i = .int .i64 t ∧ t ≤ m.length ∧ Hid (∀ j, j < t → ∀ s, m[j]? = some s → 0 ≤ idxI l s) ∧ Hid (g = m.length - t) ∧ w = wr)
              case atStart => exact ⟨0, rfl, Nat.zero_le _, (fun j hj => absurd hj (Nat.not_lt_zero _)), rfl, rfl⟩
              case round =>
                obtain ⟨t, rfl, ht, hp, hgt, rfl⟩ := hrel
                by_cases hltt : t < m.length
                · obtain ⟨b2, off2, rfl, hltb2, hat2⟩ := hm.blk (by omega)
                  obtain ⟨x, hxk⟩ : ∃ x, m[t]? = some x := ⟨_, List.getElem?_eq_getElem hltt⟩
                  have hcell2 := hat2 t x hxk
                  have j1 : (t : Int) < m.length := by omega
                  have j2 : (0 : Int) ≤ (t : Int) := by omega
                  have HX := Lib.hid hxk
                  have HC := HF.out x
                  have HZ := Lib.hid (show idxI l x = idxI l x from rfl)
                  revert HZ
                  generalize hzz : idxI l x = z at HC
                  intro _
                  have HZ := Lib.hid hzz
                  clear hat2 hm hxk hzz
                  by_cases hx : z < 0
                  · have HK := Lib.hid (chk_bad (ns := nsOf ls) (by rw [nsOf_len]; exact H1.out) H2.out hh.out (by have := H1.out; omega) (lost_yes HY.out HX.out (by rw [HZ.out]; exact hx)) hb.out)
                    go_wp2_with (go_at_call 19; refine HC.mono ?_; rintro e w' ⟨rfl, rfl⟩)
                    go_ret2
                    exact ⟨by rw [HK.out]; rfl, rfl⟩
                  · have hx' : 0 ≤ z := by omega
                    clear hx
                    go_wp2_with (go_at_call 19; refine HC.mono ?_; rintro e w' ⟨rfl, rfl⟩)
                    go_roundg (m.length - (t + 1))
                    case measure => have := hgt.out; omega
                    case rel => exact ⟨t + 1, by go_num, by omega, upto_succ hp.out (fun s hs => by rw [HX.out] at hs; cases hs; rw [HZ.out]; exact hx'), rfl, rfl⟩
                · obtain rfl : t = m.length := by omega
                  have HL := Lib.hid (lost_no HY.out fun j s hj => hp.out j (List.getElem?_eq_some_iff.1 hj).1 s hj)
                  clear hp hgt hltt ht
                  go_wp2
                  go_roundg (ls.length - (k + 1))
                  case measure => have := hg.out; omega
                  case rel => exact ⟨k + 1, by go_num, by omega, upto_succ hb.out HL.out, rfl, rfl⟩
            · obtain rfl : k = ls.length := by omega
              have HK := Lib.hid (chk_ok (ns := nsOf ls) (by rw [nsOf_len]; exact H1.out) H2.out hh.out (fun j hj => hb.out j (by have := H1.out; omega)))
              go_wp2
              go_ret2
              exact ⟨by rw [HK.out]; rfl, rfl⟩
    · have HK := Lib.hid (chk_len (l := l) (ns := nsOf ls) (.inr (by omega)))
      have e1 : ((l.length : Int) != (ls.length : Int)) = false := by simp; omega
      have e3 : decide (4096 < l.length) = true := by simpa using h2
      have e2 : (4096 : Int) < l.length := by omega
      clear h1
      go_enter Try.func18, Try.ntmps18
      go_wp2
      go_ret2
      exact ⟨by rw [HK.out]; rfl, rfl⟩
  · have HK := Lib.hid (chk_len (l := l) (ns := nsOf ls) (.inl (by rw [nsOf_len]; exact h1)))
    have e1 : ((l.length : Int) != (ls.length : Int)) = true := by simp; omega
    go_enter Try.func18, Try.ntmps18
    go_wp2
    go_ret2
    exact ⟨by rw [HK.out]; rfl, rfl⟩
end Go.Proofs.Ytinbhhcppiamjaa
