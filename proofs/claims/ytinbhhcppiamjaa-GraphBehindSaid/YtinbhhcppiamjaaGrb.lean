import Derived.Test.YtinbhhcppiamjaaGro
import Derived.Test.YtinbhhcppiamjaaGra
import Derived.Deep.CutBlock
namespace Go.Proofs.Ytinbhhcppiamjaa
set_option linter.unusedSimpArgs false
set_option linter.unusedVariables false
open Go.RowKit Go.Lib

/-! The document's find and check; the law's small; rows of numbers alike. -/
theorem seq_iff (x y : ByteArray) : (x.toList == y.toList) = decide (x = y) := by
  rw [Bool.eq_iff_iff, beq_iff_eq, decide_eq_true_eq]
  exact toList_inj x y
abbrev Sl.val (d : Sl) : Value := .slice d.A d.l.length d.c
theorem idxI_at {l : List ByteArray} {s : ByteArray} {k : Nat} (h : l[k]? = some s) (hn : ∀ j, j < k → l[j]? ≠ some s) : idxI l s = k := by
  unfold idxI
  rw [idx_first h hn]
theorem idxI_no {l : List ByteArray} {s : ByteArray} (hn : ∀ j, j < l.length → l[j]? ≠ some s) : idxI l s = -1 := by
  unfold idxI
  rw [idx_none.2 fun j hj => hn j (List.getElem?_eq_some_iff.1 hj).1 hj]
theorem idxI_rng (l : List ByteArray) (s : ByteArray) : -1 ≤ idxI l s ∧ idxI l s < l.length := by
  unfold idxI
  cases h : idx l s with
  | none => simp only; omega
  | some k => have := (idx_some h).1; simp only; omega
set_option maxRecDepth 100000 in
set_option maxHeartbeats 1000000 in
theorem find_any (d : Sl) (s : ByteArray) (w : World) (hd : SlOk w d) : Calls Try.prog 19 #[d.val, .string s] w fun e w' => e = .returned (.int .i64 (idxI d.l s)) ∧ w' = w := by
  obtain ⟨A, c, l⟩ := d
  have hl := hd.strs
  have hn := hd.len
  simp only at hl hn
  clear hd
  have hli : (l.length : Int) ≤ 9223372036854775807 := by omega
  simp only [Sl.val]
  go_enter Try.func19, Try.ntmps19
  go_wp2
  go_loopg [5] l.length (fun g i wr => ∃ k : Nat, i = .int .i64 k ∧ k ≤ l.length ∧ Hid (∀ j, j < k → l[j]? ≠ some s) ∧ Hid (g = l.length - k) ∧ w = wr)
  case atStart => exact ⟨0, rfl, Nat.zero_le _, (fun j hj => absurd hj (Nat.not_lt_zero _)), rfl, rfl⟩
  case round =>
    obtain ⟨k, rfl, hk, hh, hg, rfl⟩ := hrel
    by_cases hlt : k < l.length
    · obtain ⟨b, off, rfl, hltb, hat⟩ := hl.blk (by omega)
      obtain ⟨x, hxk⟩ : ∃ x, l[k]? = some x := ⟨_, List.getElem?_eq_getElem hlt⟩
      have hcell := hat k x hxk
      have i1 : (k : Int) < l.length := by omega
      have i2 : (0 : Int) ≤ (k : Int) := by omega
      have HX := Lib.hid hxk
      clear hat hl hxk
      by_cases hx : x = s
      · have e1 : (x.toList == s.toList) = true := by rw [seq_iff]; simpa using hx
        have HE := Lib.hid (idxI_at (by rw [HX.out, hx]) hh.out)
        clear hx
        go_wp2
        go_ret
        exact ⟨by rw [HE.out]; rfl, rfl⟩
      · have e1 : (x.toList == s.toList) = false := by rw [seq_iff]; simpa using hx
        have HN := Lib.hid hx
        clear hx
        go_wp2
        go_roundg (l.length - (k + 1))
        case measure => have := hg.out; omega
        case rel =>
          refine ⟨k + 1, by go_num, by omega, fun j hj e => ?_, rfl, rfl⟩
          rcases Nat.lt_or_ge j k with h | h
          · exact hh.out j h e
          · have : j = k := by omega
            subst this
            rw [HX.out] at e
            exact HN.out (by injection e)
    · obtain rfl : k = l.length := by omega
      have HE := Lib.hid (idxI_no hh.out)
      go_wp2
      go_ret
      exact ⟨by rw [HE.out]; rfl, rfl⟩
end Go.Proofs.Ytinbhhcppiamjaa
