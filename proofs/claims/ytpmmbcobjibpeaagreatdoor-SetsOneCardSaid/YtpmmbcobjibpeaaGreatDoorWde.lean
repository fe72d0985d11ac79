
import Derived.Test.YtpmmbcobjibpeaaGreatDoorWdd
namespace Go.Proofs.YtpmmbcobjibpeaaGreatDoor
set_option linter.unusedSimpArgs false
set_option linter.unusedVariables false
open Go.RowKit Go.Lib

/-! The document's answers: Words, Rising; the law's asks. -/
def wset (all : Bool) (A : Option Addr) (n c : Nat) : Value := .agg #[.bool all, .slice A n c]
/-- Is a string in a set? -/
def hasw (all : Bool) (l : List ByteArray) (s : ByteArray) : Bool := okw s && (inl l s != all)
theorem seq_iff (x y : ByteArray) : (x.toList == y.toList) = decide (x = y) := by
  rw [Bool.eq_iff_iff, beq_iff_eq, decide_eq_true_eq]
  exact toList_inj x y
theorem inl_take (l : List ByteArray) (k : Nat) (x s : ByteArray) (h : l[k]? = some x) : inl (l.take (k + 1)) s = (inl (l.take k) s || decide (x = s)) := by
  unfold inl
  rw [List.take_add_one, h, List.any_append]
  simp
set_option maxRecDepth 100000 in
set_option maxHeartbeats 4000000 in
theorem rwords_any (all : Bool) (l : List ByteArray) (A : Option Addr) (c : Nat) (s : ByteArray) (w : World) (hl : Strs w A l) (hn : l.length ≤ 9223372036854775807) (hs : Fits s) :
    Calls Tryz.prog 41 #[wset all A l.length c, .string s] w fun e w' => e = .returned (.bool (hasw all l s)) ∧ Bel w w' := by
  have H := Lib.hid fun w => rword_any s hs w
  have hli : (l.length : Int) ≤ 9223372036854775807 := by omega
  obtain ⟨R, hR⟩ : ∃ R, R = hasw all l s := ⟨_, rfl⟩
  rw [← hR]
  unfold hasw at hR
  generalize okw s = q at H hR
  have RR := Lib.hid hR
  clear hR
  unfold wset
  go_enter Tryz.func41, Tryz.ntmps41
  go_upto_region 1 with fail
  refine under_name ((Bel.refl w).alloc _) fun W hc hf hz hb0 => ?_
  have n0 : W.cell? ⟨w.heap.size, 0, none⟩ = some (.bool all) := by simp [hc, go_sem]
  have n1 : W.cell? ⟨w.heap.size, 1, none⟩ = some (.slice A l.length c) := by simp [hc, go_sem]
  have z0 : w.heap.size < W.heap.size := by simp [hz]
  clear hc hf hz
  generalize w.heap.size = B at n0 n1 z0 ⊢
  cases q with
  | false =>
    obtain rfl : R = false := RR.out
    go_wp2_with (go_at_call 66; refine (H.out _).mono ?_; rintro e W1 ⟨rfl, hb1⟩)
    go_ret
    exact ⟨rfl, hb0.trans hb1⟩
  | true =>
    have RR := Lib.hid (show R = (inl l s != all) from RR.out)
    go_wp2_with (go_at_call 66; refine (H.out _).mono ?_; rintro e W1 ⟨rfl, hb1⟩; have n0 := (hb1.cells _ 0 z0).trans n0; have n1 := (hb1.cells _ 1 z0).trans n1; have z0 := Nat.lt_of_lt_of_le z0 hb1.size; have hb0 := hb0.trans hb1)
    clear hb1
    go_loopg [5, 6] l.length (fun g a i wr => ∃ (k : Nat) (acc : Bool), a = .bool acc ∧ i = .int .i64 k ∧ k ≤ l.length ∧ Hid (acc = inl (l.take k) s ∧ g = l.length - k) ∧ Bel W1 wr)
    case atStart => exact ⟨0, false, rfl, rfl, Nat.zero_le _, ⟨rfl, rfl⟩, Bel.refl _⟩
    case round =>
      obtain ⟨k, acc, rfl, rfl, hk, hh, hb⟩ := hrel
      have m0 := (hb.cells _ 0 z0).trans n0
      have m1 := (hb.cells _ 1 z0).trans n1
      by_cases hlt : k < l.length
      · obtain ⟨b, off, rfl, hltb, hat⟩ := hl.blk (by omega)
        obtain ⟨x, hxk⟩ : ∃ x, l[k]? = some x := ⟨_, List.getElem?_eq_getElem hlt⟩
        have hcell := ((hb0.trans hb).cells _ (off + k) hltb).trans (hat k x hxk)
        have RN := Lib.hid (show inl (l.take (k + 1)) s = (acc || decide (x = s)) from by rw [inl_take l k x s hxk, hh.out.1])
        have e1 := seq_iff x s
        generalize decide (x = s) = q at e1 RN
        have i1 : (k : Int) < l.length := by omega
        have i2 : (0 : Int) ≤ (k : Int) := by omega
        clear hl hat hxk
        cases acc with
        | true =>
          go_wp2_with fail
          go_roundg (l.length - (k + 1))
          case measure => have := hh.out.2; omega
          case rel => exact ⟨k + 1, true, rfl, by go_num, by omega, ⟨RN.out.symm, rfl⟩, hb⟩
        | false =>
          go_wp2_with fail
          go_roundg (l.length - (k + 1))
          case measure => have := hh.out.2; omega
          case rel => exact ⟨k + 1, q, by first | rfl | (rw [e1]), by go_num, by omega, ⟨RN.out.symm, rfl⟩, hb⟩
      · obtain rfl : k = l.length := by omega
        have h := hh.out.1
        rw [List.take_length] at h
        have hR : R = !(acc == all) := by rw [RR.out, h]; cases inl l s <;> cases all <;> rfl
        clear h
        subst hR
        go_wp2_with fail
        go_ret
        exact ⟨rfl, hb0.trans hb⟩
/-- In order, and each may be. -/
def Goods (l : List ByteArray) : Prop := Srt l ∧ ∀ s ∈ l, okw s = true
def risb (l : List ByteArray) (k : Nat) : Prop := ∀ i s, i < k → l[i]? = some s → okw s = true ∧ ∀ j t, j + 1 = i → l[j]? = some t → sless t s = true
theorem goods_ris {l : List ByteArray} (h : Goods l) (i : Nat) (s : ByteArray) (hi : l[i]? = some s) : okw s = true ∧ ∀ j t, j + 1 = i → l[j]? = some t → sless t s = true := by
  refine ⟨h.2 s (List.mem_of_getElem? hi), fun j t hj ht => ?_⟩
  obtain ⟨h1, e1⟩ := List.getElem?_eq_some_iff.1 hi
  obtain ⟨h2, e2⟩ := List.getElem?_eq_some_iff.1 ht
  have := List.pairwise_iff_getElem.1 h.1 j i h2 h1 (by omega)
  rwa [e1, e2] at this
set_option maxRecDepth 100000 in
set_option maxHeartbeats 4000000 in
/-- Of a list in order Rising tells that it is. -/
theorem rrising_any (l : List ByteArray) (A : Option Addr) (c : Nat) (w : World) (hg : Goods l) (hl : Strs w A l) (hn : l.length ≤ 9223372036854775807) (hs : ∀ s ∈ l, Fits s) :
    Calls Tryz.prog 39 #[.slice A l.length c] w fun e w' => e = .returned (.bool true) ∧ Bel w w' := by
  have HG := Lib.hid (goods_ris hg)
  clear hg
  have hli : (l.length : Int) ≤ 9223372036854775807 := by omega
  go_enter Tryz.func39, Tryz.ntmps39
  go_wp2_with fail
  go_loopg [3] l.length (fun g i wr => ∃ k : Nat, i = .int .i64 k ∧ k ≤ l.length ∧ Hid (g = l.length - k) ∧ Bel w wr)
  case atStart => exact ⟨0, rfl, Nat.zero_le _, rfl, Bel.refl _⟩
  case round =>
    obtain ⟨k, rfl, hk, hh, hb⟩ := hrel
    by_cases hlt : k < l.length
    · obtain ⟨b, off, rfl, hltb, hat⟩ := hl.blk (by omega)
      obtain ⟨x, hxk⟩ : ∃ x, l[k]? = some x := ⟨_, List.getElem?_eq_getElem hlt⟩
      have hcell := (hb.cells _ (off + k) hltb).trans (hat k x hxk)
      obtain ⟨ho, hp⟩ := HG.out k x hxk
      have H := Lib.hid fun w => rword_any x (hs x (List.mem_of_getElem? hxk)) w
      rw [ho] at H
      have lt1 := Nat.lt_of_lt_of_le hltb hb.size
      have i1 : (k : Int) < l.length := by omega
      have i2 : (0 : Int) ≤ (k : Int) := by omega
      by_cases hz : k = 0
      · have i3 : (0 < k) = False := by simp; omega
        clear hl hat hxk hp HG hs hz
        go_wp2_with fail
        refine wp_region_uni (S := (fun w' => Bel wr w' ∧ (∀ b o, b < wr.heap.size → w'.cell? ⟨b, o, none⟩ = wr.cell? ⟨b, o, none⟩))) (by kernel_rfl) (by kernel_rfl) keep0 ?_
        repeat (first | (refine wpUni_skip (by rfl) ?_; (try simp only [Act.put, List.setIfInBounds_toArray, List.set_cons_zero, List.set_cons_succ]))
                                                            | (refine wpUni_value (by rfl) (fun w hS => by (try dsimp only at hS); go_simp; first | done | with_reducible rfl) ?_; (try simp only [Act.put, List.setIfInBounds_toArray, List.set_cons_zero, List.set_cons_succ]))
                                                            | (refine wpUni_call (f := 66) (by rfl) (fun w => by go_simp; first | done | with_reducible rfl) (fun w hS => (H.out w).mono fun e w' ⟨he, hb⟩ => ⟨he, keep1 hS hb⟩) ?_; (try simp only [Act.put, List.setIfInBounds_toArray, List.set_cons_zero, List.set_cons_succ])))
        refine wpUni_nil fun W1 hS => ?_
        have hb1 := hb.trans hS.1
        clear hS
        go_wp2_with fail
        go_roundg (l.length - (k + 1))
        case measure => have := hh.out; omega
        case rel => exact ⟨k + 1, by go_num, by omega, rfl, hb1⟩
      · obtain ⟨y, hyk⟩ : ∃ y, l[k - 1]? = some y := ⟨_, List.getElem?_eq_getElem (by omega)⟩
        have hcell2 := (hb.cells _ (off + (k - 1)) hltb).trans (hat (k - 1) y hyk)
        have hlt2 := hp (k - 1) y (by omega) hyk
        have e1 : (Op.bytesLess x.toList y.toList || x.toList == y.toList) = false := by
          have a := sless_asy hlt2
          unfold sless at a
          rw [a, seq_iff]
          simp only [Bool.false_or, decide_eq_false_iff_not]
          rintro rfl
          rw [sless_irr] at hlt2
          cases hlt2
        have i3 : (0 < k) = True := by simp; omega
        have i4 : ((k : Int) - 1) = ((k - 1 : Nat) : Int) := by omega
        have i5 : ((k - 1 : Nat) : Int) < l.length := by omega
        have i6 : (0 : Int) ≤ ((k - 1 : Nat) : Int) := by omega
        have i7 : IntKind.i64.wrap ((k - 1 : Nat) : Int) = ((k - 1 : Nat) : Int) := by simp [IntKind.wrap, IntKind.bits, IntKind.signed]; omega
        generalize k - 1 = k' at hcell2 i4 i5 i6 i7
        clear hl hat hxk hp HG hs hlt2 hyk
        go_wp2_with fail
        refine wp_region_uni (S := (fun w' => Bel wr w' ∧ (∀ b o, b < wr.heap.size → w'.cell? ⟨b, o, none⟩ = wr.cell? ⟨b, o, none⟩))) (by kernel_rfl) (by kernel_rfl) keep0 ?_
        repeat (first | (refine wpUni_skip (by rfl) ?_; (try simp only [Act.put, List.setIfInBounds_toArray, List.set_cons_zero, List.set_cons_succ]))
                                                            | (refine wpUni_value (by rfl) (fun w hS => by (try dsimp only at hS); go_simp; first | done | with_reducible rfl) ?_; (try simp only [Act.put, List.setIfInBounds_toArray, List.set_cons_zero, List.set_cons_succ]))
                                                            | (refine wpUni_call (f := 66) (by rfl) (fun w => by go_simp; first | done | with_reducible rfl) (fun w hS => (H.out w).mono fun e w' ⟨he, hb⟩ => ⟨he, keep1 hS hb⟩) ?_; (try simp only [Act.put, List.setIfInBounds_toArray, List.set_cons_zero, List.set_cons_succ])))
        refine wpUni_nil fun W1 hS => ?_
        have hb1 := hb.trans hS.1
        clear hS
        go_wp2_with fail
        go_roundg (l.length - (k + 1))
        case measure => have := hh.out; omega
        case rel => exact ⟨k + 1, by go_num, by omega, rfl, hb1⟩
    · obtain rfl : k = l.length := by omega
      go_wp2_with fail
      go_ret
      exact ⟨rfl, hb⟩
end Go.Proofs.YtpmmbcobjibpeaaGreatDoor
