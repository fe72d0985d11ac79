import Derived.Test.YtlheahcljnjogaaVal
import Derived.Test.YtlheahcljnjogaaUni
namespace Go.Proofs.Ytlheahcljnjogaa
set_option linter.unusedSimpArgs false
set_option linter.unusedVariables false
open Go.RowKit
attribute [local go_sem ↓] eql_val neq_val
def tv (b : Bool) : Val := ⟨3, 0, 0, ⟨#[]⟩, if b then 1 else 0⟩

set_option maxHeartbeats 400000 in
theorem truth_t (w : World) : Calls Try.prog 16 #[.bool true] w fun e w' => e = .returned (Val.val ⟨3, 0, 0, ⟨#[]⟩, 1⟩) ∧ Bel w w' := by
  go_enter Try.func16, Try.ntmps16
  go_wp2
  exact bodyPost_ret (by simp [results, Try.results16, go_sem]) rfl ⟨rfl, (Bel.refl _).alloc _⟩
set_option maxHeartbeats 400000 in
theorem truth_f (w : World) : Calls Try.prog 16 #[.bool false] w fun e w' => e = .returned (Val.val ⟨3, 0, 0, ⟨#[]⟩, 0⟩) ∧ Bel w w' := by
  go_enter Try.func16, Try.ntmps16
  go_wp2
  exact bodyPost_ret (by simp [results, Try.results16, go_sem]) rfl ⟨rfl, (Bel.refl _).alloc _⟩

set_option maxHeartbeats 400000 in
theorem rtruth_t (w : World) : Calls Try.prog 15 #[.bool true] w fun e w' => e = .returned (Val.val ⟨3, 0, 0, ⟨#[]⟩, 1⟩) ∧ Bel w w' := by
  go_enter Try.func15, Try.ntmps15
  go_wp2
  exact bodyPost_ret (by simp [results, Try.results15, go_sem]) rfl ⟨rfl, (Bel.refl _).alloc _⟩
set_option maxHeartbeats 400000 in
theorem rtruth_f (w : World) : Calls Try.prog 15 #[.bool false] w fun e w' => e = .returned (Val.val ⟨3, 0, 0, ⟨#[]⟩, 0⟩) ∧ Bel w w' := by
  go_enter Try.func15, Try.ntmps15
  go_wp2
  exact bodyPost_ret (by simp [results, Try.results15, go_sem]) rfl ⟨rfl, (Bel.refl _).alloc _⟩

set_option maxHeartbeats 400000 in
theorem is_any (v : Val) (w : World) : Calls Try.prog 14 #[v.val] w fun e w' => e = .returned (.bool (veq v (tv true))) ∧ Bel w w' := by
  obtain ⟨k, n, s, t, m⟩ := v
  go_enter Try.func14, Try.ntmps14
  go_wp2_with fail
  refine under_name ((Bel.refl w).alloc _) fun W hc hf hz hb => ?_
  go_region_held3 (fun w' => Bel W w' ∧ (∀ b o, b < W.heap.size → w'.cell? ⟨b, o, none⟩ = W.cell? ⟨b, o, none⟩)) (first | exact keep0 | exact keep1 ‹_› ‹_›) ((go_at_call 16; refine (truth_t _).mono ?_; rintro e w' ⟨rfl, hb1⟩))
  go_wp2
  go_ret
  exact ⟨rfl, hb.trans (And.left ‹Bel W w' ∧ _›)⟩

def cnt (b : Bool) (vs : List Val) : Nat := (vs.filter (veq · (tv b))).length
theorem cnt_snoc (b : Bool) (vs : List Val) (k : Nat) (v : Val) (h : vs[k]? = some v) : cnt b (vs.take (k + 1)) = cnt b (vs.take k) + if veq v (tv b) then 1 else 0 := by
  rw [List.take_add_one, h]
  unfold cnt
  rw [List.filter_append, List.length_append]
  by_cases hv : veq v (tv b) = true <;> simp [List.filter_cons, hv]
theorem cnt_le (b : Bool) (vs : List Val) : cnt b vs ≤ vs.length := List.length_filter_le _ _
theorem three (v : Val) : (veq v (tv true) = true ∧ veq v (tv false) = false) ∨ (veq v (tv true) = false ∧ veq v (tv false) = true) ∨ (veq v (tv true) = false ∧ veq v (tv false) = false) := by
  unfold veq
  by_cases h : v = tv true
  · left; subst h; decide
  · by_cases h' : v = tv false
    · right; left; subst h'; decide
    · right; right; simp [h, h']

set_option maxHeartbeats 800000 in
theorem counts_any (vs : List Val) (A : Option Addr) (c : Nat) (w : World) (hv : Vals w A vs) (hl : vs.length ≤ maxLen) :
    Calls Try.prog 18 #[.slice A vs.length c] w fun e w' => e = .returned (.tuple #[.int .i64 (cnt true vs), .int .i64 (cnt false vs)]) ∧ Bel w w' := by
  unfold maxLen at hl
  go_enter Try.func18, Try.ntmps18
  go_wp2_with fail
  go_loopw [2, 3, 4] (fun y n i wr => ∃ k : Nat, k ≤ vs.length ∧ i = .int .i64 k ∧ y = .int .i64 (cnt true (vs.take k)) ∧ n = .int .i64 (cnt false (vs.take k)) ∧ Bel w wr) (fun _ _ i _ => vs.length - (intOf i).toNat)
  case atStart => exact ⟨0, by omega, rfl, rfl, rfl, Bel.refl _⟩
  case round =>
    obtain ⟨k, hk, rfl, rfl, rfl, hb⟩ := hrel
    by_cases hlt : k < vs.length
    · obtain ⟨b, off, rfl, hbl, hcell⟩ := hv (by omega)
      obtain ⟨⟨k0, n0, s0, t0, m0⟩, hv0⟩ : ∃ v, vs[k]? = some v := ⟨_, List.getElem?_eq_getElem hlt⟩
      have hbw := Nat.lt_of_lt_of_le hbl hb.size
      have hV := (hcell k _ hv0).keep hb hbl
      clear hcell
      have Ht := Lib.hid (cnt_snoc true vs k _ hv0)
      have Hf := Lib.hid (cnt_snoc false vs k _ hv0)
      have l1 := cnt_le true (vs.take k)
      have l2 := cnt_le false (vs.take k)
      have l3 : (vs.take k).length ≤ k := List.length_take_le _ _
      have H3 := three ⟨k0, n0, s0, t0, m0⟩
      clear hv0
      rcases H3 with ⟨e1, e2⟩ | ⟨e1, e2⟩ | ⟨e1, e2⟩
      all_goals
        simp only [e1, e2, if_true, Bool.false_eq_true, if_false] at Ht Hf
        simp only [tv, if_true, Bool.false_eq_true, if_false] at e1 e2
        have h5 := hV
        go_wp2_with fail
        go_region_held3 (fun w' => Bel wr w' ∧ (∀ b o, b < wr.heap.size → w'.cell? ⟨b, o, none⟩ = wr.cell? ⟨b, o, none⟩)) (first | exact keep0 | exact keep1 ‹_› ‹_›) ((go_at_call 15; refine (rtruth_t _).mono ?_; rintro e w1 ⟨rfl, hb1⟩))
        rename_i hH; obtain ⟨hk1, -⟩ := hH
        clear h5
        have h5 := hV.keep hk1 hbw
        have hbw1 := Nat.lt_of_lt_of_le hbw hk1.size
        go_wp2_with fail
        go_region_held3 (fun w' => Bel w1 w' ∧ (∀ b o, b < w1.heap.size → w'.cell? ⟨b, o, none⟩ = w1.cell? ⟨b, o, none⟩)) (first | exact keep0 | exact keep1 ‹_› ‹_›) ((go_at_call 15; refine (rtruth_f _).mono ?_; rintro e w2 ⟨rfl, hb2⟩))
        rename_i hH; obtain ⟨hk2, -⟩ := hH
        clear h5
        go_wp2
        go_roundw
        case rel => exact ⟨k + 1, by omega, by go_num, by rw [Ht.out]; go_num, by rw [Hf.out]; go_num, (hb.trans hk1).trans hk2⟩
        case measure => simp [intOf]; omega
    · go_wp2
      go_ret2
      obtain rfl : k = vs.length := by omega
      exact ⟨by simp, hb⟩
end Go.Proofs.Ytlheahcljnjogaa
