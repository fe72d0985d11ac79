import Derived.Test.YtcknjhgolajclaaDoorDei
namespace Go.Proofs.YtcknjhgolajclaaDoor
set_option linter.unusedSimpArgs false
set_option linter.unusedVariables false
open Go.RowKit

/-! Deci: the functions on sound numbers. -/
/-- A row of numbers. -/
def DecsAt (w : World) (b : Nat) (l : List (Int × Int)) : Prop :=
  b < w.heap.size ∧ ∀ (i : Nat) (h : i < l.length), w.cell? ⟨b, i * 2, none⟩ = some (.int .i64 l[i].1) ∧ w.cell? ⟨b, i * 2 + 1, none⟩ = some (.int .i64 l[i].2)
theorem DecsAt.keep {w w' : World} {b : Nat} {l : List (Int × Int)} (h : DecsAt w b l) (hb : Bel w w') : DecsAt w' b l :=
  ⟨Nat.lt_of_lt_of_le h.1 hb.size, fun i hi => ⟨(hb.cells _ _ h.1).trans (h.2 i hi).1, (hb.cells _ _ h.1).trans (h.2 i hi).2⟩⟩
def allSnd (l : List (Int × Int)) : Bool := l.all fun p => sndB p.1 p.2
theorem all_take_succ {α : Type} (f : α → Bool) (l : List α) (k : Nat) (h : k < l.length) : (l.take (k + 1)).all f = ((l.take k).all f && f l[k]) := by
  rw [List.take_succ_eq_append_getElem h, List.all_append]; simp
theorem all_false {α : Type} (f : α → Bool) (l : List α) (k : Nat) (h : k < l.length) (hf : f l[k] = false) : l.all f = false := by
  rw [Bool.eq_false_iff]
  intro ha
  rw [List.all_eq_true] at ha
  have := ha l[k] (List.getElem_mem h)
  rw [hf] at this
  cases this
set_option maxHeartbeats 1000000 in
theorem allSound_any (b : Nat) (l : List (Int × Int)) (c : Nat) (hl : l.length ≤ 1000000) (w : World) (hd : DecsAt w b l) :
    Calls Tryd.prog 31 #[.slice (some ⟨b, 0, none⟩) l.length c] w fun e w' => e = .returned (.bool (allSnd l)) ∧ Bel w w' := by
  go_enter Tryd.func31, Tryd.ntmps31
  go_wp2
  go_loopg [7] l.length (fun g i wr => ∃ k : Nat, k ≤ l.length ∧ i = .int .i64 k ∧ Hid ((l.take k).all (fun p => sndB p.1 p.2) = true ∧ g = l.length - k) ∧ Bel w wr)
  case atStart => exact ⟨0, Nat.zero_le _, rfl, ⟨rfl, rfl⟩, Bel.refl _⟩
  case round =>
    obtain ⟨k, hk, rfl, hh, hb⟩ := hrel
    by_cases hlt : k < l.length
    · have hcell := (hd.keep hb).2 k hlt
      obtain ⟨c1, c2⟩ := hcell
      have hlt' := (hd.keep hb).1
      have hs := fun w => sound_any l[k].1 l[k].2 w
      obtain ⟨x, hx⟩ : ∃ x, x = l[k].1 := ⟨_, rfl⟩
      obtain ⟨y, hy⟩ : ∃ y, y = l[k].2 := ⟨_, rfl⟩
      rw [← hx, ← hy] at hs
      rw [← hx] at c1
      rw [← hy] at c2
      cases hv : sndB x y with
      | true =>
        rw [hv] at hs
        have HS := Lib.hid hs
        have hn : Hid ((l.take (k + 1)).all (fun p => sndB p.1 p.2) = true) := by
          rw [Hid, all_take_succ _ _ _ hlt, hh.out.1, ← hx, ← hy, hv]; rfl
        clear hs hx hy hv
        go_wp2_with (go_at_call 13; refine (HS.out _).mono ?_; rintro e W1 ⟨rfl, hb1⟩; replace hb := (hb.alloc _).trans hb1; clear hb1)
        go_roundg (gk - 1)
        case measure => have := hh.out.2; omega
        case rel => exact ⟨k + 1, by omega, by go_num, ⟨hn.out, by have := hh.out.2; omega⟩, hb⟩
      | false =>
        rw [hv] at hs
        have HS := Lib.hid hs
        have hn : Hid (allSnd l = false) := all_false _ _ _ hlt (by rw [← hx, ← hy, hv])
        clear hs hx hy hv
        go_wp2_with (go_at_call 13; refine (HS.out _).mono ?_; rintro e W1 ⟨rfl, hb1⟩; replace hb := (hb.alloc _).trans hb1; clear hb1)
        go_ret
        exact ⟨by (rw [hn.out]) <;> rfl, hb⟩
    · have hn : Hid (allSnd l = true) := by
        have h := hh.out.1
        rw [List.take_of_length_le (by omega)] at h
        exact h
      go_wp2
      go_ret
      exact ⟨by (rw [hn.out]) <;> rfl, hb⟩

theorem decs1 {w : World} {b : Nat} {x y : Int} (hb : b < w.heap.size) (h0 : w.cell? ⟨b, 0, none⟩ = some (.int .i64 x)) (h1 : w.cell? ⟨b, 1, none⟩ = some (.int .i64 y)) : DecsAt w b [(x, y)] := by
  refine ⟨hb, fun i hi => ?_⟩
  obtain rfl : i = 0 := by simp at hi; omega
  exact ⟨h0, h1⟩
theorem decs2 {w : World} {b : Nat} {x y z u : Int} (hb : b < w.heap.size) (h0 : w.cell? ⟨b, 0, none⟩ = some (.int .i64 x)) (h1 : w.cell? ⟨b, 1, none⟩ = some (.int .i64 y))
    (h2 : w.cell? ⟨b, 2, none⟩ = some (.int .i64 z)) (h3 : w.cell? ⟨b, 3, none⟩ = some (.int .i64 u)) : DecsAt w b [(x, y), (z, u)] := by
  refine ⟨hb, fun i hi => ?_⟩
  have : i = 0 ∨ i = 1 := by simp at hi; omega
  rcases this with rfl | rfl
  · exact ⟨h0, h1⟩
  · exact ⟨h2, h3⟩
theorem allSound_1 (x y : Int) (b : Nat) (w : World) (hd : DecsAt w b [(x, y)]) :
    Calls Tryd.prog 31 #[.slice (some ⟨b, 0, none⟩) 1 1] w fun e w' => e = .returned (.bool (sndB x y)) ∧ Bel w w' :=
  (allSound_any b [(x, y)] 1 (by simp) w hd).mono fun e w' ⟨he, hb⟩ => ⟨by rw [he]; simp [allSnd], hb⟩
theorem allSound_2 (x y z u : Int) (b : Nat) (w : World) (hd : DecsAt w b [(x, y), (z, u)]) :
    Calls Tryd.prog 31 #[.slice (some ⟨b, 0, none⟩) 2 2] w fun e w' => e = .returned (.bool (sndB x y && sndB z u)) ∧ Bel w w' :=
  (allSound_any b [(x, y), (z, u)] 2 (by simp) w hd).mono fun e w' ⟨he, hb⟩ => ⟨by rw [he]; simp [allSnd], hb⟩

/-- A number in units of the smallest scale. -/
def unt (n s : Int) : Int := n * P10 (6 - s).toNat
theorem unt_bd (n s : Int) (h : SndD n s) : -1000000000000000000 ≤ unt n s ∧ unt n s ≤ 1000000000000000000 := by
  obtain ⟨h1, h2, ⟨h3, h4⟩, -⟩ := h
  have hp := P10_6 (show (6 - s).toNat ≤ 6 by omega)
  unfold unt
  generalize P10 (6 - s).toNat = p at *
  have hp' : (p : Int) ≤ 1000000 := by omega
  constructor
  · have := Int.mul_le_mul_of_nonneg_right h3 (show (0 : Int) ≤ p by omega)
    have : (-999999999999 : Int) * p ≥ -999999999999 * 1000000 := by omega
    omega
  · have := Int.mul_le_mul_of_nonneg_right h4 (show (0 : Int) ≤ p by omega)
    omega
set_option maxHeartbeats 1000000 in
theorem units_any (n s : Int) (h : SndD n s) (w : World) : Calls Tryd.prog 47 #[.agg #[.int .i64 n, .int .i64 s]] w fun e w' => e = .returned (.int .i64 (unt n s)) ∧ Bel w w' := by
  have hbd := unt_bd n s h
  obtain ⟨h1, h2, -, -⟩ := h
  have c1 := fun w => power_z (6 - s) (by omega) (by omega) w
  have hv : Hid (unt n s = n * P10 (6 - s).toNat) := rfl
  have w1 : IntKind.i64.wrap (6 - s) = 6 - s := by rw [IntKind.wrap_i64]; omega
  have w2 : IntKind.i64.wrap (n * (P10 (6 - s).toNat : Int)) = unt n s := by rw [IntKind.wrap_i64]; unfold unt at *; omega
  generalize P10 (6 - s).toNat = p at *
  have C1 := Lib.hid c1
  clear c1
  go_enter Tryd.func47, Tryd.ntmps47
  go_wp2_with fail
  refine under_name ((Bel.refl w).alloc _) fun W hc hf hz hb => ?_
  have hw : Arr2 W w.heap.size n s := by simp [Arr2, hz, hc, go_sem]
  clear hc hf hz
  refine wp_region_uni (S := (fun w' => Bel W w' ∧ (∀ b o, b < W.heap.size → w'.cell? ⟨b, o, none⟩ = W.cell? ⟨b, o, none⟩))) (by kernel_rfl) (by kernel_rfl) keep0 ?_
  repeat (first | (refine wpUni_skip (by rfl) ?_; (try simp only [Act.put, List.setIfInBounds_toArray, List.set_cons_zero, List.set_cons_succ]))
                                                            | (refine wpUni_value (by rfl) (fun w hS => by (try dsimp only at hS); go_simp; first | done | with_reducible rfl) ?_; (try simp only [Act.put, List.setIfInBounds_toArray, List.set_cons_zero, List.set_cons_succ]))
                                                            | (refine wpUni_call (f := 37) (by rfl) (fun w => by go_simp; first | done | with_reducible rfl) (fun w hS => (C1.out w).mono fun e w' ⟨he, hb⟩ => ⟨he, keep1 hS hb⟩) ?_; (try simp only [Act.put, List.setIfInBounds_toArray, List.set_cons_zero, List.set_cons_succ])))
  refine wpUni_nil fun W1 hS => ?_
  have hb1 := hb.trans hS.1
  clear hS
  go_wp2
  go_ret
  exact ⟨rfl, hb1⟩
end Go.Proofs.YtcknjhgolajclaaDoor
