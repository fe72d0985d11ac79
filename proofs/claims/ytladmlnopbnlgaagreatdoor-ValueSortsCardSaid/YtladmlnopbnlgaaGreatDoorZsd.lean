import Derived.Test.YtladmlnopbnlgaaGreatDoorVzb
import Derived.Test.YtladmlnopbnlgaaGreatDoorKit
import Derived.Test.YtladmlnopbnlgaaGreatDoorRow
import Derived.Test.YtladmlnopbnlgaaGreatDoorOpn
import Derived.Test.YtladmlnopbnlgaaGreatDoorOwn
import Derived.Test.YtladmlnopbnlgaaGreatDoorUni
import Derived.Test.YtladmlnopbnlgaaGreatDoorShelf
import Derived.Deep.LoopGhost
namespace Go.Proofs.YtladmlnopbnlgaaGreatDoor
open Go.RowKit
namespace Strong
/-! The order, once more, with the draws counted: the sort's contract asks which world comes out. -/
def Bel (w w' : World) : Prop := Go.Proofs.YtladmlnopbnlgaaGreatDoor.Bel w w' ∧ w.drawn ≤ w'.drawn
theorem Bel.refl (w : World) : Bel w w := ⟨Go.Proofs.YtladmlnopbnlgaaGreatDoor.Bel.refl w, Nat.le_refl _⟩
theorem Bel.size {w w' : World} (h : Bel w w') : w.heap.size ≤ w'.heap.size := h.1.size
theorem Bel.trans {a b c : World} (h : Bel a b) (k : Bel b c) : Bel a c := ⟨h.1.trans k.1, Nat.le_trans h.2 k.2⟩
theorem Bel.drew {a b : World} (h : Bel a b) : Bel a b.drew := ⟨h.1.drew, Nat.le_succ_of_le h.2⟩
theorem Bel.alloc {a b : World} (h : Bel a b) (o : Obj) : Bel a (b.alloc o) := ⟨h.1.alloc o, h.2⟩
theorem Bel.cell {a b : World} (h : Bel a b) {p : Addr} (hp : p.block < a.heap.size) : b.cell? p = a.cell? p := h.1.cell hp
theorem Bel.cells {a b : World} (h : Bel a b) : ∀ k o, k < a.heap.size → b.cell? ⟨k, o, none⟩ = a.cell? ⟨k, o, none⟩ := h.1.cells
theorem Bel.frozens {a b : World} (h : Bel a b) : ∀ k o, k < a.heap.size → b.frozen? ⟨k, o, none⟩ = a.frozen? ⟨k, o, none⟩ := h.1.frozens
theorem Bel.lt1 {w w1 : World} {o : Obj} (h : Bel (w.alloc o) w1) : w.heap.size < w1.heap.size := h.1.lt1
theorem Bel.lt2 {w w1 : World} {o o' : Obj} (h : Bel ((w.alloc o).alloc o') w1) : w.heap.size < w1.heap.size ∧ w.heap.size + 1 < w1.heap.size := h.1.lt2
theorem under_name {P : Program} {c : Code} {Q : Exit → Act → World → Prop} {a : Act} {w0 w : World} (hb : Bel w0 w)
    (h : ∀ W, (∀ p, W.cell? p = w.cell? p) → (∀ p, W.frozen? p = w.frozen? p) → W.heap.size = w.heap.size → Bel w0 W → c.wp P Q a W) : c.wp P Q a w :=
  h w (fun _ => rfl) (fun _ => rfl) rfl hb
theorem under_call {P : Program} {f : FuncId} {args : Array Value} {Q : Ending → World → Prop} {w0 w : World} (hb : Bel w0 w)
    (h : ∀ W, (∀ p, W.cell? p = w.cell? p) → (∀ p, W.frozen? p = w.frozen? p) → W.heap.size = w.heap.size → Bel w0 W → Calls P f args W Q) : Calls P f args w Q :=
  h w (fun _ => rfl) (fun _ => rfl) rfl hb
theorem keep0 {W : World} : Bel W W.drew ∧ (∀ b o, b < W.heap.size → W.drew.cell? ⟨b, o, none⟩ = W.cell? ⟨b, o, none⟩) :=
  ⟨(Bel.refl _).drew, fun _ _ _ => rfl⟩
theorem keep1 {W w1 w2 : World} (h : Bel W w1 ∧ (∀ b o, b < W.heap.size → w1.cell? ⟨b, o, none⟩ = W.cell? ⟨b, o, none⟩)) (hb : Bel w1 w2) :
    Bel W w2 ∧ (∀ b o, b < W.heap.size → w2.cell? ⟨b, o, none⟩ = W.cell? ⟨b, o, none⟩) := by
  have k : Bel W w2 := h.1.trans hb
  exact ⟨k, k.cells⟩
set_option linter.unusedSimpArgs false
set_option linter.unusedVariables false
/-! Merged out of the texts of the layers below: only what is used. -/
section
def small (n : Int) : Prop := -999999999999 ≤ n ∧ n ≤ 999999999999
instance (n : Int) : Decidable (small n) := inferInstanceAs (Decidable (_ ∧ _))
def SndD (n s : Int) : Prop := 0 ≤ s ∧ s ≤ 6 ∧ small n ∧ (s = 0 ∨ n % 10 ≠ 0)
instance (n s : Int) : Decidable (SndD n s) := inferInstanceAs (Decidable (_ ∧ _))
def P10 (k : Nat) : Nat := 10 ^ k
theorem P10_0 : P10 0 = 1 := rfl
theorem P10_s (k : Nat) : P10 (k + 1) = P10 k * 10 := Nat.pow_succ ..
theorem P10_le {a b : Nat} (h : a ≤ b) : P10 a ≤ P10 b := Nat.pow_le_pow_right (by omega) h
theorem P10_18 {k : Nat} (h : k ≤ 18) : P10 k ≤ 1000000000000000000 := P10_le h
theorem P10_6 {k : Nat} (h : k ≤ 6) : P10 k ≤ 1000000 := P10_le h
end
section
open Go.RowKit
theorem power_any (k : Nat) (hk : k ≤ 18) (w : World) : Calls Tryz.prog 53 #[.int .i64 k] w fun e w' => e = .returned (.int .i64 (P10 k)) ∧ Bel w w' := by
  go_enter Tryz.func53, Tryz.ntmps53
  go_wp2
  go_loop [3, 5] (fun p i => ∃ j : Nat, j ≤ k ∧ i = .int .i64 j ∧ p = .int .i64 (P10 j)) (fun _ i => k - (intOf i).toNat)
  case atStart => exact ⟨0, Nat.zero_le _, rfl, by rw [P10_0]; rfl⟩
  case round =>
    obtain ⟨j, hj, rfl, rfl⟩ := hrel
    have h1 := P10_18 (show j ≤ 18 by omega)
    by_cases hlt : j < k
    · have h2 := P10_18 (show j + 1 ≤ 18 by omega)
      have hs := Lib.hid (P10_s j)
      have h3 : P10 j * 10 ≤ 1000000000000000000 := by rw [← hs.out]; exact h2
      clear h2
      go_wp2
      go_round
      case rel => exact ⟨j + 1, by omega, by go_num, by rw [hs.out]; go_num⟩
      case measure => simp [intOf]; omega
    · obtain rfl : j = k := by omega
      go_wp2
      go_ret
      exact ⟨rfl, Bel.refl _⟩
theorem power_z (z : Int) (h0 : 0 ≤ z) (h1 : z ≤ 18) (w : World) : Calls Tryz.prog 53 #[.int .i64 z] w fun e w' => e = .returned (.int .i64 (P10 z.toNat)) ∧ Bel w w' := by
  obtain ⟨n, rfl⟩ : ∃ n : Nat, z = n := ⟨z.toNat, by omega⟩
  exact power_any n (by omega) w
def smallB (n : Int) : Bool := decide (small n)
theorem small_any (n : Int) (w : World) : Calls Tryz.prog 58 #[.int .i64 n] w fun e w' => e = .returned (.bool (smallB n)) ∧ Bel w w' := by
  have hl : Hid (smallB n = decide (-999999999999 ≤ n ∧ n ≤ 999999999999)) := rfl
  by_cases h1 : -999999999999 ≤ n
  · go_enter Tryz.func58, Tryz.ntmps58
    go_wp2
    go_ret
    exact ⟨by rw [hl.out]; simp [h1], Bel.refl _⟩
  · have hf := Lib.hid (show decide (-999999999999 ≤ n ∧ n ≤ 999999999999) = false from decide_eq_false fun h => h1 h.1)
    go_enter Tryz.func58, Tryz.ntmps58
    go_wp2
    go_ret
    exact ⟨by rw [hl.out, hf.out]; rfl, Bel.refl _⟩
/-- A block of the call's own that holds a number. -/
abbrev Arr2 (w : World) (b : Nat) (x y : Int) : Prop :=
  b < w.heap.size ∧ w.cell? ⟨b, 0, none⟩ = some (.int .i64 x) ∧ w.cell? ⟨b, 1, none⟩ = some (.int .i64 y)
theorem Arr2.keep {w w' : World} {b : Nat} {x y : Int} (h : Arr2 w b x y) (hb : Bel w w') : Arr2 w' b x y := by
  obtain ⟨h0, h1, h2⟩ := h
  exact ⟨Nat.lt_of_lt_of_le h0 hb.size, (hb.cells _ _ h0).trans h1, (hb.cells _ _ h0).trans h2⟩
def sndB (n s : Int) : Bool := decide (SndD n s)
theorem tmod10 (n : Int) : (n.tmod 10 != 0) = decide (n % 10 ≠ 0) := by
  have : n.tmod 10 = 0 ↔ n % 10 = 0 := by rw [← Int.dvd_iff_emod_eq_zero, Int.dvd_iff_tmod_eq_zero]
  rw [Bool.eq_iff_iff]; simp [this]
theorem sound_any (n s : Int) (w : World) : Calls Tryz.prog 32 #[.agg #[.int .i64 n, .int .i64 s]] w fun e w' => e = .returned (.bool (sndB n s)) ∧ Bel w w' := by
  by_cases h : 0 ≤ s ∧ s ≤ 6
  · obtain ⟨h0, h6⟩ := h
    have k1 : decide (s < 0) = false := by simp; omega
    have k2 : decide (6 < s) = false := by simp; omega
    have k2' : decide (s > 6) = false := k2
    cases hs : smallB n with
    | true =>
      have hs' : small n := by simpa [smallB] using hs
      by_cases hz : s = 0
      · have k3 : (s == 0) = true := by simp [hz]
        have hl : Hid (sndB n s = true) := by
          unfold Hid sndB; exact decide_eq_true ⟨h0, h6, hs', .inl hz⟩
        clear hz h0 h6 hs'
        go_enter Tryz.func32, Tryz.ntmps32
        go_wp2_with (go_at_call 58; refine (small_any n _).mono ?_; rintro e W1 ⟨rfl, hb1⟩; rw [hs]; have hc := hb1.cells; have := hb1.lt1)
        go_ret
        exact ⟨by rw [hl.out]; rfl, ((Bel.refl w).alloc _).trans hb1⟩
      · have k3 : (s == 0) = false := by simp [hz]
        have hl : Hid (sndB n s = (n.tmod 10 != 0)) := by
          unfold Hid sndB; rw [tmod10]; simp only [SndD, h0, h6, hs', hz, true_and, false_or]
        clear hz h0 h6 hs'
        go_enter Tryz.func32, Tryz.ntmps32
        go_wp2_with (go_at_call 58; refine (small_any n _).mono ?_; rintro e W1 ⟨rfl, hb1⟩; rw [hs]; have hc := hb1.cells; have := hb1.lt1)
        go_ret
        exact ⟨by (rw [hl.out]) <;> rfl, ((Bel.refl w).alloc _).trans hb1⟩
    | false =>
      have hl : Hid (sndB n s = false) := by
        unfold Hid sndB; exact decide_eq_false fun h => by simp [smallB, h.2.2.1] at hs
      clear h0 h6
      go_enter Tryz.func32, Tryz.ntmps32
      go_wp2_with (go_at_call 58; refine (small_any n _).mono ?_; rintro e W1 ⟨rfl, hb1⟩; rw [hs])
      go_ret
      exact ⟨by rw [hl.out]; rfl, ((Bel.refl w).alloc _).trans hb1⟩
  · have hl : Hid (sndB n s = false) := by
      unfold Hid sndB; exact decide_eq_false fun h' => h ⟨h'.1, h'.2.1⟩
    by_cases h0 : 0 ≤ s
    · have k1 : decide (s < 0) = false := by simp; omega
      have k2 : decide (6 < s) = true := by simp; omega
      clear h
      go_enter Tryz.func32, Tryz.ntmps32
      go_wp2
      go_ret
      exact ⟨by rw [hl.out]; rfl, (Bel.refl w).alloc _⟩
    · have k1 : decide (s < 0) = true := by simp; omega
      clear h
      go_enter Tryz.func32, Tryz.ntmps32
      go_wp2
      go_ret
      exact ⟨by rw [hl.out]; rfl, (Bel.refl w).alloc _⟩
abbrev Fr2 (w : World) (b : Nat) : Prop := w.frozen? ⟨b, 0, none⟩ = false ∧ w.frozen? ⟨b, 1, none⟩ = false
abbrev Sl2 (w : World) (b : Nat) (x y : Int) : Prop := Arr2 w b x y ∧ Fr2 w b
theorem Sl2.keep {w w' : World} {b : Nat} {x y : Int} (k : Sl2 w b x y) (hb : Bel w w') : Sl2 w' b x y := by
  refine ⟨k.1.keep hb, ?_⟩
  simp only [Fr2, hb.frozens _ _ k.1.1]
  exact k.2
/-- A row of numbers. -/
def DecsAt (w : World) (b : Nat) (l : List (Int × Int)) : Prop :=
  b < w.heap.size ∧ ∀ (i : Nat) (h : i < l.length), w.cell? ⟨b, i * 2, none⟩ = some (.int .i64 l[i].1) ∧ w.cell? ⟨b, i * 2 + 1, none⟩ = some (.int .i64 l[i].2)
theorem DecsAt.keep {w w' : World} {b : Nat} {l : List (Int × Int)} (h : DecsAt w b l) (hb : Bel w w') : DecsAt w' b l :=
  ⟨Nat.lt_of_lt_of_le h.1 hb.size, fun i hi => ⟨(hb.cells _ _ h.1).trans (h.2 i hi).1, (hb.cells _ _ h.1).trans (h.2 i hi).2⟩⟩
def allSnd (l : List (Int × Int)) : Bool := l.all fun p => sndB p.1 p.2
theorem all_take_succ {α : Type} (f : α → Bool) (l : List α) (k : Nat) (h : k < l.length) : (l.take (k + 1)).all f = ((l.take k).all f && f l[k]) := by
  rw [List.take_succ_eq_append_getElem h, List.all_append]; simp
theorem all_false {α : Type} (f : α → Bool) (l : List α) (k : Nat) (h : k < l.length) (hf : f l[k] = false) : l.all f = false := by
  rw [Bool.eq_false_iff]
  intro ha
  rw [List.all_eq_true] at ha
  have := ha l[k] (List.getElem_mem h)
  rw [hf] at this
  cases this
set_option maxHeartbeats 1000000 in
theorem allSound_any (b : Nat) (l : List (Int × Int)) (c : Nat) (hl : l.length ≤ 1000000) (w : World) (hd : DecsAt w b l) :
    Calls Tryz.prog 46 #[.slice (some ⟨b, 0, none⟩) l.length c] w fun e w' => e = .returned (.bool (allSnd l)) ∧ Bel w w' := by
  go_enter Tryz.func46, Tryz.ntmps46
  go_wp2
  go_loopg [7] l.length (fun g i wr => ∃ k : Nat, k ≤ l.length ∧ i = .int .i64 k ∧ Hid ((l.take k).all (fun p => sndB p.1 p.2) = true ∧ g = l.length - k) ∧ Bel w wr)
  case atStart => exact ⟨0, Nat.zero_le _, rfl, ⟨rfl, rfl⟩, Bel.refl _⟩
  case round =>
    obtain ⟨k, hk, rfl, hh, hb⟩ := hrel
    by_cases hlt : k < l.length
    · have hcell := (hd.keep hb).2 k hlt
      obtain ⟨c1, c2⟩ := hcell
      have hlt' := (hd.keep hb).1
      have hs := fun w => sound_any l[k].1 l[k].2 w
      obtain ⟨x, hx⟩ : ∃ x, x = l[k].1 := ⟨_, rfl⟩
      obtain ⟨y, hy⟩ : ∃ y, y = l[k].2 := ⟨_, rfl⟩
      rw [← hx, ← hy] at hs
      rw [← hx] at c1
      rw [← hy] at c2
      cases hv : sndB x y with
      | true =>
        rw [hv] at hs
        have HS := Lib.hid hs
        have hn : Hid ((l.take (k + 1)).all (fun p => sndB p.1 p.2) = true) := by
          rw [Hid, all_take_succ _ _ _ hlt, hh.out.1, ← hx, ← hy, hv]; rfl
        clear hs hx hy hv
        go_wp2_with (go_at_call 32; refine (HS.out _).mono ?_; rintro e W1 ⟨rfl, hb1⟩; replace hb := (hb.alloc _).trans hb1; clear hb1)
        go_roundg (gk - 1)
        case measure => have := hh.out.2; omega
        case rel => exact ⟨k + 1, by omega, by go_num, ⟨hn.out, by have := hh.out.2; omega⟩, hb⟩
      | false =>
        rw [hv] at hs
        have HS := Lib.hid hs
        have hn : Hid (allSnd l = false) := all_false _ _ _ hlt (by rw [← hx, ← hy, hv])
        clear hs hx hy hv
        go_wp2_with (go_at_call 32; refine (HS.out _).mono ?_; rintro e W1 ⟨rfl, hb1⟩; replace hb := (hb.alloc _).trans hb1; clear hb1)
        go_ret
        exact ⟨by (rw [hn.out]) <;> rfl, hb⟩
    · have hn : Hid (allSnd l = true) := by
        have h := hh.out.1
        rw [List.take_of_length_le (by omega)] at h
        exact h
      go_wp2
      go_ret
      exact ⟨by (rw [hn.out]) <;> rfl, hb⟩
theorem decs2 {w : World} {b : Nat} {x y z u : Int} (hb : b < w.heap.size) (h0 : w.cell? ⟨b, 0, none⟩ = some (.int .i64 x)) (h1 : w.cell? ⟨b, 1, none⟩ = some (.int .i64 y))
    (h2 : w.cell? ⟨b, 2, none⟩ = some (.int .i64 z)) (h3 : w.cell? ⟨b, 3, none⟩ = some (.int .i64 u)) : DecsAt w b [(x, y), (z, u)] := by
  refine ⟨hb, fun i hi => ?_⟩
  have : i = 0 ∨ i = 1 := by simp at hi; omega
  rcases this with rfl | rfl
  · exact ⟨h0, h1⟩
  · exact ⟨h2, h3⟩
theorem allSound_2 (x y z u : Int) (b : Nat) (w : World) (hd : DecsAt w b [(x, y), (z, u)]) :
    Calls Tryz.prog 46 #[.slice (some ⟨b, 0, none⟩) 2 2] w fun e w' => e = .returned (.bool (sndB x y && sndB z u)) ∧ Bel w w' :=
  (allSound_any b [(x, y), (z, u)] 2 (by simp) w hd).mono fun e w' ⟨he, hb⟩ => ⟨by rw [he]; simp [allSnd], hb⟩
/-- A number in units of the smallest scale. -/
def unt (n s : Int) : Int := n * P10 (6 - s).toNat
theorem unt_bd (n s : Int) (h : SndD n s) : -1000000000000000000 ≤ unt n s ∧ unt n s ≤ 1000000000000000000 := by
  obtain ⟨h1, h2, ⟨h3, h4⟩, -⟩ := h
  have hp := P10_6 (show (6 - s).toNat ≤ 6 by omega)
  unfold unt
  generalize P10 (6 - s).toNat = p at *
  have hp' : (p : Int) ≤ 1000000 := by omega
  constructor
  · have := Int.mul_le_mul_of_nonneg_right h3 (show (0 : Int) ≤ p by omega)
    have : (-999999999999 : Int) * p ≥ -999999999999 * 1000000 := by omega
    omega
  · have := Int.mul_le_mul_of_nonneg_right h4 (show (0 : Int) ≤ p by omega)
    omega
set_option maxHeartbeats 1000000 in
theorem units_any (n s : Int) (h : SndD n s) (w : World) : Calls Tryz.prog 47 #[.agg #[.int .i64 n, .int .i64 s]] w fun e w' => e = .returned (.int .i64 (unt n s)) ∧ Bel w w' := by
  have hbd := unt_bd n s h
  obtain ⟨h1, h2, -, -⟩ := h
  have c1 := fun w => power_z (6 - s) (by omega) (by omega) w
  have hv : Hid (unt n s = n * P10 (6 - s).toNat) := rfl
  have w1 : IntKind.i64.wrap (6 - s) = 6 - s := by rw [IntKind.wrap_i64]; omega
  have w2 : IntKind.i64.wrap (n * (P10 (6 - s).toNat : Int)) = unt n s := by rw [IntKind.wrap_i64]; unfold unt at *; omega
  generalize P10 (6 - s).toNat = p at *
  have C1 := Lib.hid c1
  clear c1
  go_enter Tryz.func47, Tryz.ntmps47
  go_wp2_with fail
  refine under_name ((Bel.refl w).alloc _) fun W hc hf hz hb => ?_
  have hw : Arr2 W w.heap.size n s := by simp [Arr2, hz, hc, go_sem]
  clear hc hf hz
  refine wp_region_uni (S := (fun w' => Bel W w' ∧ (∀ b o, b < W.heap.size → w'.cell? ⟨b, o, none⟩ = W.cell? ⟨b, o, none⟩))) (by kernel_rfl) (by kernel_rfl) keep0 ?_
  repeat (first | (refine wpUni_skip (by rfl) ?_; (try simp only [Act.put, List.setIfInBounds_toArray, List.set_cons_zero, List.set_cons_succ]))
                                                            | (refine wpUni_value (by rfl) (fun w hS => by (try dsimp only at hS); go_simp; first | done | with_reducible rfl) ?_; (try simp only [Act.put, List.setIfInBounds_toArray, List.set_cons_zero, List.set_cons_succ]))
                                                            | (refine wpUni_call (f := 53) (by rfl) (fun w => by go_simp; first | done | with_reducible rfl) (fun w hS => (C1.out w).mono fun e w' ⟨he, hb⟩ => ⟨he, keep1 hS hb⟩) ?_; (try simp only [Act.put, List.setIfInBounds_toArray, List.set_cons_zero, List.set_cons_succ])))
  refine wpUni_nil fun W1 hS => ?_
  have hb1 := hb.trans hS.1
  clear hS
  go_wp2
  go_ret
  exact ⟨rfl, hb1⟩
abbrev decA (n s : Int) : Value := .agg #[.int .i64 n, .int .i64 s]
theorem sndB_t {n s : Int} (h : SndD n s) : sndB n s = true := decide_eq_true h
theorem sndB_f {n s : Int} (h : ¬ SndD n s) : sndB n s = false := decide_eq_false h
theorem snd_and {n s m t : Int} (h : ¬ (SndD n s ∧ SndD m t)) : (sndB n s && sndB m t) = false := by
  by_cases h1 : SndD n s
  · rw [sndB_t h1, sndB_f fun h2 => h ⟨h1, h2⟩]; rfl
  · rw [sndB_f h1]; rfl
def sgn (x y : Int) : Int := if x < y then -1 else if y < x then 1 else 0
def cmpV (n s m t : Int) : Value := if SndD n s ∧ SndD m t then .tuple #[.int .i64 (sgn (unt n s) (unt m t)), .int .i64 0] else .tuple #[.int .i64 0, .int .i64 2]
set_option maxHeartbeats 2000000 in
theorem cmp_any (n s m t : Int) (w : World) : Calls Tryz.prog 24 #[decA n s, decA m t] w fun e w' => e = .returned (cmpV n s m t) ∧ Bel w w' := by
  by_cases h : SndD n s ∧ SndD m t
  · have hs := Lib.hid (show (sndB n s && sndB m t) = true by rw [sndB_t h.1, sndB_t h.2]; rfl)
    have c1 := Lib.hid fun w => units_any n s h.1 w
    have c2 := Lib.hid fun w => units_any m t h.2 w
    have hv : Hid (cmpV n s m t = .tuple #[.int .i64 (sgn (unt n s) (unt m t)), .int .i64 0]) := if_pos h
    clear h
    obtain ⟨x, hx⟩ : ∃ x, x = unt n s := ⟨_, rfl⟩
    obtain ⟨y, hy⟩ : ∃ y, y = unt m t := ⟨_, rfl⟩
    rw [← hx] at c1 hv
    rw [← hy] at c2 hv
    clear hx hy
    have tri : (x < y ∧ sgn x y = -1) ∨ (sgn x y = 0 ∧ x = y) ∨ (y < x ∧ sgn x y = 1) := by
      rcases Int.lt_trichotomy x y with h | h | h
      · exact .inl ⟨h, by simp [sgn, h]⟩
      · exact .inr (.inl ⟨by subst h; simp [sgn], h⟩)
      · exact .inr (.inr ⟨h, by simp [sgn, h, show ¬ x < y by omega]⟩)
    rcases tri with ⟨h, hg⟩ | ⟨hg, rfl⟩ | ⟨h, hg⟩
    all_goals
      rw [hg] at hv
      clear hg
      go_enter Tryz.func24, Tryz.ntmps24
      go_wp2_with fail
      refine under_call ((((Bel.refl w).alloc _).alloc _).alloc _) fun W hc hf hz hb => ?_
      have hA : Sl2 W w.heap.size n s := by simp [Sl2, Arr2, Fr2, hz, hc, hf, go_sem]
      have hB : Sl2 W (w.heap.size + 1) m t := by simp [Sl2, Arr2, Fr2, hz, hc, hf, go_sem]
      have hD : DecsAt W (w.heap.size + 1 + 1) [(n, s), (m, t)] := decs2 (by simp [hz]) (by simp [hc, go_sem]) (by simp [hc, go_sem]) (by simp [hc, go_sem]) (by simp [hc, go_sem])
      clear hc hf hz
      go_wp2_with (go_at_call 46; refine (allSound_2 n s m t _ _ hD).mono ?_; rintro e W1 ⟨rfl, hb1⟩; rw [hs.out]
                   replace hA := hA.keep hb1; replace hB := hB.keep hb1; replace hb := hb.trans hb1; clear hb1 hD)
      refine wp_region_uni (S := (fun w' => Bel W1 w' ∧ (∀ b o, b < W1.heap.size → w'.cell? ⟨b, o, none⟩ = W1.cell? ⟨b, o, none⟩))) (by kernel_rfl) (by kernel_rfl) keep0 ?_
      repeat (first | (refine wpUni_skip (by rfl) ?_; (try simp only [Act.put, List.setIfInBounds_toArray, List.set_cons_zero, List.set_cons_succ]))
                                                            | (refine wpUni_value (by rfl) (fun w hS => by (try dsimp only at hS); go_simp; first | done | with_reducible rfl) ?_; (try simp only [Act.put, List.setIfInBounds_toArray, List.set_cons_zero, List.set_cons_succ]))
                                                            | (refine wpUni_call (f := 47) (by rfl) (fun w => by go_simp; first | done | with_reducible rfl) (fun w hS => (c1.out w).mono fun e w' ⟨he, hb⟩ => ⟨he, keep1 hS hb⟩) ?_; (try simp only [Act.put, List.setIfInBounds_toArray, List.set_cons_zero, List.set_cons_succ]))
                                                            | (refine wpUni_call (f := 47) (by rfl) (fun w => by go_simp; first | done | with_reducible rfl) (fun w hS => (c2.out w).mono fun e w' ⟨he, hb⟩ => ⟨he, keep1 hS hb⟩) ?_; (try simp only [Act.put, List.setIfInBounds_toArray, List.set_cons_zero, List.set_cons_succ])))
      refine wpUni_nil fun W2 hS => ?_
      have hb2 := hb.trans hS.1
      clear hS
      go_wp2
      go_ret2
      exact ⟨by (rw [hv.out]) <;> rfl, hb2⟩
  · have hv : Hid (cmpV n s m t = .tuple #[.int .i64 0, .int .i64 2]) := if_neg h
    have hs := Lib.hid (snd_and h)
    clear h
    go_enter Tryz.func24, Tryz.ntmps24
    go_wp2_with fail
    refine under_call ((((Bel.refl w).alloc _).alloc _).alloc _) fun W hc hf hz hb => ?_
    have hD : DecsAt W (w.heap.size + 1 + 1) [(n, s), (m, t)] := decs2 (by simp [hz]) (by simp [hc, go_sem]) (by simp [hc, go_sem]) (by simp [hc, go_sem]) (by simp [hc, go_sem])
    clear hc hf hz
    go_wp2_with (go_at_call 46; refine (allSound_2 n s m t _ _ hD).mono ?_; rintro e W1 ⟨rfl, hb1⟩; rw [hs.out]
                 replace hb := hb.trans hb1; clear hb1 hD)
    go_ret2
    exact ⟨by (rw [hv.out]) <;> rfl, hb⟩
end
theorem cmpV_ok {n s m t : Int} (h1 : SndD n s) (h2 : SndD m t) : cmpV n s m t = .tuple #[.int .i64 (sgn (unt n s) (unt m t)), .int .i64 0] := if_pos ⟨h1, h2⟩
section
open Go.RowKit
attribute [local go_sem ↓] eql_val neq_val
set_option maxRecDepth 100000 in
set_option maxHeartbeats 4000000 in
theorem order_any (a b : Val) (ha : vsnd a = true) (hb : vsnd b = true) (w : World) : Calls Tryz.prog 11 #[a.val, b.val] w fun e w' => e = .returned (.int .i64 (vcmp a b)) ∧ Bel w w' := by
  obtain ⟨k, n, s, t, m⟩ := a
  obtain ⟨k', n', s', t', m'⟩ := b
  by_cases hk : k = k'
  · subst hk
    have e0 : (k != k) = false := by simp
    by_cases h1 : k = 1
    · subst h1
      have L := Lib.hid (show vcmp ⟨1, n, s, t, m⟩ ⟨1, n', s', t', m'⟩ = sgn (unt n s) (unt n' s') from rfl)
      have c := fun w => cmp_any n s n' s' w
      rw [cmpV_ok (vs_dec ha) (vs_dec hb)] at c
      obtain ⟨z, hz⟩ : ∃ z, z = sgn (unt n s) (unt n' s') := ⟨_, rfl⟩
      rw [← hz] at c L
      have C := Lib.hid c
      clear c hz ha hb e0
      go_enter Tryz.func11, Tryz.ntmps11
      go_wp2_with (go_at_call 24; refine (C.out _).mono ?_; rintro e W1 ⟨rfl, hb1⟩)
      go_ret
      exact ⟨by (rw [L.out]) <;> rfl, (((Bel.refl _).alloc _).alloc _).trans hb1⟩
    · by_cases h2 : k = 2
      · subst h2
        have L := Lib.hid (show vcmp ⟨2, n, s, t, m⟩ ⟨2, n', s', t', m'⟩ = Lib.compareBytes t.data.toList t'.data.toList from rfl)
        have c := fun w => Tryz.strings_Compare t t' w
        obtain ⟨z, hz⟩ : ∃ z, z = Lib.compareBytes t.data.toList t'.data.toList := ⟨_, rfl⟩
        rw [← hz] at c L
        have C := Lib.hid c
        clear c hz ha hb e0 h1
        go_enter Tryz.func11, Tryz.ntmps11
        go_wp2_with (go_at_call 25; refine (C.out _).mono ?_; rintro e W1 ⟨rfl, rfl⟩)
        go_ret
        exact ⟨by (rw [L.out]) <;> rfl, (((Bel.refl _).alloc _).alloc _)⟩
      · have L := Lib.hid (show vcmp ⟨k, n, s, t, m⟩ ⟨k, n', s', t', m'⟩ = Lib.compareInt m m' by
          unfold vcmp
          rw [if_neg (fun h => h rfl), if_neg h1, if_neg h2])
        have c := fun w => Tryz.cmp_Compare_int m m' w
        obtain ⟨z, hz⟩ : ∃ z, z = Lib.compareInt m m' := ⟨_, rfl⟩
        rw [← hz] at c L
        have C := Lib.hid c
        have k1 : (k == 1) = false := by rw [beq_eq_false_iff_ne]; exact h1
        have k2 : (k == 2) = false := by rw [beq_eq_false_iff_ne]; exact h2
        clear c hz ha hb h1 h2
        go_enter Tryz.func11, Tryz.ntmps11
        go_wp2_with (go_at_call 23; refine (C.out _).mono ?_; rintro e W1 ⟨rfl, rfl⟩)
        go_ret
        exact ⟨by (rw [L.out]) <;> rfl, (((Bel.refl _).alloc _).alloc _)⟩
  · have L := Lib.hid (show vcmp ⟨k, n, s, t, m⟩ ⟨k', n', s', t', m'⟩ = Lib.compareInt k k' by unfold vcmp; rw [if_pos hk])
    have c := fun w => Tryz.cmp_Compare_int k k' w
    obtain ⟨z, hz⟩ : ∃ z, z = Lib.compareInt k k' := ⟨_, rfl⟩
    rw [← hz] at c L
    have C := Lib.hid c
    have e0 : (k == k') = false := by rw [beq_eq_false_iff_ne]; exact hk
    have e1 : (k != k') = true := by rw [bne, e0]; rfl
    clear c hz ha hb hk
    go_enter Tryz.func11, Tryz.ntmps11
    go_wp2_with (go_at_call 23; refine (C.out _).mono ?_; rintro e W1 ⟨rfl, rfl⟩)
    go_ret
    exact ⟨by (rw [L.out]) <;> rfl, (((Bel.refl _).alloc _).alloc _)⟩
end
end Strong
end Go.Proofs.YtladmlnopbnlgaaGreatDoor
