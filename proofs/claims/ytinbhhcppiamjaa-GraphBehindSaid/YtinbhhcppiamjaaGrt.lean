import Derived.Test.YtinbhhcppiamjaaGrn
namespace Go.Proofs.Ytinbhhcppiamjaa
set_option linter.unusedSimpArgs false
set_option linter.unusedVariables false
open Go.RowKit Go.Lib Go.Maps

/-! The law's awake. -/
abbrev sA : ByteArray := ⟨#[97]⟩
abbrev sB : ByteArray := ⟨#[98]⟩
abbrev sC : ByteArray := ⟨#[99]⟩
def nm3 : List ByteArray := [sA, sB, sC]
def nd3 : List (List ByteArray) := [[sC], [], [sB]]
def nm2 : List ByteArray := [sA, sB]
def nd2 : List (List ByteArray) := [[sB], [sA]]
theorem ord3 : ordOut nm3 nd3 = ([1, 2, 0], 0, 0) := by decide +kernel
theorem ord2 : ordOut nm2 nd2 = ([], 0, 13) := by decide +kernel
theorem chk3 : (chk nm3 nd3).2 = 0 := by decide +kernel
theorem gr3 : gr nm3 nd3 0 = [2] ∧ gr nm3 nd3 1 = [] ∧ gr nm3 nd3 2 = [1] := by decide +kernel
theorem ab3 : aboveOut nm3 nd3 (0 : Nat) = ([1, 2], 0) := by
  rw [ab_ok chk3 (show 0 < nm3.length by decide)]
  obtain ⟨g0, g1, g2⟩ := gr3
  rw [above_eq (p := fun x => x == 1 || x == 2) (fun x hx hp => ?_) (fun k hk => ?_) (fun i hi hp k hk => ?_) (gr_lt (l := nm3) (ns := nd3))]
  · rfl
  · have h2 : Reach (gr nm3 nd3) 0 2 := .one (by rw [g0]; simp)
    simp at hp
    rcases hp with rfl | rfl
    · exact h2.more (by rw [g2]; simp)
    · exact h2
  · rw [g0] at hk
    simp at hk
    subst hk
    rfl
  · simp at hp
    rcases hp with rfl | rfl
    · rw [g1] at hk; cases hk
    · rw [g2] at hk
      simp at hk
      subst hk
      rfl
theorem fits_one (b : UInt8) : Fits ⟨#[b]⟩ := by
  show (1 : Nat) ≤ _
  omega
/-- Three names, and what they need. -/
def lit3 (w : World) : World := (((w.alloc (.cells #[.string sA, .string sB, .string sC] 9)).alloc (.cells #[.string sC] 9)).alloc (.cells #[.string sB] 9)).alloc
  (.cells #[.slice (some ⟨w.heap.size + 1, 0, none⟩) 1 1, .slice none 0 0, .slice (some ⟨w.heap.size + 1 + 1, 0, none⟩) 1 1] 22)
def d3 (w : World) : Sl := ⟨some ⟨w.heap.size, 0, none⟩, 3, nm3⟩
def l3 (w : World) : List Sl := [⟨some ⟨w.heap.size + 1, 0, none⟩, 1, [sC]⟩, ⟨none, 0, []⟩, ⟨some ⟨w.heap.size + 1 + 1, 0, none⟩, 1, [sB]⟩]
theorem row_lit (w : World) (n : Nat) (xs : List Value) (t : TypeId) (hn : n = w.heap.size) : Row (w.alloc (.cells xs.toArray t)) (some ⟨n, 0, none⟩) xs := fun _ => by
  subst hn
  refine ⟨_, 0, rfl, by simp, fun j u hu => ?_⟩
  rw [Nat.zero_add, cell_of_row _ w.heap.size j _ _ _ (heap_alloc_new w _)]
  simpa using hu
theorem ok3 (w : World) : SlOk (lit3 w) (d3 w) ∧ Nds (lit3 w) (some ⟨w.heap.size + 1 + 1 + 1, 0, none⟩) (l3 w) := by
  have b1 := (Bel.refl (w.alloc (.cells #[.string sA, .string sB, .string sC] 9))).alloc (.cells #[.string sC] 9)
  have b2 := b1.alloc (.cells #[.string sB] 9)
  have b3 := b2.alloc (.cells #[.slice (some ⟨w.heap.size + 1, 0, none⟩) 1 1, .slice none 0 0, .slice (some ⟨w.heap.size + 1 + 1, 0, none⟩) 1 1] 22)
  have c1 := ((Bel.refl ((w.alloc (.cells #[.string sA, .string sB, .string sC] 9)).alloc (.cells #[.string sC] 9))).alloc (.cells #[.string sB] 9)).alloc (.cells #[.slice (some ⟨w.heap.size + 1, 0, none⟩) 1 1, .slice none 0 0, .slice (some ⟨w.heap.size + 1 + 1, 0, none⟩) 1 1] 22)
  have e1 := (Bel.refl (((w.alloc (.cells #[.string sA, .string sB, .string sC] 9)).alloc (.cells #[.string sC] 9)).alloc (.cells #[.string sB] 9))).alloc (.cells #[.slice (some ⟨w.heap.size + 1, 0, none⟩) 1 1, .slice none 0 0, .slice (some ⟨w.heap.size + 1 + 1, 0, none⟩) 1 1] 22)
  have s1 : Strs (lit3 w) (some ⟨w.heap.size, 0, none⟩) nm3 := (strs_lit (w := w) nm3 rfl).keep b3
  have s2 : Strs (lit3 w) (some ⟨w.heap.size + 1, 0, none⟩) [sC] := (strs_lit [sC] (by simp)).keep c1
  have s3 : Strs (lit3 w) (some ⟨w.heap.size + 1 + 1, 0, none⟩) [sB] := (strs_lit [sB] (by simp)).keep e1
  refine ⟨⟨s1, fun s hs => ?_, by show (3 : Nat) ≤ _; omega⟩, row_lit _ _ _ _ (by simp), fun d hd => ?_⟩
  · simp [d3, nm3] at hs
    rcases hs with rfl | rfl | rfl <;> exact fits_one _
  · simp [l3] at hd
    rcases hd with rfl | rfl | rfl
    · exact ⟨s2, fun s hs => by simp at hs; subst hs; exact fits_one _, by show (1 : Nat) ≤ _; omega⟩
    · exact ⟨Strs.nil, (by intro s hs; cases hs), by show (0 : Nat) ≤ _; omega⟩
    · exact ⟨s3, fun s hs => by simp at hs; subst hs; exact fits_one _, by show (1 : Nat) ≤ _; omega⟩
def lit2 (w : World) : World := (((w.alloc (.cells #[.string sA, .string sB] 9)).alloc (.cells #[.string sB] 9)).alloc (.cells #[.string sA] 9)).alloc
  (.cells #[.slice (some ⟨w.heap.size + 1, 0, none⟩) 1 1, .slice (some ⟨w.heap.size + 1 + 1, 0, none⟩) 1 1] 22)
def d2 (w : World) : Sl := ⟨some ⟨w.heap.size, 0, none⟩, 2, nm2⟩
def l2 (w : World) : List Sl := [⟨some ⟨w.heap.size + 1, 0, none⟩, 1, [sB]⟩, ⟨some ⟨w.heap.size + 1 + 1, 0, none⟩, 1, [sA]⟩]
theorem ok2 (w : World) : SlOk (lit2 w) (d2 w) ∧ Nds (lit2 w) (some ⟨w.heap.size + 1 + 1 + 1, 0, none⟩) (l2 w) := by
  have b1 := (Bel.refl (w.alloc (.cells #[.string sA, .string sB] 9))).alloc (.cells #[.string sB] 9)
  have b2 := b1.alloc (.cells #[.string sA] 9)
  have b3 := b2.alloc (.cells #[.slice (some ⟨w.heap.size + 1, 0, none⟩) 1 1, .slice (some ⟨w.heap.size + 1 + 1, 0, none⟩) 1 1] 22)
  have c1 := ((Bel.refl ((w.alloc (.cells #[.string sA, .string sB] 9)).alloc (.cells #[.string sB] 9))).alloc (.cells #[.string sA] 9)).alloc (.cells #[.slice (some ⟨w.heap.size + 1, 0, none⟩) 1 1, .slice (some ⟨w.heap.size + 1 + 1, 0, none⟩) 1 1] 22)
  have e1 := (Bel.refl (((w.alloc (.cells #[.string sA, .string sB] 9)).alloc (.cells #[.string sB] 9)).alloc (.cells #[.string sA] 9))).alloc (.cells #[.slice (some ⟨w.heap.size + 1, 0, none⟩) 1 1, .slice (some ⟨w.heap.size + 1 + 1, 0, none⟩) 1 1] 22)
  have s1 : Strs (lit2 w) (some ⟨w.heap.size, 0, none⟩) nm2 := (strs_lit (w := w) nm2 rfl).keep b3
  have s2 : Strs (lit2 w) (some ⟨w.heap.size + 1, 0, none⟩) [sB] := (strs_lit [sB] (by simp)).keep c1
  have s3 : Strs (lit2 w) (some ⟨w.heap.size + 1 + 1, 0, none⟩) [sA] := (strs_lit [sA] (by simp)).keep e1
  refine ⟨⟨s1, fun s hs => ?_, by show (2 : Nat) ≤ _; omega⟩, row_lit _ _ _ _ (by simp), fun d hd => ?_⟩
  · simp [d2, nm2] at hs
    rcases hs with rfl | rfl <;> exact fits_one _
  · simp [l2] at hd
    rcases hd with rfl | rfl
    · exact ⟨s2, fun s hs => by simp at hs; subst hs; exact fits_one _, by show (1 : Nat) ≤ _; omega⟩
    · exact ⟨s3, fun s hs => by simp at hs; subst hs; exact fits_one _, by show (1 : Nat) ≤ _; omega⟩
theorem bel3 (w : World) : Bel w (lit3 w) := ((((Bel.refl w).alloc _).alloc _).alloc _).alloc _
theorem bel2 (w : World) : Bel w (lit2 w) := ((((Bel.refl w).alloc _).alloc _).alloc _).alloc _
/-- The three calls, in the walk's words. -/
theorem call_o3 (w : World) : Calls Try.prog 9 #[.slice (some ⟨w.heap.size, 0, none⟩) 3 3, .slice (some ⟨w.heap.size + 1 + 1 + 1, 0, none⟩) 3 3] (lit3 w) fun e w' => ∃ A c, e = .returned (.tuple #[.slice A 3 c, .int .i64 0, .int .i64 0]) ∧ Ints w' A [1, 2, 0] ∧ Bel w w' := by
  have h := order_any (d3 w) (some ⟨w.heap.size + 1 + 1 + 1, 0, none⟩) 3 (l3 w) (lit3 w) (ok3 w).1 (ok3 w).2 (by show (3 : Nat) ≤ 60; omega) (by show (3 : Nat) ≤ 60; omega) (fun d hd => by
    simp [l3] at hd; rcases hd with rfl | rfl | rfl <;> simp)
  refine h.mono fun e w' ⟨A, c, he, hi, hb⟩ => ?_
  have e0 : ordOut (d3 w).l (nsOf (l3 w)) = ([1, 2, 0], 0, 0) := ord3
  rw [e0] at he hi
  exact ⟨A, c, he, hi, (bel3 w).trans hb⟩
theorem call_a3 (w : World) : Calls Try.prog 12 #[.slice (some ⟨w.heap.size, 0, none⟩) 3 3, .slice (some ⟨w.heap.size + 1 + 1 + 1, 0, none⟩) 3 3, .int .i64 0] (lit3 w) fun e w' => ∃ A c, e = .returned (.tuple #[.slice A 2 c, .int .i64 0]) ∧ Ints w' A [1, 2] ∧ Bel w w' := by
  have h := above_any (d3 w) (some ⟨w.heap.size + 1 + 1 + 1, 0, none⟩) 3 (l3 w) 0 (lit3 w) (ok3 w).1 (ok3 w).2 (by show (3 : Nat) ≤ 60; omega) (by show (3 : Nat) ≤ 60; omega) (fun d hd => by
    simp [l3] at hd; rcases hd with rfl | rfl | rfl <;> simp) ⟨by omega, by omega⟩
  refine h.mono fun e w' ⟨A, c, he, hi, hb⟩ => ?_
  have e0 : aboveOut (d3 w).l (nsOf (l3 w)) 0 = ([1, 2], 0) := ab3
  rw [e0] at he hi
  exact ⟨A, c, he, hi, (bel3 w).trans hb⟩
theorem call_o2 (w : World) : Calls Try.prog 9 #[.slice (some ⟨w.heap.size, 0, none⟩) 2 2, .slice (some ⟨w.heap.size + 1 + 1 + 1, 0, none⟩) 2 2] (lit2 w) fun e w' => ∃ A c, e = .returned (.tuple #[.slice A 0 c, .int .i64 0, .int .i64 13]) ∧ Bel w w' := by
  have h := order_any (d2 w) (some ⟨w.heap.size + 1 + 1 + 1, 0, none⟩) 2 (l2 w) (lit2 w) (ok2 w).1 (ok2 w).2 (by show (2 : Nat) ≤ 60; omega) (by show (2 : Nat) ≤ 60; omega) (fun d hd => by
    simp [l2] at hd; rcases hd with rfl | rfl <;> simp)
  refine h.mono fun e w' ⟨A, c, he, _, hb⟩ => ?_
  have e0 : ordOut (d2 w).l (nsOf (l2 w)) = ([], 0, 13) := ord2
  rw [e0] at he
  exact ⟨A, c, he, (bel2 w).trans hb⟩
theorem ints_call {w : World} {A : Option Addr} (c : Nat) (xs : List Int) (h : Ints w A xs) (hl : xs.length ≤ 1000) :
    Calls Try.prog 11 #[.slice A xs.length c, .slice (some ⟨w.heap.size, 0, none⟩) xs.length xs.length] (w.alloc (.cells (nums xs).toArray 3)) fun e w' => e = .returned (.bool true) ∧ Bel w w' := by
  refine (ints_any A (some ⟨w.heap.size, 0, none⟩) c xs.length xs xs _ (h.keep ((Bel.refl w).alloc _)) (ints_lit xs rfl) hl hl).mono fun e w' ⟨he, hb⟩ => ⟨?_, ((Bel.refl w).alloc _).trans hb⟩
  rw [he]
  simp
set_option maxRecDepth 100000 in
set_option maxHeartbeats 2000000 in
theorem awake_any (w : World) : Calls Try.prog 8 #[] w fun e w' => e = .returned (.bool true) ∧ Bel w w' := by
  have H1 := Lib.hid call_o3
  have H2 := Lib.hid call_a3
  have H3 := Lib.hid call_o2
  unfold lit3 at H1 H2
  unfold lit2 at H3
  go_enter Try.func8, Try.ntmps8
  go_upto_region 2 with ((go_at_call 9; (with_reducible refine Calls.mono (H1.out _) ?_); rintro e w1 ⟨A1, c1, rfl, hi1, hb1⟩))
  go_upto_region 3 with ((go_at_call 12; (with_reducible refine Calls.mono (H2.out _) ?_); rintro e w2 ⟨A2, c2, rfl, hi2, hb2⟩))
  go_upto_region 4 with ((go_at_call 9; (with_reducible refine Calls.mono (H3.out _) ?_); rintro e w3 ⟨A3, c3, rfl, hb3⟩))
  have G1 : Calls Try.prog 11 #[.slice A1 3 c1, .slice (some ⟨w3.heap.size, 0, none⟩) 3 3] (w3.alloc (.cells #[.int .i64 1, .int .i64 2, .int .i64 0] 3)) fun e w' => e = .returned (.bool true) ∧ Bel w3 w' := ints_call (w := w3) c1 [1, 2, 0] ((hi1.keep hb2).keep hb3) (by simp)
  have G2 : ∀ W, Bel w3 W → Calls Try.prog 11 #[.slice A2 2 c2, .slice (some ⟨W.heap.size, 0, none⟩) 2 2] (W.alloc (.cells #[.int .i64 1, .int .i64 2] 3)) fun e w' => e = .returned (.bool true) ∧ Bel W w' := fun W hW => ints_call (w := W) c2 [1, 2] ((hi2.keep hb3).keep hW) (by simp)
  have HI1 := Lib.hid G1
  have HI2 := Lib.hid G2
  clear G1 G2
  have HB := Lib.hid ((hb1.trans hb2).trans hb3)
  clear hi1 hi2 hb1 hb2 hb3 H1 H2 H3
  go_wp2_with (first
    | (go_at_call 11; (with_reducible refine Calls.mono HI1.out ?_); rintro e w4 ⟨rfl, hb4⟩)
    | (go_at_call 11; (with_reducible refine Calls.mono (HI2.out _ hb4) ?_); rintro e w5 ⟨rfl, hb5⟩)
    | go_in)
  go_ret
  exact ⟨rfl, (HB.out.trans hb4).trans hb5⟩
end Go.Proofs.Ytinbhhcppiamjaa
