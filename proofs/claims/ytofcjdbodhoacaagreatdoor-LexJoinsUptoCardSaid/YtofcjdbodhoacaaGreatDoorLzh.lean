import Derived.Test.YtofcjdbodhoacaaGreatDoorLzf
namespace Go.Proofs.YtofcjdbodhoacaaGreatDoor
set_option linter.unusedSimpArgs false
set_option linter.unusedVariables false
open Go.RowKit
attribute [local go_sem ↓] eql_tok neq_tok

/-! The same tokens; the simplest facts. -/
def sameB (a : Bool) (x y : List Tok) : Bool := if a = true then decide (x = y) else decide (x.map ters = y.map ters)
def tokEq (a : Bool) (x y : Tok) : Bool := if a = true then decide (x = y) else decide (ters x = ters y)
theorem sameB_cons (a : Bool) (x y : Tok) (xs ys : List Tok) : sameB a (x :: xs) (y :: ys) = (tokEq a x y && sameB a xs ys) := by
  unfold sameB tokEq
  cases a
  · simp only [Bool.false_eq_true, if_false, List.map_cons, List.cons.injEq, Bool.decide_and]
  · simp only [if_true, List.cons.injEq, Bool.decide_and]
theorem sameB_nil (a : Bool) : sameB a [] [] = true := by cases a <;> rfl
theorem sameB_len {a : Bool} {x y : List Tok} (h : x.length ≠ y.length) : sameB a x y = false := by
  unfold sameB
  cases a
  · simp only [Bool.false_eq_true, if_false]
    exact decide_eq_false fun e => h (by have := congrArg List.length e; simpa using this)
  · simp only [if_true]
    exact decide_eq_false fun e => h (by rw [e])
theorem tokEq_t (x y : Tok) : tokEq true x y = teqv x.kind x.pos (bytesOf x.text) x.dn x.ds x.day y.kind y.pos (bytesOf y.text) y.dn y.ds y.day := by
  unfold tokEq
  rw [if_pos rfl, Bool.eq_iff_iff, decide_eq_true_eq, teqv_iff]
  obtain ⟨a, b, c, d, e, f⟩ := x
  obtain ⟨a', b', c', d', e', f'⟩ := y
  simp only [Tok.mk.injEq]
  exact ⟨fun ⟨h1, h2, h3, h4, h5, h6⟩ => ⟨h1, h2, by rw [h3], h4, h5, h6⟩, fun ⟨h1, h2, h3, h4, h5, h6⟩ => ⟨h1, h2, bytesOf_inj h3, h4, h5, h6⟩⟩
theorem tokEq_f (x y : Tok) : tokEq false x y = teqv x.kind 0 (bytesOf x.text) x.dn x.ds x.day y.kind 0 (bytesOf y.text) y.dn y.ds y.day := by
  have h := tokEq_t (ters x) (ters y)
  exact h
theorem two_new (w : World) : TSlot ((w.alloc (.cells #[.int .i64 0, .int .i64 0, .string ⟨#[]⟩, .int .i64 0, .int .i64 0, .int .i64 0] 38)).alloc (.cells #[.int .i64 0, .int .i64 0, .string ⟨#[]⟩, .int .i64 0, .int .i64 0, .int .i64 0] 38)).drew w.heap.size tokZ ∧
    TSlot ((w.alloc (.cells #[.int .i64 0, .int .i64 0, .string ⟨#[]⟩, .int .i64 0, .int .i64 0, .int .i64 0] 38)).alloc (.cells #[.int .i64 0, .int .i64 0, .string ⟨#[]⟩, .int .i64 0, .int .i64 0, .int .i64 0] 38)).drew (w.heap.size + 1) tokZ := by
  constructor <;> simp [TSlot, tokZ, bytesOf, go_sem]
set_option maxRecDepth 100000 in
set_option maxHeartbeats 8000000 in
theorem same_any (xs ys : List Tok) (A B : Option Addr) (ca cb : Nat) (q : Bool) (w : World) (hx : Toks w A xs) (hy : Toks w B ys) (lx : xs.length ≤ 1152921504606846975) (ly : ys.length ≤ 1152921504606846975) :
    Calls Tryz.prog 11 #[.slice A xs.length ca, .slice B ys.length cb, .bool q] w fun e w' => e = .returned (.bool (sameB q xs ys)) ∧ Bel w w' := by
  have lxi : (xs.length : Int) ≤ 1152921504606846975 := by omega
  have lyi : (ys.length : Int) ≤ 1152921504606846975 := by omega
  by_cases hl : xs.length = ys.length
  · obtain ⟨R, hR⟩ : ∃ R, R = sameB q xs ys := ⟨_, rfl⟩
    rw [← hR]
    have HR := Lib.hid hR
    have HX := Lib.hid hx
    have HY := Lib.hid hy
    have HL := Lib.hid hl.symm
    rw [← hl]
    clear hR hx hy hl
    go_enter Tryz.func11, Tryz.ntmps11
    go_wp2_with fail
    go_loopg [7] (xs.length + 1) (fun g iv wr => ∃ j : Nat, iv = .int .i64 j ∧ j ≤ xs.length ∧ Hid (xs.length + 1 - j ≤ g) ∧ Hid (sameB q (xs.drop j) (ys.drop j) = R) ∧ Hid (Bel w wr))
    case atStart => exact ⟨0, rfl, Nat.zero_le _, Lib.hid (by omega), Lib.hid HR.out.symm, Lib.hid (Bel.refl _)⟩
    case round =>
      obtain ⟨j, rfl, hj, hg, hS, hb⟩ := hrel
      have j0 : (0 : Int) ≤ (j : Int) := by omega
      by_cases hlt : j < xs.length
      · have hli : (j : Int) < xs.length := by omega
        have w1 : IntKind.i64.wrap ((j : Int) + 1) = (j : Int) + 1 := by rw [IntKind.wrap_i64]; omega
        have hlty : j < ys.length := by have h := HL.out; clear w1; omega
        obtain ⟨x, hxj⟩ : ∃ x, xs[j]? = some x := ⟨_, List.getElem?_eq_getElem hlt⟩
        obtain ⟨y, hyj⟩ : ∃ y, ys[j]? = some y := ⟨_, List.getElem?_eq_getElem hlty⟩
        have hS := hS.out
        rw [List.drop_eq_getElem_cons hlt, List.drop_eq_getElem_cons hlty] at hS
        rw [show xs[j] = x by rw [List.getElem?_eq_getElem hlt] at hxj; exact Option.some.inj hxj, show ys[j] = y by rw [List.getElem?_eq_getElem hlty] at hyj; exact Option.some.inj hyj, sameB_cons] at hS
        obtain ⟨b1, o1, rfl, z1, at1⟩ := HX.out.at (by omega)
        obtain ⟨b2, o2, rfl, z2, at2⟩ := HY.out.at (by clear w1; omega)
        obtain ⟨k0, k1, k2, k3, k4, k5⟩ := (at1 j x hxj).keep hb.out z1
        obtain ⟨m0, m1, m2, m3, m4, m5⟩ := (at2 j y hyj).keep hb.out z2
        have z1 := Nat.lt_of_lt_of_le z1 hb.out.size
        have z2 := Nat.lt_of_lt_of_le z2 hb.out.size
        have TT := tokEq_t x y
        have TF := tokEq_f x y
        obtain ⟨xk, xp, xt, xa, xb, xd⟩ := x
        obtain ⟨yk, yp, yt, ya, yb, yd⟩ := y
        simp only at k0 k1 k2 k3 k4 k5 m0 m1 m2 m3 m4 m5 TT TF
        have HS := Lib.hid hS
        clear hxj hyj hS at1 at2 hlty
        have hsz := hb.out.size
        cases q with
        | true =>
          cases ht : tokEq true ⟨xk, xp, xt, xa, xb, xd⟩ ⟨yk, yp, yt, ya, yb, yd⟩ with
          | true =>
            rw [ht] at TT
            replace TT := TT.symm
            have HS := Lib.hid (show sameB true (xs.drop (j + 1)) (ys.drop (j + 1)) = R from by rw [← HS.out, ht, Bool.true_and])
            clear ht TF
            obtain ⟨⟨tn0, ⟨t1, t2, t3, t4, t5, t6⟩, ⟨g1, g2, g3, g4, g5, g6⟩⟩, ⟨sn0, ⟨s1, s2, s3, s4, s5, s6⟩, ⟨f1, f2, f3, f4, f5, f6⟩⟩⟩ := two_new wr
            simp only [tokZ] at t1 t2 t3 t4 t5 t6 s1 s2 s3 s4 s5 s6
            go_wp2_with fail

            go_region
            all_goals
              go_wp2_with fail
              go_roundg (xs.length + 1 - (j + 1))
              case measure => have := hg.out; omega
              case rel =>
                have hq := hb.out
                exact ⟨j + 1, by go_num, by omega, Lib.hid (Nat.le_refl _), HS, Lib.hid (by (repeat (first | with_reducible exact Bel.refl _ | with_reducible refine Bel.setCell ?_ (by first | exact Nat.le_refl _ | (dsimp only; omega)) _ | with_reducible refine Bel.alloc ?_ _ | with_reducible refine Bel.drew ?_ | with_reducible assumption | with_reducible refine Bel.trans ?_ (by assumption))))⟩
          | false =>
            rw [ht] at TT
            replace TT := TT.symm
            have HS := Lib.hid (show R = false from by rw [← HS.out, ht, Bool.false_and])
            clear ht TF
            obtain ⟨⟨tn0, ⟨t1, t2, t3, t4, t5, t6⟩, ⟨g1, g2, g3, g4, g5, g6⟩⟩, ⟨sn0, ⟨s1, s2, s3, s4, s5, s6⟩, ⟨f1, f2, f3, f4, f5, f6⟩⟩⟩ := two_new wr
            simp only [tokZ] at t1 t2 t3 t4 t5 t6 s1 s2 s3 s4 s5 s6
            go_wp2_with fail
            go_region
            all_goals
              go_wp2_with fail
              go_ret
              have hq := hb.out
              refine ⟨by rw [HS.out] <;> rfl, ?_⟩
              (repeat (first | with_reducible exact Bel.refl _ | with_reducible refine Bel.setCell ?_ (by first | exact Nat.le_refl _ | (dsimp only; omega)) _ | with_reducible refine Bel.alloc ?_ _ | with_reducible refine Bel.drew ?_ | with_reducible assumption | with_reducible refine Bel.trans ?_ (by assumption)))
        | false =>
          cases ht : tokEq false ⟨xk, xp, xt, xa, xb, xd⟩ ⟨yk, yp, yt, ya, yb, yd⟩ with
          | true =>
            rw [ht] at TF
            replace TF := TF.symm
            have HS := Lib.hid (show sameB false (xs.drop (j + 1)) (ys.drop (j + 1)) = R from by rw [← HS.out, ht, Bool.true_and])
            clear ht TT
            obtain ⟨⟨tn0, ⟨t1, t2, t3, t4, t5, t6⟩, ⟨g1, g2, g3, g4, g5, g6⟩⟩, ⟨sn0, ⟨s1, s2, s3, s4, s5, s6⟩, ⟨f1, f2, f3, f4, f5, f6⟩⟩⟩ := two_new wr
            simp only [tokZ] at t1 t2 t3 t4 t5 t6 s1 s2 s3 s4 s5 s6
            go_wp2_with fail
            go_region
            all_goals
              go_wp2_with fail
              go_roundg (xs.length + 1 - (j + 1))
              case measure => have := hg.out; omega
              case rel =>
                have hq := hb.out
                exact ⟨j + 1, by go_num, by omega, Lib.hid (Nat.le_refl _), HS, Lib.hid (by (repeat (first | with_reducible exact Bel.refl _ | with_reducible refine Bel.setCell ?_ (by first | exact Nat.le_refl _ | (dsimp only; omega)) _ | with_reducible refine Bel.alloc ?_ _ | with_reducible refine Bel.drew ?_ | with_reducible assumption | with_reducible refine Bel.trans ?_ (by assumption))))⟩
          | false =>
            rw [ht] at TF
            replace TF := TF.symm
            have HS := Lib.hid (show R = false from by rw [← HS.out, ht, Bool.false_and])
            clear ht TT
            obtain ⟨⟨tn0, ⟨t1, t2, t3, t4, t5, t6⟩, ⟨g1, g2, g3, g4, g5, g6⟩⟩, ⟨sn0, ⟨s1, s2, s3, s4, s5, s6⟩, ⟨f1, f2, f3, f4, f5, f6⟩⟩⟩ := two_new wr
            simp only [tokZ] at t1 t2 t3 t4 t5 t6 s1 s2 s3 s4 s5 s6
            go_wp2_with fail
            go_region
            all_goals
              go_wp2_with fail
              go_ret
              have hq := hb.out
              refine ⟨by rw [HS.out] <;> rfl, ?_⟩
              (repeat (first | with_reducible exact Bel.refl _ | with_reducible refine Bel.setCell ?_ (by first | exact Nat.le_refl _ | (dsimp only; omega)) _ | with_reducible refine Bel.alloc ?_ _ | with_reducible refine Bel.drew ?_ | with_reducible assumption | with_reducible refine Bel.trans ?_ (by assumption)))
      · obtain rfl : j = xs.length := by omega
        have HS := Lib.hid (show R = true from by rw [← hS.out, List.drop_length, ← HL.out, List.drop_length, sameB_nil])
        go_wp2_with fail
        go_ret
        exact ⟨by rw [HS.out] <;> rfl, hb.out⟩
  · have HF := Lib.hid (sameB_len (a := q) hl)
    have e1 : ((xs.length : Int) == ys.length) = false := by rw [beq_eq_false_iff_ne]; omega
    have e1' : ((xs.length : Int) != ys.length) = true := by unfold bne; rw [e1]; rfl
    have e2 : ¬ xs.length = ys.length := hl
    clear hl hx hy
    go_enter Tryz.func11, Tryz.ntmps11
    go_wp2_with fail
    go_ret
    exact ⟨by rw [HF.out] <;> rfl, Bel.refl _⟩
def litA : ByteArray := ⟨#[120, 49, 32, 60, 61, 32, 49, 46, 53, 48, 32, 64, 34, 50, 48, 48, 48, 45, 48, 49, 45, 48, 49, 34, 46, 46]⟩
def toksA : List Tok := [⟨4, 0, [120, 49], 0, 0, 0⟩, ⟨5, 3, [60, 61], 0, 0, 0⟩, ⟨1, 6, [], 15, 1, 0⟩, ⟨3, 11, [], 0, 0, 730119⟩, ⟨5, 24, [46, 46], 0, 0, 0⟩]
theorem toks_litA : tokS litA = (toksA, 0, 0) := by decide +kernel
theorem dtx_A : (dtx 730119).data.toList = [50, 48, 48, 48, 45, 48, 49, 45, 48, 49] := by
  obtain ⟨h1, h2, h3⟩ := date_is (n := 730119) (a := 2000) (b := 1) (c := 1) (by decide +kernel) (by decide +kernel)
  unfold dtx
  rw [← h1, ← h2, ← h3]
  rfl
theorem snd_A : toksA.all tsnd = true := by decide +kernel
theorem wr_A : joinL (toksA.map wrT) = [120, 49, 32, 60, 61, 32, 49, 46, 53, 32, 64, 34, 50, 48, 48, 48, 45, 48, 49, 45, 48, 49, 34, 32, 46, 46] := by
  have e1 : wrT ⟨1, 6, [], 15, 1, 0⟩ = [49, 46, 53] := by
    unfold wrT
    rw [if_pos rfl]
    show txtL (decide ((15 : Int) < 0)) 15 1 = _
    unfold txtL P10 padL
    simp [Lib.decDigits, Lib.repeatL]
  have e2 : wrT ⟨3, 11, [], 0, 0, 730119⟩ = 64 :: 34 :: [50, 48, 48, 48, 45, 48, 49, 45, 48, 49] ++ [34] := by
    unfold wrT
    rw [if_neg (by decide), if_neg (by decide), if_pos rfl]
    simp only
    rw [dtx_A]
    rfl
  unfold toksA
  simp only [List.map_cons, List.map_nil]
  rw [e1, e2]
  rfl
theorem join_A : joinS toksA = ([120, 49, 32, 60, 61, 32, 49, 46, 53, 32, 64, 34, 50, 48, 48, 48, 45, 48, 49, 45, 48, 49, 34, 32, 46, 46], 0) := by
  unfold joinS
  rw [if_pos snd_A, wr_A]
  rfl
end Go.Proofs.YtofcjdbodhoacaaGreatDoor
