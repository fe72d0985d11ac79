import Derived.Test.YtofcjdbodhoacaaGreatDoorLxq
import Derived.Shelf.SlicesQ.IndexFunc
namespace Go.Proofs.YtofcjdbodhoacaaGreatDoor
set_option linter.unusedSimpArgs false
set_option linter.unusedVariables false
open Go.RowKit

/-! Tokens joined. -/
theorem join_snoc : ∀ (xs : List (List UInt8)) (x : List UInt8), xs ≠ [] → joinL (xs ++ [x]) = joinL xs ++ 32 :: x
  | [], x, h => absurd rfl h
  | [a], x, _ => by simp [joinL]
  | a :: b :: t, x, _ => by
    have ih := join_snoc (b :: t) x (by simp)
    simp only [List.cons_append] at ih ⊢
    unfold joinL
    rw [ih]
    simp
theorem join_le : ∀ (xs ys : List (List UInt8)), (joinL xs).length ≤ (joinL (xs ++ ys)).length
  | [], ys => Nat.zero_le _
  | [a], [] => by simp
  | [a], b :: t => by simp [joinL]
  | a :: b :: t, ys => by
    have ih := join_le (b :: t) ys
    simp only [List.cons_append] at ih ⊢
    unfold joinL
    simp only [List.length_append, List.length_cons]
    omega
noncomputable def jnL (ts : List Tok) (j : Nat) : List UInt8 := joinL ((ts.take j).map wrT)
theorem jn_zero (ts : List Tok) : jnL ts 0 = [] := by simp [jnL, joinL]
theorem jn_all (ts : List Tok) : jnL ts ts.length = joinL (ts.map wrT) := by simp [jnL]
theorem jn_first {ts : List Tok} {j : Nat} {t : Tok} (h : ts[j]? = some t) (h0 : j = 0) : jnL ts (j + 1) = wrT t := by
  subst h0
  cases ts with
  | nil => simp at h
  | cons a l =>
    simp at h
    subst h
    simp [jnL, joinL]
theorem jn_snoc {ts : List Tok} {j : Nat} {t : Tok} (h : ts[j]? = some t) (h0 : 0 < j) : jnL ts (j + 1) = jnL ts j ++ 32 :: wrT t := by
  have hj := (List.getElem?_eq_some_iff.1 h).1
  have e : ts.take (j + 1) = ts.take j ++ [t] := by rw [List.take_add_one, h]; rfl
  unfold jnL
  rw [e, List.map_append]
  exact join_snoc _ _ (by
    intro hn
    have := congrArg List.length hn
    rw [List.length_map, List.length_take] at this
    simp only [List.length_nil] at this
    omega)
theorem jn_le (ts : List Tok) (j : Nat) : (jnL ts j).length ≤ (joinL (ts.map wrT)).length := by
  have h := join_le ((ts.take j).map wrT) ((ts.drop j).map wrT)
  rw [← List.map_append, List.take_append_drop] at h
  exact h
def BoxT (w : World) (N : Nat) (k p : Int) (x : List UInt8) (a b d : Int) : Prop := w.heap[N]? = some (.cells #[.int .i64 k, .int .i64 p, .string (bytesOf x), .int .i64 a, .int .i64 b, .int .i64 d] 38 (0, 0))
section
variable {w w' : World} {N B : Nat} {k p a b d : Int} {x : List UInt8}
theorem BoxT.keep (h : BoxT w N k p x a b d) (hb : Bel w w') : BoxT w' N k p x a b d := heap_keep hb h
theorem tok_ne : 38 ≠ 5 := by decide
theorem BoxT.oth (h : BoxT w N k p x a b d) (ho : Oth B w w') (hne : N ≠ B) : BoxT w' N k p x a b d :=
  ho N _ h (fun e => hne (by cases e; rfl)) (fun c fz e => by cases e)
theorem BoxT.lt (h : BoxT w N k p x a b d) : N < w.heap.size := (Array.getElem?_eq_some_iff.1 h).1
theorem BoxT.cells (h : BoxT w N k p x a b d) : w.cell? ⟨N, 0, none⟩ = some (.int .i64 k) ∧ w.cell? ⟨N, 1, none⟩ = some (.int .i64 p) ∧ w.cell? ⟨N, 2, none⟩ = some (.string (bytesOf x)) ∧ w.cell? ⟨N, 3, none⟩ = some (.int .i64 a) ∧ w.cell? ⟨N, 4, none⟩ = some (.int .i64 b) ∧ w.cell? ⟨N, 5, none⟩ = some (.int .i64 d) := by
  refine ⟨?_, ?_, ?_, ?_, ?_, ?_⟩ <;> (rw [Lib.cell_of_heap h]; rfl)
end
noncomputable def joinS (ts : List Tok) : List UInt8 × Nat :=
  if ts.all tsnd = true then (if 65536 < (joinL (ts.map wrT)).length then ([], 10) else (joinL (ts.map wrT), 0)) else ([], 2)
noncomputable def joinV (ts : List Tok) : Value := .tuple #[.string (bytesOf (joinS ts).1), .int .i64 ((joinS ts).2 : Nat)]
theorem join1_any (t : Tok) (hx : t.text.length ≤ 9223372036854775807) (w : World) : Calls Tryz.prog 23 #[.agg #[.int .i64 t.kind, .int .i64 t.pos, .string (bytesOf t.text), .int .i64 t.dn, .int .i64 t.ds, .int .i64 t.day]] w fun e w' => e = .returned (.bool (!tsnd t)) ∧ Bel w w' := by
  have C := Lib.hid fun W => xsound_any t hx W
  generalize tsnd t = RES at C ⊢
  go_enter Tryz.func23, Tryz.ntmps23
  go_wp2_with (go_at_call 24; refine (C.out _).mono ?_; rintro e W1 ⟨rfl, hb1⟩)
  go_ret
  refine ⟨rfl, ?_⟩
  refine Bel.trans ?_ hb1
  (repeat (first | with_reducible exact Bel.refl _ | with_reducible refine Bel.setCell ?_ (by first | exact Nat.le_refl _ | (dsimp only; omega)) _ | with_reducible refine Bel.alloc ?_ _ | with_reducible refine Bel.drew ?_ | with_reducible assumption | with_reducible refine Bel.trans ?_ (by assumption)))
abbrev TkS := {t : Tok // t.text.length ≤ 9223372036854775807}
instance : Inhabited TkS := ⟨⟨⟨0, 0, [], 0, 0, 0⟩, by simp⟩⟩
theorem idxT_nil (A : Option Addr) (c : Nat) (fv : Value) (w : World) : Calls Tryz.prog 45 #[.slice A 0 c, fv] w fun e w' => e = .returned (.int .i64 (-1)) ∧ w' = w := by
  go_enter Tryz.func45, Tryz.ntmps45
  go_wp2
  refine wp_loop_rounds 1 ?_
  rw [rounds_succ]
  go_wp2
  go_ret
  exact ⟨rfl, rfl⟩
theorem contT_nil (A : Option Addr) (c : Nat) (fv : Value) (w : World) : Calls Tryz.prog 22 #[.slice A 0 c, fv] w fun e w' => e = .returned (.bool false) ∧ w' = w := by
  have I := Lib.hid fun w => idxT_nil A c fv w
  go_enter Tryz.func22, Tryz.ntmps22
  go_wp2_with (go_at_call 45; refine (I.out _).mono ?_; rintro e w' ⟨rfl, rfl⟩)
  go_ret
  exact ⟨rfl, rfl⟩
theorem contT_any (ts : List Tok) (A : Option Addr) (c : Nat) (w : World) (hT : Toks w A ts) (hs : ∀ t ∈ ts, t.text.length ≤ 9223372036854775807) (hl : ts.length ≤ 9223372036854775807) :
    Calls Tryz.prog 22 #[.slice A ts.length c, .func (.func 23) #[] #[]] w fun e w' => e = .returned (.bool (ts.any fun t => !tsnd t)) ∧ Bel w w' := by
  by_cases h0 : 0 < ts.length
  · obtain ⟨b, off, rfl, hb, hat⟩ := hT.at h0
    have eg : ∀ args w, (callFunc 23 args).run Tryz.prog w = .ok (.enter 23 args) w := enters_of Tryz.func23 (by kernel_rfl) rfl
    obtain ⟨zs, hz⟩ : ∃ zs : List TkS, zs.map (·.1) = ts := ⟨ts.attachWith _ hs, by simp⟩
    have hzl : zs.length = ts.length := by rw [← hz, List.length_map]
    have k := AnyQ.slices_ContainsFunc Tryz.contT 6 Tryz.isAgg38 Tryz.sizeOf38 (fun t : TkS => tkCells t.1) (fun _ => rfl) (fun t => !tsnd t.1) 23 #[] eg b off ts.length c zs w
      (fun W x hW => (join1_any x.1 x.2 W).mono fun e w' ⟨he, hb'⟩ => ⟨he, Bel.trans hW hb'⟩)
      (by omega) (by omega) hb (fun j hj i v hv => by
        have hj' : ts[j]? = some (zs[j]!).1 := by rw [← hz, List.getElem?_map, List.getElem?_eq_getElem hj, getElem!_pos zs j hj]; rfl
        obtain ⟨a0, a1, a2, a3, a4, a5⟩ := hat j _ hj'
        generalize (zs[j]!).1 = t at a0 a1 a2 a3 a4 a5 hv
        match i, hv with
        | 0, hv => simp only [tkCells, List.getElem?_cons_zero, Option.some.injEq] at hv; subst hv; exact a0
        | 1, hv => simp only [tkCells, List.getElem?_cons_succ, List.getElem?_cons_zero, Option.some.injEq] at hv; subst hv; exact a1
        | 2, hv => simp only [tkCells, List.getElem?_cons_succ, List.getElem?_cons_zero, Option.some.injEq] at hv; subst hv; exact a2
        | 3, hv => simp only [tkCells, List.getElem?_cons_succ, List.getElem?_cons_zero, Option.some.injEq] at hv; subst hv; exact a3
        | 4, hv => simp only [tkCells, List.getElem?_cons_succ, List.getElem?_cons_zero, Option.some.injEq] at hv; subst hv; exact a4
        | 5, hv => simp only [tkCells, List.getElem?_cons_succ, List.getElem?_cons_zero, Option.some.injEq] at hv; subst hv; exact a5
        | i + 6, hv => simp [tkCells] at hv)
    rw [← hzl, List.take_length] at k
    rw [hzl] at k
    rw [← hz, List.any_map]
    rw [← hz, List.length_map] at k
    rw [List.length_map]
    exact k
  · obtain rfl : ts = [] := List.eq_nil_of_length_eq_zero (by omega)
    refine (contT_nil A c _ w).mono fun e w' ⟨he, hw⟩ => ⟨he, ?_⟩
    subst hw
    exact Bel.refl _
set_option maxRecDepth 100000 in
set_option maxHeartbeats 8000000 in
theorem xjoin_any (ts : List Tok) (A : Option Addr) (c : Nat) (w : World) (hT : Toks w A ts) (hs : ∀ t ∈ ts, t.text.length ≤ 9223372036854775807) (hl : ts.length ≤ 1152921504606846975) (ht : Tab w) (hm : Mx w) :
    Calls Tryz.prog 14 #[.slice A ts.length c] w fun e w' => e = .returned (joinV ts) ∧ Bel w w' := by
  have C1 := Lib.hid fun W (hW : Bel w W) => contT_any ts A c W (hT.keep hW) hs (by omega)
  have li : (ts.length : Int) ≤ 1152921504606846975 := by omega
  obtain ⟨q, hq⟩ : ∃ q, q = ts.any fun t => !tsnd t := ⟨_, rfl⟩
  have hal : ts.all tsnd = !q := by rw [hq, List.not_any_eq_all_not]; simp
  rw [← hq] at C1
  clear hq
  cases q with
  | true =>
    have OV := Lib.hid (show joinV ts = .tuple #[.string ⟨#[]⟩, .int .i64 2] from by
      unfold joinV joinS
      rw [hal]
      rfl)
    clear hal hT hs ht hm
    go_enter Tryz.func14, Tryz.ntmps14
    go_wp2_with (go_at_call 22; refine (C1.out _ (Bel.refl _)).mono ?_; rintro e W1 ⟨rfl, hb1⟩)
    go_ret2
    rw [OV.out]
    exact ⟨rfl, hb1⟩
  | false =>
    have HAL := Lib.hid (show ∀ t ∈ ts, tsnd t = true from by
      have := hal
      simpa using this)
    have OV := Lib.hid (show joinS ts = if 65536 < (joinL (ts.map wrT)).length then ([], 10) else (joinL (ts.map wrT), 0) from if_pos hal)
    have KT := Lib.hid hT
    have HT := Lib.hid ht
    have HM := Lib.hid hm
    clear hal hs ht hm hT
    go_enter Tryz.func14, Tryz.ntmps14
    go_wp2_with (go_at_call 22; refine (C1.out _ (Bel.refl _)).mono ?_; rintro e W1 ⟨rfl, hb1⟩)
    clear C1
    have HB1 := Lib.hid hb1
    clear hb1
    go_loopg [11] ts.length (fun g i wr => ∃ j : Nat, i = .int .i64 j ∧ j ≤ ts.length ∧ Hid (g = ts.length - j) ∧ Hid (Bld W1 W1.heap.size (jnL ts j) wr) ∧ Hid (Bel W1 wr) ∧ Hid ((jnL ts j).length ≤ 65536))
    case atStart => exact ⟨0, rfl, Nat.zero_le _, rfl, Lib.IsBuilderF.of (Lib.fresh_isBuilder 48 5 W1), (Bel.refl W1).alloc _, by simp [jn_zero, Hid]⟩
    case round =>
      obtain ⟨j, rfl, hj, hg, hI, hb, hle⟩ := hrel
      by_cases hlt : j < ts.length
      · obtain ⟨t, htj⟩ : ∃ t, ts[j]? = some t := ⟨_, List.getElem?_eq_getElem hlt⟩
        have i1 : (j : Int) < ts.length := by omega
        have i0 : (0 : Int) ≤ (j : Int) := by omega
        have hsn := HAL.out t (List.mem_of_getElem? htj)
        have hwl := wr_len hsn
        obtain ⟨b3, o3, rfl, hlt3, hat⟩ := KT.out.at (by omega)
        obtain ⟨k0, k1, k2, k3, k4, k5⟩ := hat j t htj
        have hbw := HB1.out.trans hb.out
        replace k0 := (hbw.cells _ _ hlt3).trans k0
        replace k1 := (hbw.cells _ _ hlt3).trans k1
        replace k2 := (hbw.cells _ _ hlt3).trans k2
        replace k3 := (hbw.cells _ _ hlt3).trans k3
        replace k4 := (hbw.cells _ _ hlt3).trans k4
        replace k5 := (hbw.cells _ _ hlt3).trans k5
        have z1 := Nat.lt_of_lt_of_le hlt3 hbw.size
        have HBW := Lib.hid hbw
        obtain ⟨n, hn⟩ : ∃ n, n = (jnL ts (j + 1)).length := ⟨_, rfl⟩
        have CT := Lib.hid fun W (hW : Bel W1 W) => xtext_any t hsn W (HT.out.keep (HB1.out.trans hW)) (HM.out.keep (HB1.out.trans hW))
        have CL := Lib.hid (show ∀ W, Bld W1 W1.heap.size (jnL ts (j + 1)) W → Calls Tryz.prog 27 #[.pointer (some ⟨W1.heap.size, 0, none⟩)] W fun e w' => e = .returned (.int .i64 n) ∧ w' = W from fun W hW => by
          have h := Tryz.Builder_Len_f W1.heap.size W1.heap.size _ W hW
          rw [Lib.byteCells_length, ← hn] at h
          exact h)
        have HN := Lib.hid hn
        have hJ : Hid (j = 0 → jnL ts (j + 1) = wrT t) := fun h0 => jn_first htj h0
        have hK : Hid (0 < j → jnL ts (j + 1) = jnL ts j ++ 32 :: wrT t) := fun h0 => jn_snoc htj h0
        have hJ0 : Hid (j = 0 → jnL ts j = []) := fun h0 => by subst h0; exact jn_zero ts
        obtain ⟨x, hx⟩ : ∃ x, x = wrT t := ⟨_, rfl⟩
        rw [← hx] at CT hJ hK hwl
        obtain ⟨tk, tp, tx, ta, tb, td⟩ := t
        simp only at k0 k1 k2 k3 k4 k5 CT
        have OT := Lib.hid (show 65536 < n → joinS ts = ([], 10) from fun h => by rw [OV.out, if_pos (by have := jn_le ts (j + 1); have := HN.out; omega)])
        clear hat htj hn hbw hsn hx
        have hcs : j = 0 ∨ 0 < j := by omega
        have h65 : n ≤ 65536 ∨ 65536 < n := by omega
        go_upto_region 7 with fail
        have hbx : BoxT (wr.alloc (.cells #[.int .i64 tk, .int .i64 tp, .string (bytesOf tx), .int .i64 ta, .int .i64 tb, .int .i64 td] 38)) wr.heap.size tk tp tx ta tb td := heap_alloc_new wr _
        have hbw := (Bel.refl wr).alloc (.cells #[.int .i64 tk, .int .i64 tp, .string (bytesOf tx), .int .i64 ta, .int .i64 tb, .int .i64 td] 38)
        have hNb : wr.heap.size ≠ W1.heap.size := by have := bld_lt hI.out; omega
        generalize (wr.alloc (.cells #[.int .i64 tk, .int .i64 tp, .string (bytesOf tx), .int .i64 ta, .int .i64 tb, .int .i64 td] 38)) = W at hbx hbw ⊢
        generalize wr.heap.size = N at hbx hNb ⊢
        have HW := Lib.hid hbw
        have HX := Lib.hid hbx
        have HNB := Lib.hid hNb
        clear hbw hNb k0 k1 k2 k3 k4 k5 z1
        rcases hcs with hj0 | hj0
        · have g0 : decide ((j : Int) > 0) = false := decide_eq_false (by omega)
          have g1 : ¬ (0 : Int) < (j : Int) := by omega
          have WS := Lib.hid (show ∀ W', Bel W W' → Calls Tryz.prog 25 #[.pointer (some ⟨W1.heap.size, 0, none⟩), .string (bytesOf x)] W' fun e w' => e = .returned (.tuple #[.int .i64 (x.length : Nat), .nilIface]) ∧ (Bld W1 W1.heap.size (jnL ts (j + 1)) w' ∧ Bel W1 w') from fun W' hW' => by
            refine (wstr_any (bld_keep hI.out (HW.out.trans hW')) ((hb.out.trans HW.out).trans hW') x _ rfl (by have := hle.out; omega)).mono fun e w' ⟨h1, h2, h3, _⟩ => ⟨h1, ?_, h3⟩
            rw [hJ.out hj0]
            rw [hJ0.out hj0] at h2
            exact h2)
          clear hj0
          obtain ⟨n0, n1, n2, n3, n4, n5⟩ := hbx.cells
          have nz := hbx.lt
          clear hbx
          rcases h65 with h65 | h65
          · have i2 : (n : Int) ≤ 65536 := by omega
            go_wp2_with (first
              | (go_at_call 26; refine (CT.out _ (hb.out.trans HW.out)).mono ?_; rintro e W2 ⟨rfl, hb2⟩; have hb2 := Lib.hid hb2)
              | (go_at_call 25; refine (WS.out _ hb2.out).mono ?_; rintro e W3 ⟨rfl, hI3, hb3⟩; have hI3 := Lib.hid hI3; have hb3 := Lib.hid hb3)
              | (go_at_call 27; refine (CL.out _ hI3.out).mono ?_; rintro e W4 ⟨rfl, rfl⟩))
            go_roundg (ts.length - (j + 1))
            case measure => have := hg.out; omega
            case rel => exact ⟨j + 1, by go_num, by omega, Lib.hid rfl, hI3, hb3, Lib.hid (by rw [← HN.out]; exact h65)⟩
          · have i2 : 65536 < (n : Int) := by omega
            have OT := Lib.hid (OT.out h65)
            go_wp2_with (first
              | (go_at_call 26; refine (CT.out _ (hb.out.trans HW.out)).mono ?_; rintro e W2 ⟨rfl, hb2⟩; have hb2 := Lib.hid hb2)
              | (go_at_call 25; refine (WS.out _ hb2.out).mono ?_; rintro e W3 ⟨rfl, hI3, hb3⟩; have hI3 := Lib.hid hI3; have hb3 := Lib.hid hb3)
              | (go_at_call 27; refine (CL.out _ hI3.out).mono ?_; rintro e W4 ⟨rfl, rfl⟩))
            go_ret2
            refine ⟨?_, HB1.out.trans hb3.out⟩
            unfold joinV
            rw [OT.out] <;> rfl
        · have g0 : decide ((j : Int) > 0) = true := decide_eq_true (by omega)
          have g1 : (0 : Int) < (j : Int) := by omega
          have W0 := Lib.hid (show Calls Tryz.prog 25 #[.pointer (some ⟨W1.heap.size, 0, none⟩), .string ⟨#[32]⟩] W fun e w' => e = .returned (.tuple #[.int .i64 ((1 : Nat) : Int), .nilIface]) ∧ (Bld W1 W1.heap.size (jnL ts j ++ [32]) w' ∧ Bel W1 w' ∧ BoxT w' N tk tp tx ta tb td) from by
            exact (wstr_any (bld_keep hI.out HW.out) (hb.out.trans HW.out) [32] _ rfl (by have := hle.out; simp; omega)).mono fun e w' ⟨h1, h2, h3, h4⟩ => ⟨h1, h2, h3, HX.out.oth h4 HNB.out⟩)
          have WS := Lib.hid (show ∀ W' W'', Bld W1 W1.heap.size (jnL ts j ++ [32]) W' → Bel W1 W' → Bel W' W'' → Calls Tryz.prog 25 #[.pointer (some ⟨W1.heap.size, 0, none⟩), .string (bytesOf x)] W'' fun e w' => e = .returned (.tuple #[.int .i64 (x.length : Nat), .nilIface]) ∧ (Bld W1 W1.heap.size (jnL ts (j + 1)) w' ∧ Bel W1 w') from fun W' W'' k1 k2 k3 => by
            refine (wstr_any (bld_keep k1 k3) (k2.trans k3) x _ rfl (by have := hle.out; simp; omega)).mono fun e w' ⟨h1, h2, h3, _⟩ => ⟨h1, ?_, h3⟩
            rw [hK.out hj0]
            rw [show jnL ts j ++ 32 :: x = jnL ts j ++ [32] ++ x by simp]
            exact h2)
          clear hj0 hbx
          rcases h65 with h65 | h65
          · have i2 : (n : Int) ≤ 65536 := by omega
            go_wp2_with (first
              | (go_at_call 26; refine (CT.out _ hb5.out).mono ?_; rintro e W2 ⟨rfl, hb2⟩; have hb2 := Lib.hid hb2)
              | ((with_reducible refine Calls.mono (W0.out) ?_); rintro e W5 ⟨rfl, hI5, hb5, hX5⟩; have hI5 := Lib.hid hI5; have hb5 := Lib.hid hb5; obtain ⟨n0, n1, n2, n3, n4, n5⟩ := hX5.cells; have nz := hX5.lt; clear hX5)
              | (go_at_call 25; refine (WS.out _ _ hI5.out hb5.out hb2.out).mono ?_; rintro e W3 ⟨rfl, hI3, hb3⟩; have hI3 := Lib.hid hI3; have hb3 := Lib.hid hb3)
              | (go_at_call 27; refine (CL.out _ hI3.out).mono ?_; rintro e W4 ⟨rfl, rfl⟩))
            go_roundg (ts.length - (j + 1))
            case measure => have := hg.out; omega
            case rel => exact ⟨j + 1, by go_num, by omega, Lib.hid rfl, hI3, hb3, Lib.hid (by rw [← HN.out]; exact h65)⟩
          · have i2 : 65536 < (n : Int) := by omega
            have OT := Lib.hid (OT.out h65)
            go_wp2_with (first
              | (go_at_call 26; refine (CT.out _ hb5.out).mono ?_; rintro e W2 ⟨rfl, hb2⟩; have hb2 := Lib.hid hb2)
              | ((with_reducible refine Calls.mono (W0.out) ?_); rintro e W5 ⟨rfl, hI5, hb5, hX5⟩; have hI5 := Lib.hid hI5; have hb5 := Lib.hid hb5; obtain ⟨n0, n1, n2, n3, n4, n5⟩ := hX5.cells; have nz := hX5.lt; clear hX5)
              | (go_at_call 25; refine (WS.out _ _ hI5.out hb5.out hb2.out).mono ?_; rintro e W3 ⟨rfl, hI3, hb3⟩; have hI3 := Lib.hid hI3; have hb3 := Lib.hid hb3)
              | (go_at_call 27; refine (CL.out _ hI3.out).mono ?_; rintro e W4 ⟨rfl, rfl⟩))
            go_ret2
            refine ⟨?_, HB1.out.trans hb3.out⟩
            unfold joinV
            rw [OT.out] <;> rfl
      · obtain rfl : j = ts.length := by omega
        have OT := Lib.hid (show joinS ts = (joinL (ts.map wrT), 0) from by
          have := hle.out
          rw [jn_all] at this
          rw [OV.out, if_neg (by omega)])
        have hI2 := hI.out
        rw [jn_all] at hI2
        have HI2 := Lib.hid hI2
        clear hI2 hI hle
        go_wp2_with (go_at_call 28; refine (bstr_any HI2.out hb.out).mono ?_; rintro e W3 ⟨rfl, _, hb3, _⟩)
        go_ret2
        refine ⟨?_, HB1.out.trans hb3⟩
        unfold joinV
        rw [OT.out] <;> rfl
end Go.Proofs.YtofcjdbodhoacaaGreatDoor
