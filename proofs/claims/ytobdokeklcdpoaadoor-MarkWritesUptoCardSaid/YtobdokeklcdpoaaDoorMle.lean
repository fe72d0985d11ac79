import Derived.Test.YtobdokeklcdpoaaDoorMld
namespace Go.Proofs.YtobdokeklcdpoaaDoor
set_option linter.unusedSimpArgs false
set_option linter.unusedVariables false
open Go.RowKit

/-! Marks are written. -/
theorem idxM_nil (A : Option Addr) (c : Nat) (fv : Value) (w : World) : Calls Tryd.prog 21 #[.slice A 0 c, fv] w fun e w' => e = .returned (.int .i64 (-1)) ∧ w' = w := by
  go_enter Tryd.func21, Tryd.ntmps21
  go_wp2
  refine wp_loop_rounds 1 ?_
  rw [rounds_succ]
  go_wp2
  go_ret
  exact ⟨rfl, rfl⟩
theorem contM_nil (A : Option Addr) (c : Nat) (fv : Value) (w : World) : Calls Tryd.prog 12 #[.slice A 0 c, fv] w fun e w' => e = .returned (.bool false) ∧ w' = w := by
  have I := Lib.hid fun w => idxM_nil A c fv w
  go_enter Tryd.func12, Tryd.ntmps12
  go_wp2_with (go_at_call 21; refine (I.out _).mono ?_; rintro e w' ⟨rfl, rfl⟩)
  go_ret
  exact ⟨rfl, rfl⟩
abbrev MkP (w : World) := {x : Mk × Option Addr × Nat // Row w x.2.1 (atsCells x.1.attrs) ∧ Sml x.1}
theorem mks_list {w : World} {b : Nat} : ∀ (ms : List Mk) (off : Nat), (∀ j m, ms[j]? = some m → MkAt w b (off + j * 5) m) → (∀ m ∈ ms, Sml m) →
    ∃ zs : List (MkP w), zs.map (fun z => z.1.1) = ms ∧ ∀ j z, zs[j]? = some z → ∀ i u, (mkHead z.1.1 z.1.2.1 z.1.2.2)[i]? = some u → w.cell? ⟨b, off + j * 5 + i, none⟩ = some u
  | [], off, _, _ => ⟨[], rfl, fun j z h => by simp at h⟩
  | m :: ms, off, h, hs => by
    obtain ⟨A, c, k0, k1, k2, k3, k4, k5⟩ := h 0 m rfl
    obtain ⟨zs, hz, hc⟩ := mks_list ms (off + 5) (fun j n hn => by
      have := h (j + 1) n (by simpa using hn)
      rwa [show off + (j + 1) * 5 = off + 5 + j * 5 by omega] at this) (fun n hn => hs n (by simp [hn]))
    refine ⟨⟨(m, A, c), k5, hs m (by simp)⟩ :: zs, by simp [hz], fun j z hj i u hu => ?_⟩
    cases j with
    | zero =>
      simp only [List.getElem?_cons_zero, Option.some.injEq] at hj
      subst hj
      simp only [mkHead] at hu
      rw [show off + 0 * 5 + i = off + i by omega]
      match i, hu with
      | 0, hu => simp only [List.getElem?_cons_zero, Option.some.injEq] at hu; subst hu; exact k0
      | 1, hu => simp only [List.getElem?_cons_succ, List.getElem?_cons_zero, Option.some.injEq] at hu; subst hu; exact k1
      | 2, hu => simp only [List.getElem?_cons_succ, List.getElem?_cons_zero, Option.some.injEq] at hu; subst hu; exact k2
      | 3, hu => simp only [List.getElem?_cons_succ, List.getElem?_cons_zero, Option.some.injEq] at hu; subst hu; exact k3
      | 4, hu => simp only [List.getElem?_cons_succ, List.getElem?_cons_zero, Option.some.injEq] at hu; subst hu; exact k4
      | i + 5, hu => simp at hu
    | succ j =>
      have := hc j z (by simpa using hj) i u hu
      rwa [show off + 5 + j * 5 + i = off + (j + 1) * 5 + i by omega] at this
theorem contM_any (ms : List Mk) (A : Option Addr) (c : Nat) (w : World) (hM : Mks w A ms) (hs : ∀ m ∈ ms, Sml m) (hl : ms.length ≤ 9223372036854775807) :
    Calls Tryd.prog 12 #[.slice A ms.length c, .func (.func 13) #[] #[]] w fun e w' => e = .returned (.bool (ms.any fun m => !sndM m)) ∧ Bel w w' := by
  by_cases h0 : 0 < ms.length
  · obtain ⟨b, off, rfl, hb, hat⟩ := hM h0
    have eg : ∀ args w, (callFunc 13 args).run Tryd.prog w = .ok (.enter 13 args) w := enters_of Tryd.func13 (by kernel_rfl) rfl
    obtain ⟨zs, hz, hc⟩ := mks_list ms off hat hs
    haveI : Inhabited (MkP w) := ⟨⟨(⟨3, 0, [], [], []⟩, none, 0), fun h => absurd h (by decide), by simp [Sml]⟩⟩
    have hzl : zs.length = ms.length := by rw [← hz, List.length_map]
    have k := AnyQ.slices_ContainsFunc Tryd.contM 5 Tryd.isAgg31 Tryd.sizeOf31 (fun t : MkP w => mkHead t.1.1 t.1.2.1 t.1.2.2) (fun _ => rfl) (fun t => !sndM t.1.1) 13 #[] eg b off ms.length c zs w
      (fun W x hW => (text1_any x.1.1 x.1.2.1 x.1.2.2 W (x.2.1.keep hW) x.2.2).mono fun e w' ⟨he, hb'⟩ => ⟨he, Bel.trans hW hb'⟩)
      (by omega) (by omega) hb (fun j hj i v hv => hc j zs[j]! (by rw [getElem!_pos zs j hj]; exact List.getElem?_eq_getElem hj) i v hv)
    rw [← hzl, List.take_length] at k
    rw [hzl] at k
    rw [← hz, List.any_map]
    rw [← hz, List.length_map] at k
    rw [List.length_map]
    exact k
  · obtain rfl : ms = [] := List.eq_nil_of_length_eq_zero (by omega)
    refine (contM_nil A c _ w).mono fun e w' ⟨he, hw⟩ => ⟨he, ?_⟩
    subst hw
    exact Bel.refl _
def textV (ms : List Mk) : Value := .tuple #[.string (bytesOf (textS ms).1), .int .i64 ((textS ms).2 : Nat)]
theorem textL_take {ms : List Mk} {j : Nat} {m : Mk} (h : ms[j]? = some m) : textL (ms.take (j + 1)) = textL (ms.take j) ++ markT m := by
  rw [take_snoc h]
  simp [textL]
theorem textL_le (ms : List Mk) (j : Nat) : (textL (ms.take j)).length ≤ (textL ms).length := by
  have h1 : textL ms = textL (ms.take j) ++ textL (ms.drop j) := by
    unfold textL
    rw [← List.flatMap_append, List.take_append_drop]
  rw [h1, List.length_append]
  omega
set_option maxRecDepth 100000 in
set_option maxHeartbeats 4000000 in
theorem text_any (ms : List Mk) (A : Option Addr) (c : Nat) (w : World) (hM : Mks w A ms) (hs : ∀ m ∈ ms, Sml m) (hl : ms.length ≤ 1152921504606846975) :
    Calls Tryd.prog 7 #[.slice A ms.length c] w fun e w' => e = .returned (textV ms) ∧ Bel w w' := by
  have C1 := Lib.hid fun W (hW : Bel w W) => contM_any ms A c W (hM.keep hW) hs (by omega)
  have li : (ms.length : Int) ≤ 1152921504606846975 := by omega
  obtain ⟨q, hq⟩ : ∃ q, q = ms.any fun m => !sndM m := ⟨_, rfl⟩
  have hal : ms.all sndM = !q := by rw [hq, List.not_any_eq_all_not]; simp
  rw [← hq] at C1
  clear hq
  cases q with
  | true =>
    have OV := Lib.hid (show textV ms = .tuple #[.string ⟨#[]⟩, .int .i64 2] from by
      unfold textV textS
      rw [hal]
      rfl)
    clear hal hM hs
    go_enter Tryd.func7, Tryd.ntmps7
    go_wp2_with (go_at_call 12; refine (C1.out _ (Bel.refl _)).mono ?_; rintro e W1 ⟨rfl, hb1⟩)
    go_ret2
    rw [OV.out]
    exact ⟨rfl, hb1⟩
  | false =>
    have HAL := Lib.hid (show ∀ m ∈ ms, sndM m = true from by
      have := hal
      simpa using this)
    have OV := Lib.hid (show textS ms = if 65536 < (textL ms).length then ([], 10) else (textL ms, 0) from if_pos hal)
    have KM := Lib.hid fun W (hW : Bel w W) => hM.keep hW
    have HS := Lib.hid hs
    clear hal hM hs
    go_enter Tryd.func7, Tryd.ntmps7
    go_wp2_with (go_at_call 12; refine (C1.out _ (Bel.refl _)).mono ?_; rintro e W1 ⟨rfl, hb1⟩)
    clear C1
    replace KM := Lib.hid (KM.out W1 hb1)
    have HB1 := Lib.hid hb1
    clear hb1
    go_loopg [11] ms.length (fun g i wr => ∃ j : Nat, i = .int .i64 j ∧ j ≤ ms.length ∧ Hid (g = ms.length - j) ∧ Hid (Bld W1 W1.heap.size (textL (ms.take j)) wr) ∧ Hid (Bel W1 wr) ∧ Hid ((textL (ms.take j)).length ≤ 65536))
    case atStart => exact ⟨0, rfl, Nat.zero_le _, rfl, Lib.IsBuilderF.of (Lib.fresh_isBuilder 42 5 W1), (Bel.refl W1).alloc _, by simp [textL, Hid]⟩
    case round =>
      obtain ⟨j, rfl, hj, hg, hI, hb, hle⟩ := hrel
      by_cases hlt : j < ms.length
      · obtain ⟨m, hm⟩ : ∃ m, ms[j]? = some m := ⟨_, List.getElem?_eq_getElem hlt⟩
        have hsm := Lib.hid (HS.out m (List.mem_of_getElem? hm))
        have hsn := Lib.hid (HAL.out m (List.mem_of_getElem? hm))
        have hTK := textL_take hm
        have i1 : (j : Int) < ms.length := by omega
        obtain ⟨b3, o3, rfl, hlt3, hat⟩ := KM.out (by omega)
        obtain ⟨A1, c1, k0, k1, k2, k3, k4, k5⟩ := hat j m hm
        replace k0 := (hb.out.cells _ _ hlt3).trans k0
        replace k1 := (hb.out.cells _ _ hlt3).trans k1
        replace k2 := (hb.out.cells _ _ hlt3).trans k2
        replace k3 := (hb.out.cells _ _ hlt3).trans k3
        replace k4 := (hb.out.cells _ _ hlt3).trans k4
        have K5 := Lib.hid k5
        have z1 := Nat.lt_of_lt_of_le hlt3 hb.out.size
        obtain ⟨n, hn⟩ : ∃ n, n = (textL (ms.take (j + 1))).length := ⟨_, rfl⟩
        have TK := Lib.hid hTK
        obtain ⟨kd, ps, nm, al, tx⟩ := m
        simp only at k0 k1 k2 k3 k4
        have CL := Lib.hid (show ∀ W, Bld W1 W1.heap.size (textL (ms.take (j + 1))) W → Calls Tryd.prog 16 #[.pointer (some ⟨W1.heap.size, 0, none⟩)] W fun e w' => e = .returned (.int .i64 n) ∧ w' = W from fun W hW => by
          have h := Tryd.Builder_Len_f W1.heap.size W1.heap.size _ W hW
          rw [Lib.byteCells_length, ← hn] at h
          exact h)
        have WR := Lib.hid (show ∀ W, Bel wr W → Calls Tryd.prog 15 #[.pointer (some ⟨W1.heap.size, 0, none⟩), mkV ⟨kd, ps, nm, al, tx⟩ A1 c1] W fun e w' => e = .returned (.tuple #[]) ∧ (Bld W1 W1.heap.size (textL (ms.take (j + 1))) w' ∧ Bel W1 w') from fun W hW => by
          refine (write_any (bld_keep hI.out hW) (hb.out.trans hW) K5.out hsm.out hsn.out (by have := hle.out; omega)).mono fun e w' ⟨h1, h2, h3, _⟩ => ⟨h1, ?_, h3⟩
          rw [TK.out]
          exact h2)
        unfold mkV at WR
        simp only at WR
        clear hat hm k5 hTK
        by_cases h65 : n ≤ 65536
        · have i2 : (n : Int) ≤ 65536 := by omega
          have HN := Lib.hid hn
          clear hn
          go_wp2_with (first
            | (go_at_call 15; refine (WR.out _ ((Bel.refl _).alloc _)).mono ?_; rintro e W2 ⟨rfl, hI2, hb2⟩)
            | (go_at_call 16; refine (CL.out _ hI2).mono ?_; rintro e W3 ⟨rfl, rfl⟩))
          go_roundg (ms.length - (j + 1))
          case measure => have := hg.out; omega
          case rel => exact ⟨j + 1, by go_num, by omega, Lib.hid rfl, Lib.hid hI2, Lib.hid hb2, Lib.hid (by rw [← HN.out]; exact h65)⟩
        · have i2 : 65536 < (n : Int) := by omega
          have OT := Lib.hid (show textS ms = ([], 10) from by rw [OV.out, if_pos (by have := textL_le ms (j + 1); omega)])
          clear hn
          go_wp2_with (first
            | (go_at_call 15; refine (WR.out _ ((Bel.refl _).alloc _)).mono ?_; rintro e W2 ⟨rfl, hI2, hb2⟩)
            | (go_at_call 16; refine (CL.out _ hI2).mono ?_; rintro e W3 ⟨rfl, rfl⟩))
          go_ret2
          refine ⟨?_, HB1.out.trans hb2⟩
          unfold textV
          rw [OT.out] <;> rfl
      · obtain rfl : j = ms.length := by omega
        have OT := Lib.hid (show textS ms = (textL ms, 0) from by
          have := hle.out
          rw [List.take_length] at this
          rw [OV.out, if_neg (by omega)])
        have hI2 := hI.out
        rw [List.take_length] at hI2
        have HI2 := Lib.hid hI2
        clear hI2 hI hle
        go_wp2_with (go_at_call 17; refine (Tryd.Builder_String_any_k W1.heap.size W1.heap.size (textL ms) _ HI2.out hb.out.size).mono ?_; rintro e W3 ⟨rfl, _, hb3, _⟩)
        go_ret2
        refine ⟨?_, HB1.out.trans (Below.trans hb.out hb3)⟩
        unfold textV
        rw [OT.out] <;> rfl
end Go.Proofs.YtobdokeklcdpoaaDoor
