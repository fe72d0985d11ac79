import Derived.Test.YtcknjhgolajclaaDoorDgb
import Derived.Test.YtcknjhgolajclaaDoorDes
import Derived.Test.YtcknjhgolajclaaDoorDet
import Derived.Deep.DeepCutAuto
namespace Go.Proofs.YtcknjhgolajclaaDoor
set_option linter.unusedSimpArgs false
set_option linter.unusedVariables false
open Go.RowKit

theorem addV_sh (n s m t : Int) : ∃ a b e, addV n s m t = .tuple #[decA a b, .int .i64 e] ∧ (e = 0 ∨ e = 2 ∨ e = 3) := by
  rcases addV_cases n s m t with h | h | ⟨a, b, h⟩
  · exact ⟨_, _, _, h, .inr (.inr rfl)⟩
  · exact ⟨_, _, _, h, .inr (.inl rfl)⟩
  · exact ⟨_, _, _, h, .inl rfl⟩
theorem mulV_sh (n s m t : Int) : ∃ a b e, mulV n s m t = .tuple #[decA a b, .int .i64 e] := by
  unfold mulV
  split
  · split
    · exact decV_sh _ _ _
    · exact decV_sh _ _ _
  · exact ⟨_, _, _, rfl⟩
theorem snd_k {k : Int} (h1 : -32768 ≤ k) (h2 : k ≤ 32767) : SndD k 0 := ⟨by omega, by omega, ⟨by omega, by omega⟩, .inl rfl⟩
theorem i16_of {n : Int} (h : (Lit.int .i16 n).wf = true) : -32768 ≤ n ∧ n ≤ 32767 := by
  simp [Lit.wf, IntKind.min, IntKind.max, IntKind.signed, IntKind.bits] at h
  exact ⟨by omega, by omega⟩
set_option maxRecDepth 100000 in
set_option maxHeartbeats 8000000 in
/-- Sums and products do not hang on the order; a sum with something greater is greater; a quotient of a product by a whole factor is the other one. -/
theorem law_Laws (n s m t c d k : Int) (hk : -32768 ≤ k ∧ k ≤ 32767) (w : World) (ht : Tab w) :
    Calls Tryd.prog 9 #[decA n s, decA m t, decA c d, .int .i16 k] w fun e w' => e = .returned (.bool true) ∧ Bel w w' := by
  obtain ⟨x1, x2, e1, hx, he1⟩ := addV_sh n s m t
  obtain ⟨p1, p2, g1, hp⟩ := mulV_sh n s m t
  have a1 := fun w => add_any n s m t w
  have a2 := fun w => add_any m t n s w
  have m1 := fun w => mul_any n s m t w
  have m2 := fun w => mul_any m t n s w
  rw [addV_comm m t n s, hx] at a2
  rw [hx] at a1
  rw [mulV_comm m t n s, hp] at m2
  rw [hp] at m1
  have A1 := Lib.hid a1
  have A2 := Lib.hid a2
  have M1 := Lib.hid m1
  have M2 := Lib.hid m2
  have HX := Lib.hid hx
  have HE := Lib.hid he1
  obtain ⟨k1, k2⟩ := hk
  clear a1 a2 m1 m2 hx hp he1
  go_enter Tryd.func9, Tryd.ntmps9
  go_wp2_with fail
  refine under_call ((((Bel.refl w).alloc _).alloc _).alloc _) fun W hc hf hz hb => ?_
  have hA : Arr2 W w.heap.size n s := by simp [Arr2, hz, hc, hf, go_sem]
  have hB : Arr2 W (w.heap.size + 1) m t := by simp [Arr2, hz, hc, hf, go_sem]
  have hC : Arr2 W (w.heap.size + 1 + 1) c d := by simp [Arr2, hz, hc, hf, go_sem]
  have htW : Tab W := ht.keep hb
  clear hc hf hz
  go_upto_region 5 with (first
    | (go_at_call 25; with_reducible refine (A1.out _).mono ?_; rintro e W1 ⟨rfl, hb1⟩
       replace hA := hA.keep hb1; replace hB := hB.keep hb1; replace hC := hC.keep hb1; replace htW := htW.keep hb1; replace hb := hb.trans hb1; have l1 := hA.1; have l2 := hB.1; have l3 := hC.1; clear hb1)
    | (go_at_call 25; with_reducible refine (A2.out _).mono ?_; rintro e W2 ⟨rfl, hb1⟩
       have hX : Arr2 W2 W1.heap.size x1 x2 := Arr2.keep (w := W1.alloc (.cells #[.int .i64 x1, .int .i64 x2] 23)) (by simp [Arr2, go_sem]) hb1
       have hk := Bel.trans ((Bel.refl W1).alloc _) hb1
       replace hA := hA.keep hk; replace hB := hB.keep hk; replace hC := hC.keep hk; replace htW := htW.keep hk; replace hb := hb.trans hk; have l4 := hA.1; have l5 := hB.1; have l6 := hC.1; clear hb1 hk)
    | (go_at_call 15; with_reducible refine (M1.out _).mono ?_; rintro e W3 ⟨rfl, hb1⟩
       have hY : Arr2 W3 W2.heap.size x1 x2 := Arr2.keep (w := W2.alloc (.cells #[.int .i64 x1, .int .i64 x2] 23)) (by simp [Arr2, go_sem]) hb1
       have hk := Bel.trans ((Bel.refl W2).alloc _) hb1
       replace hX := hX.keep hk; replace hA := hA.keep hk; replace hB := hB.keep hk; replace hC := hC.keep hk; replace htW := htW.keep hk; replace hb := hb.trans hk; have l7 := hA.1; have l8 := hB.1; have l9 := hC.1; clear hb1 hk)
    | (go_at_call 15; with_reducible refine (M2.out _).mono ?_; rintro e W4 ⟨rfl, hb1⟩
       have hP : Arr2 W4 W3.heap.size p1 p2 := Arr2.keep (w := W3.alloc (.cells #[.int .i64 p1, .int .i64 p2] 23)) (by simp [Arr2, go_sem]) hb1
       have hk := Bel.trans ((Bel.refl W3).alloc _) hb1
       replace hX := hX.keep hk; replace hY := hY.keep hk; replace hA := hA.keep hk; replace hB := hB.keep hk; replace hC := hC.keep hk; replace htW := htW.keep hk; replace hb := hb.trans hk; have l10 := hA.1; have l11 := hB.1; have l12 := hC.1; clear hb1 hk))
  clear A1 A2 M1 M2
  by_cases h0 : e1 = 0
  · subst h0
    obtain ⟨-, -, sa, sb⟩ := addV_inv HX.out
    have SA := Lib.hid sa
    have SB := Lib.hid sb
    obtain ⟨z1, z2, i1, hz, -⟩ := addV_sh c d m t
    have a3 := fun w => add_any c d m t w
    rw [hz] at a3
    have A3 := Lib.hid a3
    have HZ := Lib.hid hz
    have HSK := Lib.hid (snd_k k1 k2)
    have hsk := Lib.hid (sndB_t (snd_k k1 k2))
    clear a3 hz sa sb HE
    have hvar : (i1 = 0 ∧ ∃ g, (∀ w, Calls Tryd.prog 27 #[decA n s, decA c d] w fun e w' => e = .returned (.tuple #[.int .i64 g, .int .i64 0]) ∧ Bel w w') ∧
        (∀ w, Calls Tryd.prog 27 #[decA x1 x2, decA z1 z2] w fun e w' => e = .returned (.tuple #[.int .i64 g, .int .i64 0]) ∧ Bel w w')) ∨
        ((i1 == 0) = false ∧ ¬ i1 = 0 ∧ ∃ g j, (∀ w, Calls Tryd.prog 27 #[decA n s, decA c d] w fun e w' => e = .returned (.tuple #[.int .i64 g, .int .i64 j]) ∧ Bel w w')) := by
      by_cases hi : i1 = 0
      · subst hi
        obtain ⟨-, -, sc, -⟩ := addV_inv HZ.out
        have h1 := cmp_add HX.out HZ.out
        have h2 : cmpV n s c d = .tuple #[.int .i64 (sgn (unt n s) (unt c d)), .int .i64 0] := if_pos ⟨SA.out, sc⟩
        refine .inl ⟨rfl, sgn (unt n s) (unt c d), fun w => ?_, fun w => ?_⟩
        · rw [← h2]; exact cmp_any n s c d w
        · rw [← h2, ← h1]; exact cmp_any x1 x2 z1 z2 w
      · refine .inr ⟨by simpa using hi, hi, ?_⟩
        by_cases h : SndD n s ∧ SndD c d
        · have e : cmpV n s c d = .tuple #[.int .i64 (sgn (unt n s) (unt c d)), .int .i64 0] := if_pos h
          refine ⟨sgn (unt n s) (unt c d), 0, fun w => ?_⟩
          rw [← e]
          exact cmp_any n s c d w
        · have e : cmpV n s c d = .tuple #[.int .i64 0, .int .i64 2] := if_neg h
          refine ⟨0, 2, fun w => ?_⟩
          rw [← e]
          exact cmp_any n s c d w
    clear HX HZ
    rcases hvar with ⟨rfl, g, c1, c2⟩ | ⟨e1, e2, g, j, c1⟩
    · have C1 := Lib.hid c1
      have C2 := Lib.hid c2
      clear c1 c2
      go_upto_region 15 with (first
        | (go_at_call 12; refine (awake_any _ (htW.keep ((Bel.refl W4).alloc _))).mono ?_; rintro e W5 ⟨rfl, hb1⟩
           have hQ : Arr2 W5 W4.heap.size p1 p2 := Arr2.keep (w := W4.alloc (.cells #[.int .i64 p1, .int .i64 p2] 23)) (by simp [Arr2, go_sem]) hb1
           have hk := Bel.trans ((Bel.refl W4).alloc _) hb1
           replace hP := hP.keep hk; replace hX := hX.keep hk; replace hY := hY.keep hk; replace hA := hA.keep hk; replace hB := hB.keep hk; replace hC := hC.keep hk; replace hb := hb.trans hk; clear hb1 hk htW)
        | (go_at_call 25; with_reducible refine (A3.out _).mono ?_; rintro e W6 ⟨rfl, hb1⟩
           replace hX := hX.keep hb1; replace hA := hA.keep hb1; replace hC := hC.keep hb1; replace hb := hb.trans hb1; have l13 := hA.1; have l14 := hC.1; have l15 := hX.1; clear hb1 hB hP hY hQ)
        | (go_at_call 27; with_reducible refine (C1.out _).mono ?_; rintro e Wl ⟨rfl, hb1⟩
           have hZ : Arr2 Wl W6.heap.size z1 z2 := Arr2.keep (w := W6.alloc (.cells #[.int .i64 z1, .int .i64 z2] 23)) (by simp [Arr2, go_sem]) hb1
           have hk := Bel.trans ((Bel.refl W6).alloc _) hb1
           replace hX := hX.keep hk; replace hA := hA.keep hk; replace hb := hb.trans hk; have l16 := hA.1; have l17 := hX.1; clear hb1 hk hC)
        | (go_at_call 27; with_reducible refine (C2.out _).mono ?_; rintro e Wl ⟨rfl, hb1⟩
           replace hA := hA.keep hb1; replace hb := hb.trans hb1; have l18 := hA.1; clear hb1 hX hZ))
      clear A3 SB
      by_cases hk0 : k = 0
      · subst hk0
        clear HSK hsk
        go_wp2_with fail
        go_ret
        exact ⟨rfl, hb.alloc _⟩
      · have f1 : (k == 0) = false := by simpa using hk0
        have mk := fun w => mul_any n s k 0 w
        rcases mulV_k SA.out HSK.out with hm | ⟨t1, t2, hm⟩
        · rw [hm] at mk
          have MK := Lib.hid mk
          clear mk hm
          go_wp2_with (first
            | (go_at_call 14; refine (rsound_any k 0 _).mono ?_; rintro e W9 ⟨rfl, hb1⟩; rw [hsk.out]
               have hK : Arr2 W9 Wl.heap.size k 0 := Arr2.keep (w := Wl.alloc (.cells #[.int .i64 k, .int .i64 0] 23)) (by simp [Arr2, go_sem]) hb1
               have hk := Bel.trans ((Bel.refl Wl).alloc _) hb1
               replace hA := hA.keep hk; replace hb := hb.trans hk; clear hb1 hk)
            | (go_at_call 15; with_reducible refine (MK.out _).mono ?_; rintro e W10 ⟨rfl, hb1⟩; replace hb := hb.trans hb1; clear hb1 hA hK))
          go_ret
          exact ⟨rfl, hb.alloc _⟩
        · rw [hm] at mk
          have MK := Lib.hid mk
          have dk := fun w => div_any t1 t2 k 0 w
          rw [div_mul SA.out HSK.out hk0 hm] at dk
          have DK := Lib.hid dk
          clear mk hm dk
          go_wp2_with (first
            | (go_at_call 14; refine (rsound_any k 0 _).mono ?_; rintro e W9 ⟨rfl, hb1⟩; rw [hsk.out]
               have hK : Arr2 W9 Wl.heap.size k 0 := Arr2.keep (w := Wl.alloc (.cells #[.int .i64 k, .int .i64 0] 23)) (by simp [Arr2, go_sem]) hb1
               have hk := Bel.trans ((Bel.refl Wl).alloc _) hb1
               replace hA := hA.keep hk; replace hb := hb.trans hk; clear hb1 hk)
            | (go_at_call 15; with_reducible refine (MK.out _).mono ?_; rintro e W10 ⟨rfl, hb1⟩; replace hA := hA.keep hb1; replace hK := hK.keep hb1; replace hb := hb.trans hb1; have l20 := hA.1; have l21 := hK.1; clear hb1)
            | (go_at_call 17; with_reducible refine (DK.out _).mono ?_; rintro e W11 ⟨rfl, hb1⟩
               have hk := Bel.trans ((Bel.refl W10).alloc _) hb1
               replace hA := hA.keep hk; replace hb := hb.trans hk; have l22 := hA.1; clear hb1 hk hK))
          go_ret
          exact ⟨rfl, hb.alloc _⟩
    · have C1 := Lib.hid c1
      clear c1
      go_upto_region 15 with (first
        | (go_at_call 12; refine (awake_any _ (htW.keep ((Bel.refl W4).alloc _))).mono ?_; rintro e W5 ⟨rfl, hb1⟩
           have hQ : Arr2 W5 W4.heap.size p1 p2 := Arr2.keep (w := W4.alloc (.cells #[.int .i64 p1, .int .i64 p2] 23)) (by simp [Arr2, go_sem]) hb1
           have hk := Bel.trans ((Bel.refl W4).alloc _) hb1
           replace hP := hP.keep hk; replace hX := hX.keep hk; replace hY := hY.keep hk; replace hA := hA.keep hk; replace hB := hB.keep hk; replace hC := hC.keep hk; replace hb := hb.trans hk; clear hb1 hk htW)
        | (go_at_call 25; with_reducible refine (A3.out _).mono ?_; rintro e W6 ⟨rfl, hb1⟩
           replace hA := hA.keep hb1; replace hC := hC.keep hb1; replace hb := hb.trans hb1; have l13 := hA.1; have l14 := hC.1; clear hb1 hB hX hP hY hQ)
        | (go_at_call 27; with_reducible refine (C1.out _).mono ?_; rintro e Wl ⟨rfl, hb1⟩
           have hk := Bel.trans ((Bel.refl W6).alloc _) hb1
           replace hA := hA.keep hk; replace hb := hb.trans hk; have l16 := hA.1; clear hb1 hk hC))
      clear A3 SB
      by_cases hk0 : k = 0
      · subst hk0
        clear HSK hsk
        go_wp2_with fail
        go_ret
        exact ⟨rfl, hb.alloc _⟩
      · have f1 : (k == 0) = false := by simpa using hk0
        have mk := fun w => mul_any n s k 0 w
        rcases mulV_k SA.out HSK.out with hm | ⟨t1, t2, hm⟩
        · rw [hm] at mk
          have MK := Lib.hid mk
          clear mk hm
          go_wp2_with (first
            | (go_at_call 14; refine (rsound_any k 0 _).mono ?_; rintro e W9 ⟨rfl, hb1⟩; rw [hsk.out]
               have hK : Arr2 W9 Wl.heap.size k 0 := Arr2.keep (w := Wl.alloc (.cells #[.int .i64 k, .int .i64 0] 23)) (by simp [Arr2, go_sem]) hb1
               have hk := Bel.trans ((Bel.refl Wl).alloc _) hb1
               replace hA := hA.keep hk; replace hb := hb.trans hk; clear hb1 hk)
            | (go_at_call 15; with_reducible refine (MK.out _).mono ?_; rintro e W10 ⟨rfl, hb1⟩; replace hb := hb.trans hb1; clear hb1 hA hK))
          go_ret
          exact ⟨rfl, hb.alloc _⟩
        · rw [hm] at mk
          have MK := Lib.hid mk
          have dk := fun w => div_any t1 t2 k 0 w
          rw [div_mul SA.out HSK.out hk0 hm] at dk
          have DK := Lib.hid dk
          clear mk hm dk
          go_wp2_with (first
            | (go_at_call 14; refine (rsound_any k 0 _).mono ?_; rintro e W9 ⟨rfl, hb1⟩; rw [hsk.out]
               have hK : Arr2 W9 Wl.heap.size k 0 := Arr2.keep (w := Wl.alloc (.cells #[.int .i64 k, .int .i64 0] 23)) (by simp [Arr2, go_sem]) hb1
               have hk := Bel.trans ((Bel.refl Wl).alloc _) hb1
               replace hA := hA.keep hk; replace hb := hb.trans hk; clear hb1 hk)
            | (go_at_call 15; with_reducible refine (MK.out _).mono ?_; rintro e W10 ⟨rfl, hb1⟩; replace hA := hA.keep hb1; replace hK := hK.keep hb1; replace hb := hb.trans hb1; have l20 := hA.1; have l21 := hK.1; clear hb1)
            | (go_at_call 17; with_reducible refine (DK.out _).mono ?_; rintro e W11 ⟨rfl, hb1⟩
               have hk := Bel.trans ((Bel.refl W10).alloc _) hb1
               replace hA := hA.keep hk; replace hb := hb.trans hk; have l22 := hA.1; clear hb1 hk hK))
          go_ret
          exact ⟨rfl, hb.alloc _⟩
  · have e2 : (e1 != 0) = true := by simpa using h0
    clear HX HE
    go_wp2_with (go_at_call 12; refine (awake_any _ (htW.keep ((Bel.refl W4).alloc _))).mono ?_; rintro e W5 ⟨rfl, hb1⟩
                 have hQ : Arr2 W5 W4.heap.size p1 p2 := Arr2.keep (w := W4.alloc (.cells #[.int .i64 p1, .int .i64 p2] 23)) (by simp [Arr2, go_sem]) hb1
                 have hk := Bel.trans ((Bel.refl W4).alloc _) hb1
                 replace hP := hP.keep hk; replace hX := hX.keep hk; replace hY := hY.keep hk; replace hb := hb.trans hk; clear hb1 hk htW)
    go_ret
    exact ⟨rfl, hb⟩
end Go.Proofs.YtcknjhgolajclaaDoor
