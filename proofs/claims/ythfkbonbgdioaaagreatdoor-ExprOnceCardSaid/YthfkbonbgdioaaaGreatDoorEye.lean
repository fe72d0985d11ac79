import Derived.Test.YthfkbonbgdioaaaGreatDoorEyd
namespace Go.Proofs.YthfkbonbgdioaaaGreatDoor
set_option linter.unusedSimpArgs false
set_option linter.unusedVariables false
open Go.RowKit
/-! What is read is sound, and what is written of it is read as the same again. -/
set_option maxRecDepth 100000 in
set_option maxHeartbeats 8000000 in
theorem law_Once (s : ByteArray) (hs : s.size ≤ 9223372036854775807) (w : World) (hT : Tab w) (hm : Mx w) :
    Calls Tryz.prog 5 #[.string s] w fun e w' => e = .returned (.bool true) ∧ Bel w w' := by
  have CA := Lib.hid fun W (hW : Bel w W) => awake_T W (hT.keep hW) (hm.keep hW)
  have si : (s.size : Int) ≤ 9223372036854775807 := by omega
  by_cases h3 : s.size ≤ 3000
  · have h3i : ¬ (3000 : Int) < (s.size : Int) := by omega
    by_cases he : (parE s).2.2 = 0
    · obtain ⟨x, n0, hpu⟩ : ∃ x n, parE s = (x, n, 0) := ⟨(parE s).1, (parE s).2.1, by rw [← he]⟩
      obtain ⟨rfl, hsn, -⟩ := parE_ok hpu
      have hok := snd_ok hsn
      have hsm := par_sm hpu
      have hsh : (txX x).length ≤ 65536 := by have := par_short hpu; omega
      have CP := Lib.hid fun W (hW : Bel w W) => eparse_is hpu hs W (hm.keep hW)
      have CT := Lib.hid fun A c W (hW : Bel w W) (h2 : Lie (fun _ => True) W A x.ks) => etext_any x A c W hsm h2 (hT.keep hW) (hm.keep hW)
      have V : etxV x = .tuple #[.string (bytesOf (txX x)), .int .i64 0] := by unfold etxV; rw [if_pos hsn, if_pos hsh]
      rw [V] at CT
      have CS := Lib.hid fun A c W (h2 : Lie (fun _ => True) W A x.ks) => esound_any x (fun _ => True) A c W hsm h2
      rw [hsn] at CS
      have CQ := Lib.hid fun W (hW : Bel w W) => eparse_is (par_tx hsn hsh) (by rw [bytesOf_size]; omega) W (hm.keep hW)
      have CM := Lib.hid fun A B ca cb W (h1 : Lie (fun _ => True) W A x.ks) (h2 : Lie (fun _ => True) W B x.ks) => xsame_any x W A B ca cb hok h1 h2
      generalize bytesOf (txX x) = txt at CT CQ
      clear hs hT hm V hsn hok hsm hsh hpu he si
      obtain ⟨o, ⟨vk, vn, vs, vt, vm⟩, nm, ks⟩ := x
      simp only [Ex.op, Ex.v, Ex.nm, Ex.ks] at CP CT CS CQ CM
      generalize bytesOf nm = bn at CP CT CS CQ CM
      generalize hnk : ks.length = n at CP CT CS CQ CM
      clear hnk
      go_enter Tryz.func5, Tryz.ntmps5
      go_upto_region 4 with (go_at_call 15; (with_reducible refine Calls.mono (CP.out _ (Bel.refl _)) ?_); rintro e V1 ⟨A, c, rfl, h1, hb1⟩; have hq1 := Lib.hid hb1; have h1 := Lib.hid h1; clear hb1)
      refine under_name (w0 := V1) (by (repeat (first | with_reducible exact Bel.refl _ | with_reducible refine Bel.setCell ?_ (by first | exact Nat.le_refl _ | (dsimp only; omega)) _ | with_reducible refine Bel.alloc ?_ _ | with_reducible refine Bel.drew ?_ | with_reducible assumption | with_reducible refine Bel.trans ?_ (by assumption)))) fun W2 hcc hf hz hb2 => ?_
      have T2 : XFree W2 V1.heap.size o ⟨vk, vn, vs, vt, vm⟩ bn A n c := by simp [XFree, ExAt, hcc, hf, hz, go_sem]
      clear hcc hf hz
      generalize V1.heap.size = N at T2
      have hq2 := Lib.hid (hq1.out.trans hb2)
      have h2 := Lib.hid (h1.out.keep hb2)
      have k2 := Lib.hid T2
      clear hb2 T2
      go_upto_region 6 with (go_at_call 9; (with_reducible refine Calls.mono (CA.out _ hq2.out) ?_); rintro e V3 ⟨rfl, hb3⟩; have hq3 := Lib.hid (hq2.out.trans hb3); have k3 := Lib.hid (k2.out.keep hb3); have h3 := Lib.hid (h2.out.keep hb3); clear hb3)
      obtain ⟨tz, ⟨t0, t1, t2, t3, t4, t5, t6, t7⟩, ⟨tf0, tf1, tf2, tf3, tf4, tf5, tf6, tf7⟩⟩ := k3.out
      simp only [Nat.zero_add] at t0 t1 t2 t3 t4 t5 t6 t7
      go_upto_region 8 with (go_at_call 10; (with_reducible refine Calls.mono (CS.out _ _ _ h3.out) ?_); rintro e V4 ⟨rfl, hb4⟩; have hq4 := Lib.hid (hq3.out.trans hb4); have k4 := Lib.hid (k3.out.keep hb4); have h4 := Lib.hid (h3.out.keep hb4); clear hb4 tz t0 t1 t2 t3 t4 t5 t6 t7 tf0 tf1 tf2 tf3 tf4 tf5 tf6 tf7)
      obtain ⟨tz, ⟨t0, t1, t2, t3, t4, t5, t6, t7⟩, ⟨tf0, tf1, tf2, tf3, tf4, tf5, tf6, tf7⟩⟩ := k4.out
      simp only [Nat.zero_add] at t0 t1 t2 t3 t4 t5 t6 t7
      go_upto_region 9 with (go_at_call 14; (with_reducible refine Calls.mono (CT.out _ _ _ hq4.out h4.out) ?_); rintro e V5 ⟨rfl, hb5⟩; have hq5 := Lib.hid (hq4.out.trans hb5); have k5 := Lib.hid (k4.out.keep hb5); have h5 := Lib.hid (h4.out.keep hb5); clear hb5 tz t0 t1 t2 t3 t4 t5 t6 t7 tf0 tf1 tf2 tf3 tf4 tf5 tf6 tf7)
      go_upto_region 10 with (go_at_call 15; (with_reducible refine Calls.mono (CQ.out _ hq5.out) ?_); rintro e V6 ⟨B, cb, rfl, g6, hb6⟩; have hq6 := Lib.hid (hq5.out.trans hb6); have k6 := Lib.hid (k5.out.keep hb6); have h6 := Lib.hid (h5.out.keep hb6); have g6 := Lib.hid g6; clear hb6)
      refine under_name (w0 := V6) (by (repeat (first | with_reducible exact Bel.refl _ | with_reducible refine Bel.setCell ?_ (by first | exact Nat.le_refl _ | (dsimp only; omega)) _ | with_reducible refine Bel.alloc ?_ _ | with_reducible refine Bel.drew ?_ | with_reducible assumption | with_reducible refine Bel.trans ?_ (by assumption)))) fun W7 hcc hf hz hb7 => ?_
      have T7 : XFree W7 V6.heap.size o ⟨vk, vn, vs, vt, vm⟩ bn B n cb := by simp [XFree, ExAt, hcc, hf, hz, go_sem]
      clear hcc hf hz
      generalize V6.heap.size = M at T7
      have k7 := Lib.hid (k6.out.keep hb7)
      have hq7 := Lib.hid (hq6.out.trans hb7)
      have h7 := Lib.hid (h6.out.keep hb7)
      have g7 := Lib.hid (g6.out.keep hb7)
      clear hb7
      obtain ⟨tz, ⟨t0, t1, t2, t3, t4, t5, t6, t7⟩, ⟨tf0, tf1, tf2, tf3, tf4, tf5, tf6, tf7⟩⟩ := k7.out
      obtain ⟨uz, ⟨u0, u1, u2, u3, u4, u5, u6, u7⟩, ⟨uf0, uf1, uf2, uf3, uf4, uf5, uf6, uf7⟩⟩ := T7
      simp only [Nat.zero_add] at t0 t1 t2 t3 t4 t5 t6 t7 u0 u1 u2 u3 u4 u5 u6 u7
      go_wp2_with (go_at_call 13; (with_reducible refine Calls.mono (CM.out _ _ _ _ _ h7.out g7.out) ?_); rintro e V8 ⟨rfl, hb8⟩; have hq8 := Lib.hid (hq7.out.trans hb8); clear hb8)
      go_ret
      exact ⟨rfl, hq8.out⟩
    · have hat := parE_at s
      have CP := Lib.hid fun W (hW : Bel w W) => eparse_is (s := s) (x := (parE s).1) (n := (parE s).2.1) (e := (parE s).2.2) rfl hs W (hm.keep hW)
      have g1 : (((parE s).2.2 : Int) != 0) = true := by rw [bne_iff_ne]; omega
      have g2 : 0 ≤ (parE s).2.1 := hat.1
      have g3 : (parE s).2.1 ≤ (s.size : Int) := hat.2
      generalize parE s = R at CP g1 g2 g3
      obtain ⟨⟨o, ⟨vk, vn, vs, vt, vm⟩, nm, ks⟩, pl, er⟩ := R
      simp only [Ex.op, Ex.v, Ex.nm, Ex.ks] at CP g1 g2 g3
      generalize bytesOf nm = bn at CP
      generalize hnk : ks.length = n at CP
      clear hs hT hm hat he hnk
      go_enter Tryz.func5, Tryz.ntmps5
      go_upto_region 4 with (go_at_call 15; (with_reducible refine Calls.mono (CP.out _ (Bel.refl _)) ?_); rintro e V1 ⟨A, c, rfl, h1, hb1⟩; have hq1 := Lib.hid hb1; clear hb1 h1)
      refine under_name (w0 := V1) (by (repeat (first | with_reducible exact Bel.refl _ | with_reducible refine Bel.setCell ?_ (by first | exact Nat.le_refl _ | (dsimp only; omega)) _ | with_reducible refine Bel.alloc ?_ _ | with_reducible refine Bel.drew ?_ | with_reducible assumption | with_reducible refine Bel.trans ?_ (by assumption)))) fun W2 hcc hf hz hb2 => ?_
      clear hcc hf hz
      have hq2 := Lib.hid (hq1.out.trans hb2)
      clear hb2
      go_upto_region 5 with (go_at_call 9; (with_reducible refine Calls.mono (CA.out _ hq2.out) ?_); rintro e V3 ⟨rfl, hb3⟩; have hq3 := Lib.hid (hq2.out.trans hb3); clear hb3)
      go_wp2_with (go_at_call 9; (with_reducible refine Calls.mono (CA.out _ hq3.out) ?_); rintro e V4 ⟨rfl, hb4⟩; have hq4 := Lib.hid (hq3.out.trans hb4); clear hb4)
      go_ret
      exact ⟨rfl, hq4.out⟩
  · have h3i : (3000 : Int) < (s.size : Int) := by omega
    clear hs hT hm
    go_enter Tryz.func5, Tryz.ntmps5
    go_wp2_with (go_at_call 9; (with_reducible refine Calls.mono (CA.out _ (Bel.refl _)) ?_); rintro e V4 ⟨rfl, hb4⟩; have hq4 := Lib.hid hb4; clear hb4)
    go_ret
    exact ⟨rfl, hq4.out⟩
end Go.Proofs.YthfkbonbgdioaaaGreatDoor
