import Derived.Test.YthfkbonbgdioaaaGreatDoorEyd
import Derived.Test.YthfkbonbgdioaaaGreatDoorEze
import Derived.Test.YthfkbonbgdioaaaGreatDoorEzd
namespace Go.Proofs.YthfkbonbgdioaaaGreatDoor
set_option linter.unusedSimpArgs false
set_option linter.unusedVariables false
open Go.RowKit
/-! An expression that is written is read as it was. -/
set_option maxRecDepth 100000 in
set_option maxHeartbeats 8000000 in
theorem law_Back (x : Ex) (A : Option Addr) (c : Nat) (w : World) (hL : Lie (fun _ => True) w A x.ks) (hsm : smX x) (hln : lnX x) (ht : Tab w) (hm : Mx w) :
    Calls Tryz.prog 4 #[exV x.op x.v (bytesOf x.nm) A x.ks.length c] w fun e w' => e = .returned (.bool true) ∧ Bel w w' := by
  have CA := Lib.hid fun W (hW : Bel w W) => awake_T W (ht.keep hW) (hm.keep hW)
  have CB := Lib.hid fun W (hW : Bel w W) => big_any x W A c 1 500 hln (hL.keep hW)
  have CT := Lib.hid fun W (hW : Bel w W) => etext_any x A c W hsm (hL.keep hW) (ht.keep hW) (hm.keep hW)
  have CR := Lib.hid fun W (hW : Bel w W) => rxsound_any x A c W hsm hln (hL.keep hW)
  have CM := Lib.hid fun B cb W (hW : Bel w W) (h2 : Lie (fun _ => True) W B x.ks) (ho : okX x = true) => xsame_any x W A B c cb ho (hL.keep hW) h2
  have VT : etxV x = if sndX x = true then (if (txX x).length ≤ 65536 then .tuple #[.string (bytesOf (txX x)), .int .i64 0] else .tuple #[.string ⟨#[]⟩, .int .i64 10]) else .tuple #[.string ⟨#[]⟩, .int .i64 2] := by unfold etxV; rfl
  rw [VT] at CT
  clear VT
  have CQ := Lib.hid fun (hsn : sndX x = true) (hsh : (txX x).length ≤ 65536) W (hW : Bel w W) => eparse_is (par_tx hsn hsh) (by rw [bytesOf_size]; omega) W (hm.keep hW)
  have HO := Lib.hid fun (h : sndX x = true) => snd_ok h
  generalize bgX x 1 500 = bv at CB
  generalize okX x = ok at CM HO
  generalize txX x = tx at CT CQ
  generalize sndX x = sn at CT CR CQ HO
  obtain ⟨o, ⟨vk, vn, vs, vt, vm⟩, nm, ks⟩ := x
  simp only [Ex.op, Ex.v, Ex.nm, Ex.ks] at CB CT CR CM CQ ⊢
  obtain ⟨bn, hbn⟩ : ∃ b, b = bytesOf nm := ⟨_, rfl⟩
  obtain ⟨n, hn⟩ : ∃ n, n = ks.length := ⟨_, rfl⟩
  rw [← hbn, ← hn] at CB CT CR CM CQ ⊢
  clear hsm hln hL ht hm hbn hn
  by_cases hbv : bv < 0
  · go_enter Tryz.func4, Tryz.ntmps4
    go_upto_region 1 with fail
    refine under_name ((Bel.refl w).alloc _) fun W1 hcc hf hz hb => ?_
    have T1 : XFree W1 w.heap.size o ⟨vk, vn, vs, vt, vm⟩ bn A n c := by simp [XFree, ExAt, hcc, hf, hz, go_sem]
    clear hcc hf hz
    generalize w.heap.size = N at T1
    have HB0 := Lib.hid hb
    clear hb
    have L1 := Lib.hid T1
    have B0 := Lib.hid (Bel.refl W1)
    obtain ⟨tz, ⟨t0, t1, t2, t3, t4, t5, t6, t7⟩, ⟨tf0, tf1, tf2, tf3, tf4, tf5, tf6, tf7⟩⟩ := T1
    simp only [Nat.zero_add] at t0 t1 t2 t3 t4 t5 t6 t7
    clear tf0 tf1 tf2 tf3 tf4 tf5 tf6 tf7
    go_upto_region 2 with (go_at_call 8; (with_reducible refine Calls.mono (CB.out _ HB0.out) ?_); rintro e V1 ⟨rfl, hb1⟩; have B1 := Lib.hid (B0.out.trans hb1); clear tz t0 t1 t2 t3 t4 t5 t6 t7; obtain ⟨tz, ⟨t0, t1, t2, t3, t4, t5, t6, t7⟩, ⟨tf0, tf1, tf2, tf3, tf4, tf5, tf6, tf7⟩⟩ := L1.out.keep B1.out; simp only [Nat.zero_add] at t0 t1 t2 t3 t4 t5 t6 t7; clear tf0 tf1 tf2 tf3 tf4 tf5 tf6 tf7 hb1)
    go_wp2_with (go_at_call 9; (with_reducible refine Calls.mono (CA.out _ (HB0.out.trans B1.out)) ?_); rintro e V2 ⟨rfl, hb1⟩; have B2 := Lib.hid (B1.out.trans hb1); clear tz t0 t1 t2 t3 t4 t5 t6 t7; obtain ⟨tz, ⟨t0, t1, t2, t3, t4, t5, t6, t7⟩, ⟨tf0, tf1, tf2, tf3, tf4, tf5, tf6, tf7⟩⟩ := L1.out.keep B2.out; simp only [Nat.zero_add] at t0 t1 t2 t3 t4 t5 t6 t7; clear tf0 tf1 tf2 tf3 tf4 tf5 tf6 tf7 hb1)
    go_ret
    exact ⟨rfl, HB0.out.trans B2.out⟩
  · cases sn with
    | false =>
      rw [if_neg (by decide)] at CT
      go_enter Tryz.func4, Tryz.ntmps4
      go_upto_region 1 with fail
      refine under_name ((Bel.refl w).alloc _) fun W1 hcc hf hz hb => ?_
      have T1 : XFree W1 w.heap.size o ⟨vk, vn, vs, vt, vm⟩ bn A n c := by simp [XFree, ExAt, hcc, hf, hz, go_sem]
      clear hcc hf hz
      generalize w.heap.size = N at T1
      have HB0 := Lib.hid hb
      clear hb
      have L1 := Lib.hid T1
      have B0 := Lib.hid (Bel.refl W1)
      obtain ⟨tz, ⟨t0, t1, t2, t3, t4, t5, t6, t7⟩, ⟨tf0, tf1, tf2, tf3, tf4, tf5, tf6, tf7⟩⟩ := T1
      simp only [Nat.zero_add] at t0 t1 t2 t3 t4 t5 t6 t7
      clear tf0 tf1 tf2 tf3 tf4 tf5 tf6 tf7
      go_upto_region 3 with (go_at_call 8; (with_reducible refine Calls.mono (CB.out _ HB0.out) ?_); rintro e V1 ⟨rfl, hb1⟩; have B1 := Lib.hid (B0.out.trans hb1); clear tz t0 t1 t2 t3 t4 t5 t6 t7; obtain ⟨tz, ⟨t0, t1, t2, t3, t4, t5, t6, t7⟩, ⟨tf0, tf1, tf2, tf3, tf4, tf5, tf6, tf7⟩⟩ := L1.out.keep B1.out; simp only [Nat.zero_add] at t0 t1 t2 t3 t4 t5 t6 t7; clear tf0 tf1 tf2 tf3 tf4 tf5 tf6 tf7 hb1)
      go_upto_region 4 with (go_at_call 14; (with_reducible refine Calls.mono (CT.out _ (HB0.out.trans B1.out)) ?_); rintro e V2 ⟨rfl, hb1⟩; have B2 := Lib.hid (B1.out.trans hb1); clear tz t0 t1 t2 t3 t4 t5 t6 t7; obtain ⟨tz, ⟨t0, t1, t2, t3, t4, t5, t6, t7⟩, ⟨tf0, tf1, tf2, tf3, tf4, tf5, tf6, tf7⟩⟩ := L1.out.keep B2.out; simp only [Nat.zero_add] at t0 t1 t2 t3 t4 t5 t6 t7; clear tf0 tf1 tf2 tf3 tf4 tf5 tf6 tf7 hb1)
      go_upto_region 5 with (go_at_call 9; (with_reducible refine Calls.mono (CA.out _ (HB0.out.trans B2.out)) ?_); rintro e V3 ⟨rfl, hb1⟩; have B3 := Lib.hid (B2.out.trans hb1); clear tz t0 t1 t2 t3 t4 t5 t6 t7; obtain ⟨tz, ⟨t0, t1, t2, t3, t4, t5, t6, t7⟩, ⟨tf0, tf1, tf2, tf3, tf4, tf5, tf6, tf7⟩⟩ := L1.out.keep B3.out; simp only [Nat.zero_add] at t0 t1 t2 t3 t4 t5 t6 t7; clear tf0 tf1 tf2 tf3 tf4 tf5 tf6 tf7 hb1)
      go_wp2_with (first
        | (go_at_call 9; (with_reducible refine Calls.mono (CA.out _ (HB0.out.trans B3.out)) ?_); rintro e V4 ⟨rfl, hb1⟩; have B4 := Lib.hid (B3.out.trans hb1); clear tz t0 t1 t2 t3 t4 t5 t6 t7; obtain ⟨tz, ⟨t0, t1, t2, t3, t4, t5, t6, t7⟩, ⟨tf0, tf1, tf2, tf3, tf4, tf5, tf6, tf7⟩⟩ := L1.out.keep B4.out; simp only [Nat.zero_add] at t0 t1 t2 t3 t4 t5 t6 t7; clear tf0 tf1 tf2 tf3 tf4 tf5 tf6 tf7 hb1)
        | (go_at_call 11; (with_reducible refine Calls.mono (CR.out _ (HB0.out.trans B4.out)) ?_); rintro e V5 ⟨rfl, hb1⟩; have B5 := Lib.hid (B4.out.trans hb1); clear tz t0 t1 t2 t3 t4 t5 t6 t7; obtain ⟨tz, ⟨t0, t1, t2, t3, t4, t5, t6, t7⟩, ⟨tf0, tf1, tf2, tf3, tf4, tf5, tf6, tf7⟩⟩ := L1.out.keep B5.out; simp only [Nat.zero_add] at t0 t1 t2 t3 t4 t5 t6 t7; clear tf0 tf1 tf2 tf3 tf4 tf5 tf6 tf7 hb1))
      go_ret
      exact ⟨rfl, HB0.out.trans B5.out⟩
    | true =>
      rw [if_pos rfl] at CT
      obtain rfl := HO.out rfl
      by_cases hsh : tx.length ≤ 65536
      · rw [if_pos hsh] at CT
        replace CQ := Lib.hid (CQ.out rfl hsh)
        generalize bytesOf tx = txb at CT CQ
        go_enter Tryz.func4, Tryz.ntmps4
        go_upto_region 1 with fail
        refine under_name ((Bel.refl w).alloc _) fun W1 hcc hf hz hb => ?_
        have T1 : XFree W1 w.heap.size o ⟨vk, vn, vs, vt, vm⟩ bn A n c := by simp [XFree, ExAt, hcc, hf, hz, go_sem]
        clear hcc hf hz
        generalize w.heap.size = N at T1
        have HB0 := Lib.hid hb
        clear hb
        have L1 := Lib.hid T1
        have B0 := Lib.hid (Bel.refl W1)
        obtain ⟨tz, ⟨t0, t1, t2, t3, t4, t5, t6, t7⟩, ⟨tf0, tf1, tf2, tf3, tf4, tf5, tf6, tf7⟩⟩ := T1
        simp only [Nat.zero_add] at t0 t1 t2 t3 t4 t5 t6 t7
        clear tf0 tf1 tf2 tf3 tf4 tf5 tf6 tf7
        go_upto_region 3 with (go_at_call 8; (with_reducible refine Calls.mono (CB.out _ HB0.out) ?_); rintro e V1 ⟨rfl, hb1⟩; have B1 := Lib.hid (B0.out.trans hb1); clear tz t0 t1 t2 t3 t4 t5 t6 t7; obtain ⟨tz, ⟨t0, t1, t2, t3, t4, t5, t6, t7⟩, ⟨tf0, tf1, tf2, tf3, tf4, tf5, tf6, tf7⟩⟩ := L1.out.keep B1.out; simp only [Nat.zero_add] at t0 t1 t2 t3 t4 t5 t6 t7; clear tf0 tf1 tf2 tf3 tf4 tf5 tf6 tf7 hb1)
        go_upto_region 4 with (go_at_call 14; (with_reducible refine Calls.mono (CT.out _ (HB0.out.trans B1.out)) ?_); rintro e V2 ⟨rfl, hb1⟩; have B2 := Lib.hid (B1.out.trans hb1); clear tz t0 t1 t2 t3 t4 t5 t6 t7; obtain ⟨tz, ⟨t0, t1, t2, t3, t4, t5, t6, t7⟩, ⟨tf0, tf1, tf2, tf3, tf4, tf5, tf6, tf7⟩⟩ := L1.out.keep B2.out; simp only [Nat.zero_add] at t0 t1 t2 t3 t4 t5 t6 t7; clear tf0 tf1 tf2 tf3 tf4 tf5 tf6 tf7 hb1)
        go_upto_region 6 with (go_at_call 9; (with_reducible refine Calls.mono (CA.out _ (HB0.out.trans B2.out)) ?_); rintro e V3 ⟨rfl, hb1⟩; have B3 := Lib.hid (B2.out.trans hb1); clear tz t0 t1 t2 t3 t4 t5 t6 t7; obtain ⟨tz, ⟨t0, t1, t2, t3, t4, t5, t6, t7⟩, ⟨tf0, tf1, tf2, tf3, tf4, tf5, tf6, tf7⟩⟩ := L1.out.keep B3.out; simp only [Nat.zero_add] at t0 t1 t2 t3 t4 t5 t6 t7; clear tf0 tf1 tf2 tf3 tf4 tf5 tf6 tf7 hb1)
        go_upto_region 7 with (go_at_call 15; (with_reducible refine Calls.mono (CQ.out _ (HB0.out.trans B3.out)) ?_); rintro e V4 ⟨B, cb, rfl, h4, hb1⟩; have B4 := Lib.hid (B3.out.trans hb1); have h4 := Lib.hid h4; clear hb1)
        refine under_name (w0 := V4) (by (repeat (first | with_reducible exact Bel.refl _ | with_reducible refine Bel.setCell ?_ (by first | exact Nat.le_refl _ | (dsimp only; omega)) _ | with_reducible refine Bel.alloc ?_ _ | with_reducible refine Bel.drew ?_ | with_reducible assumption | with_reducible refine Bel.trans ?_ (by assumption)))) fun W5 hcc hf hz hb5 => ?_
        have T5 : XFree W5 V4.heap.size o ⟨vk, vn, vs, vt, vm⟩ bn B n cb := by simp [XFree, ExAt, hcc, hf, hz, go_sem]
        clear hcc hf hz
        generalize V4.heap.size = M at T5
        have B5 := Lib.hid (B4.out.trans hb5)
        have h5 := Lib.hid (h4.out.keep hb5)
        clear hb5 tz t0 t1 t2 t3 t4 t5 t6 t7
        obtain ⟨tz, ⟨t0, t1, t2, t3, t4, t5, t6, t7⟩, ⟨tf0, tf1, tf2, tf3, tf4, tf5, tf6, tf7⟩⟩ := L1.out.keep B5.out
        obtain ⟨uz, ⟨u0, u1, u2, u3, u4, u5, u6, u7⟩, ⟨uf0, uf1, uf2, uf3, uf4, uf5, uf6, uf7⟩⟩ := T5
        simp only [Nat.zero_add] at t0 t1 t2 t3 t4 t5 t6 t7 u0 u1 u2 u3 u4 u5 u6 u7
        go_wp2_with (go_at_call 13; (with_reducible refine Calls.mono (CM.out _ _ _ (HB0.out.trans B5.out) h5.out (by trivial)) ?_); rintro e V8 ⟨rfl, hb8⟩; have B8 := Lib.hid (B5.out.trans hb8); clear hb8)
        go_ret
        exact ⟨rfl, HB0.out.trans B8.out⟩
      · rw [if_neg hsh] at CT
        go_enter Tryz.func4, Tryz.ntmps4
        go_upto_region 1 with fail
        refine under_name ((Bel.refl w).alloc _) fun W1 hcc hf hz hb => ?_
        have T1 : XFree W1 w.heap.size o ⟨vk, vn, vs, vt, vm⟩ bn A n c := by simp [XFree, ExAt, hcc, hf, hz, go_sem]
        clear hcc hf hz
        generalize w.heap.size = N at T1
        have HB0 := Lib.hid hb
        clear hb
        have L1 := Lib.hid T1
        have B0 := Lib.hid (Bel.refl W1)
        obtain ⟨tz, ⟨t0, t1, t2, t3, t4, t5, t6, t7⟩, ⟨tf0, tf1, tf2, tf3, tf4, tf5, tf6, tf7⟩⟩ := T1
        simp only [Nat.zero_add] at t0 t1 t2 t3 t4 t5 t6 t7
        clear tf0 tf1 tf2 tf3 tf4 tf5 tf6 tf7
        go_upto_region 3 with (go_at_call 8; (with_reducible refine Calls.mono (CB.out _ HB0.out) ?_); rintro e V1 ⟨rfl, hb1⟩; have B1 := Lib.hid (B0.out.trans hb1); clear tz t0 t1 t2 t3 t4 t5 t6 t7; obtain ⟨tz, ⟨t0, t1, t2, t3, t4, t5, t6, t7⟩, ⟨tf0, tf1, tf2, tf3, tf4, tf5, tf6, tf7⟩⟩ := L1.out.keep B1.out; simp only [Nat.zero_add] at t0 t1 t2 t3 t4 t5 t6 t7; clear tf0 tf1 tf2 tf3 tf4 tf5 tf6 tf7 hb1)
        go_upto_region 4 with (go_at_call 14; (with_reducible refine Calls.mono (CT.out _ (HB0.out.trans B1.out)) ?_); rintro e V2 ⟨rfl, hb1⟩; have B2 := Lib.hid (B1.out.trans hb1); clear tz t0 t1 t2 t3 t4 t5 t6 t7; obtain ⟨tz, ⟨t0, t1, t2, t3, t4, t5, t6, t7⟩, ⟨tf0, tf1, tf2, tf3, tf4, tf5, tf6, tf7⟩⟩ := L1.out.keep B2.out; simp only [Nat.zero_add] at t0 t1 t2 t3 t4 t5 t6 t7; clear tf0 tf1 tf2 tf3 tf4 tf5 tf6 tf7 hb1)
        go_upto_region 5 with (go_at_call 9; (with_reducible refine Calls.mono (CA.out _ (HB0.out.trans B2.out)) ?_); rintro e V3 ⟨rfl, hb1⟩; have B3 := Lib.hid (B2.out.trans hb1); clear tz t0 t1 t2 t3 t4 t5 t6 t7; obtain ⟨tz, ⟨t0, t1, t2, t3, t4, t5, t6, t7⟩, ⟨tf0, tf1, tf2, tf3, tf4, tf5, tf6, tf7⟩⟩ := L1.out.keep B3.out; simp only [Nat.zero_add] at t0 t1 t2 t3 t4 t5 t6 t7; clear tf0 tf1 tf2 tf3 tf4 tf5 tf6 tf7 hb1)
        go_wp2_with (first
          | (go_at_call 9; (with_reducible refine Calls.mono (CA.out _ (HB0.out.trans B3.out)) ?_); rintro e V4 ⟨rfl, hb1⟩; have B4 := Lib.hid (B3.out.trans hb1); clear tz t0 t1 t2 t3 t4 t5 t6 t7; obtain ⟨tz, ⟨t0, t1, t2, t3, t4, t5, t6, t7⟩, ⟨tf0, tf1, tf2, tf3, tf4, tf5, tf6, tf7⟩⟩ := L1.out.keep B4.out; simp only [Nat.zero_add] at t0 t1 t2 t3 t4 t5 t6 t7; clear tf0 tf1 tf2 tf3 tf4 tf5 tf6 tf7 hb1)
          | (go_at_call 11; (with_reducible refine Calls.mono (CR.out _ (HB0.out.trans B4.out)) ?_); rintro e V5 ⟨rfl, hb1⟩; have B5 := Lib.hid (B4.out.trans hb1); clear tz t0 t1 t2 t3 t4 t5 t6 t7; obtain ⟨tz, ⟨t0, t1, t2, t3, t4, t5, t6, t7⟩, ⟨tf0, tf1, tf2, tf3, tf4, tf5, tf6, tf7⟩⟩ := L1.out.keep B5.out; simp only [Nat.zero_add] at t0 t1 t2 t3 t4 t5 t6 t7; clear tf0 tf1 tf2 tf3 tf4 tf5 tf6 tf7 hb1))
        go_ret
        exact ⟨rfl, HB0.out.trans B5.out⟩
end Go.Proofs.YthfkbonbgdioaaaGreatDoor
