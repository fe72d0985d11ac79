import Derived.Test.YthfkbonbgdioaaaGreatDoorExy
import Derived.Test.YthfkbonbgdioaaaGreatDoorEya
import Derived.Test.YthfkbonbgdioaaaGreatDoorEyb
namespace Go.Proofs.YthfkbonbgdioaaaGreatDoor
set_option linter.unusedSimpArgs false
set_option linter.unusedVariables false
open Go.RowKit
/-! An expression as a text. -/
theorem word_len {nm : List UInt8} (h : wordB (bytesOf nm) = true) : nm.length ≤ 32 := by
  unfold wordB at h
  rw [Bool.and_eq_true] at h
  exact (nm_form (l := nm) h.2).1
set_option maxHeartbeats 4000000 in
theorem tx_len : ∀ x : Ex, okX x = true → (txX x).length + 2 ≤ 1100 * szX x := by
  refine Ex.ind fun o v nm ks IH ho => ?_
  have hp := prt_out (show prtB o v nm ks.length = true from by rw [okX, Bool.and_eq_true] at ho; exact ho.1)
  obtain ⟨_, hok⟩ := okX_kids ho
  have H : ∀ y ∈ ks, (txX y).length + 2 ≤ 1100 * szX y := fun y hy => IH y hy (hok y hy)
  rcases kidN_cases hp.1 hp.2.1 with ⟨h0, h | h⟩ | ⟨h0, h | h⟩ | ⟨h0, h⟩ | ⟨h0, h, h'⟩
  · subst h
    obtain rfl : ks = [] := List.eq_nil_of_length_eq_zero (by rw [hp.2.2.1, h0])
    have e : txX (.mk 1 v nm []) = vxL v := by rw [txX, txsX, shpT]; exact if_pos rfl
    have := (v_reads v (hp.2.2.2.1 rfl).2.1).2.1
    rw [e, szX, szL]
    omega
  · subst h
    obtain rfl : ks = [] := List.eq_nil_of_length_eq_zero (by rw [hp.2.2.1, h0])
    have e : txX (.mk 2 v nm []) = nm := by rw [txX, txsX, shpT]; exact if_neg (by decide)
    have := word_len (hp.2.2.2.2.1 rfl).2
    rw [e, szX, szL]
    omega
  · subst h
    obtain ⟨y, rfl⟩ : ∃ y, ks = [y] := List.length_eq_one_iff.1 (by rw [hp.2.2.1, h0])
    have hT : txX (.mk 3 v nm [y]) = [45] ++ brkT (decide (y.ks.length = 0), txX y) := by rw [txX, txsX, txsX, shpT]; exact if_pos rfl
    have h1 := H y (by simp)
    have h2 := brk_le (decide (y.ks.length = 0)) (txX y)
    rw [hT, szX, szL, szL, List.length_append, List.length_singleton]
    omega
  · subst h
    obtain ⟨y, rfl⟩ : ∃ y, ks = [y] := List.length_eq_one_iff.1 (by rw [hp.2.2.1, h0])
    have hT : txX (.mk 16 v nm [y]) = wNOT ++ ([40] ++ (txX y ++ [41])) := by rw [txX, txsX, txsX, shpT]; exact if_neg (by decide)
    have h1 := H y (by simp)
    rw [hT, szX, szL, szL]
    simp only [List.length_append, List.length_singleton, show wNOT.length = 3 from rfl]
    omega
  · subst h
    obtain ⟨y1, y2, y3, rfl⟩ := len3 (by rw [hp.2.2.1, h0])
    have hT : txX (.mk 17 v nm [y1, y2, y3]) = wIF ++ ([32] ++ (brkT (decide (y1.ks.length = 0), txX y1) ++ ([32] ++ (wTHEN ++ ([32] ++ (brkT (decide (y2.ks.length = 0), txX y2) ++ ([32] ++ (wELSE ++ ([32] ++ brkT (decide (y3.ks.length = 0), txX y3)))))))))) := by rw [txX, txsX, txsX, txsX, txsX, shpT]
    have h1 := H y1 (by simp)
    have h2 := H y2 (by simp)
    have h3 := H y3 (by simp)
    have k1 := brk_le (decide (y1.ks.length = 0)) (txX y1)
    have k2 := brk_le (decide (y2.ks.length = 0)) (txX y2)
    have k3 := brk_le (decide (y3.ks.length = 0)) (txX y3)
    rw [hT, szX, szL, szL, szL, szL]
    simp only [List.length_append, List.length_singleton, show wIF.length = 2 from rfl, show wTHEN.length = 4 from rfl, show wELSE.length = 4 from rfl]
    omega
  · obtain ⟨y, z, rfl⟩ := len2 (show ks.length = 2 from by rw [hp.2.2.1, h0])
    have hT : txX (.mk o v nm [y, z]) = brkT (decide (y.ks.length = 0), txX y) ++ ([32] ++ (sgX o ++ ([32] ++ brkT (decide (z.ks.length = 0), txX z)))) := by rw [txX, txsX, txsX, txsX, shpT]
    have h1 := H y (by simp)
    have h2 := H z (by simp)
    have k1 := brk_le (decide (y.ks.length = 0)) (txX y)
    have k2 := brk_le (decide (z.ks.length = 0)) (txX z)
    have hsg : (sgX o).length ≤ 3 := by
      unfold sgX
      repeat' split
      all_goals decide
    rw [hT, szX, szL, szL, szL]
    simp only [List.length_append, List.length_singleton]
    omega
noncomputable def etxV (x : Ex) : Value := if sndX x = true then (if (txX x).length ≤ 65536 then .tuple #[.string (bytesOf (txX x)), .int .i64 0] else .tuple #[.string ⟨#[]⟩, .int .i64 10]) else .tuple #[.string ⟨#[]⟩, .int .i64 2]
set_option maxRecDepth 100000 in
set_option maxHeartbeats 8000000 in
theorem etext_any (x : Ex) (A : Option Addr) (c : Nat) (w : World) (hsm : smX x) (hL : Lie (fun _ => True) w A x.ks) (ht : Tab w) (hm : Mx w) :
    Calls Tryz.prog 14 #[exV x.op x.v (bytesOf x.nm) A x.ks.length c] w fun r w' => r = .returned (etxV x) ∧ Bel w w' := by
  have CS := Lib.hid fun W (hW : Bel w W) => esound_any x (fun _ => True) A c W hsm (hL.keep hW)
  obtain ⟨zt, hzt⟩ : ∃ z, txX x = z := ⟨_, rfl⟩
  have CW := Lib.hid fun (V X : World) (b : Nat) (hV : Bel w V) (hI : Bld V b [] X) (hX : Bel V X) (ho : okX x = true) (hl : (txX x).length ≤ 90000000000000) => write_any x V X b [] A c (hL.keep hV) hI hX (ht.keep hV) (hm.keep hV) ho hsm (by rw [List.length_nil, Nat.zero_add]; exact hl)
  have hl : sndX x = true → okX x = true ∧ (txX x).length ≤ 90000000000000 := fun h => by
    unfold sndX at h
    rw [Bool.and_eq_true, Bool.and_eq_true, decide_eq_true_eq, decide_eq_true_eq] at h
    have := tx_len x h.1
    exact ⟨h.1, by omega⟩
  have hO : etxV x = if sndX x = true then (if zt.length ≤ 65536 then .tuple #[.string (bytesOf zt), .int .i64 0] else .tuple #[.string ⟨#[]⟩, .int .i64 10]) else .tuple #[.string ⟨#[]⟩, .int .i64 2] := by unfold etxV; rw [hzt]
  rw [hO]
  rw [hzt] at CW hl
  obtain ⟨o, ⟨vk, vn, vs, vt, vm⟩, nm, ks⟩ := x
  simp only [Ex.op, Ex.v, Ex.nm, Ex.ks] at CS CW ⊢
  generalize okX (.mk o ⟨vk, vn, vs, vt, vm⟩ nm ks) = ok at CW hl
  cases hs : sndX (.mk o ⟨vk, vn, vs, vt, vm⟩ nm ks) with
  | false =>
    rw [hs] at CS
    clear CW hl hO hs hzt hL ht hm hsm
    generalize bytesOf nm = bn at CS ⊢
    generalize ks.length = n at CS ⊢
    go_enter Tryz.func14, Tryz.ntmps14
    go_upto_region 1 with fail
    refine under_name ((Bel.refl w).alloc _) fun W hcc hf hz hb => ?_
    have T1 : XFree W w.heap.size o ⟨vk, vn, vs, vt, vm⟩ bn A n c := by simp [XFree, ExAt, hcc, hf, hz, go_sem]
    clear hcc hf hz
    generalize w.heap.size = N at T1 ⊢
    obtain ⟨tz, ⟨t0, t1, t2, t3, t4, t5, t6, t7⟩, ⟨tf0, tf1, tf2, tf3, tf4, tf5, tf6, tf7⟩⟩ := T1
    simp only [Nat.zero_add] at t0 t1 t2 t3 t4 t5 t6 t7
    have HB0 := Lib.hid hb
    clear hb
    go_wp2_with (go_at_call 10; (with_reducible refine Calls.mono (CS.out _ HB0.out) ?_); rintro ee V1 ⟨rfl, hb1⟩; have HB1 := Lib.hid hb1; clear hb1)
    go_ret2
    exact ⟨rfl, HB0.out.trans HB1.out⟩
  | true =>
    rw [hs] at CS hl
    obtain ⟨rfl, hlz⟩ := hl rfl
    replace CW := Lib.hid fun (V X : World) (b : Nat) (hV : Bel w V) (hI : Bld V b [] X) (hX : Bel V X) => CW.out V X b hV hI hX rfl hlz
    clear hO hs hzt hL ht hm hsm hl
    generalize bytesOf nm = bn at CS CW ⊢
    generalize ks.length = n at CS CW ⊢
    have h65 : (zt.length : Int) ≤ 65536 ∨ 65536 < (zt.length : Int) := by omega
    go_enter Tryz.func14, Tryz.ntmps14
    go_upto_region 1 with fail
    refine under_name ((Bel.refl w).alloc _) fun W hcc hf hz hb => ?_
    have T1 : XFree W w.heap.size o ⟨vk, vn, vs, vt, vm⟩ bn A n c := by simp [XFree, ExAt, hcc, hf, hz, go_sem]
    clear hcc hf hz
    generalize w.heap.size = N at T1 ⊢
    have L1 := Lib.hid T1
    obtain ⟨tz, ⟨t0, t1, t2, t3, t4, t5, t6, t7⟩, ⟨tf0, tf1, tf2, tf3, tf4, tf5, tf6, tf7⟩⟩ := T1
    simp only [Nat.zero_add] at t0 t1 t2 t3 t4 t5 t6 t7
    have HB0 := Lib.hid hb
    clear hb
    go_upto_region 3 with (go_at_call 10; (with_reducible refine Calls.mono (CS.out _ HB0.out) ?_); rintro ee V1 ⟨rfl, hb1⟩; have HB1 := Lib.hid hb1; clear hb1)
    clear tz t0 t1 t2 t3 t4 t5 t6 t7 tf0 tf1 tf2 tf3 tf4 tf5 tf6 tf7
    go_upto_region 4 with fail
    have FB : Bld V1 V1.heap.size [] (V1.alloc (.cells #[.pointer none, .slice none 0 0] 57)) := Lib.IsBuilderF.of (Lib.fresh_isBuilder 57 5 V1)
    have hb2 := (Bel.refl V1).alloc (.cells #[.pointer none, .slice none 0 0] 57)
    generalize V1.alloc (.cells #[.pointer none, .slice none 0 0] 57) = W2 at FB hb2 ⊢
    have HV1 := Lib.hid (HB0.out.trans HB1.out)
    have C2 := Lib.hid (CW.out V1 W2 V1.heap.size HV1.out FB hb2)
    obtain ⟨tz, ⟨t0, t1, t2, t3, t4, t5, t6, t7⟩, ⟨tf0, tf1, tf2, tf3, tf4, tf5, tf6, tf7⟩⟩ := (L1.out.keep HB1.out).keep hb2
    simp only [Nat.zero_add] at t0 t1 t2 t3 t4 t5 t6 t7
    clear FB hb2
    generalize hB : V1.heap.size = B at C2 ⊢
    go_upto_region 5 with (go_at_call 22; (with_reducible refine Calls.mono C2.out ?_); rintro ee V3 ⟨rfl, hI3, hb3, -⟩; have HI3 := Lib.hid hI3; have HB3 := Lib.hid hb3; clear hI3 hb3)
    have CL := Lib.hid (show Calls Tryz.prog 23 #[.pointer (some ⟨B, 0, none⟩)] V3 fun e w' => e = .returned (.int .i64 zt.length) ∧ w' = V3 from by
      have h := Tryz.Builder_Len_f V1.heap.size B _ V3 HI3.out
      rw [Lib.byteCells_length] at h
      exact h)
    have CT := Lib.hid (bstr_any HI3.out HB3.out)
    rw [List.nil_append] at CT
    clear hB tz t0 t1 t2 t3 t4 t5 t6 t7 tf0 tf1 tf2 tf3 tf4 tf5 tf6 tf7
    rcases h65 with h65 | h65
    · go_wp2_with (first
        | (go_at_call 23; (with_reducible refine Calls.mono CL.out ?_); rintro ee V4 ⟨rfl, rfl⟩)
        | (go_at_call 24; (with_reducible refine Calls.mono CT.out ?_); rintro ee V5 ⟨rfl, -, hb5, -⟩; have HB5 := Lib.hid hb5; clear hb5))
      go_ret2
      first
        | exact ⟨rfl, HV1.out.trans HB5.out⟩
        | (rw [if_pos (show zt.length ≤ 65536 from by omega)]; exact ⟨rfl, HV1.out.trans HB5.out⟩)
        | (rw [if_pos rfl, if_pos (show zt.length ≤ 65536 from by omega)]; exact ⟨rfl, HV1.out.trans HB5.out⟩)
    · go_wp2_with (first
        | (go_at_call 23; (with_reducible refine Calls.mono CL.out ?_); rintro ee V4 ⟨rfl, rfl⟩))
      go_ret2
      first
        | exact ⟨rfl, HV1.out.trans HB3.out⟩
        | (rw [if_neg (show ¬ zt.length ≤ 65536 from by omega)]; exact ⟨rfl, HV1.out.trans HB3.out⟩)
        | (rw [if_pos rfl, if_neg (show ¬ zt.length ≤ 65536 from by omega)]; exact ⟨rfl, HV1.out.trans HB3.out⟩)
end Go.Proofs.YthfkbonbgdioaaaGreatDoor
