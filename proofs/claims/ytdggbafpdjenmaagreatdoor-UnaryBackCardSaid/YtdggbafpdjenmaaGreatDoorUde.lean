
import Derived.Test.YtdggbafpdjenmaaGreatDoorUcg
import Derived.Test.YtdggbafpdjenmaaGreatDoorMtd
namespace Go.Proofs.YtdggbafpdjenmaaGreatDoor
set_option linter.unusedSimpArgs false
set_option linter.unusedVariables false
open Go.RowKit
/-! A test as a text. -/
set_option maxRecDepth 100000 in
set_option maxHeartbeats 8000000 in
theorem begins_any (x : Bool) (w : World) : Calls Tryz.prog 23 #[.bool x] w fun e w' => e = .returned (.string (if x = true then ⟨#[40]⟩ else ⟨#[91]⟩)) ∧ w' = w := by
  cases x with
  | true =>
    go_enter Tryz.func23, Tryz.ntmps23
    go_wp2_with fail
    go_ret
    exact ⟨rfl, rfl⟩
  | false =>
    go_enter Tryz.func23, Tryz.ntmps23
    go_wp2_with fail
    go_ret
    exact ⟨rfl, rfl⟩
set_option maxRecDepth 100000 in
set_option maxHeartbeats 8000000 in
theorem finishes_any (x : Bool) (w : World) : Calls Tryz.prog 24 #[.bool x] w fun e w' => e = .returned (.string (if x = true then ⟨#[41]⟩ else ⟨#[93]⟩)) ∧ w' = w := by
  cases x with
  | true =>
    go_enter Tryz.func24, Tryz.ntmps24
    go_wp2_with fail
    go_ret
    exact ⟨rfl, rfl⟩
  | false =>
    go_enter Tryz.func24, Tryz.ntmps24
    go_wp2_with fail
    go_ret
    exact ⟨rfl, rfl⟩
theorem vx_bytes (v : Val) : bytesOf (vxL v) = vtx v := rfl
theorem text_ok {v : Val} (h : vsnd v = true) : vtxV v = .tuple #[.string (vtx v), .int .i64 0] := if_pos h
theorem snd_text {v : Val} (h : vsnd v = true) : v.text.size ≤ 9223372036854775807 := by
  rcases val_form h with rfl | ⟨n, s, rfl⟩ | ⟨t, rfl⟩ | rfl | rfl | ⟨d, rfl⟩
  · decide
  · show (0 : Nat) ≤ _; omega
  · rw [vsnd2, Bool.and_eq_true, Bool.and_eq_true, decide_eq_true_eq] at h
    show t.size ≤ _
    have := h.2.1
    omega
  · decide
  · decide
  · show (0 : Nat) ≤ _; omega
theorem vtx_size {v : Val} (h : vsnd v = true) : ((vtx v).size : Int) ≤ 1000 := by
  have := (v_reads v h).2.1
  rw [← sizeB, vx_bytes] at this
  omega
/-- A block that holds a test. -/
def TeSlot (w : World) (b : Nat) (t : Tst) : Prop := b < w.heap.size ∧ TstAt w b 0 t
theorem TeSlot.keep {w w' : World} {b : Nat} {t : Tst} (h : TeSlot w b t) (hb : Bel w w') : TeSlot w' b t := ⟨Nat.lt_of_lt_of_le h.1 hb.size, h.2.keep hb h.1⟩
set_option maxRecDepth 100000 in
set_option maxHeartbeats 8000000 in
theorem utext_one (k : Int) (hk : k = 1 ∨ k = 2 ∨ k = 3 ∨ k = 4 ∨ k = 5) (v : Val) (hv : vsnd v = true) (w : World) (ht : Tab w) (hm : Mx w) : Calls Tryz.prog 12 #[(⟨k, v, zv, false, false⟩ : Tst).val] w fun e w' => e = .returned (.string (bytesOf (txT ⟨k, v, zv, false, false⟩))) ∧ Bel w w' := by
  have CT := Lib.hid fun W (hW : Bel w W) => vtext_any v (snd_text hv) W (ht.keep hW) (hm.keep hW)
  rw [text_ok hv] at CT
  have hz := vtx_size hv
  obtain ⟨vk, vn, vs, vt, vm⟩ := v
  clear ht hm hv
  rcases hk with rfl | rfl | rfl | rfl | rfl
  · have E := Lib.hid (show bytesOf (txT ⟨1, ⟨vk, vn, vs, vt, vm⟩, zv, false, false⟩) = vtx ⟨vk, vn, vs, vt, vm⟩ from rfl)
    generalize bytesOf (txT ⟨1, ⟨vk, vn, vs, vt, vm⟩, zv, false, false⟩) = OUT at E ⊢
    generalize vtx ⟨vk, vn, vs, vt, vm⟩ = z at E CT hz
    have CS := Lib.hid fun W => signOf_any 1 W
    rw [if_neg (by decide), show bytesOf [] = (⟨#[]⟩ : ByteArray) from rfl] at CS
    go_enter Tryz.func12, Tryz.ntmps12
    go_upto_region 1 with fail
    refine under_name ((Bel.refl w).alloc _) fun W hcc hf hz0 hb => ?_
    have T : TeSlot W w.heap.size ⟨1, ⟨vk, vn, vs, vt, vm⟩, zv, false, false⟩ := by simp [TeSlot, TstAt, zv, hcc, hz0, go_sem]
    clear hcc hf hz0
    generalize hN : w.heap.size = N at T ⊢
    clear hN
    have KQ := Lib.hid T
    obtain ⟨q0, q1, q2, q3, q4, q5, q6, q7, q8, q9, q10, q11, q12, q13⟩ := T
    simp only [zv] at q1 q2 q3 q4 q5 q6 q7 q8 q9 q10 q11 q12 q13
    go_wp2_with (first
      | (go_at_call 22; (with_reducible refine Calls.mono (CT.out _ hb) ?_); rintro ee V1 ⟨rfl, hb1⟩; have hq1 := Lib.hid hb1; obtain ⟨p0, p1, p2, p3, p4, p5, p6, p7, p8, p9, p10, p11, p12, p13⟩ := KQ.out.keep hb1; simp only [zv] at p1 p2 p3 p4 p5 p6 p7 p8 p9 p10 p11 p12 p13)
      | (go_at_call 25; (with_reducible refine Calls.mono (CS.out _) ?_); rintro ee V2 ⟨rfl, hb2⟩; have hq2 := Lib.hid (hq1.out.trans hb2)))
    go_ret
    exact ⟨by (rw [E.out]) <;> rfl, hb.trans hq2.out⟩
  · have E := Lib.hid (show bytesOf (txT ⟨2, ⟨vk, vn, vs, vt, vm⟩, zv, false, false⟩) = (⟨#[60]⟩ : ByteArray) ++ (⟨#[32]⟩ : ByteArray) ++ vtx ⟨vk, vn, vs, vt, vm⟩ from by
      rw [← vx_bytes, show (⟨#[60]⟩ : ByteArray) ++ (⟨#[32]⟩ : ByteArray) = bytesOf [60, 32] from rfl, bytes_app]
      rfl)
    generalize bytesOf (txT ⟨2, ⟨vk, vn, vs, vt, vm⟩, zv, false, false⟩) = OUT at E ⊢
    generalize vtx ⟨vk, vn, vs, vt, vm⟩ = z at E CT hz
    have CS := Lib.hid fun W => signOf_any 2 W
    rw [if_pos (by decide), show bytesOf (sgnO 2) = (⟨#[60]⟩ : ByteArray) from rfl] at CS
    go_enter Tryz.func12, Tryz.ntmps12
    go_upto_region 1 with fail
    refine under_name ((Bel.refl w).alloc _) fun W hcc hf hz0 hb => ?_
    have T : TeSlot W w.heap.size ⟨2, ⟨vk, vn, vs, vt, vm⟩, zv, false, false⟩ := by simp [TeSlot, TstAt, zv, hcc, hz0, go_sem]
    clear hcc hf hz0
    generalize hN : w.heap.size = N at T ⊢
    clear hN
    have KQ := Lib.hid T
    obtain ⟨q0, q1, q2, q3, q4, q5, q6, q7, q8, q9, q10, q11, q12, q13⟩ := T
    simp only [zv] at q1 q2 q3 q4 q5 q6 q7 q8 q9 q10 q11 q12 q13
    go_wp2_with (first
      | (go_at_call 22; (with_reducible refine Calls.mono (CT.out _ hb) ?_); rintro ee V1 ⟨rfl, hb1⟩; have hq1 := Lib.hid hb1; obtain ⟨p0, p1, p2, p3, p4, p5, p6, p7, p8, p9, p10, p11, p12, p13⟩ := KQ.out.keep hb1; simp only [zv] at p1 p2 p3 p4 p5 p6 p7 p8 p9 p10 p11 p12 p13)
      | (go_at_call 25; (with_reducible refine Calls.mono (CS.out _) ?_); rintro ee V2 ⟨rfl, hb2⟩; have hq2 := Lib.hid (hq1.out.trans hb2)))
    go_ret
    exact ⟨by (rw [E.out]) <;> rfl, hb.trans hq2.out⟩
  · have E := Lib.hid (show bytesOf (txT ⟨3, ⟨vk, vn, vs, vt, vm⟩, zv, false, false⟩) = (⟨#[60, 61]⟩ : ByteArray) ++ (⟨#[32]⟩ : ByteArray) ++ vtx ⟨vk, vn, vs, vt, vm⟩ from by
      rw [← vx_bytes, show (⟨#[60, 61]⟩ : ByteArray) ++ (⟨#[32]⟩ : ByteArray) = bytesOf [60, 61, 32] from rfl, bytes_app]
      rfl)
    generalize bytesOf (txT ⟨3, ⟨vk, vn, vs, vt, vm⟩, zv, false, false⟩) = OUT at E ⊢
    generalize vtx ⟨vk, vn, vs, vt, vm⟩ = z at E CT hz
    have CS := Lib.hid fun W => signOf_any 3 W
    rw [if_pos (by decide), show bytesOf (sgnO 3) = (⟨#[60, 61]⟩ : ByteArray) from rfl] at CS
    go_enter Tryz.func12, Tryz.ntmps12
    go_upto_region 1 with fail
    refine under_name ((Bel.refl w).alloc _) fun W hcc hf hz0 hb => ?_
    have T : TeSlot W w.heap.size ⟨3, ⟨vk, vn, vs, vt, vm⟩, zv, false, false⟩ := by simp [TeSlot, TstAt, zv, hcc, hz0, go_sem]
    clear hcc hf hz0
    generalize hN : w.heap.size = N at T ⊢
    clear hN
    have KQ := Lib.hid T
    obtain ⟨q0, q1, q2, q3, q4, q5, q6, q7, q8, q9, q10, q11, q12, q13⟩ := T
    simp only [zv] at q1 q2 q3 q4 q5 q6 q7 q8 q9 q10 q11 q12 q13
    go_wp2_with (first
      | (go_at_call 22; (with_reducible refine Calls.mono (CT.out _ hb) ?_); rintro ee V1 ⟨rfl, hb1⟩; have hq1 := Lib.hid hb1; obtain ⟨p0, p1, p2, p3, p4, p5, p6, p7, p8, p9, p10, p11, p12, p13⟩ := KQ.out.keep hb1; simp only [zv] at p1 p2 p3 p4 p5 p6 p7 p8 p9 p10 p11 p12 p13)
      | (go_at_call 25; (with_reducible refine Calls.mono (CS.out _) ?_); rintro ee V2 ⟨rfl, hb2⟩; have hq2 := Lib.hid (hq1.out.trans hb2)))
    go_ret
    exact ⟨by (rw [E.out]) <;> rfl, hb.trans hq2.out⟩
  · have E := Lib.hid (show bytesOf (txT ⟨4, ⟨vk, vn, vs, vt, vm⟩, zv, false, false⟩) = (⟨#[62]⟩ : ByteArray) ++ (⟨#[32]⟩ : ByteArray) ++ vtx ⟨vk, vn, vs, vt, vm⟩ from by
      rw [← vx_bytes, show (⟨#[62]⟩ : ByteArray) ++ (⟨#[32]⟩ : ByteArray) = bytesOf [62, 32] from rfl, bytes_app]
      rfl)
    generalize bytesOf (txT ⟨4, ⟨vk, vn, vs, vt, vm⟩, zv, false, false⟩) = OUT at E ⊢
    generalize vtx ⟨vk, vn, vs, vt, vm⟩ = z at E CT hz
    have CS := Lib.hid fun W => signOf_any 4 W
    rw [if_pos (by decide), show bytesOf (sgnO 4) = (⟨#[62]⟩ : ByteArray) from rfl] at CS
    go_enter Tryz.func12, Tryz.ntmps12
    go_upto_region 1 with fail
    refine under_name ((Bel.refl w).alloc _) fun W hcc hf hz0 hb => ?_
    have T : TeSlot W w.heap.size ⟨4, ⟨vk, vn, vs, vt, vm⟩, zv, false, false⟩ := by simp [TeSlot, TstAt, zv, hcc, hz0, go_sem]
    clear hcc hf hz0
    generalize hN : w.heap.size = N at T ⊢
    clear hN
    have KQ := Lib.hid T
    obtain ⟨q0, q1, q2, q3, q4, q5, q6, q7, q8, q9, q10, q11, q12, q13⟩ := T
    simp only [zv] at q1 q2 q3 q4 q5 q6 q7 q8 q9 q10 q11 q12 q13
    go_wp2_with (first
      | (go_at_call 22; (with_reducible refine Calls.mono (CT.out _ hb) ?_); rintro ee V1 ⟨rfl, hb1⟩; have hq1 := Lib.hid hb1; obtain ⟨p0, p1, p2, p3, p4, p5, p6, p7, p8, p9, p10, p11, p12, p13⟩ := KQ.out.keep hb1; simp only [zv] at p1 p2 p3 p4 p5 p6 p7 p8 p9 p10 p11 p12 p13)
      | (go_at_call 25; (with_reducible refine Calls.mono (CS.out _) ?_); rintro ee V2 ⟨rfl, hb2⟩; have hq2 := Lib.hid (hq1.out.trans hb2)))
    go_ret
    exact ⟨by (rw [E.out]) <;> rfl, hb.trans hq2.out⟩
  · have E := Lib.hid (show bytesOf (txT ⟨5, ⟨vk, vn, vs, vt, vm⟩, zv, false, false⟩) = (⟨#[62, 61]⟩ : ByteArray) ++ (⟨#[32]⟩ : ByteArray) ++ vtx ⟨vk, vn, vs, vt, vm⟩ from by
      rw [← vx_bytes, show (⟨#[62, 61]⟩ : ByteArray) ++ (⟨#[32]⟩ : ByteArray) = bytesOf [62, 61, 32] from rfl, bytes_app]
      rfl)
    generalize bytesOf (txT ⟨5, ⟨vk, vn, vs, vt, vm⟩, zv, false, false⟩) = OUT at E ⊢
    generalize vtx ⟨vk, vn, vs, vt, vm⟩ = z at E CT hz
    have CS := Lib.hid fun W => signOf_any 5 W
    rw [if_pos (by decide), show bytesOf (sgnO 5) = (⟨#[62, 61]⟩ : ByteArray) from rfl] at CS
    go_enter Tryz.func12, Tryz.ntmps12
    go_upto_region 1 with fail
    refine under_name ((Bel.refl w).alloc _) fun W hcc hf hz0 hb => ?_
    have T : TeSlot W w.heap.size ⟨5, ⟨vk, vn, vs, vt, vm⟩, zv, false, false⟩ := by simp [TeSlot, TstAt, zv, hcc, hz0, go_sem]
    clear hcc hf hz0
    generalize hN : w.heap.size = N at T ⊢
    clear hN
    have KQ := Lib.hid T
    obtain ⟨q0, q1, q2, q3, q4, q5, q6, q7, q8, q9, q10, q11, q12, q13⟩ := T
    simp only [zv] at q1 q2 q3 q4 q5 q6 q7 q8 q9 q10 q11 q12 q13
    go_wp2_with (first
      | (go_at_call 22; (with_reducible refine Calls.mono (CT.out _ hb) ?_); rintro ee V1 ⟨rfl, hb1⟩; have hq1 := Lib.hid hb1; obtain ⟨p0, p1, p2, p3, p4, p5, p6, p7, p8, p9, p10, p11, p12, p13⟩ := KQ.out.keep hb1; simp only [zv] at p1 p2 p3 p4 p5 p6 p7 p8 p9 p10 p11 p12 p13)
      | (go_at_call 25; (with_reducible refine Calls.mono (CS.out _) ?_); rintro ee V2 ⟨rfl, hb2⟩; have hq2 := Lib.hid (hq1.out.trans hb2)))
    go_ret
    exact ⟨by (rw [E.out]) <;> rfl, hb.trans hq2.out⟩
end Go.Proofs.YtdggbafpdjenmaaGreatDoor
namespace Go.Proofs.YtdggbafpdjenmaaGreatDoor
set_option linter.unusedSimpArgs false
set_option linter.unusedVariables false
open Go.RowKit
/-! An interval as a text; any test. -/
set_option maxRecDepth 100000 in
set_option maxHeartbeats 8000000 in
theorem utext_bet (lo hi : Val) (a b : Bool) (h1 : vsnd lo = true) (h2 : vsnd hi = true) (w : World) (ht : Tab w) (hm : Mx w) : Calls Tryz.prog 12 #[(⟨6, lo, hi, a, b⟩ : Tst).val] w fun e w' => e = .returned (.string (bytesOf (txT ⟨6, lo, hi, a, b⟩))) ∧ Bel w w' := by
  have CL := Lib.hid fun W (hW : Bel w W) => vtext_any lo (snd_text h1) W (ht.keep hW) (hm.keep hW)
  have CH := Lib.hid fun W (hW : Bel w W) => vtext_any hi (snd_text h2) W (ht.keep hW) (hm.keep hW)
  rw [text_ok h1] at CL
  rw [text_ok h2] at CH
  have hz := vtx_size h1
  have hy := vtx_size h2
  have CB := Lib.hid fun W => begins_any a W
  have CE := Lib.hid fun W => finishes_any b W
  have E := Lib.hid (show bytesOf (txT ⟨6, lo, hi, a, b⟩) = (if a = true then (⟨#[40]⟩ : ByteArray) else ⟨#[91]⟩) ++ vtx lo ++ (⟨#[46, 46]⟩ : ByteArray) ++ vtx hi ++ (if b = true then (⟨#[41]⟩ : ByteArray) else ⟨#[93]⟩) from by
    rw [← vx_bytes, ← vx_bytes, show (if a = true then (⟨#[40]⟩ : ByteArray) else ⟨#[91]⟩) = bytesOf (if a = true then [40] else [91]) from by cases a <;> rfl, show (if b = true then (⟨#[41]⟩ : ByteArray) else ⟨#[93]⟩) = bytesOf (if b = true then [41] else [93]) from by cases b <;> rfl, show (⟨#[46, 46]⟩ : ByteArray) = bytesOf [46, 46] from rfl, bytes_app, bytes_app, bytes_app, bytes_app]
    rw [show txT ⟨6, lo, hi, a, b⟩ = (if a = true then [40] else [91]) ++ (vxL lo ++ ([46, 46] ++ (vxL hi ++ (if b = true then [41] else [93])))) from rfl]
    simp only [List.append_assoc])
  have sa : ((if a = true then (⟨#[40]⟩ : ByteArray) else ⟨#[91]⟩).size : Int) ≤ 1 := by cases a <;> decide
  have sb : ((if b = true then (⟨#[41]⟩ : ByteArray) else ⟨#[93]⟩).size : Int) ≤ 1 := by cases b <;> decide
  generalize (if a = true then (⟨#[40]⟩ : ByteArray) else ⟨#[91]⟩) = za at CB E sa
  generalize (if b = true then (⟨#[41]⟩ : ByteArray) else ⟨#[93]⟩) = zb at CE E sb
  generalize bytesOf (txT ⟨6, lo, hi, a, b⟩) = OUT at E ⊢
  generalize vtx lo = z at E CL hz
  generalize vtx hi = y at E CH hy
  obtain ⟨vk, vn, vs, vt, vm⟩ := lo
  obtain ⟨uk, un, us, ut, um⟩ := hi
  clear ht hm h1 h2
  have s1 : ((za ++ z).size : Int) ≤ 1001 := by rw [ByteArray.size_append]; omega
  have s2 : ((za ++ z ++ (⟨#[46, 46]⟩ : ByteArray)).size : Int) ≤ 1003 := by
    rw [ByteArray.size_append, show (⟨#[46, 46]⟩ : ByteArray).size = 2 from rfl]; omega
  have s3 : ((za ++ z ++ (⟨#[46, 46]⟩ : ByteArray) ++ y).size : Int) ≤ 2003 := by rw [ByteArray.size_append]; omega
  go_enter Tryz.func12, Tryz.ntmps12
  go_upto_region 1 with fail
  refine under_name ((Bel.refl w).alloc _) fun W hcc hf hz0 hb => ?_
  have T : TeSlot W w.heap.size ⟨6, ⟨vk, vn, vs, vt, vm⟩, ⟨uk, un, us, ut, um⟩, a, b⟩ := by simp [TeSlot, TstAt, hcc, hz0, go_sem]
  clear hcc hf hz0
  generalize hN : w.heap.size = N at T ⊢
  clear hN
  have KQ := Lib.hid T
  obtain ⟨q0, q1, q2, q3, q4, q5, q6, q7, q8, q9, q10, q11, q12, q13⟩ := T
  simp only at q1 q2 q3 q4 q5 q6 q7 q8 q9 q10 q11 q12 q13
  go_upto_region 3 with (go_at_call 22; (with_reducible refine Calls.mono (CL.out _ hb) ?_); rintro ee V1 ⟨rfl, hb1⟩; have hq1 := Lib.hid hb1; clear q0 q1 q2 q3 q4 q5 q6 q7 q8 q9 q10 q11 q12 q13; obtain ⟨q0, q1, q2, q3, q4, q5, q6, q7, q8, q9, q10, q11, q12, q13⟩ := KQ.out.keep hb1; simp only at q1 q2 q3 q4 q5 q6 q7 q8 q9 q10 q11 q12 q13)
  go_upto_region 4 with (go_at_call 22; (with_reducible refine Calls.mono (CH.out _ (hb.trans hq1.out)) ?_); rintro ee V2 ⟨rfl, hb2⟩; have hq2 := Lib.hid (hq1.out.trans hb2); clear q0 q1 q2 q3 q4 q5 q6 q7 q8 q9 q10 q11 q12 q13; obtain ⟨q0, q1, q2, q3, q4, q5, q6, q7, q8, q9, q10, q11, q12, q13⟩ := KQ.out.keep hq2.out; simp only at q1 q2 q3 q4 q5 q6 q7 q8 q9 q10 q11 q12 q13)
  go_quiet ((first
    | (go_at_call 23; exact Calls.quiet_of_same (CB.out _))
    | (go_at_call 24; exact Calls.quiet_of_same (CE.out _))))
  go_wp2_with fail
  go_ret
  exact ⟨by (rw [E.out]) <;> rfl, (hb.trans hq2.out).trans (bel_drewN _ _)⟩
end Go.Proofs.YtdggbafpdjenmaaGreatDoor
namespace Go.Proofs.YtdggbafpdjenmaaGreatDoor
set_option linter.unusedSimpArgs false
set_option linter.unusedVariables false
open Go.RowKit
/-! Any sound test as a text; rows of texts. -/
theorem utext_any (x : Tst) (h : tsnd x = true) (w : World) (ht : Tab w) (hm : Mx w) : Calls Tryz.prog 12 #[x.val] w fun e w' => e = .returned (.string (bytesOf (txT x))) ∧ Bel w w' := by
  rcases tst_form (fun v hv => val_form hv) h with ⟨v, rfl, hv, hs⟩ | ⟨k, v, rfl, hk, hv, hs, ho⟩ | ⟨lo, hi, a, b, rfl, h1, h2, s1, s2, h3, h4⟩
  · exact utext_one 1 (.inl rfl) v hs w ht hm
  · exact utext_one k (.inr hk) v hs w ht hm
  · exact utext_bet lo hi a b s1 s2 w ht hm
/-- A block of texts, free for stores. -/
def XRow (w : World) (b n : Nat) (f : Nat → ByteArray) : Prop := b < w.heap.size ∧ ∀ i, i < n → w.cell? ⟨b, i, none⟩ = some (.string (f i)) ∧ w.frozen? ⟨b, i, none⟩ = false
theorem XRow.keep {w w' : World} {b n : Nat} {f : Nat → ByteArray} (h : XRow w b n f) (hb : Bel w w') : XRow w' b n f :=
  ⟨Nat.lt_of_lt_of_le h.1 hb.size, fun i hi => by rw [hb.cells _ _ h.1, hb.frozens _ _ h.1]; exact h.2 i hi⟩
theorem XRow.put {w : World} {b n : Nat} {f : Nat → ByteArray} (h : XRow w b n f) (k : Nat) (x : ByteArray) (hk : k < n) : XRow (w.setCell ⟨b, k, none⟩ (.string x)) b n (fun i => if i = k then x else f i) := by
  refine ⟨by simpa [World.setCell] using h.1, fun i hi => ?_⟩
  obtain ⟨h1, h2⟩ := h.2 i hi
  obtain ⟨h3, h4⟩ := h.2 k hk
  show (w.setCell ⟨b, k, none⟩ (.string x)).cell? ⟨b, i, none⟩ = some (.string (if i = k then x else f i)) ∧ _
  by_cases e : i = k
  · subst e
    rw [if_pos rfl]
    exact ⟨by simp [go_sem, h1], by simp [go_sem, h2]⟩
  · rw [if_neg e]
    have e' : ¬ k = i := fun h => e h.symm
    exact ⟨by simp [go_sem, h1, e, e'], by simp [go_sem, h2, e, e']⟩
theorem XRow.ext {w : World} {b n : Nat} {f g : Nat → ByteArray} (h : XRow w b n f) (he : ∀ i, i < n → f i = g i) : XRow w b n g := ⟨h.1, fun i hi => by rw [← he i hi]; exact h.2 i hi⟩
theorem made_txs (w : World) (n : Nat) (t : TypeId) : XRow (w.alloc (.cells (madeCells #[.string ⟨#[]⟩] n) t)) w.heap.size n (fun _ => ⟨#[]⟩) := by
  have h := World.rowIs_made w (.string ⟨#[]⟩) n t
  exact ⟨h.lt, fun i hi => ⟨h.cell hi, h.frozen i⟩⟩
theorem Tryz.underTxs : Tryz.prog.underlying 34 = some (.slice 9) := by kernel_rfl
theorem Tryz.infoTxs : (Tryz.prog.info? 9).map (fun i => (i.zero, i.size, i.bytes)) = some (some (.string ⟨#[]⟩), 1, 16) := by kernel_rfl
theorem make_txs (n : Nat) (hn : n ≤ 1000) (w : World) : (Instr.makeSlice 34 (.int .i64 n) (.int .i64 n)).run Tryz.prog w = .ok (.slice (some ⟨w.heap.size, 0, none⟩) n n) (w.alloc (.cells (madeCells #[.string ⟨#[]⟩] n) 9)) :=
  run_make_row' 34 9 (.string ⟨#[]⟩) 16 Tryz.underTxs Tryz.infoTxs rfl .i64 .i64 n (by omega) (by omega) w
/-- The parts' texts with a comma and a blank between. -/
theorem txL_join (l : List Tst) : txL l = Lib.join (l.map txT) [44, 32] := by
  match l with
  | [] => rfl
  | [x] => exact (Lib.join_one _ _).symm
  | x :: y :: t =>
    have ih := txL_join (y :: t)
    rw [show txL (x :: y :: t) = txT x ++ ([44] ++ ([32] ++ txL (y :: t))) from rfl, ih]
    simp [Lib.join, List.intercalate]
end Go.Proofs.YtdggbafpdjenmaaGreatDoor
namespace Go.Proofs.YtdggbafpdjenmaaGreatDoor
set_option linter.unusedSimpArgs false
set_option linter.unusedVariables false
open Go.RowKit
/-! Tests as a text. -/
noncomputable def utxV (any no : Bool) (l : List Tst) : Value := if usnd any no l = true then .tuple #[.string (bytesOf (txU ⟨any, no, l⟩)), .int .i64 0] else .tuple #[.string ⟨#[]⟩, .int .i64 2]
/-- The texts of the first so many. -/
noncomputable def txAt (l : List Tst) (k i : Nat) : ByteArray := if i < k then (match l[i]? with | some x => bytesOf (txT x) | none => ⟨#[]⟩) else ⟨#[]⟩
theorem txAt_put (l : List Tst) (k : Nat) (x : Tst) (hx : l[k]? = some x) (i : Nat) : (if i = k then bytesOf (txT x) else txAt l k i) = txAt l (k + 1) i := by
  unfold txAt
  by_cases e : i = k
  · subst e
    rw [if_pos rfl, if_pos (by omega), hx]
  · rw [if_neg e]
    by_cases h : i < k
    · rw [if_pos h, if_pos (by omega)]
    · rw [if_neg h, if_neg (by omega)]
set_option maxRecDepth 100000 in
set_option maxHeartbeats 8000000 in
theorem uText_list (no : Bool) (l : List Tst) (A : Option Addr) (c : Nat) (w : World) (hs : Tsts w A l) (hl : 0 < l.length) (h8 : l.length ≤ 8) (ht : ∀ t ∈ l, TOk t) (hS : ∀ x ∈ l, tsnd x = true) (hT : Tab w) (hm : Mx w) :
    Calls Tryz.prog 6 #[tsv false no (.slice A l.length c)] w fun e w' => e = .returned (.tuple #[.string (bytesOf (txU ⟨false, no, l⟩)), .int .i64 0]) ∧ Bel w w' := by
  have CS := Lib.hid fun W (hW : Bel w W) => usound_any false no l A c W (hs.keep hW) (by omega) ht
  have HU : usnd false no l = true := by
    unfold usnd
    rw [if_neg (by decide), if_neg (by omega)]
    exact List.all_eq_true.2 hS
  rw [HU] at CS
  have li : (l.length : Int) ≤ 8 := by omega
  have hmk : ∀ w, (Instr.makeSlice 34 (.int .i64 l.length) (.int .i64 l.length)).run Tryz.prog w = .ok (.slice (some ⟨w.heap.size, 0, none⟩) l.length l.length) (w.alloc (.cells (madeCells #[.string ⟨#[]⟩] l.length) 9)) := make_txs l.length (by omega)
  have HMK := Lib.hid hmk
  obtain ⟨bA, oA, hA, hbA, hat⟩ := hs hl
  subst hA
  have KA := Lib.hid hat
  have HT := Lib.hid hT
  have HM := Lib.hid hm
  have HSN := Lib.hid hS
  clear hs hat hT hm hmk HU ht hS
  go_enter Tryz.func6, Tryz.ntmps6
  go_upto_region 1 with fail
  refine under_name ((Bel.refl w).alloc _) fun W hcc hf hz0 hb => ?_
  have T : w.heap.size < W.heap.size ∧ W.cell? ⟨w.heap.size, 0, none⟩ = some (.bool false) ∧ W.cell? ⟨w.heap.size, 1, none⟩ = some (.bool no) ∧ W.cell? ⟨w.heap.size, 2, none⟩ = some (.slice (some ⟨bA, oA, none⟩) l.length c) := by simp [hcc, hz0, go_sem]
  clear hcc hf hz0
  generalize hN : w.heap.size = N at T ⊢
  have NW := Lib.hid (show w.heap.size ≤ N from by omega)
  clear hN
  have KQ := Lib.hid T
  obtain ⟨q0, q1, q2, q3⟩ := T
  go_upto_region 5 with (go_at_call 11; (with_reducible refine Calls.mono (CS.out _ hb) ?_); rintro ee V1 ⟨rfl, hb1⟩; have hq1 := Lib.hid hb1; clear q1 q2 q3; obtain ⟨q1, q2, q3⟩ : V1.cell? ⟨N, 0, none⟩ = some (.bool false) ∧ V1.cell? ⟨N, 1, none⟩ = some (.bool no) ∧ V1.cell? ⟨N, 2, none⟩ = some (.slice (some ⟨bA, oA, none⟩) l.length c) := by (obtain ⟨z0, z1, z2, z3⟩ := KQ.out; rw [hb1.cells _ _ z0, hb1.cells _ _ z0, hb1.cells _ _ z0]; exact ⟨z1, z2, z3⟩))
  have hmk := HMK.out
  go_upto_region 6 with fail
  refine under_name ((Bel.refl V1).alloc _) fun U hcc hf hz hu => ?_
  have XD : XRow U V1.heap.size l.length (txAt l 0) := by
    have h := made_txs V1 l.length 9
    exact XRow.ext (f := fun _ => ⟨#[]⟩) ⟨by rw [hz]; exact h.1, fun i hi => by rw [hcc, hf]; exact h.2 i hi⟩ (fun i hi => by simp [txAt])
  clear hcc hf hz hmk
  have nv : N < V1.heap.size := Nat.lt_of_lt_of_le q0 hq1.out.size
  clear q1 q2 q3
  obtain ⟨q1, q2, q3⟩ : U.cell? ⟨N, 0, none⟩ = some (.bool false) ∧ U.cell? ⟨N, 1, none⟩ = some (.bool no) ∧ U.cell? ⟨N, 2, none⟩ = some (.slice (some ⟨bA, oA, none⟩) l.length c) := by
    obtain ⟨z0, z1, z2, z3⟩ := KQ.out
    have hh := hq1.out.trans hu
    rw [hh.cells _ _ z0, hh.cells _ _ z0, hh.cells _ _ z0]
    exact ⟨z1, z2, z3⟩
  have BU := Lib.hid (hb.trans (hq1.out.trans hu))
  have nu := Nat.lt_of_lt_of_le nv hu.size
  have hPW : w.heap.size ≤ V1.heap.size := (hb.trans hq1.out).size
  generalize hP : V1.heap.size = P at XD ⊢
  have NP : N ≠ P := by omega
  have PW := Lib.hid (show w.heap.size ≤ P from by omega)
  clear hP hPW nv
  have Q1 := Lib.hid (And.intro q2 nu)
  go_wp2_with fail
  go_loopg [20] (l.length + 1) (fun g iv wr => ∃ k : Nat, iv = .int .i64 k ∧ k ≤ l.length ∧ Hid (l.length + 1 - k ≤ g) ∧ Hid (XRow wr P l.length (txAt l k)) ∧ Hid (Bel w wr) ∧ Hid (wr.cell? ⟨N, 1, none⟩ = some (.bool no) ∧ N < wr.heap.size))
  case atStart => exact ⟨0, rfl, Nat.zero_le _, Lib.hid (by omega), Lib.hid XD, BU, Q1⟩
  case round =>
    clear q0 q1 q2 q3 nu Q1 BU XD
    obtain ⟨k, rfl, hk, hg, hX, hB, hQ⟩ := hrel
    by_cases hlt : k < l.length
    · have w1 : IntKind.i64.wrap ((k : Int) + 1) = ((k + 1 : Nat) : Int) := by rw [IntKind.wrap_i64]; omega
      have l1 : (k : Int) < l.length := by omega
      have l0 : (0 : Int) ≤ (k : Int) := by omega
      obtain ⟨x, hx⟩ : ∃ x, l[k]? = some x := ⟨_, List.getElem?_eq_getElem hlt⟩
      have hsx := HSN.out x (List.mem_of_getElem? hx)
      have CX := Lib.hid fun W (hW : Bel wr W) => utext_any x hsx W (HT.out.keep (hB.out.trans hW)) (HM.out.keep (hB.out.trans hW))
      have PUT := Lib.hid fun i => txAt_put l k x hx i
      obtain ⟨k0, k1, k2, k3, k4, k5, k6, k7, k8, k9, k10, k11, k12⟩ := (KA.out k x hx).keep hB.out hbA
      have hbw := Nat.lt_of_lt_of_le hbA hB.out.size
      obtain ⟨xk, ⟨a1, a2, a3, a4, a5⟩, ⟨b1, b2, b3, b4, b5⟩, xo, xh⟩ := x
      simp only at k0 k1 k2 k3 k4 k5 k6 k7 k8 k9 k10 k11 k12
      generalize bytesOf (txT ⟨xk, ⟨a1, a2, a3, a4, a5⟩, ⟨b1, b2, b3, b4, b5⟩, xo, xh⟩) = z at CX PUT
      clear hx hsx
      go_upto_region 9 with fail
      refine under_name ((Bel.refl wr).alloc _) fun Y hcc hf hz0 hy => ?_
      have T : TeSlot Y wr.heap.size ⟨xk, ⟨a1, a2, a3, a4, a5⟩, ⟨b1, b2, b3, b4, b5⟩, xo, xh⟩ := by simp [TeSlot, TstAt, hcc, hz0, go_sem]
      clear hcc hf hz0 k0 k1 k2 k3 k4 k5 k6 k7 k8 k9 k10 k11 k12
      generalize hM : wr.heap.size = M at T ⊢
      clear hM
      obtain ⟨s0, s1, s2, s3, s4, s5, s6, s7, s8, s9, s10, s11, s12, s13⟩ := T
      simp only at s1 s2 s3 s4 s5 s6 s7 s8 s9 s10 s11 s12 s13
      go_wp2_with (go_at_call 12; (with_reducible refine Calls.mono (CX.out _ hy) ?_); rintro ee V2 ⟨rfl, hb2⟩; have hq2 := Lib.hid (hy.trans hb2); have hX2 := Lib.hid (hX.out.keep hq2.out); obtain ⟨p1, p2⟩ := hX2.out.2 k hlt)
      go_roundg (l.length + 1 - (k + 1))
      case measure => have := hg.out; omega
      case rel =>
        refine ⟨k + 1, by go_num, by omega, Lib.hid (Nat.le_refl _), Lib.hid ((hX2.out.put k z hlt).ext fun i _ => PUT.out i), Lib.hid ((hB.out.trans hq2.out).setCell PW.out _), Lib.hid ?_⟩
        obtain ⟨z1, z2⟩ := hQ.out
        refine ⟨?_, by simpa [World.setCell] using Nat.lt_of_lt_of_le z2 hq2.out.size⟩
        rw [World.cell?_setCell_far _ _ _ _ (fun e => NP e.symm), hq2.out.cells _ _ z2]
        exact z1
    · obtain rfl : k = l.length := by omega
      have hf : ∀ x ∈ l, TstForm x := fun x hx => tst_form (fun v hv => val_form hv) (HSN.out x hx)
      have hlen := txL_len v_reads l hf
      have JE : (Lib.join ((l.map fun x => bytesOf (txT x)).map (·.data.toList)) (⟨#[44, 32]⟩ : ByteArray).data.toList) = txL l := by
        rw [List.map_map, txL_join]
        rfl
      have CJ := Tryz.strings_Join P 0 l.length (l.map fun x => bytesOf (txT x)) ⟨#[44, 32]⟩ wr (fun j x hx => by
        rw [List.getElem?_map] at hx
        obtain ⟨y, hy, rfl⟩ := Option.map_eq_some_iff.1 hx
        have hj := (List.getElem?_eq_some_iff.1 hy).1
        rw [Nat.zero_add, (hX.out.2 j hj).1]
        unfold txAt
        rw [if_pos hj, hy]) hX.out.1 (by rw [List.length_map]; omega) (by rw [List.length_map]; exact Nat.le_refl _) (by rw [JE]; omega)
      rw [JE, List.length_map] at CJ
      have CJ := Lib.hid (show Calls Tryz.prog 13 #[.slice (some ⟨P, 0, none⟩) l.length l.length, .string ⟨#[44, 32]⟩] wr fun e w' => e = .returned (.string (bytesOf (txL l))) ∧ Bel wr w' from CJ)
      have hzl : ((bytesOf (txL l)).size : Int) ≤ 17000 := by rw [sizeB]; omega
      have EN := Lib.hid (show (⟨#[110, 111, 116, 40]⟩ : ByteArray) ++ bytesOf (txL l) ++ (⟨#[41]⟩ : ByteArray) = bytesOf (txU ⟨false, true, l⟩) from by
        rw [show (⟨#[110, 111, 116, 40]⟩ : ByteArray) = bytesOf [110, 111, 116, 40] from rfl, show (⟨#[41]⟩ : ByteArray) = bytesOf [41] from rfl, bytes_app, bytes_app]
        rw [show txU ⟨false, true, l⟩ = [110, 111, 116] ++ ([40] ++ (txL l ++ [41])) from rfl]
        simp)
      have EF := Lib.hid (show bytesOf (txL l) = bytesOf (txU ⟨false, false, l⟩) from rfl)
      generalize bytesOf (txL l) = z at CJ EN EF hzl
      clear hf hlen JE
      have hz2 : (((⟨#[110, 111, 116, 40]⟩ : ByteArray) ++ z).size : Int) ≤ 17004 := by
        rw [ByteArray.size_append, show (⟨#[110, 111, 116, 40]⟩ : ByteArray).size = 4 from rfl]; omega
      have NQ := Lib.hid fun W (hW : Bel wr W) => (show W.cell? ⟨N, 1, none⟩ = some (.bool no) from by rw [hW.cells _ _ hQ.out.2]; exact hQ.out.1)
      cases no with
      | true =>
        go_wp2_with (go_at_call 13; (with_reducible refine Calls.mono CJ.out ?_); rintro ee V2 ⟨rfl, hb2⟩; have hq2 := Lib.hid hb2; have p1 := NQ.out V2 hb2)
        go_ret2
        exact ⟨by (rw [← EN.out]) <;> rfl, hB.out.trans hq2.out⟩
      | false =>
        go_wp2_with (go_at_call 13; (with_reducible refine Calls.mono CJ.out ?_); rintro ee V2 ⟨rfl, hb2⟩; have hq2 := Lib.hid hb2; have p1 := NQ.out V2 hb2)
        go_ret2
        exact ⟨by (rw [← EF.out]) <;> rfl, hB.out.trans hq2.out⟩
set_option maxRecDepth 100000 in
set_option maxHeartbeats 8000000 in
theorem uText_any (any no : Bool) (l : List Tst) (A : Option Addr) (c : Nat) (w : World) (hs : Tsts w A l) (hl : l.length ≤ 9223372036854775807) (ht : ∀ t ∈ l, TOk t) (hT : Tab w) (hm : Mx w) :
    Calls Tryz.prog 6 #[tsv any no (.slice A l.length c)] w fun e w' => e = .returned (utxV any no l) ∧ Bel w w' := by
  have CS := Lib.hid fun W (hW : Bel w W) => usound_any any no l A c W (hs.keep hW) hl ht
  cases hu : usnd any no l with
  | false =>
    have V := Lib.hid (show utxV any no l = .tuple #[.string ⟨#[]⟩, .int .i64 2] from if_neg (by rw [hu]; decide))
    rw [hu] at CS
    clear hs hT hm hu ht
    go_enter Tryz.func6, Tryz.ntmps6
    go_upto_region 1 with fail
    refine under_name ((Bel.refl w).alloc _) fun W hcc hf hz0 hb => ?_
    have q1 : W.cell? ⟨w.heap.size, 0, none⟩ = some (.bool any) := by simp [hcc, hz0, go_sem]
    have q2 : W.cell? ⟨w.heap.size, 1, none⟩ = some (.bool no) := by simp [hcc, hz0, go_sem]
    have q3 : W.cell? ⟨w.heap.size, 2, none⟩ = some (.slice A l.length c) := by simp [hcc, hz0, go_sem]
    clear hcc hf hz0
    go_wp2_with (go_at_call 11; (with_reducible refine Calls.mono (CS.out _ hb) ?_); rintro ee V1 ⟨rfl, hb1⟩; have hq1 := Lib.hid hb1)
    go_ret2
    exact ⟨by (rw [V.out]) <;> rfl, hb.trans hq1.out⟩
  | true =>
    have V : utxV any no l = .tuple #[.string (bytesOf (txU ⟨any, no, l⟩)), .int .i64 0] := if_pos hu
    rw [V]
    cases any with
    | false =>
      unfold usnd at hu
      rw [if_neg (by decide)] at hu
      by_cases h8 : l.length = 0 ∨ 8 < l.length
      · rw [if_pos h8] at hu; cases hu
      · rw [if_neg h8] at hu
        exact uText_list no l A c w hs (by omega) (by omega) ht (List.all_eq_true.1 hu) hT hm
    | true =>
      rw [hu] at CS
      have E := Lib.hid (show bytesOf (txU ⟨true, no, l⟩) = (⟨#[45]⟩ : ByteArray) from rfl)
      clear hs hT hm hu ht V
      go_enter Tryz.func6, Tryz.ntmps6
      go_upto_region 1 with fail
      refine under_name ((Bel.refl w).alloc _) fun W hcc hf hz0 hb => ?_
      have T : w.heap.size < W.heap.size ∧ W.cell? ⟨w.heap.size, 0, none⟩ = some (.bool true) ∧ W.cell? ⟨w.heap.size, 1, none⟩ = some (.bool no) ∧ W.cell? ⟨w.heap.size, 2, none⟩ = some (.slice A l.length c) := by simp [hcc, hz0, go_sem]
      clear hcc hf hz0
      generalize hN : w.heap.size = N at T ⊢
      clear hN
      obtain ⟨q0, q1, q2, q3⟩ := T
      have Q0 := Lib.hid (And.intro q0 q1)
      go_wp2_with (go_at_call 11; (with_reducible refine Calls.mono (CS.out _ hb) ?_); rintro ee V1 ⟨rfl, hb1⟩; have hq1 := Lib.hid hb1; clear q1; have q1 : V1.cell? ⟨N, 0, none⟩ = some (.bool true) := by (rw [hb1.cells _ _ Q0.out.1]; exact Q0.out.2))
      go_ret2
      exact ⟨by (rw [E.out]) <;> rfl, hb.trans hq1.out⟩
end Go.Proofs.YtdggbafpdjenmaaGreatDoor
namespace Go.Proofs.YtdggbafpdjenmaaGreatDoor
set_option linter.unusedSimpArgs false
set_option linter.unusedVariables false
open Go.RowKit
attribute [local go_sem ↓] eql_tst neq_tst
/-! The document's Same, of tests that are the same. -/
set_option maxRecDepth 100000 in
set_option maxHeartbeats 8000000 in
theorem rsame_true (any no : Bool) (l : List Tst) (A B : Option Addr) (ca cb : Nat) (w : World) (hA : Tsts w A l) (hB : Tsts w B l) (hl : l.length ≤ 1000) :
    Calls Tryz.prog 10 #[tsv any no (.slice A l.length ca), tsv any no (.slice B l.length cb)] w fun e w' => e = .returned (.bool true) ∧ Bel w w' := by
  have li : (l.length : Int) ≤ 1000 := by omega
  have KA := Lib.hid hA
  have KB := Lib.hid hB
  have g1 : (any != any) = false := by cases any <;> rfl
  have g2 : (no != no) = false := by cases no <;> rfl
  have g3 : ((l.length : Int) != (l.length : Int)) = false := by rw [bne_eq_false_iff_eq]
  clear hA hB
  go_enter Tryz.func10, Tryz.ntmps10
  go_upto_region 1 with fail
  refine under_name (((Bel.refl w).alloc _).alloc _) fun W hcc hf hz0 hb => ?_
  have T : w.heap.size + 1 < W.heap.size ∧ (W.cell? ⟨w.heap.size, 0, none⟩ = some (.bool any) ∧ W.cell? ⟨w.heap.size, 1, none⟩ = some (.bool no) ∧ W.cell? ⟨w.heap.size, 2, none⟩ = some (.slice A l.length ca)) ∧ (W.cell? ⟨w.heap.size + 1, 0, none⟩ = some (.bool any) ∧ W.cell? ⟨w.heap.size + 1, 1, none⟩ = some (.bool no) ∧ W.cell? ⟨w.heap.size + 1, 2, none⟩ = some (.slice B l.length cb)) := by simp [hcc, hz0, go_sem]
  clear hcc hf hz0
  generalize hN : w.heap.size = N at T ⊢
  clear hN
  have KT := Lib.hid T
  obtain ⟨q0, ⟨q1, q2, q3⟩, ⟨r1, r2, r3⟩⟩ := T
  go_wp2_with fail
  go_loopg [5] (l.length + 1) (fun g iv wr => ∃ k : Nat, iv = .int .i64 k ∧ k ≤ l.length ∧ Hid (l.length + 1 - k ≤ g) ∧ Hid (Bel W wr))
  case atStart => exact ⟨0, rfl, Nat.zero_le _, Lib.hid (by omega), Lib.hid (Bel.refl _)⟩
  case round =>
    clear q0 q1 q2 q3 r1 r2 r3 g1 g2 g3
    obtain ⟨k, rfl, hk, hg, hB⟩ := hrel
    obtain ⟨z0, ⟨z1, z2, z3⟩, ⟨y1, y2, y3⟩⟩ := KT.out
    have n1 : N < W.heap.size := by omega
    have q3 := (hB.out.cells _ 2 n1).trans z3
    have r3 := (hB.out.cells _ 2 z0).trans y3
    clear z0 z1 z2 z3 y1 y2 y3 n1
    by_cases hlt : k < l.length
    · have w1 : IntKind.i64.wrap ((k : Int) + 1) = ((k + 1 : Nat) : Int) := by rw [IntKind.wrap_i64]; omega
      have l1 : (k : Int) < l.length := by omega
      have l0 : (0 : Int) ≤ (k : Int) := by omega
      obtain ⟨x, hx⟩ : ∃ x, l[k]? = some x := ⟨_, List.getElem?_eq_getElem hlt⟩
      obtain ⟨bA, oA, hA, hbA, hat⟩ := KA.out (by omega)
      obtain ⟨bB, oB, hBB, hbB, hbt⟩ := KB.out (by omega)
      subst hA hBB
      obtain ⟨k0, k1, k2, k3, k4, k5, k6, k7, k8, k9, k10, k11, k12⟩ := (hat k x hx).keep (hb.trans hB.out) hbA
      obtain ⟨j0, j1, j2, j3, j4, j5, j6, j7, j8, j9, j10, j11, j12⟩ := (hbt k x hx).keep (hb.trans hB.out) hbB
      have TE := (teq_iff x x).2 rfl
      obtain ⟨xk, ⟨a1, a2, a3, a4, a5⟩, ⟨b1, b2, b3, b4, b5⟩, xo, xh⟩ := x
      simp only at k0 k1 k2 k3 k4 k5 k6 k7 k8 k9 k10 k11 k12 j0 j1 j2 j3 j4 j5 j6 j7 j8 j9 j10 j11 j12
      clear hx hat hbt hbA hbB
      go_wp2_with fail
      go_quiet (fail)
      go_wp2_with fail
      go_roundg (l.length + 1 - (k + 1))
      case measure => have := hg.out; omega
      case rel => exact ⟨k + 1, by go_num, by omega, Lib.hid (Nat.le_refl _), Lib.hid (hB.out.trans (bel_drewN _ _))⟩
    · obtain rfl : k = l.length := by omega
      go_wp2_with fail
      go_ret
      exact ⟨rfl, hb.trans hB.out⟩
end Go.Proofs.YtdggbafpdjenmaaGreatDoor
