import Derived.Test.YtjckpkamhdbcnaaGreatDoorPcf
namespace Go.Proofs.YtjckpkamhdbcnaaGreatDoor
set_option linter.unusedSimpArgs false
set_option linter.unusedVariables false
open Go.RowKit
attribute [local go_sem ↓] eql_val neq_val
set_option maxRecDepth 100000 in
set_option maxHeartbeats 16000000 in
theorem ev_cmp (l : List Bnd) (hln : l.length ≤ 9223372036854775807) (hls : ∀ b ∈ l, vsnd b.v = true) (x : Ex) (hop : x.op = 8 ∨ x.op = 9 ∨ x.op = 10 ∨ x.op = 11 ∨ x.op = 12 ∨ x.op = 13) (IH : ∀ y ∈ x.ks, EvC l y) : EvC l x := by
 intro w A c AL cL ho hbn hB hL
 obtain ⟨o, ⟨vk, vn, vs, vt, vm⟩, nm, ks⟩ := x
 replace hop : o = 8 ∨ o = 9 ∨ o = 10 ∨ o = 11 ∨ o = 12 ∨ o = 13 := hop
 obtain ⟨hk3, hok⟩ := okX_kids2 ho
 have hp := prt_out (show prtB o ⟨vk, vn, vs, vt, vm⟩ nm ks.length = true from by rw [okX, Bool.and_eq_true] at ho; exact ho.1)
 have hkn := hp.2.2.1
 rw [bdsX, Bool.and_eq_true] at hbn
 have hbk := bdsL_mem l ks hbn.2
 replace hbn := hbn.1
 have hX : evX l (.mk o ⟨vk, vn, vs, vt, vm⟩ nm ks) = evO l o ⟨vk, vn, vs, vt, vm⟩ (bytesOf nm) (evL l ks) := by rw [evX]
 rw [hX]
 simp only [Ex.op, Ex.v, Ex.nm, Ex.ks] at hL ⊢
 have hsv := evL_snd hls ks hok
 have hrl := evL_len l ks
 have HI := Lib.hid fun (q : Nat) (y : Ex) (hy : ks[q]? = some y) => And.intro (IH y (List.mem_of_getElem? hy)) (And.intro (hok y (List.mem_of_getElem? hy)) (hbk y (List.mem_of_getElem? hy)))
 generalize bytesOf nm = bn at hbn ⊢
 obtain ⟨n, hn'⟩ : ∃ n, n = ks.length := ⟨_, rfl⟩
 rw [← hn'] at hk3 hkn ⊢
 have Hn := Lib.hid hn'
 have HBB := Lib.hid hB
 have HLL := Lib.hid hL
 have HS := Lib.hid hsv
 have HRL := Lib.hid hrl
 have HKN := Lib.hid hkn
 have HBN := Lib.hid hbn
 have HOP := Lib.hid hop
 have HLS := Lib.hid hls
 have hni : (n : Int) ≤ 3 := by omega
 clear hX hp ho hB hL hn' IH hok hsv hrl hkn hbk hbn hop hls
 go_enter Tryz.func27, Tryz.ntmps27
 go_upto_region 2 with fail
 refine under_name (w0 := w) (by (with_reducible repeat first | exact Bel.refl _ | refine Bel.setCell ?_ (by first | exact Nat.le_refl _ | (dsimp only; omega)) _ | refine Bel.alloc ?_ _ | refine Bel.drew ?_ | assumption | refine Bel.trans ?_ (by assumption))) fun W1 hcc hf hz hb => ?_
 have T1 : Ev3 W1 w.heap.size o ⟨vk, vn, vs, vt, vm⟩ bn A n c [] := by
  refine ⟨?_, ?_, ?_⟩
  ·simp [XFree, ExAt, hcc, hf, hz, go_sem]
  ·simp [Slot, ValAt, FreeAt, zero, hcc, hf, hz, go_sem]
  ·simp [Of3, A3, F3, g3, zero, hcc, hf, hz, go_sem]
 clear hcc hf hz
 have HNw := Lib.hid (Nat.le_refl w.heap.size)
 generalize hNN : w.heap.size = N at T1
 have HN1 := Lib.hid T1
 have HB1 := Lib.hid hb
 have HN0 := Lib.hid (Nat.le_of_eq hNN)
 clear hb hNN HNw
 obtain ⟨⟨tz, ⟨t0, t1, t2, t3, t4, t5, t6, t7⟩, ⟨tf0, tf1, tf2, tf3, tf4, tf5, tf6, tf7⟩⟩, -, -⟩ := T1
 simp only [Nat.zero_add] at t0 t1 t2 t3 t4 t5 t6 t7
 go_upto_region 3 with fail
 clear tz t0 t1 t2 t3 t4 t5 t6 t7 tf0 tf1 tf2 tf3 tf4 tf5 tf6 tf7
 go_loopg [6, 7, 11] (n + 1) (fun g _ _ iv wr => ∃ (q : Nat), iv = .int .i64 q ∧ q ≤ n ∧ Hid (n + 1 - q ≤ g) ∧ Hid (Bel w wr ∧ Ev3 wr N o ⟨vk, vn, vs, vt, vm⟩ bn A n c (evL l (ks.take q))))
 case atStart => exact ⟨0, rfl, Nat.zero_le _, Lib.hid (by omega), Lib.hid ⟨HB1.out, by rw [List.take_zero, evL]; exact HN1.out⟩⟩
 case round =>
  obtain ⟨q, rfl, hq, hg, hW⟩ := hrel
  rcases Nat.lt_or_ge q n with hlt | hge
  ·have hlti : (q : Int) < n := by omega
   have hq3 : (q : Int) < 3 := by omega
   have l0 : (0 : Int) ≤ (q : Int) := by omega
   have wq : IntKind.i64.wrap ((q : Int) + 1) = ((q + 1 : Nat) : Int) := by rw [IntKind.wrap_i64]; omega
   obtain ⟨y, hy⟩ : ∃ y, ks[q]? = some y := ⟨ks[q]'(by have := Hn.out; omega), List.getElem?_eq_getElem _⟩
   obtain ⟨B, off, rfl, -, hBlt, A', c', hE, hLy⟩ := (HLL.out.keep hW.out.1).get2 hy
   obtain ⟨HC, hoy, hby⟩ := HI.out q y hy
   have htk := evL_take l ks q y hy
   have hvy := ev_snd HLS.out y hoy
   obtain ⟨yo, ⟨yk, yn, ys, yt, ym⟩, ynm, yks⟩ := y
   simp only [Ex.op, Ex.v, Ex.nm, Ex.ks] at hE hLy
   obtain ⟨e0, e1, e2, e3, e4, e5, e6, e7⟩ := hE
   go_upto_region 5 with fail
   refine under_name (w0 := wr) (by (with_reducible repeat first | exact Bel.refl _ | refine Bel.setCell ?_ (by first | exact Nat.le_refl _ | (dsimp only; omega)) _ | refine Bel.alloc ?_ _ | refine Bel.drew ?_ | assumption | refine Bel.trans ?_ (by assumption))) fun W5 hcc hf hz hb5 => ?_
   have T5 : XFree W5 wr.heap.size yo ⟨yk, yn, ys, yt, ym⟩ (bytesOf ynm) A' yks.length c' := by simp [XFree, ExAt, hcc, hf, hz, go_sem]
   clear hcc hf hz e0 e1 e2 e3 e4 e5 e6 e7
   generalize wr.heap.size = Y at T5
   have CK := HC W5 A' c' AL cL hoy hby (HBB.out.keep (hW.out.1.trans hb5)) (hLy.keep hb5)
   simp only [Ex.op, Ex.v, Ex.nm, Ex.ks] at CK
   have HB5 := Lib.hid (hW.out.1.trans hb5)
   have HE5 := Lib.hid (hW.out.2.keep hb5)
   obtain ⟨y5, hy5⟩ : ∃ y5, y5 = evX l (.mk yo ⟨yk, yn, ys, yt, ym⟩ ynm yks) := ⟨_, rfl⟩
   rw [← hy5] at CK htk
   clear hb5 hLy hy HC hoy hby hBlt hvy hy5
   obtain ⟨zk, zn, zs, zt, zm⟩ := y5
   have CK := Lib.hid CK
   have HTK := Lib.hid htk
   clear htk
   obtain ⟨tz, ⟨t0, t1, t2, t3, t4, t5, t6, t7⟩, ⟨tf0, tf1, tf2, tf3, tf4, tf5, tf6, tf7⟩⟩ := T5
   simp only [Nat.zero_add] at t0 t1 t2 t3 t4 t5 t6 t7
   clear tf0 tf1 tf2 tf3 tf4 tf5 tf6 tf7
   go_wp2_with (go_at_call 27; (with_reducible refine Calls.mono CK.out ?_); rintro ee V6 ⟨rfl, hb6⟩; have HB6 := Lib.hid (HB5.out.trans hb6); have HE6 := Lib.hid (HE5.out.keep hb6); clear hb6 tz t0 t1 t2 t3 t4 t5 t6 t7; obtain ⟨⟨d0, d1, d2, d3, d4⟩, ⟨k0, k1, k2, k3, k4⟩⟩ := HE6.out.of.at (q := q) (by omega))
   go_roundg (n + 1 - (q + 1))
   case measure => have := hg.out; omega
   case rel =>
    have HN' := HN0.out
    have hb6 := HB6.out
    refine ⟨q + 1, rfl, hlt, Lib.hid (Nat.le_refl _), Lib.hid ⟨by (with_reducible repeat first | exact Bel.refl _ | refine Bel.setCell ?_ (by first | exact Nat.le_refl _ | (dsimp only; omega)) _ | refine Bel.alloc ?_ _ | refine Bel.drew ?_ | assumption | refine Bel.trans ?_ (by assumption)), ?_⟩⟩
    rw [HTK.out]
    exact HE6.out.put (by rw [evL_len, List.length_take]; have := Hn.out; omega) (by omega) ⟨zk, zn, zs, zt, zm⟩
  ·obtain rfl : q = n := by omega
   have htk : ks.take q = ks := List.take_of_length_le (by have := Hn.out; omega)
   rw [htk] at hW
   obtain ⟨⟨tz, ⟨t0, t1, t2, t3, t4, t5, t6, t7⟩, -⟩, S, ⟨oz, oa, of⟩⟩ := hW.out.2
   have hbw := hW.out.1
   have hw0 := HN0.out
   unfold A3 at oa
   unfold F3 at of
   simp only [Nat.zero_add] at t0 t1 t2 t3 t4 t5 t6 t7
   have G := fun i => g3_snd HS.out i
   have G0 := G 0
   have G1 := G 1
   have G2 := G 2
   clear G of
   clear HI HLL HS HRL Hn
   rcases HOP.out with h | h | h | h | h | h
   ·obtain rfl := h
    have L := Lib.hid (show evO l 8 ⟨vk, vn, vs, vt, vm⟩ bn (evL l ks) = cmpd 8 (g3 (evL l ks) 0) (g3 (evL l ks) 1) from rfl)
    have C := fun w => cmpd8_any (g3 (evL l ks) 0) (g3 (evL l ks) 1) (snd_txt G0) (snd_txt G1) w
    generalize cmpd 8 (g3 (evL l ks) 0) (g3 (evL l ks) 1) = z at L C
    clear G0 G1 G2
    generalize g3 (evL l ks) 0 = x0 at *
    obtain ⟨p0k, p0n, p0s, p0t, p0m⟩ := x0
    generalize g3 (evL l ks) 1 = x1 at *
    obtain ⟨p1k, p1n, p1s, p1t, p1m⟩ := x1
    obtain ⟨zk, zn, zs, zt, zm⟩ := z
    have C := Lib.hid C
    obtain ⟨a0, a1, a2, a3, a4, a5, a6, a7, a8, a9, a10, a11, a12, a13, a14⟩ := oa
    go_wp2_with (go_at_call 55; (refine Calls.mono (C.out _) ?_); rintro ee V7 ⟨rfl, hb7⟩; have S7 := S.keep hb7; clear S)
    refine bodyPost_ret (by simp [results, Tryz.results27, go_sem, S7]; try rfl) rfl ⟨by rw [L.out] <;> rfl, ?_⟩
    (with_reducible repeat first | exact Bel.refl _ | refine Bel.setCell ?_ (by first | exact Nat.le_refl _ | (dsimp only; omega)) _ | refine Bel.alloc ?_ _ | refine Bel.drew ?_ | assumption | refine Bel.trans ?_ (by assumption))
   ·obtain rfl := h
    have L := Lib.hid (show evO l 9 ⟨vk, vn, vs, vt, vm⟩ bn (evL l ks) = cmpd 9 (g3 (evL l ks) 0) (g3 (evL l ks) 1) from rfl)
    have C := fun w => cmpd9_any (g3 (evL l ks) 0) (g3 (evL l ks) 1) (snd_txt G0) (snd_txt G1) w
    generalize cmpd 9 (g3 (evL l ks) 0) (g3 (evL l ks) 1) = z at L C
    clear G0 G1 G2
    generalize g3 (evL l ks) 0 = x0 at *
    obtain ⟨p0k, p0n, p0s, p0t, p0m⟩ := x0
    generalize g3 (evL l ks) 1 = x1 at *
    obtain ⟨p1k, p1n, p1s, p1t, p1m⟩ := x1
    obtain ⟨zk, zn, zs, zt, zm⟩ := z
    have C := Lib.hid C
    obtain ⟨a0, a1, a2, a3, a4, a5, a6, a7, a8, a9, a10, a11, a12, a13, a14⟩ := oa
    go_wp2_with (go_at_call 55; (refine Calls.mono (C.out _) ?_); rintro ee V7 ⟨rfl, hb7⟩; have S7 := S.keep hb7; clear S)
    refine bodyPost_ret (by simp [results, Tryz.results27, go_sem, S7]; try rfl) rfl ⟨by rw [L.out] <;> rfl, ?_⟩
    (with_reducible repeat first | exact Bel.refl _ | refine Bel.setCell ?_ (by first | exact Nat.le_refl _ | (dsimp only; omega)) _ | refine Bel.alloc ?_ _ | refine Bel.drew ?_ | assumption | refine Bel.trans ?_ (by assumption))
   ·obtain rfl := h
    have L := Lib.hid (show evO l 10 ⟨vk, vn, vs, vt, vm⟩ bn (evL l ks) = cmpd 10 (g3 (evL l ks) 0) (g3 (evL l ks) 1) from rfl)
    have C := fun w => cmpd10_any (g3 (evL l ks) 0) (g3 (evL l ks) 1) (snd_txt G0) (snd_txt G1) w
    generalize cmpd 10 (g3 (evL l ks) 0) (g3 (evL l ks) 1) = z at L C
    clear G0 G1 G2
    generalize g3 (evL l ks) 0 = x0 at *
    obtain ⟨p0k, p0n, p0s, p0t, p0m⟩ := x0
    generalize g3 (evL l ks) 1 = x1 at *
    obtain ⟨p1k, p1n, p1s, p1t, p1m⟩ := x1
    obtain ⟨zk, zn, zs, zt, zm⟩ := z
    have C := Lib.hid C
    obtain ⟨a0, a1, a2, a3, a4, a5, a6, a7, a8, a9, a10, a11, a12, a13, a14⟩ := oa
    go_wp2_with (go_at_call 55; (refine Calls.mono (C.out _) ?_); rintro ee V7 ⟨rfl, hb7⟩; have S7 := S.keep hb7; clear S)
    refine bodyPost_ret (by simp [results, Tryz.results27, go_sem, S7]; try rfl) rfl ⟨by rw [L.out] <;> rfl, ?_⟩
    (with_reducible repeat first | exact Bel.refl _ | refine Bel.setCell ?_ (by first | exact Nat.le_refl _ | (dsimp only; omega)) _ | refine Bel.alloc ?_ _ | refine Bel.drew ?_ | assumption | refine Bel.trans ?_ (by assumption))
   ·obtain rfl := h
    have L := Lib.hid (show evO l 11 ⟨vk, vn, vs, vt, vm⟩ bn (evL l ks) = cmpd 11 (g3 (evL l ks) 0) (g3 (evL l ks) 1) from rfl)
    have C := fun w => cmpd11_any (g3 (evL l ks) 0) (g3 (evL l ks) 1) (snd_txt G0) (snd_txt G1) w
    generalize cmpd 11 (g3 (evL l ks) 0) (g3 (evL l ks) 1) = z at L C
    clear G0 G1 G2
    generalize g3 (evL l ks) 0 = x0 at *
    obtain ⟨p0k, p0n, p0s, p0t, p0m⟩ := x0
    generalize g3 (evL l ks) 1 = x1 at *
    obtain ⟨p1k, p1n, p1s, p1t, p1m⟩ := x1
    obtain ⟨zk, zn, zs, zt, zm⟩ := z
    have C := Lib.hid C
    obtain ⟨a0, a1, a2, a3, a4, a5, a6, a7, a8, a9, a10, a11, a12, a13, a14⟩ := oa
    go_wp2_with (go_at_call 55; (refine Calls.mono (C.out _) ?_); rintro ee V7 ⟨rfl, hb7⟩; have S7 := S.keep hb7; clear S)
    refine bodyPost_ret (by simp [results, Tryz.results27, go_sem, S7]; try rfl) rfl ⟨by rw [L.out] <;> rfl, ?_⟩
    (with_reducible repeat first | exact Bel.refl _ | refine Bel.setCell ?_ (by first | exact Nat.le_refl _ | (dsimp only; omega)) _ | refine Bel.alloc ?_ _ | refine Bel.drew ?_ | assumption | refine Bel.trans ?_ (by assumption))
   ·obtain rfl := h
    have L := Lib.hid (show evO l 12 ⟨vk, vn, vs, vt, vm⟩ bn (evL l ks) = cmpd 12 (g3 (evL l ks) 0) (g3 (evL l ks) 1) from rfl)
    have C := fun w => cmpd12_any (g3 (evL l ks) 0) (g3 (evL l ks) 1) (snd_txt G0) (snd_txt G1) w
    generalize cmpd 12 (g3 (evL l ks) 0) (g3 (evL l ks) 1) = z at L C
    clear G0 G1 G2
    generalize g3 (evL l ks) 0 = x0 at *
    obtain ⟨p0k, p0n, p0s, p0t, p0m⟩ := x0
    generalize g3 (evL l ks) 1 = x1 at *
    obtain ⟨p1k, p1n, p1s, p1t, p1m⟩ := x1
    obtain ⟨zk, zn, zs, zt, zm⟩ := z
    have C := Lib.hid C
    obtain ⟨a0, a1, a2, a3, a4, a5, a6, a7, a8, a9, a10, a11, a12, a13, a14⟩ := oa
    go_wp2_with (go_at_call 55; (refine Calls.mono (C.out _) ?_); rintro ee V7 ⟨rfl, hb7⟩; have S7 := S.keep hb7; clear S)
    refine bodyPost_ret (by simp [results, Tryz.results27, go_sem, S7]; try rfl) rfl ⟨by rw [L.out] <;> rfl, ?_⟩
    (with_reducible repeat first | exact Bel.refl _ | refine Bel.setCell ?_ (by first | exact Nat.le_refl _ | (dsimp only; omega)) _ | refine Bel.alloc ?_ _ | refine Bel.drew ?_ | assumption | refine Bel.trans ?_ (by assumption))
   ·obtain rfl := h
    have L := Lib.hid (show evO l 13 ⟨vk, vn, vs, vt, vm⟩ bn (evL l ks) = cmpd 13 (g3 (evL l ks) 0) (g3 (evL l ks) 1) from rfl)
    have C := fun w => cmpd13_any (g3 (evL l ks) 0) (g3 (evL l ks) 1) (snd_txt G0) (snd_txt G1) w
    generalize cmpd 13 (g3 (evL l ks) 0) (g3 (evL l ks) 1) = z at L C
    clear G0 G1 G2
    generalize g3 (evL l ks) 0 = x0 at *
    obtain ⟨p0k, p0n, p0s, p0t, p0m⟩ := x0
    generalize g3 (evL l ks) 1 = x1 at *
    obtain ⟨p1k, p1n, p1s, p1t, p1m⟩ := x1
    obtain ⟨zk, zn, zs, zt, zm⟩ := z
    have C := Lib.hid C
    obtain ⟨a0, a1, a2, a3, a4, a5, a6, a7, a8, a9, a10, a11, a12, a13, a14⟩ := oa
    go_wp2_with (go_at_call 55; (refine Calls.mono (C.out _) ?_); rintro ee V7 ⟨rfl, hb7⟩; have S7 := S.keep hb7; clear S)
    refine bodyPost_ret (by simp [results, Tryz.results27, go_sem, S7]; try rfl) rfl ⟨by rw [L.out] <;> rfl, ?_⟩
    (with_reducible repeat first | exact Bel.refl _ | refine Bel.setCell ?_ (by first | exact Nat.le_refl _ | (dsimp only; omega)) _ | refine Bel.alloc ?_ _ | refine Bel.drew ?_ | assumption | refine Bel.trans ?_ (by assumption))
end Go.Proofs.YtjckpkamhdbcnaaGreatDoor
namespace Go.Proofs.YtjckpkamhdbcnaaGreatDoor
set_option linter.unusedSimpArgs false
set_option linter.unusedVariables false
open Go.RowKit
attribute [local go_sem ↓] eql_val neq_val
set_option maxRecDepth 100000 in
set_option maxHeartbeats 16000000 in
theorem ev_log (l : List Bnd) (hln : l.length ≤ 9223372036854775807) (hls : ∀ b ∈ l, vsnd b.v = true) (x : Ex) (hop : x.op = 14 ∨ x.op = 15 ∨ x.op = 16 ∨ x.op = 17) (IH : ∀ y ∈ x.ks, EvC l y) : EvC l x := by
 intro w A c AL cL ho hbn hB hL
 obtain ⟨o, ⟨vk, vn, vs, vt, vm⟩, nm, ks⟩ := x
 replace hop : o = 14 ∨ o = 15 ∨ o = 16 ∨ o = 17 := hop
 obtain ⟨hk3, hok⟩ := okX_kids2 ho
 have hp := prt_out (show prtB o ⟨vk, vn, vs, vt, vm⟩ nm ks.length = true from by rw [okX, Bool.and_eq_true] at ho; exact ho.1)
 have hkn := hp.2.2.1
 rw [bdsX, Bool.and_eq_true] at hbn
 have hbk := bdsL_mem l ks hbn.2
 replace hbn := hbn.1
 have hX : evX l (.mk o ⟨vk, vn, vs, vt, vm⟩ nm ks) = evO l o ⟨vk, vn, vs, vt, vm⟩ (bytesOf nm) (evL l ks) := by rw [evX]
 rw [hX]
 simp only [Ex.op, Ex.v, Ex.nm, Ex.ks] at hL ⊢
 have hsv := evL_snd hls ks hok
 have hrl := evL_len l ks
 have HI := Lib.hid fun (q : Nat) (y : Ex) (hy : ks[q]? = some y) => And.intro (IH y (List.mem_of_getElem? hy)) (And.intro (hok y (List.mem_of_getElem? hy)) (hbk y (List.mem_of_getElem? hy)))
 generalize bytesOf nm = bn at hbn ⊢
 obtain ⟨n, hn'⟩ : ∃ n, n = ks.length := ⟨_, rfl⟩
 rw [← hn'] at hk3 hkn ⊢
 have Hn := Lib.hid hn'
 have HBB := Lib.hid hB
 have HLL := Lib.hid hL
 have HS := Lib.hid hsv
 have HRL := Lib.hid hrl
 have HKN := Lib.hid hkn
 have HBN := Lib.hid hbn
 have HOP := Lib.hid hop
 have HLS := Lib.hid hls
 have hni : (n : Int) ≤ 3 := by omega
 clear hX hp ho hB hL hn' IH hok hsv hrl hkn hbk hbn hop hls
 go_enter Tryz.func27, Tryz.ntmps27
 go_upto_region 2 with fail
 refine under_name (w0 := w) (by (with_reducible repeat first | exact Bel.refl _ | refine Bel.setCell ?_ (by first | exact Nat.le_refl _ | (dsimp only; omega)) _ | refine Bel.alloc ?_ _ | refine Bel.drew ?_ | assumption | refine Bel.trans ?_ (by assumption))) fun W1 hcc hf hz hb => ?_
 have T1 : Ev3 W1 w.heap.size o ⟨vk, vn, vs, vt, vm⟩ bn A n c [] := by
  refine ⟨?_, ?_, ?_⟩
  ·simp [XFree, ExAt, hcc, hf, hz, go_sem]
  ·simp [Slot, ValAt, FreeAt, zero, hcc, hf, hz, go_sem]
  ·simp [Of3, A3, F3, g3, zero, hcc, hf, hz, go_sem]
 clear hcc hf hz
 have HNw := Lib.hid (Nat.le_refl w.heap.size)
 generalize hNN : w.heap.size = N at T1
 have HN1 := Lib.hid T1
 have HB1 := Lib.hid hb
 have HN0 := Lib.hid (Nat.le_of_eq hNN)
 clear hb hNN HNw
 obtain ⟨⟨tz, ⟨t0, t1, t2, t3, t4, t5, t6, t7⟩, ⟨tf0, tf1, tf2, tf3, tf4, tf5, tf6, tf7⟩⟩, -, -⟩ := T1
 simp only [Nat.zero_add] at t0 t1 t2 t3 t4 t5 t6 t7
 go_upto_region 3 with fail
 clear tz t0 t1 t2 t3 t4 t5 t6 t7 tf0 tf1 tf2 tf3 tf4 tf5 tf6 tf7
 go_loopg [6, 7, 11] (n + 1) (fun g _ _ iv wr => ∃ (q : Nat), iv = .int .i64 q ∧ q ≤ n ∧ Hid (n + 1 - q ≤ g) ∧ Hid (Bel w wr ∧ Ev3 wr N o ⟨vk, vn, vs, vt, vm⟩ bn A n c (evL l (ks.take q))))
 case atStart => exact ⟨0, rfl, Nat.zero_le _, Lib.hid (by omega), Lib.hid ⟨HB1.out, by rw [List.take_zero, evL]; exact HN1.out⟩⟩
 case round =>
  obtain ⟨q, rfl, hq, hg, hW⟩ := hrel
  rcases Nat.lt_or_ge q n with hlt | hge
  ·have hlti : (q : Int) < n := by omega
   have hq3 : (q : Int) < 3 := by omega
   have l0 : (0 : Int) ≤ (q : Int) := by omega
   have wq : IntKind.i64.wrap ((q : Int) + 1) = ((q + 1 : Nat) : Int) := by rw [IntKind.wrap_i64]; omega
   obtain ⟨y, hy⟩ : ∃ y, ks[q]? = some y := ⟨ks[q]'(by have := Hn.out; omega), List.getElem?_eq_getElem _⟩
   obtain ⟨B, off, rfl, -, hBlt, A', c', hE, hLy⟩ := (HLL.out.keep hW.out.1).get2 hy
   obtain ⟨HC, hoy, hby⟩ := HI.out q y hy
   have htk := evL_take l ks q y hy
   have hvy := ev_snd HLS.out y hoy
   obtain ⟨yo, ⟨yk, yn, ys, yt, ym⟩, ynm, yks⟩ := y
   simp only [Ex.op, Ex.v, Ex.nm, Ex.ks] at hE hLy
   obtain ⟨e0, e1, e2, e3, e4, e5, e6, e7⟩ := hE
   go_upto_region 5 with fail
   refine under_name (w0 := wr) (by (with_reducible repeat first | exact Bel.refl _ | refine Bel.setCell ?_ (by first | exact Nat.le_refl _ | (dsimp only; omega)) _ | refine Bel.alloc ?_ _ | refine Bel.drew ?_ | assumption | refine Bel.trans ?_ (by assumption))) fun W5 hcc hf hz hb5 => ?_
   have T5 : XFree W5 wr.heap.size yo ⟨yk, yn, ys, yt, ym⟩ (bytesOf ynm) A' yks.length c' := by simp [XFree, ExAt, hcc, hf, hz, go_sem]
   clear hcc hf hz e0 e1 e2 e3 e4 e5 e6 e7
   generalize wr.heap.size = Y at T5
   have CK := HC W5 A' c' AL cL hoy hby (HBB.out.keep (hW.out.1.trans hb5)) (hLy.keep hb5)
   simp only [Ex.op, Ex.v, Ex.nm, Ex.ks] at CK
   have HB5 := Lib.hid (hW.out.1.trans hb5)
   have HE5 := Lib.hid (hW.out.2.keep hb5)
   obtain ⟨y5, hy5⟩ : ∃ y5, y5 = evX l (.mk yo ⟨yk, yn, ys, yt, ym⟩ ynm yks) := ⟨_, rfl⟩
   rw [← hy5] at CK htk
   clear hb5 hLy hy HC hoy hby hBlt hvy hy5
   obtain ⟨zk, zn, zs, zt, zm⟩ := y5
   have CK := Lib.hid CK
   have HTK := Lib.hid htk
   clear htk
   obtain ⟨tz, ⟨t0, t1, t2, t3, t4, t5, t6, t7⟩, ⟨tf0, tf1, tf2, tf3, tf4, tf5, tf6, tf7⟩⟩ := T5
   simp only [Nat.zero_add] at t0 t1 t2 t3 t4 t5 t6 t7
   clear tf0 tf1 tf2 tf3 tf4 tf5 tf6 tf7
   go_wp2_with (go_at_call 27; (with_reducible refine Calls.mono CK.out ?_); rintro ee V6 ⟨rfl, hb6⟩; have HB6 := Lib.hid (HB5.out.trans hb6); have HE6 := Lib.hid (HE5.out.keep hb6); clear hb6 tz t0 t1 t2 t3 t4 t5 t6 t7; obtain ⟨⟨d0, d1, d2, d3, d4⟩, ⟨k0, k1, k2, k3, k4⟩⟩ := HE6.out.of.at (q := q) (by omega))
   go_roundg (n + 1 - (q + 1))
   case measure => have := hg.out; omega
   case rel =>
    have HN' := HN0.out
    have hb6 := HB6.out
    refine ⟨q + 1, rfl, hlt, Lib.hid (Nat.le_refl _), Lib.hid ⟨by (with_reducible repeat first | exact Bel.refl _ | refine Bel.setCell ?_ (by first | exact Nat.le_refl _ | (dsimp only; omega)) _ | refine Bel.alloc ?_ _ | refine Bel.drew ?_ | assumption | refine Bel.trans ?_ (by assumption)), ?_⟩⟩
    rw [HTK.out]
    exact HE6.out.put (by rw [evL_len, List.length_take]; have := Hn.out; omega) (by omega) ⟨zk, zn, zs, zt, zm⟩
  ·obtain rfl : q = n := by omega
   have htk : ks.take q = ks := List.take_of_length_le (by have := Hn.out; omega)
   rw [htk] at hW
   obtain ⟨⟨tz, ⟨t0, t1, t2, t3, t4, t5, t6, t7⟩, -⟩, S, ⟨oz, oa, of⟩⟩ := hW.out.2
   have hbw := hW.out.1
   have hw0 := HN0.out
   unfold A3 at oa
   unfold F3 at of
   simp only [Nat.zero_add] at t0 t1 t2 t3 t4 t5 t6 t7
   have G := fun i => g3_snd HS.out i
   have G0 := G 0
   have G1 := G 1
   have G2 := G 2
   clear G of
   clear HI HLL HS HRL Hn
   rcases HOP.out with h | h | h | h
   ·obtain rfl := h
    have L := Lib.hid (show evO l 14 ⟨vk, vn, vs, vt, vm⟩ bn (evL l ks) = jn false [g3 (evL l ks) 0, g3 (evL l ks) 1] from rfl)
    have C := fun (w : World) => and_any [g3 (evL l ks) 0, g3 (evL l ks) 1] (some ⟨w.heap.size, 0, none⟩) 2 _ (vals_two w _ _) (by simp [maxLen])
    generalize jn false [g3 (evL l ks) 0, g3 (evL l ks) 1] = z at L C
    clear G0 G1 G2
    generalize g3 (evL l ks) 0 = x0 at *
    obtain ⟨p0k, p0n, p0s, p0t, p0m⟩ := x0
    generalize g3 (evL l ks) 1 = x1 at *
    obtain ⟨p1k, p1n, p1s, p1t, p1m⟩ := x1
    obtain ⟨zk, zn, zs, zt, zm⟩ := z
    have C := Lib.hid C
    obtain ⟨a0, a1, a2, a3, a4, a5, a6, a7, a8, a9, a10, a11, a12, a13, a14⟩ := oa
    go_wp2_with (go_at_call 52; (refine Calls.mono (C.out _) ?_); rintro ee V7 ⟨rfl, hb7⟩; have S7 := S.keep (((Bel.refl _).alloc _).trans hb7); clear S)
    refine bodyPost_ret (by simp [results, Tryz.results27, go_sem, S7]; try rfl) rfl ⟨by rw [L.out] <;> rfl, ?_⟩
    (with_reducible repeat first | exact Bel.refl _ | refine Bel.setCell ?_ (by first | exact Nat.le_refl _ | (dsimp only; omega)) _ | refine Bel.alloc ?_ _ | refine Bel.drew ?_ | assumption | refine Bel.trans ?_ (by assumption))
   ·obtain rfl := h
    have L := Lib.hid (show evO l 15 ⟨vk, vn, vs, vt, vm⟩ bn (evL l ks) = jn true [g3 (evL l ks) 0, g3 (evL l ks) 1] from rfl)
    have C := fun (w : World) => or_any [g3 (evL l ks) 0, g3 (evL l ks) 1] (some ⟨w.heap.size, 0, none⟩) 2 _ (vals_two w _ _) (by simp [maxLen])
    generalize jn true [g3 (evL l ks) 0, g3 (evL l ks) 1] = z at L C
    clear G0 G1 G2
    generalize g3 (evL l ks) 0 = x0 at *
    obtain ⟨p0k, p0n, p0s, p0t, p0m⟩ := x0
    generalize g3 (evL l ks) 1 = x1 at *
    obtain ⟨p1k, p1n, p1s, p1t, p1m⟩ := x1
    obtain ⟨zk, zn, zs, zt, zm⟩ := z
    have C := Lib.hid C
    obtain ⟨a0, a1, a2, a3, a4, a5, a6, a7, a8, a9, a10, a11, a12, a13, a14⟩ := oa
    go_wp2_with (go_at_call 53; (refine Calls.mono (C.out _) ?_); rintro ee V7 ⟨rfl, hb7⟩; have S7 := S.keep (((Bel.refl _).alloc _).trans hb7); clear S)
    refine bodyPost_ret (by simp [results, Tryz.results27, go_sem, S7]; try rfl) rfl ⟨by rw [L.out] <;> rfl, ?_⟩
    (with_reducible repeat first | exact Bel.refl _ | refine Bel.setCell ?_ (by first | exact Nat.le_refl _ | (dsimp only; omega)) _ | refine Bel.alloc ?_ _ | refine Bel.drew ?_ | assumption | refine Bel.trans ?_ (by assumption))
   ·obtain rfl := h
    have L := Lib.hid (show evO l 16 ⟨vk, vn, vs, vt, vm⟩ bn (evL l ks) = nt (g3 (evL l ks) 0) from rfl)
    have C := fun w => not_any (g3 (evL l ks) 0) w
    generalize nt (g3 (evL l ks) 0) = z at L C
    clear G0 G1 G2
    generalize g3 (evL l ks) 0 = x0 at *
    obtain ⟨p0k, p0n, p0s, p0t, p0m⟩ := x0
    obtain ⟨zk, zn, zs, zt, zm⟩ := z
    have C := Lib.hid C
    obtain ⟨a0, a1, a2, a3, a4, a5, a6, a7, a8, a9, a10, a11, a12, a13, a14⟩ := oa
    go_wp2_with (go_at_call 51; (refine Calls.mono (C.out _) ?_); rintro ee V7 ⟨rfl, hb7⟩; have S7 := S.keep hb7; clear S)
    refine bodyPost_ret (by simp [results, Tryz.results27, go_sem, S7]; try rfl) rfl ⟨by rw [L.out] <;> rfl, ?_⟩
    (with_reducible repeat first | exact Bel.refl _ | refine Bel.setCell ?_ (by first | exact Nat.le_refl _ | (dsimp only; omega)) _ | refine Bel.alloc ?_ _ | refine Bel.drew ?_ | assumption | refine Bel.trans ?_ (by assumption))
   ·obtain rfl := h
    rcases Bool.eq_false_or_eq_true (veq (g3 (evL l ks) 0) (tval true)) with hi | hi
    ·have L := Lib.hid (show evO l 17 ⟨vk, vn, vs, vt, vm⟩ bn (evL l ks) = g3 (evL l ks) 1 from (by show (if veq (g3 (evL l ks) 0) (tval true) = true then g3 (evL l ks) 1 else g3 (evL l ks) 2) = _; rw [hi]; rfl))
     have C := fun w => is_any (g3 (evL l ks) 0) w
     rw [hi] at C
     clear hi G0 G1 G2
     generalize g3 (evL l ks) 0 = x0 at *
     obtain ⟨p0k, p0n, p0s, p0t, p0m⟩ := x0
     generalize g3 (evL l ks) 1 = x1 at *
     obtain ⟨p1k, p1n, p1s, p1t, p1m⟩ := x1
     generalize g3 (evL l ks) 2 = x2 at *
     obtain ⟨p2k, p2n, p2s, p2t, p2m⟩ := x2
     have C := Lib.hid C
     obtain ⟨a0, a1, a2, a3, a4, a5, a6, a7, a8, a9, a10, a11, a12, a13, a14⟩ := oa
     go_wp2_with (go_at_call 54; (with_reducible refine Calls.mono (C.out _) ?_); rintro ee V7 ⟨rfl, hb7⟩; obtain ⟨cc7, ff7⟩ := bcell hb7; have S7 := S.keep hb7; have hz7 := Nat.lt_of_lt_of_le oz hb7.size; rw [← hb7.cells _ _ oz] at a0 a1 a2 a3 a4 a5 a6 a7 a8 a9 a10 a11 a12 a13 a14; clear S cc7 ff7)
     refine bodyPost_ret (by simp [results, Tryz.results27, go_sem, S7]; try rfl) rfl ⟨by rw [L.out] <;> rfl, ?_⟩
     (with_reducible repeat first | exact Bel.refl _ | refine Bel.setCell ?_ (by first | exact Nat.le_refl _ | (dsimp only; omega)) _ | refine Bel.alloc ?_ _ | refine Bel.drew ?_ | assumption | refine Bel.trans ?_ (by assumption))
    ·have L := Lib.hid (show evO l 17 ⟨vk, vn, vs, vt, vm⟩ bn (evL l ks) = g3 (evL l ks) 2 from (by show (if veq (g3 (evL l ks) 0) (tval true) = true then g3 (evL l ks) 1 else g3 (evL l ks) 2) = _; rw [hi]; rfl))
     have C := fun w => is_any (g3 (evL l ks) 0) w
     rw [hi] at C
     clear hi G0 G1 G2
     generalize g3 (evL l ks) 0 = x0 at *
     obtain ⟨p0k, p0n, p0s, p0t, p0m⟩ := x0
     generalize g3 (evL l ks) 1 = x1 at *
     obtain ⟨p1k, p1n, p1s, p1t, p1m⟩ := x1
     generalize g3 (evL l ks) 2 = x2 at *
     obtain ⟨p2k, p2n, p2s, p2t, p2m⟩ := x2
     have C := Lib.hid C
     obtain ⟨a0, a1, a2, a3, a4, a5, a6, a7, a8, a9, a10, a11, a12, a13, a14⟩ := oa
     go_wp2_with (go_at_call 54; (with_reducible refine Calls.mono (C.out _) ?_); rintro ee V7 ⟨rfl, hb7⟩; obtain ⟨cc7, ff7⟩ := bcell hb7; have S7 := S.keep hb7; have hz7 := Nat.lt_of_lt_of_le oz hb7.size; rw [← hb7.cells _ _ oz] at a0 a1 a2 a3 a4 a5 a6 a7 a8 a9 a10 a11 a12 a13 a14; clear S cc7 ff7)
     refine bodyPost_ret (by simp [results, Tryz.results27, go_sem, S7]; try rfl) rfl ⟨by rw [L.out] <;> rfl, ?_⟩
     (with_reducible repeat first | exact Bel.refl _ | refine Bel.setCell ?_ (by first | exact Nat.le_refl _ | (dsimp only; omega)) _ | refine Bel.alloc ?_ _ | refine Bel.drew ?_ | assumption | refine Bel.trans ?_ (by assumption))
end Go.Proofs.YtjckpkamhdbcnaaGreatDoor
