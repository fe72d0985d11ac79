import Derived.Test.YtjckpkamhdbcnaaGreatDoorZbg
namespace Go.Proofs.YtjckpkamhdbcnaaGreatDoor
set_option maxRecDepth 100000
set_option maxHeartbeats 64000000
set_option linter.unusedSimpArgs false
set_option linter.unusedVariables false
section
open Go.RowKit
attribute [local go_sem ↓] Qas Qau
theorem Qu0 (l : List Bnd) (hln : l.length <= 9223372036854775807) (hls : ∀ b ∈ l, vsnd b.v = true) (x : Ex) (hop : x.op = 1 \/ x.op = 2) (IH : ∀ y ∈ x.ks, EvC l y) : EvC l x := by
 intro w A c AL cL ho hbn hB hL
 obtain ⟨o, ⟨vk, vn, vs, vt, vm⟩, nm, ks⟩ := x
 replace hop : o = 1 \/ o = 2 := hop
 obtain ⟨hk3, hok⟩ := Qby ho
 have hp := Qbt (show prtB o ⟨vk, vn, vs, vt, vm⟩ nm ks.length = true from by rw [okX, bA] at ho; exact ho.1)
 have hkn := hp.2.2.1
 rw [bdsX, bA] at hbn
 have hbk := Qdd l ks hbn.2
 replace hbn := hbn.1
 have hX : evX l (.mk o ⟨vk, vn, vs, vt, vm⟩ nm ks) = evO l o ⟨vk, vn, vs, vt, vm⟩ (Qaa nm) (evL l ks) := by rw [evX]
 rw [hX]
 simp only [Ex.op, Ex.v, Ex.nm, Ex.ks] at hL ⊢
 have hsv := Qeq hls ks hok
 have hrl := Qb3 l ks
 have HI := Hd fun (q : Nat) (y : Ex) (hy : ks[q]? = some y) => And.intro (IH y (List.mem_of_getElem? hy)) (And.intro (hok y (List.mem_of_getElem? hy)) (hbk y (List.mem_of_getElem? hy)))
 generalize Qaa nm = bn at hbn ⊢
 obtain ⟨n, hn'⟩ : ∃ n, n = ks.length := ⟨_, rfl⟩
 rw [← hn'] at hk3 hkn ⊢
 have Hn := Hd hn'
 have HBB := Hd hB
 have HLL := Hd hL
 have HS := Hd hsv
 have HRL := Hd hrl
 have HKN := Hd hkn
 have HBN := Hd hbn
 have HOP := Hd hop
 have HLS := Hd hls
 have hni : (n : Int) <= 3 := by omega
 clear hX hp ho hB hL hn' IH hok hsv hrl hkn hbk hbn hop hls
 go_enter Tryz.func27, Tryz.ntmps27
 go_upto_region 2 with fail
 refine uN (w0 := w) (by exact Bel.y) fun W1 hcc hf hz hb => ?_
 have T1 : Ev3 W1 w.heap.size o ⟨vk, vn, vs, vt, vm⟩ bn A n c [] := by
  refine ⟨?_, ?_, ?_⟩
  ·simp [Qab, Qap, hcc, hf, hz, go_sem]
  ·simp [Slot, Qal, Qah, zero, hcc, hf, hz, go_sem]
  simp [Of3, A3, F3, g3, zero, hcc, hf, hz, go_sem]
 clear hcc hf hz
 have HNw := Hd (Nat.le_refl w.heap.size)
 generalize hNN : w.heap.size = N at T1
 have HN1 := Hd T1
 have HB1 := Hd hb
 have HN0 := Hd (Nat.le_of_eq hNN)
 clear hb hNN HNw
 obtain ⟨⟨tz, ⟨t0, t1, t2, t3, t4, t5, t6, t7⟩, ⟨tf0, tf1, tf2, tf3, tf4, tf5, tf6, tf7⟩⟩, -, -⟩ := T1
 simp only [Nat.zero_add] at t0 t1 t2 t3 t4 t5 t6 t7
 go_upto_region 3 with fail
 clear tz t0 t1 t2 t3 t4 t5 t6 t7 tf0 tf1 tf2 tf3 tf4 tf5 tf6 tf7
 go_loopg [6, 7, 11] (n + 1) (fun g _ _ iv wr => ∃ (q : Nat), iv = .int .i64 q /\ q <= n /\ Hid (n + 1 - q <= g) /\ Hid (Bel w wr /\ Ev3 wr N o ⟨vk, vn, vs, vt, vm⟩ bn A n c (evL l (ks.take q))))
 case atStart => exact ⟨0, rfl, Nat.zero_le _, Hd (by omega), Hd ⟨HB1.out, by rw [List.take_zero, evL]; exact HN1.out⟩⟩
 case round =>
  obtain ⟨q, rfl, hq, hg, hW⟩ := hrel
  rcases Nat.lt_or_ge q n with hlt | hge
  ·have hlti : (q : Int) < n := by omega
   have hq3 : (q : Int) < 3 := by omega
   have l0 : (0 : Int) <= (q : Int) := by omega
   have wq : IntKind.i64.wrap ((q : Int) + 1) = ((q + 1 : Nat) : Int) := by rw [IntKind.wrap_i64]; omega
   obtain ⟨y, hy⟩ : ∃ y, ks[q]? = some y := ⟨ks[q]'(by have := Hn.out; omega), gE _⟩
   obtain ⟨B, off, rfl, -, hBlt, A', c', hE, hLy⟩ := (HLL.out.keep hW.out.1).get2 hy
   obtain ⟨HC, hoy, hby⟩ := HI.out q y hy
   have htk := Qde l ks q y hy
   have hvy := Qh9 HLS.out y hoy
   obtain ⟨yo, ⟨yk, yn, ys, yt, ym⟩, ynm, yks⟩ := y
   simp only [Ex.op, Ex.v, Ex.nm, Ex.ks] at hE hLy
   obtain ⟨e0, e1, e2, e3, e4, e5, e6, e7⟩ := hE
   go_upto_region 5 with fail
   refine uN (w0 := wr) (by exact Bel.y) fun W5 hcc hf hz hb5 => ?_
   have T5 : Qab W5 wr.heap.size yo ⟨yk, yn, ys, yt, ym⟩ (Qaa ynm) A' yks.length c' := by simp [Qab, Qap, hcc, hf, hz, go_sem]
   clear hcc hf hz e0 e1 e2 e3 e4 e5 e6 e7
   generalize wr.heap.size = Y at T5
   have CK := HC W5 A' c' AL cL hoy hby (HBB.out.keep (hW.out.1.trans hb5)) (hLy.keep hb5)
   simp only [Ex.op, Ex.v, Ex.nm, Ex.ks] at CK
   have HB5 := Hd (hW.out.1.trans hb5)
   have HE5 := Hd (hW.out.2.keep hb5)
   obtain ⟨y5, hy5⟩ : ∃ y5, y5 = evX l (.mk yo ⟨yk, yn, ys, yt, ym⟩ ynm yks) := ⟨_, rfl⟩
   rw [← hy5] at CK htk
   clear hb5 hLy hy HC hoy hby hBlt hvy hy5
   obtain ⟨zk, zn, zs, zt, zm⟩ := y5
   have CK := Hd CK
   have HTK := Hd htk
   clear htk
   obtain ⟨tz, t0, t1, t2, t3, t4, t5, t6, t7⟩ := T5.u
   go_wp2_with (go_at_call 27; (with_reducible refine Calls.mono CK.out ?_); rintro ee V6 ⟨rfl, hb6⟩; have HB6 := Hd (HB5.out.trans hb6); have HE6 := Hd (HE5.out.keep hb6); clear hb6 tz t0 t1 t2 t3 t4 t5 t6 t7; obtain ⟨⟨d0, d1, d2, d3, d4⟩, ⟨k0, k1, k2, k3, k4⟩⟩ := HE6.out.of.at (q := q) (by omega))
   go_roundg (n + 1 - (q + 1))
   case measure => have := hg.out; omega
   case rel =>
    have HN' := HN0.out
    have hb6 := HB6.out
    refine ⟨q + 1, rfl, hlt, Hd (Nat.le_refl _), Hd ⟨by exact Bel.y, ?_⟩⟩
    rw [HTK.out]
    exact HE6.out.put (by rw [Qb3, List.length_take]; have := Hn.out; omega) (by omega) ⟨zk, zn, zs, zt, zm⟩
  obtain rfl : q = n := by omega
  have htk : ks.take q = ks := List.take_of_length_le (by have := Hn.out; omega)
  rw [htk] at hW
  obtain ⟨⟨tz, ⟨t0, t1, t2, t3, t4, t5, t6, t7⟩, -⟩, S, ⟨oz, oa, of⟩⟩ := hW.out.2
  have hbw := hW.out.1
  have hw0 := HN0.out
  unfold A3 at oa
  unfold F3 at of
  simp only [Nat.zero_add] at t0 t1 t2 t3 t4 t5 t6 t7
  have G := fun i => Qey HS.out i
  have G0 := G 0
  have G1 := G 1
  have G2 := G 2
  clear G of
  clear HI HLL HS HRL Hn
  rcases HOP.out with h | h
  ·obtain rfl := h
   have L := Hd (show evO l 1 ⟨vk, vn, vs, vt, vm⟩ bn (evL l ks) = ⟨vk, vn, vs, vt, vm⟩ from rfl)
   clear oa G0 G1 G2
   go_wp2_with fail
   refine pR (by simp [results, Tryz.results27, go_sem, S]; try rfl) rfl ⟨by rw [L.out] <;> rfl, ?_⟩
   exact Bel.y
  obtain rfl := h
  rw [iP rfl] at HBN
  obtain ⟨xx, jj, hf1, hf2, hf3⟩ : ∃ x j, l.find? (nmIs bn) = some x /\ fstI (nmIs bn) l 0 = ((j : Nat) : Int) /\ l[j]? = some x := by
   rcases Qhf (nmIs bn) l 0 with ⟨h, _⟩ | ⟨x, j, h1, h2, h3⟩
   ·have hb2 := HBN.out; rw [h] at hb2; cases hb2
   exact ⟨x, j, h1, by rw [h2, Nat.zero_add], h3⟩
  have L := Hd (show evO l 2 ⟨vk, vn, vs, vt, vm⟩ bn (evL l ks) = xx.v from by
   show lookB l bn = xx.v
   unfold lookB
   rw [hf1])
  have CB := fun w hB => Qh8 l AL cL bn w hB hln (fun s hs => Qav (HLS.out s hs))
  rw [hf2] at CB
  have CB := Hd CB
  have hjl : jj < l.length := (List.getElem?_eq_some_iff.1 hf3).1
  have hji : (jj : Int) < l.length := by omega
  have hj0 : (0 : Int) <= (jj : Int) := by omega
  obtain ⟨Bb, ob, rfl, hBz, hBc⟩ := (HBB.out.keep hW.out.1) (by omega)
  have hbc := (hBc jj xx hf3)
  have HBc := Hd hbc
  have HBz := Hd hBz
  clear hBc hbc hf1 hf2 hf3 oa G0 G1 G2
  obtain ⟨xn, ⟨xk, xnn, xs, xt, xm⟩⟩ := xx
  go_wp2_with (go_at_call 46; (with_reducible refine Calls.mono (CB.out _ (HBB.out.keep (by first | exact hW.out.1 | (have := hW.out.1; exact Bel.y)))) ?_); rintro ee V7 ⟨rfl, hb7⟩; have S7 := S.keep hb7; obtain ⟨b0, b1, b2, b3, b4, b5⟩ := HBc.out.keep hb7 HBz.out; clear S)
  refine pR (by simp [results, Tryz.results27, go_sem, S7]; try rfl) rfl ⟨by rw [L.out] <;> rfl, ?_⟩
  exact Bel.y
end
section
open Go.RowKit
attribute [local go_sem ↓] Qas Qau
theorem Qwk (l : List Bnd) (hln : l.length <= 9223372036854775807) (hls : ∀ b ∈ l, vsnd b.v = true) (x : Ex) (hop : x.op = 3 \/ x.op = 4 \/ x.op = 5 \/ x.op = 6 \/ x.op = 7) (IH : ∀ y ∈ x.ks, EvC l y) : EvC l x := by
 intro w A c AL cL ho hbn hB hL
 obtain ⟨o, ⟨vk, vn, vs, vt, vm⟩, nm, ks⟩ := x
 replace hop : o = 3 \/ o = 4 \/ o = 5 \/ o = 6 \/ o = 7 := hop
 obtain ⟨hk3, hok⟩ := Qby ho
 have hp := Qbt (show prtB o ⟨vk, vn, vs, vt, vm⟩ nm ks.length = true from by rw [okX, bA] at ho; exact ho.1)
 have hkn := hp.2.2.1
 rw [bdsX, bA] at hbn
 have hbk := Qdd l ks hbn.2
 replace hbn := hbn.1
 have hX : evX l (.mk o ⟨vk, vn, vs, vt, vm⟩ nm ks) = evO l o ⟨vk, vn, vs, vt, vm⟩ (Qaa nm) (evL l ks) := by rw [evX]
 rw [hX]
 simp only [Ex.op, Ex.v, Ex.nm, Ex.ks] at hL ⊢
 have hsv := Qeq hls ks hok
 have hrl := Qb3 l ks
 have HI := Hd fun (q : Nat) (y : Ex) (hy : ks[q]? = some y) => And.intro (IH y (List.mem_of_getElem? hy)) (And.intro (hok y (List.mem_of_getElem? hy)) (hbk y (List.mem_of_getElem? hy)))
 generalize Qaa nm = bn at hbn ⊢
 obtain ⟨n, hn'⟩ : ∃ n, n = ks.length := ⟨_, rfl⟩
 rw [← hn'] at hk3 hkn ⊢
 have Hn := Hd hn'
 have HBB := Hd hB
 have HLL := Hd hL
 have HS := Hd hsv
 have HRL := Hd hrl
 have HKN := Hd hkn
 have HBN := Hd hbn
 have HOP := Hd hop
 have HLS := Hd hls
 have hni : (n : Int) <= 3 := by omega
 clear hX hp ho hB hL hn' IH hok hsv hrl hkn hbk hbn hop hls
 go_enter Tryz.func27, Tryz.ntmps27
 go_upto_region 2 with fail
 refine uN (w0 := w) (by exact Bel.y) fun W1 hcc hf hz hb => ?_
 have T1 : Ev3 W1 w.heap.size o ⟨vk, vn, vs, vt, vm⟩ bn A n c [] := by
  refine ⟨?_, ?_, ?_⟩
  ·simp [Qab, Qap, hcc, hf, hz, go_sem]
  ·simp [Slot, Qal, Qah, zero, hcc, hf, hz, go_sem]
  simp [Of3, A3, F3, g3, zero, hcc, hf, hz, go_sem]
 clear hcc hf hz
 have HNw := Hd (Nat.le_refl w.heap.size)
 generalize hNN : w.heap.size = N at T1
 have HN1 := Hd T1
 have HB1 := Hd hb
 have HN0 := Hd (Nat.le_of_eq hNN)
 clear hb hNN HNw
 obtain ⟨⟨tz, ⟨t0, t1, t2, t3, t4, t5, t6, t7⟩, ⟨tf0, tf1, tf2, tf3, tf4, tf5, tf6, tf7⟩⟩, -, -⟩ := T1
 simp only [Nat.zero_add] at t0 t1 t2 t3 t4 t5 t6 t7
 go_upto_region 3 with fail
 clear tz t0 t1 t2 t3 t4 t5 t6 t7 tf0 tf1 tf2 tf3 tf4 tf5 tf6 tf7
 go_loopg [6, 7, 11] (n + 1) (fun g _ _ iv wr => ∃ (q : Nat), iv = .int .i64 q /\ q <= n /\ Hid (n + 1 - q <= g) /\ Hid (Bel w wr /\ Ev3 wr N o ⟨vk, vn, vs, vt, vm⟩ bn A n c (evL l (ks.take q))))
 case atStart => exact ⟨0, rfl, Nat.zero_le _, Hd (by omega), Hd ⟨HB1.out, by rw [List.take_zero, evL]; exact HN1.out⟩⟩
 case round =>
  obtain ⟨q, rfl, hq, hg, hW⟩ := hrel
  rcases Nat.lt_or_ge q n with hlt | hge
  ·have hlti : (q : Int) < n := by omega
   have hq3 : (q : Int) < 3 := by omega
   have l0 : (0 : Int) <= (q : Int) := by omega
   have wq : IntKind.i64.wrap ((q : Int) + 1) = ((q + 1 : Nat) : Int) := by rw [IntKind.wrap_i64]; omega
   obtain ⟨y, hy⟩ : ∃ y, ks[q]? = some y := ⟨ks[q]'(by have := Hn.out; omega), gE _⟩
   obtain ⟨B, off, rfl, -, hBlt, A', c', hE, hLy⟩ := (HLL.out.keep hW.out.1).get2 hy
   obtain ⟨HC, hoy, hby⟩ := HI.out q y hy
   have htk := Qde l ks q y hy
   have hvy := Qh9 HLS.out y hoy
   obtain ⟨yo, ⟨yk, yn, ys, yt, ym⟩, ynm, yks⟩ := y
   simp only [Ex.op, Ex.v, Ex.nm, Ex.ks] at hE hLy
   obtain ⟨e0, e1, e2, e3, e4, e5, e6, e7⟩ := hE
   go_upto_region 5 with fail
   refine uN (w0 := wr) (by exact Bel.y) fun W5 hcc hf hz hb5 => ?_
   have T5 : Qab W5 wr.heap.size yo ⟨yk, yn, ys, yt, ym⟩ (Qaa ynm) A' yks.length c' := by simp [Qab, Qap, hcc, hf, hz, go_sem]
   clear hcc hf hz e0 e1 e2 e3 e4 e5 e6 e7
   generalize wr.heap.size = Y at T5
   have CK := HC W5 A' c' AL cL hoy hby (HBB.out.keep (hW.out.1.trans hb5)) (hLy.keep hb5)
   simp only [Ex.op, Ex.v, Ex.nm, Ex.ks] at CK
   have HB5 := Hd (hW.out.1.trans hb5)
   have HE5 := Hd (hW.out.2.keep hb5)
   obtain ⟨y5, hy5⟩ : ∃ y5, y5 = evX l (.mk yo ⟨yk, yn, ys, yt, ym⟩ ynm yks) := ⟨_, rfl⟩
   rw [← hy5] at CK htk
   clear hb5 hLy hy HC hoy hby hBlt hvy hy5
   obtain ⟨zk, zn, zs, zt, zm⟩ := y5
   have CK := Hd CK
   have HTK := Hd htk
   clear htk
   obtain ⟨tz, t0, t1, t2, t3, t4, t5, t6, t7⟩ := T5.u
   go_wp2_with (go_at_call 27; (with_reducible refine Calls.mono CK.out ?_); rintro ee V6 ⟨rfl, hb6⟩; have HB6 := Hd (HB5.out.trans hb6); have HE6 := Hd (HE5.out.keep hb6); clear hb6 tz t0 t1 t2 t3 t4 t5 t6 t7; obtain ⟨⟨d0, d1, d2, d3, d4⟩, ⟨k0, k1, k2, k3, k4⟩⟩ := HE6.out.of.at (q := q) (by omega))
   go_roundg (n + 1 - (q + 1))
   case measure => have := hg.out; omega
   case rel =>
    have HN' := HN0.out
    have hb6 := HB6.out
    refine ⟨q + 1, rfl, hlt, Hd (Nat.le_refl _), Hd ⟨by exact Bel.y, ?_⟩⟩
    rw [HTK.out]
    exact HE6.out.put (by rw [Qb3, List.length_take]; have := Hn.out; omega) (by omega) ⟨zk, zn, zs, zt, zm⟩
  obtain rfl : q = n := by omega
  have htk : ks.take q = ks := List.take_of_length_le (by have := Hn.out; omega)
  rw [htk] at hW
  obtain ⟨⟨tz, ⟨t0, t1, t2, t3, t4, t5, t6, t7⟩, -⟩, S, ⟨oz, oa, of⟩⟩ := hW.out.2
  have hbw := hW.out.1
  have hw0 := HN0.out
  unfold A3 at oa
  unfold F3 at of
  simp only [Nat.zero_add] at t0 t1 t2 t3 t4 t5 t6 t7
  have G := fun i => Qey HS.out i
  have G0 := G 0
  have G1 := G 1
  have G2 := G 2
  clear G of
  clear HI HLL HS HRL Hn
  rcases HOP.out with h | h | h | h | h
  ·obtain rfl := h
   have L := Hd (show evO l 3 ⟨vk, vn, vs, vt, vm⟩ bn (evL l ks) = rck 5 num0 (g3 (evL l ks) 0) from rfl)
   have C := fun w => Qo2 (g3 (evL l ks) 0) (g3 (evL l ks) 1) G0 w
   generalize rck 5 num0 (g3 (evL l ks) 0) = z at L C
   clear G0 G1 G2
   generalize g3 (evL l ks) 0 = x0 at *
   obtain ⟨p0k, p0n, p0s, p0t, p0m⟩ := x0
   generalize g3 (evL l ks) 1 = x1 at *
   obtain ⟨p1k, p1n, p1s, p1t, p1m⟩ := x1
   obtain ⟨zk, zn, zs, zt, zm⟩ := z
   have C := Hd C
   obtain ⟨a0, a1, a2, a3, a4, a5, a6, a7, a8, a9, a10, a11, a12, a13, a14⟩ := oa
   go_wp2_with (go_at_call 50; (refine Calls.mono (C.out _) ?_); rintro ee V7 ⟨rfl, hb7⟩; have S7 := S.keep hb7; clear S)
   refine pR (by simp [results, Tryz.results27, go_sem, S7]; try rfl) rfl ⟨by rw [L.out] <;> rfl, ?_⟩
   exact Bel.y
  ·obtain rfl := h
   have L := Hd (show evO l 4 ⟨vk, vn, vs, vt, vm⟩ bn (evL l ks) = rck 4 (g3 (evL l ks) 0) (g3 (evL l ks) 1) from rfl)
   have C := fun w => Qoy (g3 (evL l ks) 0) (g3 (evL l ks) 1) G0 G1 w
   generalize rck 4 (g3 (evL l ks) 0) (g3 (evL l ks) 1) = z at L C
   clear G0 G1 G2
   generalize g3 (evL l ks) 0 = x0 at *
   obtain ⟨p0k, p0n, p0s, p0t, p0m⟩ := x0
   generalize g3 (evL l ks) 1 = x1 at *
   obtain ⟨p1k, p1n, p1s, p1t, p1m⟩ := x1
   obtain ⟨zk, zn, zs, zt, zm⟩ := z
   have C := Hd C
   obtain ⟨a0, a1, a2, a3, a4, a5, a6, a7, a8, a9, a10, a11, a12, a13, a14⟩ := oa
   go_wp2_with (go_at_call 50; (refine Calls.mono (C.out _) ?_); rintro ee V7 ⟨rfl, hb7⟩; have S7 := S.keep hb7; clear S)
   refine pR (by simp [results, Tryz.results27, go_sem, S7]; try rfl) rfl ⟨by rw [L.out] <;> rfl, ?_⟩
   exact Bel.y
  ·obtain rfl := h
   have L := Hd (show evO l 5 ⟨vk, vn, vs, vt, vm⟩ bn (evL l ks) = rck 5 (g3 (evL l ks) 0) (g3 (evL l ks) 1) from rfl)
   have C := fun w => Qoz (g3 (evL l ks) 0) (g3 (evL l ks) 1) G0 G1 w
   generalize rck 5 (g3 (evL l ks) 0) (g3 (evL l ks) 1) = z at L C
   clear G0 G1 G2
   generalize g3 (evL l ks) 0 = x0 at *
   obtain ⟨p0k, p0n, p0s, p0t, p0m⟩ := x0
   generalize g3 (evL l ks) 1 = x1 at *
   obtain ⟨p1k, p1n, p1s, p1t, p1m⟩ := x1
   obtain ⟨zk, zn, zs, zt, zm⟩ := z
   have C := Hd C
   obtain ⟨a0, a1, a2, a3, a4, a5, a6, a7, a8, a9, a10, a11, a12, a13, a14⟩ := oa
   go_wp2_with (go_at_call 50; (refine Calls.mono (C.out _) ?_); rintro ee V7 ⟨rfl, hb7⟩; have S7 := S.keep hb7; clear S)
   refine pR (by simp [results, Tryz.results27, go_sem, S7]; try rfl) rfl ⟨by rw [L.out] <;> rfl, ?_⟩
   exact Bel.y
  ·obtain rfl := h
   have L := Hd (show evO l 6 ⟨vk, vn, vs, vt, vm⟩ bn (evL l ks) = rck 6 (g3 (evL l ks) 0) (g3 (evL l ks) 1) from rfl)
   have C := fun w => Qo0 (g3 (evL l ks) 0) (g3 (evL l ks) 1) G0 G1 w
   generalize rck 6 (g3 (evL l ks) 0) (g3 (evL l ks) 1) = z at L C
   clear G0 G1 G2
   generalize g3 (evL l ks) 0 = x0 at *
   obtain ⟨p0k, p0n, p0s, p0t, p0m⟩ := x0
   generalize g3 (evL l ks) 1 = x1 at *
   obtain ⟨p1k, p1n, p1s, p1t, p1m⟩ := x1
   obtain ⟨zk, zn, zs, zt, zm⟩ := z
   have C := Hd C
   obtain ⟨a0, a1, a2, a3, a4, a5, a6, a7, a8, a9, a10, a11, a12, a13, a14⟩ := oa
   go_wp2_with (go_at_call 50; (refine Calls.mono (C.out _) ?_); rintro ee V7 ⟨rfl, hb7⟩; have S7 := S.keep hb7; clear S)
   refine pR (by simp [results, Tryz.results27, go_sem, S7]; try rfl) rfl ⟨by rw [L.out] <;> rfl, ?_⟩
   exact Bel.y
  obtain rfl := h
  have L := Hd (show evO l 7 ⟨vk, vn, vs, vt, vm⟩ bn (evL l ks) = rck 7 (g3 (evL l ks) 0) (g3 (evL l ks) 1) from rfl)
  have C := fun w => Qo1 (g3 (evL l ks) 0) (g3 (evL l ks) 1) G0 G1 w
  generalize rck 7 (g3 (evL l ks) 0) (g3 (evL l ks) 1) = z at L C
  clear G0 G1 G2
  generalize g3 (evL l ks) 0 = x0 at *
  obtain ⟨p0k, p0n, p0s, p0t, p0m⟩ := x0
  generalize g3 (evL l ks) 1 = x1 at *
  obtain ⟨p1k, p1n, p1s, p1t, p1m⟩ := x1
  obtain ⟨zk, zn, zs, zt, zm⟩ := z
  have C := Hd C
  obtain ⟨a0, a1, a2, a3, a4, a5, a6, a7, a8, a9, a10, a11, a12, a13, a14⟩ := oa
  go_wp2_with (go_at_call 50; (refine Calls.mono (C.out _) ?_); rintro ee V7 ⟨rfl, hb7⟩; have S7 := S.keep hb7; clear S)
  refine pR (by simp [results, Tryz.results27, go_sem, S7]; try rfl) rfl ⟨by rw [L.out] <;> rfl, ?_⟩
  exact Bel.y
end
end Go.Proofs.YtjckpkamhdbcnaaGreatDoor
