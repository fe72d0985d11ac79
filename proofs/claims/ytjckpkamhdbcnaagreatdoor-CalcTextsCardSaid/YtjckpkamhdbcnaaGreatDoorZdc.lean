import Derived.Test.YtjckpkamhdbcnaaGreatDoorZda
import Derived.Test.YtjckpkamhdbcnaaGreatDoorZdb
import Derived.Test.YtjckpkamhdbcnaaGreatDoorZcb
namespace Go.Proofs.YtjckpkamhdbcnaaGreatDoor
set_option maxRecDepth 100000
set_option maxHeartbeats 64000000
set_option linter.unusedSimpArgs false
set_option linter.unusedVariables false
open Go.RowKit
attribute [local go_sem ↓] Qas Qau
theorem tk {P : Program} {ops : Array Go.Oper} {S : World -> Prop} {Q : Exit -> Act -> World -> Prop} {fuel : Nat} {listed : Array Bool} {a : Act} {w : World} {oi : Go.Oper} (i : Nat) (v : Value) (hS : S w) (h : wpAnyH P .any ops Q S fuel (listed.setIfInBounds i true) (a.put oi.dst v) w)
 (hi : ops[i]? = some oi := by rfl) (h1 : Region.noSelect ops = true := by kernel_rfl) (h2 : Region.free .any ops listed i = true := by kernel_rfl) (h3 : (Region.ready .any ops listed).contains i = true := by kernel_rfl) (hQ : ∀ c a w, Q (.panic c) (a.put oi.dst v) w -> Q (.panic c) a w := by exact fun _ _ _ h => h)
 (hw : Region.wanted oi (yielded ops a.tmps) = true := by rfl) (hy : ∀ X, S X -> (execOp a.eval oi).run P X = .ok (.value v) X := by (intro X hS; simp only [K2] at hS; go_simp; first | done | with_reducible rfl | rfl)) : wpAnyH P .any ops Q S (fuel + 1) listed a w :=
 wpAnyH_take hi h1 h2 h3 hQ (.inl ⟨hw, hy⟩) hS h
theorem Qvn (l : List Bnd) (hln : l.length <= 9223372036854775807) (hls : ∀ b ∈ l, vsnd b.v = true) (x : Ex) (IH : ∀ y ∈ x.ks, RvC l y) : RvC l x := by
 intro w A c AL cL ho hbn hB hL
 obtain ⟨o, ⟨vk, vn, vs, vt, vm⟩, nm, ks⟩ := x
 obtain ⟨hk3, hok⟩ := Qby ho
 have hp := Qbt (show prtB o ⟨vk, vn, vs, vt, vm⟩ nm ks.length = true from by rw [okX, bA] at ho; exact ho.1)
 have hkn := hp.2.2.1
 rw [bdsX, bA] at hbn
 have hbk := Qdd l ks hbn.2
 replace hbn := hbn.1
 have hX : evX l (.mk o ⟨vk, vn, vs, vt, vm⟩ nm ks) = evO l o ⟨vk, vn, vs, vt, vm⟩ (Qaa nm) (evL l ks) := by rw [evX]
 rw [hX]
 simp only [Ex.op, Ex.v, Ex.nm, Ex.ks] at hL ⊢
 have hsv := Qeq hls ks hok
 have hrl := Qb3 l ks
 have HI := Hd fun (q : Nat) (y : Ex) (hy : ks[q]? = some y) => And.intro (IH y (List.mem_of_getElem? hy)) (And.intro (hok y (List.mem_of_getElem? hy)) (hbk y (List.mem_of_getElem? hy)))
 generalize Qaa nm = bn at hbn ⊢
 obtain ⟨n, hn'⟩ : ∃ n, n = ks.length := ⟨_, rfl⟩
 rw [← hn'] at hk3 hkn hrl ⊢
 have HKN := Hd hkn
 have HH := Hd (And.intro hp.1 hp.2.1)
 have hni : (n : Int) <= 3 := by omega
 have Hn := Hd hn'
 have HBB := Hd hB
 have HLL := Hd hL
 have HS := Hd hsv
 have HRL := Hd hrl
 have HLS := Hd hls
 clear hkn hX hp ho hB hL hn' IH hok hsv hrl hbk hbn hls hk3
 go_enter Tryz.func30, Tryz.ntmps30
 go_upto_region 1 with fail
 refine uN (w0 := w) (by exact Bel.y) fun W1 hcc hf hz hb => ?_
 have T1 : Qab W1 w.heap.size o ⟨vk, vn, vs, vt, vm⟩ bn A n c := by simp [Qab, Qap, hcc, hf, hz, go_sem]
 have S1 : Slot W1 (w.heap.size + 1) zero := by simp [Slot, Qal, Qah, zero, hcc, hf, hz, go_sem]
 clear hcc hf hz
 have HNw := Hd (Nat.le_refl w.heap.size)
 generalize hNN : w.heap.size = N at T1 S1
 have K1 := Hd T1
 have Q1 := Hd S1
 have HB1 := Hd hb
 have HN0 := Hd (Nat.le_of_eq hNN)
 have HN1 := Hd S1.1
 clear hb hNN HNw T1 S1
 go_upto_region 3 with fail
 go_loopg [5, 6] (n + 1) (fun g kv iv wr => ∃ (q : Nat) (r : List Val) (K : Option Addr) (kc : Nat), iv = .int .i64 q /\ kv = .slice K r.length kc /\ q <= n /\ Hid (n + 1 - q <= g) /\ Hid (r = evL l (ks.take q)) /\ Hid (OwnV wr W1.heap.size (.slice K r.length kc) r) /\ Hid (Bel W1 wr))
 case atStart => exact ⟨0, [], some ⟨W1.heap.size, 0, none⟩, 0, rfl, rfl, Nat.zero_le _, Hd (by omega), Hd (by rw [List.take_zero, evL]), Hd (OwnV.made (Bel.refl W1)), Hd ((Bel.refl W1).alloc _)⟩
 case round =>
  obtain ⟨q, r, K, kc, rfl, rfl, hq, hg, hr, hO, hW⟩ := hrel
  rcases Nat.lt_or_ge q n with hlt | hge
  ·have hlti : (q : Int) < n := by omega
   have l0 : (0 : Int) <= (q : Int) := by omega
   have wq : IntKind.i64.wrap ((q : Int) + 1) = ((q + 1 : Nat) : Int) := by rw [IntKind.wrap_i64]; omega
   obtain ⟨y, hy⟩ : ∃ y, ks[q]? = some y := ⟨ks[q]'(by have := Hn.out; omega), gE _⟩
   obtain ⟨B, off, rfl, -, hBlt, A', c', hE, hLy⟩ := (HLL.out.keep (HB1.out.trans hW.out)).get2 hy
   obtain ⟨HC, hoy, hby⟩ := HI.out q y hy
   have CK := HC wr A' c' AL cL hoy hby (HBB.out.keep (HB1.out.trans hW.out)) hLy
   have htk := Qde l ks q y hy
   rw [← hr.out] at htk
   have hrq : r.length = q := by rw [hr.out, Qb3, List.length_take]; have := Hn.out; omega
   obtain ⟨yo, ⟨yk, yn, ys, yt, ym⟩, ynm, yks⟩ := y
   simp only [Ex.op, Ex.v, Ex.nm, Ex.ks] at hE CK
   obtain ⟨e0, e1, e2, e3, e4, e5, e6, e7⟩ := hE
   obtain ⟨y5, hy5⟩ : ∃ y5, y5 = evX l (.mk yo ⟨yk, yn, ys, yt, ym⟩ ynm yks) := ⟨_, rfl⟩
   rw [← hy5] at CK htk
   have HTK := Hd htk
   have HRQ := Hd (show r.length + 1 <= 2097152 by omega)
   clear hLy hy HC hoy hby hBlt hy5 htk hrq
   obtain ⟨zk, zn, zs, zt, zm⟩ := y5
   have CK := Hd CK
   obtain ⟨tz, t0, t1, t2, t3, t4, t5, t6, t7⟩ := (K1.out.keep hW.out).u
   go_wp2_with (first
    | (go_at_call 30; (with_reducible refine Calls.mono CK.out ?_); rintro ee V6 ⟨rfl, hb6⟩; have HB6 := Hd (hW.out.trans hb6); have O6 := Hd (OwnV.keep hO.out hb6); clear hb6 tz t0 t1 t2 t3 t4 t5 t6 t7 e0 e1 e2 e3 e4 e5 e6 e7)
    | (at_builtin; refine Qeg rfl (.tmp 17) (.tmp 25) _ rfl (Qv0 (w0 := W1) (ys := [⟨zk, zn, zs, zt, zm⟩]) (HB6.out.alloc _) (O6.out.keep ((Bel.refl _).alloc _)) (Qku V6 ⟨zk, zn, zs, zt, zm⟩ rfl) rfl (fun h => by cases h) HRQ.out _) ?_; rintro v7 w7 ⟨o7, b7⟩; obtain ⟨K7, kc7, rfl, -, -, -⟩ := o7.vals; have o7 := Hd o7; have b7 := Hd b7))
   go_roundg (n + 1 - (q + 1))
   case measure => have := hg.out; omega
   case rel => exact ⟨q + 1, _, K7, kc7, rfl, by rw [lA] <;> rfl, hlt, Hd (Nat.le_refl _), Hd HTK.out.symm, o7, b7⟩
  obtain rfl : n = q := by omega
  have htk : ks.take n = ks := List.take_of_length_le (by have := Hn.out; omega)
  rw [htk] at hr
  have hbw := hW.out
  have hw0 := HN0.out
  have hrl := HRL.out
  have hsv := HS.out
  rw [← hr.out] at hrl hsv
  have HE := Hd hr.out
  have KO := hO.out
  clear HI HLL HS HRL Hn hr htk hge hO hg hni
  obtain ⟨tz, t0, t1, t2, t3, t4, t5, t6, t7⟩ := (K1.out.keep hbw).u
  have S := Q1.out.keep hbw
  have HBW := Hd (HB1.out.trans hbw)
  have NLT := Hd HN1.out
  have hh := HH.out
  clear HH
  rcases (by omega : o = 1 \/ o = 2 \/ o = 3 \/ o = 16 \/ o = 14 \/ o = 15 \/ o = 8 \/ o = 10 \/ o = 12 \/ o = 9 \/ o = 11 \/ o = 13 \/ o = 17 \/ (o = 4 \/ o = 5 \/ o = 6 \/ o = 7)) with h | h | h | h | h | h | h | h | h | h | h | h | h | h
  ·clear hh
   obtain rfl := h
   obtain rfl : n = 0 := HKN.out
   have L := Hd (show evO l 1 ⟨vk, vn, vs, vt, vm⟩ bn (evL l ks) = ⟨vk, vn, vs, vt, vm⟩ from by rw [← HE.out]; rfl)
   go_wp2_with fail
   refine pR (by first | (simp [results, Tryz.results30, go_sem, S]; done) | (simp [results, Tryz.results30, go_sem, S]; rfl)) rfl ⟨by rw [L.out] <;> rfl, ?_⟩
   have hbz := HBW.out
   exact Bel.y
  ·clear hh
   obtain rfl := h
   obtain rfl : n = 0 := HKN.out
   have L := Hd (show evO l 2 ⟨vk, vn, vs, vt, vm⟩ bn (evL l ks) = lookB l bn from by rw [← HE.out]; rfl)
   have CB := fun (W : World) (hW : Bel wr W) => Qgj l AL cL bn W (HBB.out.keep (HBW.out.trans hW)) hln
   generalize lookB l bn = z at L CB
   generalize isB l bn = y at CB
   obtain ⟨zk, zn, zs, zt, zm⟩ := z
   have CB := Hd CB
   clear HLS
   go_wp2_with (go_at_call 57; (with_reducible refine Calls.mono (CB.out _ (Bel.refl _)) ?_); rintro ee V7 ⟨rfl, hb7⟩; have S7 := S.keep hb7; have hn7 := lL S.1 hb7.size; have BW7 := HBW.out.trans hb7; clear S)
   refine pR (by first | (simp [results, Tryz.results30, go_sem, S7]; done) | (simp [results, Tryz.results30, go_sem, S7]; rfl)) rfl ⟨by rw [L.out] <;> rfl, ?_⟩
   exact Bel.y
  ·clear hh
   obtain rfl := h
   obtain rfl : n = 1 := HKN.out
   obtain ⟨x0, rfl⟩ := len1 hrl
   obtain ⟨gk, ck, ek, hge, hgl, -, h0, h1, h2, h3, h4⟩ := Qv1 KO
   cases ek
   have v0 := hsv x0 (by simp)
   have L := Hd (show evO l 3 ⟨vk, vn, vs, vt, vm⟩ bn (evL l ks) = rck 5 ⟨1, 0, 0, ⟨#[]⟩, 0⟩ x0 from by rw [← HE.out]; rfl)
   have C := fun w => Qii 5 (.inr (.inl rfl)) ⟨1, 0, 0, ⟨#[]⟩, 0⟩ x0 (by exact Qhe ⟨by decide, by decide, ⟨by decide, by decide⟩, .inl rfl⟩) v0 w
   generalize rck 5 ⟨1, 0, 0, ⟨#[]⟩, 0⟩ x0 = z at L C
   obtain ⟨x0k, x0n, x0s, x0t, x0m⟩ := x0
   obtain ⟨zk, zn, zs, zt, zm⟩ := z
   have C := Hd C
   have B6 := HBW.out
   go_wp2_with (go_at_call 58; (with_reducible refine Calls.mono (C.out _) ?_); rintro ee V7 ⟨rfl, hb7⟩; have S7 := S.keep hb7; have B7 := B6.trans hb7)
   refine pR (by first | (simp [results, Tryz.results30, go_sem, S7]; done) | (simp [results, Tryz.results30, go_sem, S7]; rfl)) rfl ⟨by rw [L.out] <;> rfl, ?_⟩
   exact Bel.y
  ·clear hh
   obtain rfl := h
   obtain rfl : n = 1 := HKN.out
   obtain ⟨x0, rfl⟩ := len1 hrl
   obtain ⟨gk, ck, ek, hge, hgl, -, h0, h1, h2, h3, h4⟩ := Qv1 KO
   cases ek
   have L := Hd (show evO l 16 ⟨vk, vn, vs, vt, vm⟩ bn (evL l ks) = nt x0 from by rw [← HE.out]; rfl)
   have C := fun w => Qfc x0 w
   generalize nt x0 = z at L C
   obtain ⟨x0k, x0n, x0s, x0t, x0m⟩ := x0
   obtain ⟨zk, zn, zs, zt, zm⟩ := z
   have C := Hd C
   have B6 := HBW.out
   go_wp2_with (go_at_call 59; (with_reducible refine Calls.mono (C.out _) ?_); rintro ee V7 ⟨rfl, hb7⟩; have S7 := S.keep hb7; have B7 := B6.trans hb7)
   refine pR (by first | (simp [results, Tryz.results30, go_sem, S7]; done) | (simp [results, Tryz.results30, go_sem, S7]; rfl)) rfl ⟨by rw [L.out] <;> rfl, ?_⟩
   exact Bel.y
  ·clear hh
   obtain rfl := h
   obtain rfl : n = 2 := HKN.out
   obtain ⟨x0, x1, rfl⟩ := len2 hrl
   obtain ⟨gk, ck, ek, hge, hgl, hVs, hK⟩ := Qgs KO
   cases ek
   have L := Hd (show evO l 14 ⟨vk, vn, vs, vt, vm⟩ bn (evL l ks) = jn false [x0, x1] from by rw [← HE.out]; rfl)
   have C := fun (W : World) (hW : Bel wr W) => Qsb [x0, x1] (some ⟨gk, 0, none⟩) kc W (hVs.keep hW) (by simp [maxLen])
   generalize jn false [x0, x1] = z at L C
   obtain ⟨zk, zn, zs, zt, zm⟩ := z
   have C := Hd (show ∀ W, Bel wr W -> Calls Tryz.prog 60 #[.slice (some ⟨gk, 0, none⟩) 2 kc] W fun e w' => e = .returned (Val.val ⟨zk, zn, zs, zt, zm⟩) /\ Bel W w' from C)
   clear hVs hK
   go_wp2_with (go_at_call 60; (with_reducible refine Calls.mono (C.out _ (Bel.refl _)) ?_); rintro ee V7 ⟨rfl, hb7⟩; have S7 := S.keep hb7; have BW7 := HBW.out.trans hb7; clear S)
   refine pR (by first | (simp [results, Tryz.results30, go_sem, S7]; done) | (simp [results, Tryz.results30, go_sem, S7]; rfl)) rfl ⟨by rw [L.out] <;> rfl, ?_⟩
   exact Bel.y
  ·clear hh
   obtain rfl := h
   obtain rfl : n = 2 := HKN.out
   obtain ⟨x0, x1, rfl⟩ := len2 hrl
   obtain ⟨gk, ck, ek, hge, hgl, hVs, hK⟩ := Qgs KO
   cases ek
   have L := Hd (show evO l 15 ⟨vk, vn, vs, vt, vm⟩ bn (evL l ks) = jn true [x0, x1] from by rw [← HE.out]; rfl)
   have C := fun (W : World) (hW : Bel wr W) => Qvj [x0, x1] (some ⟨gk, 0, none⟩) kc W (hVs.keep hW) (by simp [maxLen])
   generalize jn true [x0, x1] = z at L C
   obtain ⟨zk, zn, zs, zt, zm⟩ := z
   have C := Hd (show ∀ W, Bel wr W -> Calls Tryz.prog 61 #[.slice (some ⟨gk, 0, none⟩) 2 kc] W fun e w' => e = .returned (Val.val ⟨zk, zn, zs, zt, zm⟩) /\ Bel W w' from C)
   clear hVs hK
   go_wp2_with (go_at_call 61; (with_reducible refine Calls.mono (C.out _ (Bel.refl _)) ?_); rintro ee V7 ⟨rfl, hb7⟩; have S7 := S.keep hb7; have BW7 := HBW.out.trans hb7; clear S)
   refine pR (by first | (simp [results, Tryz.results30, go_sem, S7]; done) | (simp [results, Tryz.results30, go_sem, S7]; rfl)) rfl ⟨by rw [L.out] <;> rfl, ?_⟩
   exact Bel.y
  ·clear hh
   obtain rfl := h
   obtain rfl : n = 2 := HKN.out
   obtain ⟨x0, x1, rfl⟩ := len2 hrl
   obtain ⟨gk, ck, ek, hge, hgl, hVs, hK⟩ := Qgs KO
   cases ek
   have v0 := hsv x0 (by simp)
   have v1 := hsv x1 (by simp)
   have L := Hd (show evO l 8 ⟨vk, vn, vs, vt, vm⟩ bn (evL l ks) = eqV x0 x1 from by rw [← HE.out]; rfl)
   have C := fun w => Qfy x0 x1 (Qav v0) (Qav v1) w
   generalize eqV x0 x1 = z at L C
   obtain ⟨zk, zn, zs, zt, zm⟩ := z
   have C := Hd C
   have HK := Hd (show K2 wr gk x0 x1 from hK)
   clear hK hVs v0 v1
   obtain ⟨x0k, x0n, x0s, x0t, x0m⟩ := x0
   obtain ⟨x1k, x1n, x1s, x1t, x1m⟩ := x1
   have hne : gk ≠ N + 1 := by have h1 := NLT.out; omega
   go_upto_region 21 with fail
   clear tz t0 t1 t2 t3 t4 t5 t6 t7
   refine wp_region_noPanic (wp_region_held (S := fun X => K2 X gk ⟨x0k, x0n, x0s, x0t, x0m⟩ ⟨x1k, x1n, x1s, x1t, x1m⟩) (by kernel_rfl) ?_)
   have hX : Bel wr { wr with drawn := wr.drawn + 1 } := (Bel.refl wr).drew
   generalize { wr with drawn := wr.drawn + 1 } = X0 at hX ⊢
   have S0 := HK.out.keep hgl hX
   have R := S.keep hX
   have B := HBW.out.trans hX
   have G := lL hgl hX.size
   refine tk 0 (.slice (some ⟨gk, 0, none⟩) 2 kc) S0 ?_
   refine tk 1 (.pointer (some ⟨gk, 0, none⟩)) S0 ?_
   refine tk 2 (.agg #[.int .i64 x0k, .int .i64 x0n, .int .i64 x0s, .string x0t, .int .i64 x0m]) S0 ?_
   refine tk 3 (.slice (some ⟨gk, 0, none⟩) 2 kc) S0 ?_
   refine tk 4 (.pointer (some ⟨gk, 5, none⟩)) S0 ?_
   refine tk 5 (.agg #[.int .i64 x1k, .int .i64 x1n, .int .i64 x1s, .string x1t, .int .i64 x1m]) S0 ?_
   refine wpAnyH_all (rs := [6]) (by kernel_rfl) (by simp) fun i hi => ?_
   obtain rfl := List.mem_singleton.1 hi
   refine Qa6 (R := fun v w' => v = .agg #[.int .i64 zk, .int .i64 zn, .int .i64 zs, .string zt, .int .i64 zm] /\ Bel X0 w') rfl (by rfl) (by go_simp; first | done | with_reducible rfl | rfl) ((C.out X0).mono fun e w' h => ⟨_, h.1, rfl, h.2⟩) ?_
   rintro v X1 ⟨rfl, hX⟩
   have S1 := S0.keep G hX
   replace R := R.keep hX
   replace B := B.trans hX
   replace G := lL G hX.size
   refine ⟨S1, ?_⟩
   (try simp only [Act.put, List.getElem_toArray, List.getElem_cons_zero, List.getElem_cons_succ, List.setIfInBounds_toArray, List.set_cons_zero, List.set_cons_succ])
   obtain ⟨sz, ⟨s0, s1, s2, s3, s4⟩, ⟨f0, f1, f2, f3, f4⟩⟩ := R
   simp only [zero, Nat.zero_add] at s0 s1 s2 s3 s4
   refine wpAnyH_all (rs := [7]) (by kernel_rfl) (by simp) fun i hi => ?_
   obtain rfl := List.mem_singleton.1 hi
   refine Qbv (w' := (((((X1.setCell ⟨N + 1, 0, none⟩ (.int .i64 zk)).setCell ⟨N + 1, 1, none⟩ (.int .i64 zn)).setCell ⟨N + 1, 2, none⟩ (.int .i64 zs)).setCell ⟨N + 1, 3, none⟩ (.string zt)).setCell ⟨N + 1, 4, none⟩ (.int .i64 zm))) rfl (by rfl) (by go_simp; first | done | with_reducible rfl | rfl) ?_
   refine ⟨((((S1.far hne _).far hne _).far hne _).far hne _).far hne _, ?_⟩
   (try simp only [Act.put, List.getElem_toArray, List.getElem_cons_zero, List.getElem_cons_succ, List.setIfInBounds_toArray, List.set_cons_zero, List.set_cons_succ])
   have hq : Slot (((((X1.setCell ⟨N + 1, 0, none⟩ (.int .i64 zk)).setCell ⟨N + 1, 1, none⟩ (.int .i64 zn)).setCell ⟨N + 1, 2, none⟩ (.int .i64 zs)).setCell ⟨N + 1, 3, none⟩ (.string zt)).setCell ⟨N + 1, 4, none⟩ (.int .i64 zm)) (N + 1) ⟨zk, zn, zs, zt, zm⟩ := by simp [Slot, Qal, Qah, go_sem, sz, s0, s1, s2, s3, s4, f0, f1, f2, f3, f4]
   have hbw' : Bel w (((((X1.setCell ⟨N + 1, 0, none⟩ (.int .i64 zk)).setCell ⟨N + 1, 1, none⟩ (.int .i64 zn)).setCell ⟨N + 1, 2, none⟩ (.int .i64 zs)).setCell ⟨N + 1, 3, none⟩ (.string zt)).setCell ⟨N + 1, 4, none⟩ (.int .i64 zm)) := by
    have hN := HN0.out
    exact Bel.y
   generalize (((((X1.setCell ⟨N + 1, 0, none⟩ (.int .i64 zk)).setCell ⟨N + 1, 1, none⟩ (.int .i64 zn)).setCell ⟨N + 1, 2, none⟩ (.int .i64 zs)).setCell ⟨N + 1, 3, none⟩ (.string zt)).setCell ⟨N + 1, 4, none⟩ (.int .i64 zm)) = Y at hq hbw' ⊢
   clear sz s0 s1 s2 s3 s4 f0 f1 f2 f3 f4
   refine wpAnyH_done (by kernel_rfl) (.normal ?_) _
   go_wp2_with fail
   refine pR (by first | (simp [results, Tryz.results30, go_sem, hq]; done) | (simp [results, Tryz.results30, go_sem, hq]; rfl)) rfl ⟨by rw [L.out] <;> rfl, hbw'⟩
  ·clear hh
   obtain rfl := h
   obtain rfl : n = 2 := HKN.out
   obtain ⟨x0, x1, rfl⟩ := len2 hrl
   obtain ⟨gk, ck, ek, hge, hgl, hVs, hK⟩ := Qgs KO
   cases ek
   have v0 := hsv x0 (by simp)
   have v1 := hsv x1 (by simp)
   have L := Hd (show evO l 10 ⟨vk, vn, vs, vt, vm⟩ bn (evL l ks) = ltV x0 x1 from by rw [← HE.out]; rfl)
   have C := fun w => Qdk x0 x1 (Qav v0) (Qav v1) w
   generalize ltV x0 x1 = z at L C
   obtain ⟨zk, zn, zs, zt, zm⟩ := z
   have C := Hd C
   have HK := Hd (show K2 wr gk x0 x1 from hK)
   clear hK hVs v0 v1
   obtain ⟨x0k, x0n, x0s, x0t, x0m⟩ := x0
   obtain ⟨x1k, x1n, x1s, x1t, x1m⟩ := x1
   have hne : gk ≠ N + 1 := by have h1 := NLT.out; omega
   go_upto_region 25 with fail
   clear tz t0 t1 t2 t3 t4 t5 t6 t7
   refine wp_region_noPanic (wp_region_held (S := fun X => K2 X gk ⟨x0k, x0n, x0s, x0t, x0m⟩ ⟨x1k, x1n, x1s, x1t, x1m⟩) (by kernel_rfl) ?_)
   have hX : Bel wr { wr with drawn := wr.drawn + 1 } := (Bel.refl wr).drew
   generalize { wr with drawn := wr.drawn + 1 } = X0 at hX ⊢
   have S0 := HK.out.keep hgl hX
   have R := S.keep hX
   have B := HBW.out.trans hX
   have G := lL hgl hX.size
   refine tk 0 (.slice (some ⟨gk, 0, none⟩) 2 kc) S0 ?_
   refine tk 1 (.pointer (some ⟨gk, 0, none⟩)) S0 ?_
   refine tk 2 (.agg #[.int .i64 x0k, .int .i64 x0n, .int .i64 x0s, .string x0t, .int .i64 x0m]) S0 ?_
   refine tk 3 (.slice (some ⟨gk, 0, none⟩) 2 kc) S0 ?_
   refine tk 4 (.pointer (some ⟨gk, 5, none⟩)) S0 ?_
   refine tk 5 (.agg #[.int .i64 x1k, .int .i64 x1n, .int .i64 x1s, .string x1t, .int .i64 x1m]) S0 ?_
   refine wpAnyH_all (rs := [6]) (by kernel_rfl) (by simp) fun i hi => ?_
   obtain rfl := List.mem_singleton.1 hi
   refine Qa6 (R := fun v w' => v = .agg #[.int .i64 zk, .int .i64 zn, .int .i64 zs, .string zt, .int .i64 zm] /\ Bel X0 w') rfl (by rfl) (by go_simp; first | done | with_reducible rfl | rfl) ((C.out X0).mono fun e w' h => ⟨_, h.1, rfl, h.2⟩) ?_
   rintro v X1 ⟨rfl, hX⟩
   have S1 := S0.keep G hX
   replace R := R.keep hX
   replace B := B.trans hX
   replace G := lL G hX.size
   refine ⟨S1, ?_⟩
   (try simp only [Act.put, List.getElem_toArray, List.getElem_cons_zero, List.getElem_cons_succ, List.setIfInBounds_toArray, List.set_cons_zero, List.set_cons_succ])
   obtain ⟨sz, ⟨s0, s1, s2, s3, s4⟩, ⟨f0, f1, f2, f3, f4⟩⟩ := R
   simp only [zero, Nat.zero_add] at s0 s1 s2 s3 s4
   refine wpAnyH_all (rs := [7]) (by kernel_rfl) (by simp) fun i hi => ?_
   obtain rfl := List.mem_singleton.1 hi
   refine Qbv (w' := (((((X1.setCell ⟨N + 1, 0, none⟩ (.int .i64 zk)).setCell ⟨N + 1, 1, none⟩ (.int .i64 zn)).setCell ⟨N + 1, 2, none⟩ (.int .i64 zs)).setCell ⟨N + 1, 3, none⟩ (.string zt)).setCell ⟨N + 1, 4, none⟩ (.int .i64 zm))) rfl (by rfl) (by go_simp; first | done | with_reducible rfl | rfl) ?_
   refine ⟨((((S1.far hne _).far hne _).far hne _).far hne _).far hne _, ?_⟩
   (try simp only [Act.put, List.getElem_toArray, List.getElem_cons_zero, List.getElem_cons_succ, List.setIfInBounds_toArray, List.set_cons_zero, List.set_cons_succ])
   have hq : Slot (((((X1.setCell ⟨N + 1, 0, none⟩ (.int .i64 zk)).setCell ⟨N + 1, 1, none⟩ (.int .i64 zn)).setCell ⟨N + 1, 2, none⟩ (.int .i64 zs)).setCell ⟨N + 1, 3, none⟩ (.string zt)).setCell ⟨N + 1, 4, none⟩ (.int .i64 zm)) (N + 1) ⟨zk, zn, zs, zt, zm⟩ := by simp [Slot, Qal, Qah, go_sem, sz, s0, s1, s2, s3, s4, f0, f1, f2, f3, f4]
   have hbw' : Bel w (((((X1.setCell ⟨N + 1, 0, none⟩ (.int .i64 zk)).setCell ⟨N + 1, 1, none⟩ (.int .i64 zn)).setCell ⟨N + 1, 2, none⟩ (.int .i64 zs)).setCell ⟨N + 1, 3, none⟩ (.string zt)).setCell ⟨N + 1, 4, none⟩ (.int .i64 zm)) := by
    have hN := HN0.out
    exact Bel.y
   generalize (((((X1.setCell ⟨N + 1, 0, none⟩ (.int .i64 zk)).setCell ⟨N + 1, 1, none⟩ (.int .i64 zn)).setCell ⟨N + 1, 2, none⟩ (.int .i64 zs)).setCell ⟨N + 1, 3, none⟩ (.string zt)).setCell ⟨N + 1, 4, none⟩ (.int .i64 zm)) = Y at hq hbw' ⊢
   clear sz s0 s1 s2 s3 s4 f0 f1 f2 f3 f4
   refine wpAnyH_done (by kernel_rfl) (.normal ?_) _
   go_wp2_with fail
   refine pR (by first | (simp [results, Tryz.results30, go_sem, hq]; done) | (simp [results, Tryz.results30, go_sem, hq]; rfl)) rfl ⟨by rw [L.out] <;> rfl, hbw'⟩
  ·clear hh
   obtain rfl := h
   obtain rfl : n = 2 := HKN.out
   obtain ⟨x0, x1, rfl⟩ := len2 hrl
   obtain ⟨gk, ck, ek, hge, hgl, hVs, hK⟩ := Qgs KO
   cases ek
   have v0 := hsv x0 (by simp)
   have v1 := hsv x1 (by simp)
   have L := Hd (show evO l 12 ⟨vk, vn, vs, vt, vm⟩ bn (evL l ks) = ltV x1 x0 from by rw [← HE.out]; rfl)
   have C := fun w => Qdk x1 x0 (Qav v1) (Qav v0) w
   generalize ltV x1 x0 = z at L C
   obtain ⟨zk, zn, zs, zt, zm⟩ := z
   have C := Hd C
   have HK := Hd (show K2 wr gk x0 x1 from hK)
   clear hK hVs v0 v1
   obtain ⟨x0k, x0n, x0s, x0t, x0m⟩ := x0
   obtain ⟨x1k, x1n, x1s, x1t, x1m⟩ := x1
   have hne : gk ≠ N + 1 := by have h1 := NLT.out; omega
   go_upto_region 27 with fail
   clear tz t0 t1 t2 t3 t4 t5 t6 t7
   refine wp_region_noPanic (wp_region_held (S := fun X => K2 X gk ⟨x0k, x0n, x0s, x0t, x0m⟩ ⟨x1k, x1n, x1s, x1t, x1m⟩) (by kernel_rfl) ?_)
   have hX : Bel wr { wr with drawn := wr.drawn + 1 } := (Bel.refl wr).drew
   generalize { wr with drawn := wr.drawn + 1 } = X0 at hX ⊢
   have S0 := HK.out.keep hgl hX
   have R := S.keep hX
   have B := HBW.out.trans hX
   have G := lL hgl hX.size
   refine tk 0 (.slice (some ⟨gk, 0, none⟩) 2 kc) S0 ?_
   refine tk 1 (.pointer (some ⟨gk, 5, none⟩)) S0 ?_
   refine tk 2 (.agg #[.int .i64 x1k, .int .i64 x1n, .int .i64 x1s, .string x1t, .int .i64 x1m]) S0 ?_
   refine tk 3 (.slice (some ⟨gk, 0, none⟩) 2 kc) S0 ?_
   refine tk 4 (.pointer (some ⟨gk, 0, none⟩)) S0 ?_
   refine tk 5 (.agg #[.int .i64 x0k, .int .i64 x0n, .int .i64 x0s, .string x0t, .int .i64 x0m]) S0 ?_
   refine wpAnyH_all (rs := [6]) (by kernel_rfl) (by simp) fun i hi => ?_
   obtain rfl := List.mem_singleton.1 hi
   refine Qa6 (R := fun v w' => v = .agg #[.int .i64 zk, .int .i64 zn, .int .i64 zs, .string zt, .int .i64 zm] /\ Bel X0 w') rfl (by rfl) (by go_simp; first | done | with_reducible rfl | rfl) ((C.out X0).mono fun e w' h => ⟨_, h.1, rfl, h.2⟩) ?_
   rintro v X1 ⟨rfl, hX⟩
   have S1 := S0.keep G hX
   replace R := R.keep hX
   replace B := B.trans hX
   replace G := lL G hX.size
   refine ⟨S1, ?_⟩
   (try simp only [Act.put, List.getElem_toArray, List.getElem_cons_zero, List.getElem_cons_succ, List.setIfInBounds_toArray, List.set_cons_zero, List.set_cons_succ])
   obtain ⟨sz, ⟨s0, s1, s2, s3, s4⟩, ⟨f0, f1, f2, f3, f4⟩⟩ := R
   simp only [zero, Nat.zero_add] at s0 s1 s2 s3 s4
   refine wpAnyH_all (rs := [7]) (by kernel_rfl) (by simp) fun i hi => ?_
   obtain rfl := List.mem_singleton.1 hi
   refine Qbv (w' := (((((X1.setCell ⟨N + 1, 0, none⟩ (.int .i64 zk)).setCell ⟨N + 1, 1, none⟩ (.int .i64 zn)).setCell ⟨N + 1, 2, none⟩ (.int .i64 zs)).setCell ⟨N + 1, 3, none⟩ (.string zt)).setCell ⟨N + 1, 4, none⟩ (.int .i64 zm))) rfl (by rfl) (by go_simp; first | done | with_reducible rfl | rfl) ?_
   refine ⟨((((S1.far hne _).far hne _).far hne _).far hne _).far hne _, ?_⟩
   (try simp only [Act.put, List.getElem_toArray, List.getElem_cons_zero, List.getElem_cons_succ, List.setIfInBounds_toArray, List.set_cons_zero, List.set_cons_succ])
   have hq : Slot (((((X1.setCell ⟨N + 1, 0, none⟩ (.int .i64 zk)).setCell ⟨N + 1, 1, none⟩ (.int .i64 zn)).setCell ⟨N + 1, 2, none⟩ (.int .i64 zs)).setCell ⟨N + 1, 3, none⟩ (.string zt)).setCell ⟨N + 1, 4, none⟩ (.int .i64 zm)) (N + 1) ⟨zk, zn, zs, zt, zm⟩ := by simp [Slot, Qal, Qah, go_sem, sz, s0, s1, s2, s3, s4, f0, f1, f2, f3, f4]
   have hbw' : Bel w (((((X1.setCell ⟨N + 1, 0, none⟩ (.int .i64 zk)).setCell ⟨N + 1, 1, none⟩ (.int .i64 zn)).setCell ⟨N + 1, 2, none⟩ (.int .i64 zs)).setCell ⟨N + 1, 3, none⟩ (.string zt)).setCell ⟨N + 1, 4, none⟩ (.int .i64 zm)) := by
    have hN := HN0.out
    exact Bel.y
   generalize (((((X1.setCell ⟨N + 1, 0, none⟩ (.int .i64 zk)).setCell ⟨N + 1, 1, none⟩ (.int .i64 zn)).setCell ⟨N + 1, 2, none⟩ (.int .i64 zs)).setCell ⟨N + 1, 3, none⟩ (.string zt)).setCell ⟨N + 1, 4, none⟩ (.int .i64 zm)) = Y at hq hbw' ⊢
   clear sz s0 s1 s2 s3 s4 f0 f1 f2 f3 f4
   refine wpAnyH_done (by kernel_rfl) (.normal ?_) _
   go_wp2_with fail
   refine pR (by first | (simp [results, Tryz.results30, go_sem, hq]; done) | (simp [results, Tryz.results30, go_sem, hq]; rfl)) rfl ⟨by rw [L.out] <;> rfl, hbw'⟩
  ·clear hh
   obtain rfl := h
   obtain rfl : n = 2 := HKN.out
   obtain ⟨x0, x1, rfl⟩ := len2 hrl
   obtain ⟨gk, ck, ek, hge, hgl, hVs, hK⟩ := Qgs KO
   cases ek
   have v0 := hsv x0 (by simp)
   have v1 := hsv x1 (by simp)
   have L := Hd (show evO l 9 ⟨vk, vn, vs, vt, vm⟩ bn (evL l ks) = nt (eqV x0 x1) from by rw [← HE.out]; rfl)
   have C := fun w => Qfy x0 x1 (Qav v0) (Qav v1) w
   have D := fun w => Qfc (eqV x0 x1) w
   generalize nt (eqV x0 x1) = z at L D
   generalize eqV x0 x1 = y at C D
   obtain ⟨zk, zn, zs, zt, zm⟩ := z
   obtain ⟨yk, yn, ys, yt, ym⟩ := y
   have C := Hd C
   have D := Hd D
   have HK := Hd (show K2 wr gk x0 x1 from hK)
   clear hK hVs v0 v1
   obtain ⟨x0k, x0n, x0s, x0t, x0m⟩ := x0
   obtain ⟨x1k, x1n, x1s, x1t, x1m⟩ := x1
   have hne : gk ≠ N + 1 := by have h1 := NLT.out; omega
   go_upto_region 23 with fail
   clear tz t0 t1 t2 t3 t4 t5 t6 t7
   refine wp_region_noPanic (wp_region_held (S := fun X => K2 X gk ⟨x0k, x0n, x0s, x0t, x0m⟩ ⟨x1k, x1n, x1s, x1t, x1m⟩) (by kernel_rfl) ?_)
   have hX : Bel wr { wr with drawn := wr.drawn + 1 } := (Bel.refl wr).drew
   generalize { wr with drawn := wr.drawn + 1 } = X0 at hX ⊢
   have S0 := HK.out.keep hgl hX
   have R := S.keep hX
   have B := HBW.out.trans hX
   have G := lL hgl hX.size
   refine tk 0 (.slice (some ⟨gk, 0, none⟩) 2 kc) S0 ?_
   refine tk 1 (.pointer (some ⟨gk, 0, none⟩)) S0 ?_
   refine tk 2 (.agg #[.int .i64 x0k, .int .i64 x0n, .int .i64 x0s, .string x0t, .int .i64 x0m]) S0 ?_
   refine tk 3 (.slice (some ⟨gk, 0, none⟩) 2 kc) S0 ?_
   refine tk 4 (.pointer (some ⟨gk, 5, none⟩)) S0 ?_
   refine tk 5 (.agg #[.int .i64 x1k, .int .i64 x1n, .int .i64 x1s, .string x1t, .int .i64 x1m]) S0 ?_
   refine wpAnyH_all (rs := [6]) (by kernel_rfl) (by simp) fun i hi => ?_
   obtain rfl := List.mem_singleton.1 hi
   refine Qa6 (R := fun v w' => v = .agg #[.int .i64 yk, .int .i64 yn, .int .i64 ys, .string yt, .int .i64 ym] /\ Bel X0 w') rfl (by rfl) (by go_simp; first | done | with_reducible rfl | rfl) ((C.out X0).mono fun e w' h => ⟨_, h.1, rfl, h.2⟩) ?_
   rintro v X1 ⟨rfl, hX⟩
   have S1 := S0.keep G hX
   replace R := R.keep hX
   replace B := B.trans hX
   replace G := lL G hX.size
   refine ⟨S1, ?_⟩
   (try simp only [Act.put, List.getElem_toArray, List.getElem_cons_zero, List.getElem_cons_succ, List.setIfInBounds_toArray, List.set_cons_zero, List.set_cons_succ])
   refine wpAnyH_all (rs := [7]) (by kernel_rfl) (by simp) fun i hi => ?_
   obtain rfl := List.mem_singleton.1 hi
   refine Qa6 (R := fun v w' => v = .agg #[.int .i64 zk, .int .i64 zn, .int .i64 zs, .string zt, .int .i64 zm] /\ Bel X1 w') rfl (by rfl) (by go_simp; first | done | with_reducible rfl | rfl) ((D.out X1).mono fun e w' h => ⟨_, h.1, rfl, h.2⟩) ?_
   rintro v X2 ⟨rfl, hX⟩
   have S2 := S1.keep G hX
   replace R := R.keep hX
   replace B := B.trans hX
   replace G := lL G hX.size
   refine ⟨S2, ?_⟩
   (try simp only [Act.put, List.getElem_toArray, List.getElem_cons_zero, List.getElem_cons_succ, List.setIfInBounds_toArray, List.set_cons_zero, List.set_cons_succ])
   obtain ⟨sz, ⟨s0, s1, s2, s3, s4⟩, ⟨f0, f1, f2, f3, f4⟩⟩ := R
   simp only [zero, Nat.zero_add] at s0 s1 s2 s3 s4
   refine wpAnyH_all (rs := [8]) (by kernel_rfl) (by simp) fun i hi => ?_
   obtain rfl := List.mem_singleton.1 hi
   refine Qbv (w' := (((((X2.setCell ⟨N + 1, 0, none⟩ (.int .i64 zk)).setCell ⟨N + 1, 1, none⟩ (.int .i64 zn)).setCell ⟨N + 1, 2, none⟩ (.int .i64 zs)).setCell ⟨N + 1, 3, none⟩ (.string zt)).setCell ⟨N + 1, 4, none⟩ (.int .i64 zm))) rfl (by rfl) (by go_simp; first | done | with_reducible rfl | rfl) ?_
   refine ⟨((((S2.far hne _).far hne _).far hne _).far hne _).far hne _, ?_⟩
   (try simp only [Act.put, List.getElem_toArray, List.getElem_cons_zero, List.getElem_cons_succ, List.setIfInBounds_toArray, List.set_cons_zero, List.set_cons_succ])
   have hq : Slot (((((X2.setCell ⟨N + 1, 0, none⟩ (.int .i64 zk)).setCell ⟨N + 1, 1, none⟩ (.int .i64 zn)).setCell ⟨N + 1, 2, none⟩ (.int .i64 zs)).setCell ⟨N + 1, 3, none⟩ (.string zt)).setCell ⟨N + 1, 4, none⟩ (.int .i64 zm)) (N + 1) ⟨zk, zn, zs, zt, zm⟩ := by simp [Slot, Qal, Qah, go_sem, sz, s0, s1, s2, s3, s4, f0, f1, f2, f3, f4]
   have hbw' : Bel w (((((X2.setCell ⟨N + 1, 0, none⟩ (.int .i64 zk)).setCell ⟨N + 1, 1, none⟩ (.int .i64 zn)).setCell ⟨N + 1, 2, none⟩ (.int .i64 zs)).setCell ⟨N + 1, 3, none⟩ (.string zt)).setCell ⟨N + 1, 4, none⟩ (.int .i64 zm)) := by
    have hN := HN0.out
    exact Bel.y
   generalize (((((X2.setCell ⟨N + 1, 0, none⟩ (.int .i64 zk)).setCell ⟨N + 1, 1, none⟩ (.int .i64 zn)).setCell ⟨N + 1, 2, none⟩ (.int .i64 zs)).setCell ⟨N + 1, 3, none⟩ (.string zt)).setCell ⟨N + 1, 4, none⟩ (.int .i64 zm)) = Y at hq hbw' ⊢
   clear sz s0 s1 s2 s3 s4 f0 f1 f2 f3 f4
   refine wpAnyH_done (by kernel_rfl) (.normal ?_) _
   go_wp2_with fail
   refine pR (by first | (simp [results, Tryz.results30, go_sem, hq]; done) | (simp [results, Tryz.results30, go_sem, hq]; rfl)) rfl ⟨by rw [L.out] <;> rfl, hbw'⟩
  ·clear hh
   obtain rfl := h
   obtain rfl : n = 2 := HKN.out
   obtain ⟨x0, x1, rfl⟩ := len2 hrl
   obtain ⟨gk, ck, ek, hge, hgl, hVs, hK⟩ := Qgs KO
   cases ek
   have v0 := hsv x0 (by simp)
   have v1 := hsv x1 (by simp)
   have L := Hd (show evO l 11 ⟨vk, vn, vs, vt, vm⟩ bn (evL l ks) = nt (ltV x1 x0) from by rw [← HE.out]; rfl)
   have C := fun w => Qdk x1 x0 (Qav v1) (Qav v0) w
   have D := fun w => Qfc (ltV x1 x0) w
   generalize nt (ltV x1 x0) = z at L D
   generalize ltV x1 x0 = y at C D
   obtain ⟨zk, zn, zs, zt, zm⟩ := z
   obtain ⟨yk, yn, ys, yt, ym⟩ := y
   have C := Hd C
   have D := Hd D
   have HK := Hd (show K2 wr gk x0 x1 from hK)
   clear hK hVs v0 v1
   obtain ⟨x0k, x0n, x0s, x0t, x0m⟩ := x0
   obtain ⟨x1k, x1n, x1s, x1t, x1m⟩ := x1
   have hne : gk ≠ N + 1 := by have h1 := NLT.out; omega
   go_upto_region 29 with fail
   clear tz t0 t1 t2 t3 t4 t5 t6 t7
   refine wp_region_noPanic (wp_region_held (S := fun X => K2 X gk ⟨x0k, x0n, x0s, x0t, x0m⟩ ⟨x1k, x1n, x1s, x1t, x1m⟩) (by kernel_rfl) ?_)
   have hX : Bel wr { wr with drawn := wr.drawn + 1 } := (Bel.refl wr).drew
   generalize { wr with drawn := wr.drawn + 1 } = X0 at hX ⊢
   have S0 := HK.out.keep hgl hX
   have R := S.keep hX
   have B := HBW.out.trans hX
   have G := lL hgl hX.size
   refine tk 0 (.slice (some ⟨gk, 0, none⟩) 2 kc) S0 ?_
   refine tk 1 (.pointer (some ⟨gk, 5, none⟩)) S0 ?_
   refine tk 2 (.agg #[.int .i64 x1k, .int .i64 x1n, .int .i64 x1s, .string x1t, .int .i64 x1m]) S0 ?_
   refine tk 3 (.slice (some ⟨gk, 0, none⟩) 2 kc) S0 ?_
   refine tk 4 (.pointer (some ⟨gk, 0, none⟩)) S0 ?_
   refine tk 5 (.agg #[.int .i64 x0k, .int .i64 x0n, .int .i64 x0s, .string x0t, .int .i64 x0m]) S0 ?_
   refine wpAnyH_all (rs := [6]) (by kernel_rfl) (by simp) fun i hi => ?_
   obtain rfl := List.mem_singleton.1 hi
   refine Qa6 (R := fun v w' => v = .agg #[.int .i64 yk, .int .i64 yn, .int .i64 ys, .string yt, .int .i64 ym] /\ Bel X0 w') rfl (by rfl) (by go_simp; first | done | with_reducible rfl | rfl) ((C.out X0).mono fun e w' h => ⟨_, h.1, rfl, h.2⟩) ?_
   rintro v X1 ⟨rfl, hX⟩
   have S1 := S0.keep G hX
   replace R := R.keep hX
   replace B := B.trans hX
   replace G := lL G hX.size
   refine ⟨S1, ?_⟩
   (try simp only [Act.put, List.getElem_toArray, List.getElem_cons_zero, List.getElem_cons_succ, List.setIfInBounds_toArray, List.set_cons_zero, List.set_cons_succ])
   refine wpAnyH_all (rs := [7]) (by kernel_rfl) (by simp) fun i hi => ?_
   obtain rfl := List.mem_singleton.1 hi
   refine Qa6 (R := fun v w' => v = .agg #[.int .i64 zk, .int .i64 zn, .int .i64 zs, .string zt, .int .i64 zm] /\ Bel X1 w') rfl (by rfl) (by go_simp; first | done | with_reducible rfl | rfl) ((D.out X1).mono fun e w' h => ⟨_, h.1, rfl, h.2⟩) ?_
   rintro v X2 ⟨rfl, hX⟩
   have S2 := S1.keep G hX
   replace R := R.keep hX
   replace B := B.trans hX
   replace G := lL G hX.size
   refine ⟨S2, ?_⟩
   (try simp only [Act.put, List.getElem_toArray, List.getElem_cons_zero, List.getElem_cons_succ, List.setIfInBounds_toArray, List.set_cons_zero, List.set_cons_succ])
   obtain ⟨sz, ⟨s0, s1, s2, s3, s4⟩, ⟨f0, f1, f2, f3, f4⟩⟩ := R
   simp only [zero, Nat.zero_add] at s0 s1 s2 s3 s4
   refine wpAnyH_all (rs := [8]) (by kernel_rfl) (by simp) fun i hi => ?_
   obtain rfl := List.mem_singleton.1 hi
   refine Qbv (w' := (((((X2.setCell ⟨N + 1, 0, none⟩ (.int .i64 zk)).setCell ⟨N + 1, 1, none⟩ (.int .i64 zn)).setCell ⟨N + 1, 2, none⟩ (.int .i64 zs)).setCell ⟨N + 1, 3, none⟩ (.string zt)).setCell ⟨N + 1, 4, none⟩ (.int .i64 zm))) rfl (by rfl) (by go_simp; first | done | with_reducible rfl | rfl) ?_
   refine ⟨((((S2.far hne _).far hne _).far hne _).far hne _).far hne _, ?_⟩
   (try simp only [Act.put, List.getElem_toArray, List.getElem_cons_zero, List.getElem_cons_succ, List.setIfInBounds_toArray, List.set_cons_zero, List.set_cons_succ])
   have hq : Slot (((((X2.setCell ⟨N + 1, 0, none⟩ (.int .i64 zk)).setCell ⟨N + 1, 1, none⟩ (.int .i64 zn)).setCell ⟨N + 1, 2, none⟩ (.int .i64 zs)).setCell ⟨N + 1, 3, none⟩ (.string zt)).setCell ⟨N + 1, 4, none⟩ (.int .i64 zm)) (N + 1) ⟨zk, zn, zs, zt, zm⟩ := by simp [Slot, Qal, Qah, go_sem, sz, s0, s1, s2, s3, s4, f0, f1, f2, f3, f4]
   have hbw' : Bel w (((((X2.setCell ⟨N + 1, 0, none⟩ (.int .i64 zk)).setCell ⟨N + 1, 1, none⟩ (.int .i64 zn)).setCell ⟨N + 1, 2, none⟩ (.int .i64 zs)).setCell ⟨N + 1, 3, none⟩ (.string zt)).setCell ⟨N + 1, 4, none⟩ (.int .i64 zm)) := by
    have hN := HN0.out
    exact Bel.y
   generalize (((((X2.setCell ⟨N + 1, 0, none⟩ (.int .i64 zk)).setCell ⟨N + 1, 1, none⟩ (.int .i64 zn)).setCell ⟨N + 1, 2, none⟩ (.int .i64 zs)).setCell ⟨N + 1, 3, none⟩ (.string zt)).setCell ⟨N + 1, 4, none⟩ (.int .i64 zm)) = Y at hq hbw' ⊢
   clear sz s0 s1 s2 s3 s4 f0 f1 f2 f3 f4
   refine wpAnyH_done (by kernel_rfl) (.normal ?_) _
   go_wp2_with fail
   refine pR (by first | (simp [results, Tryz.results30, go_sem, hq]; done) | (simp [results, Tryz.results30, go_sem, hq]; rfl)) rfl ⟨by rw [L.out] <;> rfl, hbw'⟩
  ·clear hh
   obtain rfl := h
   obtain rfl : n = 2 := HKN.out
   obtain ⟨x0, x1, rfl⟩ := len2 hrl
   obtain ⟨gk, ck, ek, hge, hgl, hVs, hK⟩ := Qgs KO
   cases ek
   have v0 := hsv x0 (by simp)
   have v1 := hsv x1 (by simp)
   have L := Hd (show evO l 13 ⟨vk, vn, vs, vt, vm⟩ bn (evL l ks) = nt (ltV x0 x1) from by rw [← HE.out]; rfl)
   have C := fun w => Qdk x0 x1 (Qav v0) (Qav v1) w
   have D := fun w => Qfc (ltV x0 x1) w
   generalize nt (ltV x0 x1) = z at L D
   generalize ltV x0 x1 = y at C D
   obtain ⟨zk, zn, zs, zt, zm⟩ := z
   obtain ⟨yk, yn, ys, yt, ym⟩ := y
   have C := Hd C
   have D := Hd D
   have HK := Hd (show K2 wr gk x0 x1 from hK)
   clear hK hVs v0 v1
   obtain ⟨x0k, x0n, x0s, x0t, x0m⟩ := x0
   obtain ⟨x1k, x1n, x1s, x1t, x1m⟩ := x1
   have hne : gk ≠ N + 1 := by have h1 := NLT.out; omega
   go_upto_region 31 with fail
   clear tz t0 t1 t2 t3 t4 t5 t6 t7
   refine wp_region_noPanic (wp_region_held (S := fun X => K2 X gk ⟨x0k, x0n, x0s, x0t, x0m⟩ ⟨x1k, x1n, x1s, x1t, x1m⟩) (by kernel_rfl) ?_)
   have hX : Bel wr { wr with drawn := wr.drawn + 1 } := (Bel.refl wr).drew
   generalize { wr with drawn := wr.drawn + 1 } = X0 at hX ⊢
   have S0 := HK.out.keep hgl hX
   have R := S.keep hX
   have B := HBW.out.trans hX
   have G := lL hgl hX.size
   refine tk 0 (.slice (some ⟨gk, 0, none⟩) 2 kc) S0 ?_
   refine tk 1 (.pointer (some ⟨gk, 0, none⟩)) S0 ?_
   refine tk 2 (.agg #[.int .i64 x0k, .int .i64 x0n, .int .i64 x0s, .string x0t, .int .i64 x0m]) S0 ?_
   refine tk 3 (.slice (some ⟨gk, 0, none⟩) 2 kc) S0 ?_
   refine tk 4 (.pointer (some ⟨gk, 5, none⟩)) S0 ?_
   refine tk 5 (.agg #[.int .i64 x1k, .int .i64 x1n, .int .i64 x1s, .string x1t, .int .i64 x1m]) S0 ?_
   refine wpAnyH_all (rs := [6]) (by kernel_rfl) (by simp) fun i hi => ?_
   obtain rfl := List.mem_singleton.1 hi
   refine Qa6 (R := fun v w' => v = .agg #[.int .i64 yk, .int .i64 yn, .int .i64 ys, .string yt, .int .i64 ym] /\ Bel X0 w') rfl (by rfl) (by go_simp; first | done | with_reducible rfl | rfl) ((C.out X0).mono fun e w' h => ⟨_, h.1, rfl, h.2⟩) ?_
   rintro v X1 ⟨rfl, hX⟩
   have S1 := S0.keep G hX
   replace R := R.keep hX
   replace B := B.trans hX
   replace G := lL G hX.size
   refine ⟨S1, ?_⟩
   (try simp only [Act.put, List.getElem_toArray, List.getElem_cons_zero, List.getElem_cons_succ, List.setIfInBounds_toArray, List.set_cons_zero, List.set_cons_succ])
   refine wpAnyH_all (rs := [7]) (by kernel_rfl) (by simp) fun i hi => ?_
   obtain rfl := List.mem_singleton.1 hi
   refine Qa6 (R := fun v w' => v = .agg #[.int .i64 zk, .int .i64 zn, .int .i64 zs, .string zt, .int .i64 zm] /\ Bel X1 w') rfl (by rfl) (by go_simp; first | done | with_reducible rfl | rfl) ((D.out X1).mono fun e w' h => ⟨_, h.1, rfl, h.2⟩) ?_
   rintro v X2 ⟨rfl, hX⟩
   have S2 := S1.keep G hX
   replace R := R.keep hX
   replace B := B.trans hX
   replace G := lL G hX.size
   refine ⟨S2, ?_⟩
   (try simp only [Act.put, List.getElem_toArray, List.getElem_cons_zero, List.getElem_cons_succ, List.setIfInBounds_toArray, List.set_cons_zero, List.set_cons_succ])
   obtain ⟨sz, ⟨s0, s1, s2, s3, s4⟩, ⟨f0, f1, f2, f3, f4⟩⟩ := R
   simp only [zero, Nat.zero_add] at s0 s1 s2 s3 s4
   refine wpAnyH_all (rs := [8]) (by kernel_rfl) (by simp) fun i hi => ?_
   obtain rfl := List.mem_singleton.1 hi
   refine Qbv (w' := (((((X2.setCell ⟨N + 1, 0, none⟩ (.int .i64 zk)).setCell ⟨N + 1, 1, none⟩ (.int .i64 zn)).setCell ⟨N + 1, 2, none⟩ (.int .i64 zs)).setCell ⟨N + 1, 3, none⟩ (.string zt)).setCell ⟨N + 1, 4, none⟩ (.int .i64 zm))) rfl (by rfl) (by go_simp; first | done | with_reducible rfl | rfl) ?_
   refine ⟨((((S2.far hne _).far hne _).far hne _).far hne _).far hne _, ?_⟩
   (try simp only [Act.put, List.getElem_toArray, List.getElem_cons_zero, List.getElem_cons_succ, List.setIfInBounds_toArray, List.set_cons_zero, List.set_cons_succ])
   have hq : Slot (((((X2.setCell ⟨N + 1, 0, none⟩ (.int .i64 zk)).setCell ⟨N + 1, 1, none⟩ (.int .i64 zn)).setCell ⟨N + 1, 2, none⟩ (.int .i64 zs)).setCell ⟨N + 1, 3, none⟩ (.string zt)).setCell ⟨N + 1, 4, none⟩ (.int .i64 zm)) (N + 1) ⟨zk, zn, zs, zt, zm⟩ := by simp [Slot, Qal, Qah, go_sem, sz, s0, s1, s2, s3, s4, f0, f1, f2, f3, f4]
   have hbw' : Bel w (((((X2.setCell ⟨N + 1, 0, none⟩ (.int .i64 zk)).setCell ⟨N + 1, 1, none⟩ (.int .i64 zn)).setCell ⟨N + 1, 2, none⟩ (.int .i64 zs)).setCell ⟨N + 1, 3, none⟩ (.string zt)).setCell ⟨N + 1, 4, none⟩ (.int .i64 zm)) := by
    have hN := HN0.out
    exact Bel.y
   generalize (((((X2.setCell ⟨N + 1, 0, none⟩ (.int .i64 zk)).setCell ⟨N + 1, 1, none⟩ (.int .i64 zn)).setCell ⟨N + 1, 2, none⟩ (.int .i64 zs)).setCell ⟨N + 1, 3, none⟩ (.string zt)).setCell ⟨N + 1, 4, none⟩ (.int .i64 zm)) = Y at hq hbw' ⊢
   clear sz s0 s1 s2 s3 s4 f0 f1 f2 f3 f4
   refine wpAnyH_done (by kernel_rfl) (.normal ?_) _
   go_wp2_with fail
   refine pR (by first | (simp [results, Tryz.results30, go_sem, hq]; done) | (simp [results, Tryz.results30, go_sem, hq]; rfl)) rfl ⟨by rw [L.out] <;> rfl, hbw'⟩
  ·clear hh
   obtain rfl := h
   obtain rfl : n = 3 := HKN.out
   obtain ⟨x0, x1, x2, rfl⟩ := len3 hrl
   obtain ⟨gk, ck, ek, hge, hgl, -, h0, h1, h2, h3, h4, h5, h6, h7, h8, h9, h10, h11, h12, h13, h14⟩ := Qw7 KO
   cases ek
   rcases Bool.eq_false_or_eq_true (veq x0 (tval true)) with hi | hi
   ·have L := Hd (show evO l 17 ⟨vk, vn, vs, vt, vm⟩ bn (evL l ks) = x1 from (by rw [← HE.out]; show (if veq x0 (tval true) = true then x1 else x2) = _; rw [hi]; rfl))
    have HI := Hd (show veq x0 ⟨3, 0, 0, ⟨#[]⟩, 1⟩ = true from hi)
    clear hi
    obtain ⟨x0k, x0n, x0s, x0t, x0m⟩ := x0
    obtain ⟨x1k, x1n, x1s, x1t, x1m⟩ := x1
    obtain ⟨x2k, x2n, x2s, x2t, x2m⟩ := x2
    simp only at h0 h1 h2 h3 h4 h5 h6 h7 h8 h9 h10 h11 h12 h13 h14
    have hi := HI.out
    go_upto_region 17 with fail
    clear tz t0 t1 t2 t3 t4 t5 t6 t7
    refine Qaw (S := (fun w' => Bel wr w' /\ (∀ b o, b < wr.heap.size -> w'.cell? ⟨b, o, none⟩ = wr.cell? ⟨b, o, none⟩))) (by kernel_rfl) (by kernel_rfl) keep0 ?_
    repeat (first | (refine Qbg (by rfl) ?_; (try simp only [Act.put, List.setIfInBounds_toArray, List.set_cons_zero, List.set_cons_succ]))
                             | (refine Qa7 (by rfl) (fun w hS => by (try dsimp only at hS); go_simp; first | done | with_reducible rfl) ?_; (try simp only [Act.put, List.setIfInBounds_toArray, List.set_cons_zero, List.set_cons_succ]))
                             | (refine Qbo (f := 19) (by rfl) (fun w => by go_simp; first | done | with_reducible rfl) (fun w hS => ((Qcm w)).mono fun e w' ⟨he, hb⟩ => ⟨he, keep1 hS hb⟩) ?_; (try simp only [Act.put, List.setIfInBounds_toArray, List.set_cons_zero, List.set_cons_succ])))
    refine Qbp fun W6 hS => ?_
    have S7 := S.keep hS.1
    have B7 := HBW.out.trans hS.1
    have G7 := lL hgl hS.1.size
    rw [← hS.1.cells _ _ hgl] at h0 h1 h2 h3 h4 h5 h6 h7 h8 h9 h10 h11 h12 h13 h14
    clear hS S
    go_wp2_with fail
    refine pR (by first | (simp [results, Tryz.results30, go_sem, S7]; done) | (simp [results, Tryz.results30, go_sem, S7]; rfl)) rfl ⟨by rw [L.out] <;> rfl, ?_⟩
    exact Bel.y
   have L := Hd (show evO l 17 ⟨vk, vn, vs, vt, vm⟩ bn (evL l ks) = x2 from (by rw [← HE.out]; show (if veq x0 (tval true) = true then x1 else x2) = _; rw [hi]; rfl))
   have HI := Hd (show veq x0 ⟨3, 0, 0, ⟨#[]⟩, 1⟩ = false from hi)
   clear hi
   obtain ⟨x0k, x0n, x0s, x0t, x0m⟩ := x0
   obtain ⟨x1k, x1n, x1s, x1t, x1m⟩ := x1
   obtain ⟨x2k, x2n, x2s, x2t, x2m⟩ := x2
   simp only at h0 h1 h2 h3 h4 h5 h6 h7 h8 h9 h10 h11 h12 h13 h14
   have hi := HI.out
   go_upto_region 17 with fail
   clear tz t0 t1 t2 t3 t4 t5 t6 t7
   refine Qaw (S := (fun w' => Bel wr w' /\ (∀ b o, b < wr.heap.size -> w'.cell? ⟨b, o, none⟩ = wr.cell? ⟨b, o, none⟩))) (by kernel_rfl) (by kernel_rfl) keep0 ?_
   repeat (first | (refine Qbg (by rfl) ?_; (try simp only [Act.put, List.setIfInBounds_toArray, List.set_cons_zero, List.set_cons_succ]))
                            | (refine Qa7 (by rfl) (fun w hS => by (try dsimp only at hS); go_simp; first | done | with_reducible rfl) ?_; (try simp only [Act.put, List.setIfInBounds_toArray, List.set_cons_zero, List.set_cons_succ]))
                            | (refine Qbo (f := 19) (by rfl) (fun w => by go_simp; first | done | with_reducible rfl) (fun w hS => ((Qcm w)).mono fun e w' ⟨he, hb⟩ => ⟨he, keep1 hS hb⟩) ?_; (try simp only [Act.put, List.setIfInBounds_toArray, List.set_cons_zero, List.set_cons_succ])))
   refine Qbp fun W6 hS => ?_
   have S7 := S.keep hS.1
   have B7 := HBW.out.trans hS.1
   have G7 := lL hgl hS.1.size
   rw [← hS.1.cells _ _ hgl] at h0 h1 h2 h3 h4 h5 h6 h7 h8 h9 h10 h11 h12 h13 h14
   clear hS S
   go_wp2_with fail
   refine pR (by first | (simp [results, Tryz.results30, go_sem, S7]; done) | (simp [results, Tryz.results30, go_sem, S7]; rfl)) rfl ⟨by rw [L.out] <;> rfl, ?_⟩
   exact Bel.y
  clear hh
  obtain rfl : n = 2 := by rcases h with rfl | rfl | rfl | rfl <;> exact HKN.out
  obtain ⟨x0, x1, rfl⟩ := len2 hrl
  obtain ⟨gk, ck, ek, hge, hgl, hVs, hK⟩ := Qgs KO
  cases ek
  have v0 := hsv x0 (by simp)
  have v1 := hsv x1 (by simp)
  have HO := h
  have e1 : (o == 1) = false := by rw [bN]; omega
  have e2 : (o == 2) = false := by rw [bN]; omega
  have e3 : (o == 3) = false := by rw [bN]; omega
  have e16 : (o == 16) = false := by rw [bN]; omega
  have e17 : (o == 17) = false := by rw [bN]; omega
  have e8 : (o == 8) = false := by rw [bN]; omega
  have e9 : (o == 9) = false := by rw [bN]; omega
  have e10 : (o == 10) = false := by rw [bN]; omega
  have e11 : (o == 11) = false := by rw [bN]; omega
  have e12 : (o == 12) = false := by rw [bN]; omega
  have e13 : (o == 13) = false := by rw [bN]; omega
  have e14 : (o == 14) = false := by rw [bN]; omega
  have e15 : (o == 15) = false := by rw [bN]; omega
  clear h
  have L := Hd (show evO l o ⟨vk, vn, vs, vt, vm⟩ bn (evL l ks) = rck o x0 x1 from by rw [← HE.out]; rcases HO with rfl | rfl | rfl | rfl <;> rfl)
  have C := fun w => Qii o HO x0 x1 v0 v1 w
  generalize rck o x0 x1 = z at L C
  obtain ⟨zk, zn, zs, zt, zm⟩ := z
  have C := Hd C
  clear HO
  have HK := Hd (show K2 wr gk x0 x1 from hK)
  clear hK hVs v0 v1
  obtain ⟨x0k, x0n, x0s, x0t, x0m⟩ := x0
  obtain ⟨x1k, x1n, x1s, x1t, x1m⟩ := x1
  have hne : gk ≠ N + 1 := by have h1 := NLT.out; omega
  go_upto_region 36 with fail
  refine wp_region_noPanic (wp_region_held (S := fun X => K2 X gk ⟨x0k, x0n, x0s, x0t, x0m⟩ ⟨x1k, x1n, x1s, x1t, x1m⟩ /\ X.cell? ⟨N, 0, none⟩ = some (.int .i64 o)) (by kernel_rfl) ?_)
  have hX : Bel wr { wr with drawn := wr.drawn + 1 } := (Bel.refl wr).drew
  generalize { wr with drawn := wr.drawn + 1 } = X0 at hX ⊢
  have S0 := And.intro (HK.out.keep hgl hX) ((hX.cells _ 0 tz).trans t0)
  have R := S.keep hX
  have B := HBW.out.trans hX
  have G := lL hgl hX.size
  have M := lL tz hX.size
  refine tk 0 (.pointer (some ⟨N, 0, none⟩)) S0 ?_
  refine tk 1 (.int .i64 o) S0 ?_
  refine tk 2 (.slice (some ⟨gk, 0, none⟩) 2 kc) S0 ?_
  refine tk 3 (.pointer (some ⟨gk, 0, none⟩)) S0 ?_
  refine tk 4 (.agg #[.int .i64 x0k, .int .i64 x0n, .int .i64 x0s, .string x0t, .int .i64 x0m]) S0 ?_
  refine tk 5 (.slice (some ⟨gk, 0, none⟩) 2 kc) S0 ?_
  refine tk 6 (.pointer (some ⟨gk, 5, none⟩)) S0 ?_
  refine tk 7 (.agg #[.int .i64 x1k, .int .i64 x1n, .int .i64 x1s, .string x1t, .int .i64 x1m]) S0 ?_
  refine wpAnyH_all (rs := [8]) (by kernel_rfl) (by simp) fun i hi => ?_
  obtain rfl := List.mem_singleton.1 hi
  refine Qa6 (R := fun v w' => v = .agg #[.int .i64 zk, .int .i64 zn, .int .i64 zs, .string zt, .int .i64 zm] /\ Bel X0 w') rfl (by rfl) (by go_simp; first | done | with_reducible rfl | rfl) ((C.out X0).mono fun e w' h => ⟨_, h.1, rfl, h.2⟩) ?_
  rintro v X1 ⟨rfl, hX⟩
  have S1 := And.intro (S0.1.keep G hX) ((hX.cells _ 0 M).trans S0.2)
  replace R := R.keep hX
  replace B := B.trans hX
  replace G := lL G hX.size
  replace M := lL M hX.size
  refine ⟨S1, ?_⟩
  (try simp only [Act.put, List.getElem_toArray, List.getElem_cons_zero, List.getElem_cons_succ, List.setIfInBounds_toArray, List.set_cons_zero, List.set_cons_succ])
  obtain ⟨sz, ⟨s0, s1, s2, s3, s4⟩, ⟨f0, f1, f2, f3, f4⟩⟩ := R
  simp only [zero, Nat.zero_add] at s0 s1 s2 s3 s4
  refine wpAnyH_all (rs := [9]) (by kernel_rfl) (by simp) fun i hi => ?_
  obtain rfl := List.mem_singleton.1 hi
  refine Qbv (w' := (((((X1.setCell ⟨N + 1, 0, none⟩ (.int .i64 zk)).setCell ⟨N + 1, 1, none⟩ (.int .i64 zn)).setCell ⟨N + 1, 2, none⟩ (.int .i64 zs)).setCell ⟨N + 1, 3, none⟩ (.string zt)).setCell ⟨N + 1, 4, none⟩ (.int .i64 zm))) rfl (by rfl) (by go_simp; first | done | with_reducible rfl | rfl) ?_
  refine ⟨⟨((((S1.1.far hne _).far hne _).far hne _).far hne _).far hne _, by have := S1.2; simp [go_sem, this]⟩, ?_⟩
  (try simp only [Act.put, List.getElem_toArray, List.getElem_cons_zero, List.getElem_cons_succ, List.setIfInBounds_toArray, List.set_cons_zero, List.set_cons_succ])
  have hq : Slot (((((X1.setCell ⟨N + 1, 0, none⟩ (.int .i64 zk)).setCell ⟨N + 1, 1, none⟩ (.int .i64 zn)).setCell ⟨N + 1, 2, none⟩ (.int .i64 zs)).setCell ⟨N + 1, 3, none⟩ (.string zt)).setCell ⟨N + 1, 4, none⟩ (.int .i64 zm)) (N + 1) ⟨zk, zn, zs, zt, zm⟩ := by simp [Slot, Qal, Qah, go_sem, sz, s0, s1, s2, s3, s4, f0, f1, f2, f3, f4]
  have hbw' : Bel w (((((X1.setCell ⟨N + 1, 0, none⟩ (.int .i64 zk)).setCell ⟨N + 1, 1, none⟩ (.int .i64 zn)).setCell ⟨N + 1, 2, none⟩ (.int .i64 zs)).setCell ⟨N + 1, 3, none⟩ (.string zt)).setCell ⟨N + 1, 4, none⟩ (.int .i64 zm)) := by
   have hN := HN0.out
   exact Bel.y
  generalize (((((X1.setCell ⟨N + 1, 0, none⟩ (.int .i64 zk)).setCell ⟨N + 1, 1, none⟩ (.int .i64 zn)).setCell ⟨N + 1, 2, none⟩ (.int .i64 zs)).setCell ⟨N + 1, 3, none⟩ (.string zt)).setCell ⟨N + 1, 4, none⟩ (.int .i64 zm)) = Y at hq hbw' ⊢
  clear sz s0 s1 s2 s3 s4 f0 f1 f2 f3 f4
  refine wpAnyH_done (by kernel_rfl) (.normal ?_) _
  go_wp2_with fail
  refine pR (by first | (simp [results, Tryz.results30, go_sem, hq]; done) | (simp [results, Tryz.results30, go_sem, hq]; rfl)) rfl ⟨by rw [L.out] <;> rfl, hbw'⟩
theorem Qs3 (l : List Bnd) (hln : l.length <= 9223372036854775807) (hls : ∀ b ∈ l, vsnd b.v = true) : ∀ x : Ex, RvC l x := Ex.ind fun op v nm ks IH => Qvn l hln hls (.mk op v nm ks) IH
end Go.Proofs.YtjckpkamhdbcnaaGreatDoor
