import Derived.Test.YtjckpkamhdbcnaaGreatDoorZp
namespace Go.Proofs.YtjckpkamhdbcnaaGreatDoor
set_option maxRecDepth 100000
set_option maxHeartbeats 64000000
set_option linter.unusedSimpArgs false
set_option linter.unusedVariables false
section
open Go.RowKit
theorem Qi6 (n : Nat) (IH : XEnc n) (P : Nat -> Prop) (ts : List Tok) (w : World) (b : Nat) (A : Option Addr) (c i : Nat) (en wo : Int) (p d : Nat) (hC : Cx ts A b w) (hr : Psr w b A ts.length c i en wo 0 p d) (hi : i <= ts.length) (hP : ¬ P b) (hPw : ∀ k, w.heap.size <= k -> P k) (hp : p <= 4096) (hd : d <= 64) (hfine : (parX (n + 1) .operand d p (ts.drop i)).fine) (h1 : isS [40] (ts.drop i) = false) (h2 : isK 4 wNOT (ts.drop i) = true) (h3 : isS [40] (ts.drop (i + 1)) = true) :
  Calls Tryz.prog 177 #[.pointer (some ⟨b, 0, none⟩)] w (XOut P ts b A c en wo d (parX (n + 1) .operand d p (ts.drop i)) w) := by
 have hbw := hr.1.1
 have KR := Hd hr
 have KC := Hd hC
 have KPw := Hd hPw
 have he : parX (n + 1) .operand d p (ts.drop i) = if isS [40] (ts.drop i) = true then encX (parX n .inner d p (ts.drop i).tail) else if isK 4 wNOT (ts.drop i) = true then (if isS [40] (ts.drop i).tail = true then bndX (encX (parX n .inner d p (ts.drop i).tail.tail)) fun x r1 => cmpX (.mk 16 zv [] [x.1]) x.2 r1 else .bad (ts.drop i).tail 5) else litX p (ts.drop i) := by rw [parX.eq_def]
 rw [he] at hfine ⊢
 clear he hC hr hPw
 rw [iN (by rw [h1]; decide), iP h2] at hfine ⊢
 have hil := Qd6 h2
 rw [List.tail_drop] at hfine ⊢
 rw [iP h3] at hfine ⊢
 have hil2 : i + 1 + 1 <= ts.length := Qd6 h3
 rw [List.tail_drop] at hfine ⊢
 have h1h := Hd (show isK 5 [40] (ts.drop i) = false from h1)
 have h2h := Hd (show isK 4 [110, 111, 116] (ts.drop i) = true from h2)
 have h3h := Hd (show isK 5 [40] (ts.drop (i + 1)) = true from h3)
 have hfine2 := Qbc hfine
 have CE := Hd fun (Q : Nat -> Prop) (W0 : World) (hQ : ¬ Q b) (hQw : ∀ k, W0.heap.size <= k -> Q k) W (h0 : W0.heap.size <= W.heap.size) (hW : Bag b w W) (hR : Psr W b A ts.length c (i + 1 + 1) en wo 0 p d) => IH Q ts W b A c (i + 1 + 1) en wo p d (KC.out.bag hW) hR hil2 hQ (fun k hk => hQw k (Nat.le_trans h0 hk)) hp hd hfine2
 generalize hq : encX (parX n .inner d p (ts.drop (i + 1 + 1))) = q at CE ⊢
 clear hfine hd hq h1 h2 h3 hfine2
 have CA := fun X (hX : Bag b w X) (hR : Psr X b A ts.length c i en wo 0 p d) => Qbd ts [40] X b A c i i en wo 0 (KC.out.bag hX).toks hR.1 hi KC.out.2.1 (by rw [iN (by rw [h1h.out]; decide)])
 rw [show isK 5 [40] (ts.drop i) = false from h1h.out, show Qaa [40] = (⟨#[40]⟩ : ByteArray) from rfl] at CA
 replace CA := Hd CA
 have CB := fun X (hX : Bag b w X) (hR : Psr X b A ts.length c i en wo 0 p d) => Qbe ts [110, 111, 116] X b A c i (i + 1) en wo 0 (KC.out.bag hX).toks hR.1 hi KC.out.2.1 (by rw [iP h2h.out])
 rw [show isK 4 [110, 111, 116] (ts.drop i) = true from h2h.out, show Qaa [110, 111, 116] = (⟨#[110, 111, 116]⟩ : ByteArray) from rfl] at CB
 replace CB := Hd CB
 have CD := fun X (hX : Bag b w X) (hR : Psr X b A ts.length c (i + 1) en wo 0 p d) => Qbd ts [40] X b A c (i + 1) (i + 1 + 1) en wo 0 (KC.out.bag hX).toks hR.1 hil KC.out.2.1 (by rw [iP h3h.out])
 rw [show isK 5 [40] (ts.drop (i + 1)) = true from h3h.out, show Qaa [40] = (⟨#[40]⟩ : ByteArray) from rfl] at CD
 replace CD := Hd CD
 go_enter Tryz.func177, Tryz.ntmps177
 go_upto_region 1 with fail
 refine uN ((Bel.refl w).alloc _) fun W hcc hf hz hb => ?_
 have T1 : Qab W w.heap.size 0 zv ⟨#[]⟩ none 0 0 := by simp [Qab, Qap, zv, hcc, hf, hz, go_sem]
 clear hcc hf hz
 have hwW : w.heap.size < W.heap.size := T1.1
 generalize hN : w.heap.size = N at T1 hwW ⊢
 have NW := Hd (show w.heap.size <= N from by omega)
 have nb : N ≠ b := by omega
 clear hN
 have xN : ¬ b = N := fun e => nb e.symm
 have K1 := Hd T1
 clear T1
 have KP := Hd (KR.out.keep hb)
 have B1 := Hd (Bag.of (b := b) hb)
 have hPN : ¬ (fun k => P k /\ k ≠ N) b := fun h => hP h.1
 have hPNN : ¬ (fun k => P k /\ k ≠ N) N := fun h => h.2 rfl
 have hPNw := Hd (show ∀ k, W.heap.size <= k -> (fun k => P k /\ k ≠ N) k from fun k hk => ⟨KPw.out k (by have := NW.out; omega), by omega⟩)
 go_upto_region 3 with (go_at_call 176; (with_reducible refine Calls.mono (CA.out _ B1.out KP.out) ?_); rintro ee V2 ⟨rfl, hbV2, hrV2⟩; have bg2 := Hd (B1.out.trans hbV2.bag); have ps2 := Hd (KP.out.but hbV2 hrV2); have L2 := Hd (K1.out.bag hbV2.bag nb); have sz2 := Hd hbV2.size; clear hbV2 hrV2)
 go_upto_region 4 with (go_at_call 90; (with_reducible refine Calls.mono (CB.out _ bg2.out ps2.out) ?_); rintro ee U3 ⟨rfl, hbU3, hrU3⟩; have bg20 := Hd (bg2.out.trans hbU3.bag); have ps20 := Hd (ps2.out.but hbU3 hrU3); have L20 := Hd (L2.out.bag hbU3.bag nb); have sz20 := Hd hbU3.size; clear hbU3 hrU3)
 go_upto_region 6 with (go_at_call 176; (with_reducible refine Calls.mono (CD.out _ bg20.out ps20.out) ?_); rintro ee U4 ⟨rfl, hbU4, hrU4⟩; have bg21 := Hd (bg20.out.trans hbU4.bag); have ps21 := Hd (ps20.out.but hbU4 hrU4); have L21 := Hd (L20.out.bag hbU4.bag nb); have sz21 := Hd hbU4.size; clear hbU4 hrU4)
 have szU := Hd (Nat.le_trans (Nat.le_trans sz2.out sz20.out) sz21.out)
 have CEX := Hd fun X (hX : X = U4) (hW : Bag b w X) (hR : Psr X b A ts.length c (i + 1 + 1) en wo 0 p d) => CE.out (fun k => P k /\ k ≠ N) W hPN hPNw.out X (by rw [hX]; exact szU.out) hW hR
 go_upto_region 7 with (go_at_call 194; (with_reducible refine Calls.mono (CEX.out _ rfl bg21.out ps21.out) ?_); rintro ee V3 ⟨j3, wr3, e3, p3, d3, o3, v3, nm3, A3, n3, c3, ok3, hbV3, hrV3, hj3, rfl, hxV3⟩; have bg3 := Hd (bg21.out.trans hbV3); have ps3 := Hd hrV3; have xr3 := Hd hxV3; have L3 := Hd (L21.out.bag hbV3 nb); have szV := Hd (Nat.le_trans szU.out hbV3.size); clear hbV3 hrV3 hxV3)
 obtain ⟨vk3, vn3, vs3, vt3, vm3⟩ := v3
 refine uN (w0 := V3) (by exact Bel.y) fun W4 hcc hf hz hbW4 => ?_
 have T3 : Qab W4 V3.heap.size o3 ⟨vk3, vn3, vs3, vt3, vm3⟩ nm3 A3 n3 c3 := by simp [Qab, Qap, hcc, hf, hz, go_sem]
 clear hcc hf hz
 have nM3 : N < V3.heap.size := L3.out.1
 have bM3 : b < V3.heap.size := ps3.out.1.1
 have xs3 := Hd (show ∀ l, Lie (fun k => P k /\ k ≠ N) V3 A3 l -> Lie (fun k => (P k /\ k ≠ N) /\ k ≠ V3.heap.size) W4 A3 l from fun l h => (h.weak (Q := fun k => (P k /\ k ≠ N) /\ k ≠ V3.heap.size) (fun q hq hlt => ⟨hq, by omega⟩)).keep hbW4)
 have MW3 := Hd (show w.heap.size <= V3.heap.size from bg3.out.size)
 generalize V3.heap.size = M at T3 nM3 bM3 xs3 MW3
 have mb3 : M ≠ b := by omega
 have mN3 : ¬ N = M := by omega
 have Nm3 : ¬ M = N := by omega
 have xM3 : ¬ b = M := by omega
 have LM3 := Hd T3
 have szW := Hd (Nat.le_trans szV.out hbW4.size)
 have LN3 := Hd (L3.out.keep hbW4)
 have bh3 := Hd (bg3.out.trans (Bag.of hbW4))
 have ph3 := Hd (ps3.out.keep hbW4)
 clear T3 hbW4
 cases q with
 | bad r f =>
  obtain ⟨rfl, hw3, he3⟩ : ok3 = false /\ wr3 = plcT en r /\ e3 = f := xr3.out
  have hwe := Hd (And.intro hw3 he3)
  clear hw3 he3
  obtain ⟨sz, ⟨s0, s1, s2, s3, s4, s5, s6, s7⟩, ⟨sf0, sf1, sf2, sf3, sf4, sf5, sf6, sf7⟩⟩ := LN3.out
  simp only [zv, Nat.zero_add] at s0 s1 s2 s3 s4 s5 s6 s7
  go_wp2_with fail
  refine pR (v := .tuple #[exV 0 zv ⟨#[]⟩ none 0 0, .bool false]) (by simp [results, Tryz.results177, go_sem, zv, sz, s0, s1, s2, s3, s4, s5, s6, s7]) rfl (Qaq (j := j3) (wr' := wr3) (e' := e3) (p' := p3) (d' := d3) ?_ ?_ hj3 rfl ?_)
  ·repeat (first | with_reducible exact bh3.out | refine Bag.new ?_ NW.out _)
  ·repeat (first | with_reducible exact ph3.out | refine Psr.far ?_ xN _)
  ·exact fun _ => ⟨rfl, hwe.out.1, hwe.out.2⟩
 | ok y r =>
  obtain ⟨rfl, ho3, hv3, hn3, hk3, hl3, hd3, hw3, rfl, rfl, rfl, hpp3⟩ : ok3 = true /\ o3 = y.1.op /\ _ = y.1.v /\ nm3 = Qaa y.1.nm /\ n3 = y.1.ks.length /\ Lie _ V3 A3 y.1.ks /\ ts.drop j3 = r /\ wr3 = wo /\ e3 = 0 /\ p3 = y.2 /\ d3 = d /\ y.2 <= 4096 := xr3.out
  have hw3' := hw3.symm
  subst hw3'
  have hxx := Hd (And.intro ho3 (And.intro hv3 (And.intro hn3 hk3)))
  have hd4 := Hd hd3
  have hl4 := Hd (xs3.out _ hl3)
  clear ho3 hv3 hn3 hk3 hd3 hl3 xr3
  have hNew := Hd (show P W4.heap.size /\ W4.heap.size ≠ N from ⟨KPw.out _ (by have := bh3.out.size; omega), by have := LN3.out.1; omega⟩)
  have CPT := Hd fun (ty : TypeId) => (show Calls Tryz.prog 92 #[.pointer (some ⟨b, 0, none⟩), .int .i64 16, .slice (some ⟨W4.heap.size, 0, none⟩) 1 1] (W4.alloc (.cells #[.int .i64 o3, .int .i64 vk3, .int .i64 vn3, .int .i64 vs3, .string vt3, .int .i64 vm3, .string nm3, .slice A3 n3 c3] ty)) (XOut (fun k => P k /\ k ≠ N) ts b A c en wo d (cmpX (.mk 16 zv [] [y.1]) y.2 (ts.drop j3)) (W4.alloc (.cells #[.int .i64 o3, .int .i64 vk3, .int .i64 vn3, .int .i64 vs3, .string vt3, .int .i64 vm3, .string nm3, .slice A3 n3 c3] ty))) from by
   have hB := (Bel.refl W4).alloc (.cells #[.int .i64 o3, .int .i64 vk3, .int .i64 vn3, .int .i64 vs3, .string vt3, .int .i64 vm3, .string nm3, .slice A3 n3 c3] ty)
   refine Qe5 (fun k => P k /\ k ≠ N) 16 [y.1] (some ⟨W4.heap.size, 0, none⟩) 1 ts _ b A c j3 en wo y.2 d ((KC.out.bag bh3.out).keep hB) (ph3.out.keep hB) hj3 ?_ (by simp) (by simp) hPN (fun k hk => hPNw.out k (Nat.le_trans szW.out (Nat.le_trans hB.size hk))) hpp3
   refine Qkl hNew.out (by simp) fun q x hx => ?_
   cases q with
   | zero =>
    obtain rfl : y.1 = x := by simpa using hx
    refine ⟨A3, c3, ?_, (hl4.out.keep hB).weak fun k h _ => h.1⟩
    have hE : Qap (W4.alloc (.cells #[.int .i64 o3, .int .i64 vk3, .int .i64 vn3, .int .i64 vs3, .string vt3, .int .i64 vm3, .string nm3, .slice A3 n3 c3] ty)) W4.heap.size 0 o3 ⟨vk3, vn3, vs3, vt3, vm3⟩ nm3 A3 n3 c3 := by simp [Qap, go_sem]
    obtain ⟨h1, h2, h3, h4⟩ := hxx.out
    rw [← h1, ← h2, ← h3, ← h4]
    simpa using hE
   | succ q => simp at hx)
  have hq := Hd (show bndX (PR.ok y r) (fun (x : Ex × Nat) r1 => cmpX (.mk 16 zv [] [x.1]) x.2 r1) = cmpX (.mk 16 zv [] [y.1]) y.2 (ts.drop j3) from by rw [hd4.out]; rfl)
  generalize cmpX (.mk 16 zv [] [y.1]) y.2 (ts.drop j3) = q at CPT hq
  obtain ⟨tz, ⟨t0, t1, t2, t3, t4, t5, t6, t7⟩, ⟨tf0, tf1, tf2, tf3, tf4, tf5, tf6, tf7⟩⟩ := LM3.out
  simp only [zv, Nat.zero_add] at t0 t1 t2 t3 t4 t5 t6 t7
  go_upto_region 9 with fail
  go_wp2_with (go_at_call 92; (with_reducible refine Calls.mono (CPT.out _) ?_); rintro ee V7 ⟨j7, wr7, e7, p7, d7, o7, v7, nm7, A7, n7, c7, ok7, hb7, hr7, hj7, rfl, hx7⟩; have bg7 := Hd ((bh3.out.trans (Bag.of ((Bel.refl W4).alloc _))).trans hb7); have ps7 := Hd hr7; have xr7 := Hd hx7; obtain ⟨vk7, vn7, vs7, vt7, vm7⟩ := v7; obtain ⟨sz, ⟨s0, s1, s2, s3, s4, s5, s6, s7⟩, ⟨sf0, sf1, sf2, sf3, sf4, sf5, sf6, sf7⟩⟩ := (LN3.out.keep ((Bel.refl W4).alloc _)).bag hb7 nb; simp only [zv, Nat.zero_add] at s0 s1 s2 s3 s4 s5 s6 s7; clear hb7 hr7 hx7)
  refine pR (v := .tuple #[exV o7 ⟨vk7, vn7, vs7, vt7, vm7⟩ nm7 A7 n7 c7, .bool ok7]) (by simp [results, Tryz.results177, go_sem, zv, sz, s0, s1, s2, s3, s4, s5, s6, s7]) rfl (Qaq (j := j7) (wr' := wr7) (e' := e7) (p' := p7) (d' := d7) ?_ ?_ hj7 rfl ?_)
  ·repeat (first | with_reducible exact bg7.out | refine Bag.new ?_ NW.out _)
  ·repeat (first | with_reducible exact ps7.out | refine Psr.far ?_ xN _)
  intro _
  rw [hq.out]
  refine XRes.move xr7.out fun l hl => (hl.bag (b := N) ?_ hPNN).weak fun k h _ => h.1
  repeat (first | with_reducible exact Bag.refl N V7 | refine Bag.setCell (b := N) ?_ rfl _)
theorem Qi7 {t : Tok} (h : ksnd t = true) : t.text.length <= 1000000 := by
 have hl := Qv9 h
 rcases Qhq h with ⟨h1, h2, h3, h4, h5⟩ | ⟨h1, h2, h3, h4, h5⟩ | ⟨h1, h2, h3, h4, h5, h6⟩ | ⟨h1, h2, h3, h4, h5⟩ | ⟨h1, h2, h3, h4, h5⟩
 ·rw [h2]; simp
 ·have := Qnp h5; omega
 ·rw [h2]; simp
 ·have e : wrT t = t.text := by unfold wrT; rw [iN (by rw [h1]; decide), iN (by rw [h1]; decide), iN (by rw [h1]; decide)]
  rw [e] at hl; omega
 have e : wrT t = t.text := by unfold wrT; rw [iN (by rw [h1]; decide), iN (by rw [h1]; decide), iN (by rw [h1]; decide)]
 rw [e] at hl; omega
theorem Qi8 (n : Nat) (IH : XEnc n) : XCon 177 .operand (n + 1) := by
 intro P ts w b A c i en wo p d hC hr hi hP hPw hp hd hfine
 cases h1 : isS [40] (ts.drop i) with
 | true => exact Qi4 n IH P ts w b A c i en wo p d hC hr hi hP hPw hp hd hfine h1
 | false =>
  cases h2 : isK 4 wNOT (ts.drop i) with
  | true =>
   cases h3 : isS [40] (ts.drop (i + 1)) with
   | true => exact Qi6 n IH P ts w b A c i en wo p d hC hr hi hP hPw hp hd hfine h1 h2 h3
   | false => exact Qf0 n IH P ts w b A c i en wo p d hC hr hi hP hPw hp hd hfine h1 h2 h3
  | false =>
   cases hv : valT (pekT (ts.drop i)) with
   | some v => exact Qi5 n IH P ts w b A c i en wo p d hC hr hi hP hPw hp hd hfine h1 h2 v hv
   | none =>
    have htx : (pekT (ts.drop i)).text.length <= 1000000 := by
     cases hr2 : ts.drop i with
     | nil => decide
     | cons t r => exact Qi7 (hC.2.2 t (List.mem_of_mem_drop (by rw [hr2]; simp)))
    by_cases hk : (pekT (ts.drop i)).kind = 4
    ·cases hw : wordB (Qaa (pekT (ts.drop i)).text) with
     | true => exact Qhx n IH P ts w b A c i en wo p d hC hr hi hP hPw hp hd hfine h1 h2 hv hk hw htx
     | false => exact Qhw n IH P ts w b A c i en wo p d hC hr hi hP hPw hp hd hfine h1 h2 hv hk hw htx
    exact Qhv n IH P ts w b A c i en wo p d hC hr hi hP hPw hp hd hfine h1 h2 hv hk
end
section
open Go.RowKit
theorem Qn1 (ts : List Tok) (i : Nat) : mnR (ts.drop i) = if isS [45] (ts.drop i) = true then mnR (ts.drop (i + 1)) + 1 else 0 := by
 rw [← List.tail_drop]
 cases ts.drop i with
 | nil => rfl
 | cons t r =>
  rw [List.tail_cons]
  rfl
def itX : Nat -> PR (Ex × Nat) -> PR (Ex × Nat)
 | 0, q => q
 | m + 1, q => itX m (bndX q fun (y : Ex × Nat) r => cmpX (.mk 3 zv [] [y.1]) y.2 r)
theorem Qn2 : ∀ (m : Nat) (r : List Tok) (e : Nat), itX m (.bad r e) = .bad r e
 | 0, r, e => rfl
 | m + 1, r, e => Qn2 m r e
theorem Qn3 : ∀ (m : Nat) (q : PR (Ex × Nat)), bndX q (fun x r => negX m x.1 x.2 r) = itX m q
 | 0, q => by cases q <;> rfl
 | m + 1, q => by
  cases q with
  | bad r e => exact (Qn2 (m + 1) r e).symm
  | ok y r =>
   show negX (m + 1) y.1 y.2 r = itX m (cmpX (.mk 3 zv [] [y.1]) y.2 r)
   rw [← Qn3 m]
   rw [negX]
   cases cmpX (.mk 3 zv [] [y.1]) y.2 r <;> rfl
theorem Qkm : ∀ (m : Nat) {q : PR (Ex × Nat)}, (itX m q).fine -> q.fine
 | 0, q, h => h
 | m + 1, q, h => Qbc (Qkm m h)
theorem Qab.put {V : World} {M : Nat} {o : Int} {v : Val} {nm : ByteArray} {A : Option Addr} {n c : Nat} (h : Qab V M o v nm A n c) (o' k1 k2 k3 : Int) (k4 : ByteArray) (k5 : Int) (nm' : ByteArray) (A' : Option Addr) (n' c' : Nat) :
  Qab ((((((((V.setCell ⟨M, 0, none⟩ (.int .i64 o')).setCell ⟨M, 1, none⟩ (.int .i64 k1)).setCell ⟨M, 2, none⟩ (.int .i64 k2)).setCell ⟨M, 3, none⟩ (.int .i64 k3)).setCell ⟨M, 4, none⟩ (.string k4)).setCell ⟨M, 5, none⟩ (.int .i64 k5)).setCell ⟨M, 6, none⟩ (.string nm')).setCell ⟨M, 7, none⟩ (.slice A' n' c')) M o' ⟨k1, k2, k3, k4, k5⟩ nm' A' n' c' := by
 obtain ⟨hz, ⟨h0, h1, h2, h3, h4, h5, h6, h7⟩, ⟨f0, f1, f2, f3, f4, f5, f6, f7⟩⟩ := h
 simp only [Nat.zero_add] at h0 h1 h2 h3 h4 h5 h6 h7
 simp [Qab, Qap, go_sem, hz, h0, h1, h2, h3, h4, h5, h6, h7, f0, f1, f2, f3, f4, f5, f6, f7]
theorem bag8 {V : World} {M : Nat} (x0 x1 x2 x3 x4 x5 x6 x7 : Value) : Bag M V ((((((((V.setCell ⟨M, 0, none⟩ x0).setCell ⟨M, 1, none⟩ x1).setCell ⟨M, 2, none⟩ x2).setCell ⟨M, 3, none⟩ x3).setCell ⟨M, 4, none⟩ x4).setCell ⟨M, 5, none⟩ x5).setCell ⟨M, 6, none⟩ x6).setCell ⟨M, 7, none⟩ x7) :=
 (((((((((Bag.refl M V).setCell (p := ⟨M, 0, none⟩) rfl _).setCell (p := ⟨M, 1, none⟩) rfl _).setCell (p := ⟨M, 2, none⟩) rfl _).setCell (p := ⟨M, 3, none⟩) rfl _).setCell (p := ⟨M, 4, none⟩) rfl _).setCell (p := ⟨M, 5, none⟩) rfl _).setCell (p := ⟨M, 6, none⟩) rfl _).setCell (p := ⟨M, 7, none⟩) rfl _)
theorem Bag.over {b M : Nat} {u w w' : World} (h : Bag b u w) (h' : Bag M w w') (hM : u.heap.size <= M) : Bag b u w' :=
 ⟨h'.os.trans h.os, h'.tape.trans h.tape, h'.output.trans h.output, Nat.le_trans h.size h'.size, fun k hk hb => (h'.block k (lL hk h.size) (by omega)).trans (h.block k hk hb)⟩
theorem Qlm (n : Nat) (IH : XCon 177 .operand n) : XCon 138 .signed (n + 1) := by
 intro P ts w b A c i en wo p d hC hr hi hP hPw hp hd hfine
 have hbw := hr.1.1
 have KR := Hd hr
 have KC := Hd hC
 have KPw := Hd hPw
 have he : parX (n + 1) .signed d p (ts.drop i) = itX (mnR (ts.drop i)) (parX n .operand d p ((ts.drop i).drop (mnR (ts.drop i)))) := by
  rw [parX.eq_def]
  exact Qn3 _ _
 rw [he] at hfine ⊢
 have hf2 := Hd (Qkm _ hfine)
 generalize hQ : itX (mnR (ts.drop i)) (parX n .operand d p ((ts.drop i).drop (mnR (ts.drop i)))) = Q
 have HQ := Hd hQ
 clear hfine he hQ hC hr hPw
 go_enter Tryz.func138, Tryz.ntmps138
 go_upto_region 1 with fail
 refine uN ((Bel.refl w).alloc _) fun W hcc hf hz hb => ?_
 have T1 : Qab W w.heap.size 0 zv ⟨#[]⟩ none 0 0 := by simp [Qab, Qap, zv, hcc, hf, hz, go_sem]
 clear hcc hf hz
 have hwW : w.heap.size < W.heap.size := T1.1
 generalize hN : w.heap.size = N at T1 hwW ⊢
 have NW := Hd (show w.heap.size <= N from by omega)
 have nb : N ≠ b := by omega
 clear hN
 have xN : ¬ b = N := fun e => nb e.symm
 have K1 := Hd T1
 clear T1
 have KP := Hd (KR.out.keep hb)
 have B1 := Hd (Bag.of (b := b) hb)
 have hPN : ¬ (fun k => P k /\ k ≠ N) b := fun h => hP h.1
 have hPNN : ¬ (fun k => P k /\ k ≠ N) N := fun h => h.2 rfl
 have hPNw := Hd (show ∀ k, W.heap.size <= k -> (fun k => P k /\ k ≠ N) k from fun k hk => ⟨KPw.out k (by have := NW.out; omega), by omega⟩)
 have K0 := Hd (show Bag b w W /\ Psr W b A ts.length c i en wo 0 p d /\ Qab W N 0 zv ⟨#[]⟩ none 0 0 /\ W.heap.size <= W.heap.size from ⟨B1.out, KP.out, K1.out, Nat.le_refl _⟩)
 go_wp2_with fail
 go_loopg [4] (ts.length + 1 - i) (fun g kv wq => ∃ k : Nat, kv = .int .i64 k /\ i + k <= ts.length /\ Hid (g = ts.length + 1 - (i + k)) /\ Hid (mnR (ts.drop i) = mnR (ts.drop (i + k)) + k) /\ Hid (Bag b w wq /\ Psr wq b A ts.length c (i + k) en wo 0 p d /\ Qab wq N 0 zv ⟨#[]⟩ none 0 0 /\ W.heap.size <= wq.heap.size))
 case atStart => exact ⟨0, rfl, hi, Hd (by omega), Hd rfl, K0⟩
 case round =>
  obtain ⟨k, rfl, hik, hg, hmn, hW⟩ := hrel
  cases hs : isS [45] (ts.drop (i + k)) with
  | true =>
   have hil := Qd6 hs
   have hsh := Hd (show isK 5 [45] (ts.drop (i + k)) = true from hs)
   have hmn2 := Hd (show mnR (ts.drop i) = mnR (ts.drop (i + (k + 1))) + (k + 1) from by rw [hmn.out, Qn1 ts (i + k), iP hs, show i + (k + 1) = i + k + 1 by omega]; omega)
   have CS := Qbd ts [45] wr b A c (i + k) (i + k + 1) en wo 0 (KC.out.bag hW.out.1).toks hW.out.2.1.1 hik KC.out.2.1 (by rw [iP hsh.out])
   rw [show isK 5 [45] (ts.drop (i + k)) = true from hsh.out, show Qaa [45] = (⟨#[45]⟩ : ByteArray) from rfl] at CS
   replace CS := Hd CS
   have wk : IntKind.i64.wrap ((k : Int) + 1) = ((k + 1 : Nat) : Int) := by rw [IntKind.wrap_i64]; have := KC.out.2.1; omega
   clear hs
   go_wp2_with (go_at_call 176; (with_reducible refine Calls.mono CS.out ?_); rintro ee V2 ⟨rfl, hb2, hr2⟩; have hq2 := Hd (And.intro (hW.out.1.trans hb2.bag) (And.intro (hW.out.2.1.but hb2 hr2) (And.intro (hW.out.2.2.1.bag hb2.bag nb) (Nat.le_trans hW.out.2.2.2 hb2.size)))); clear hb2 hr2)
   go_roundg (ts.length + 1 - (i + (k + 1)))
   case measure => have := hg.out; omega
   case rel => exact ⟨k + 1, rfl, by omega, Hd rfl, hmn2, hq2⟩
  | false =>
   have hsh := Hd (show isK 5 [45] (ts.drop (i + k)) = false from hs)
   have hmk : mnR (ts.drop i) = k := by rw [hmn.out, Qn1 ts (i + k), iN (by rw [hs]; decide)]; omega
   rw [hmk, List.drop_drop] at HQ hf2
   have CS := Qbd ts [45] wr b A c (i + k) (i + k) en wo 0 (KC.out.bag hW.out.1).toks hW.out.2.1.1 hik KC.out.2.1 (by rw [iN (by rw [hsh.out]; decide)])
   rw [show isK 5 [45] (ts.drop (i + k)) = false from hsh.out, show Qaa [45] = (⟨#[45]⟩ : ByteArray) from rfl] at CS
   replace CS := Hd CS
   have CE := Hd fun X (hX : W.heap.size <= X.heap.size) (hW : Bag b w X) (hR : Psr X b A ts.length c (i + k) en wo 0 p d) => IH (fun k => P k /\ k ≠ N) ts X b A c (i + k) en wo p d (KC.out.bag hW) hR hik hPN (fun q hq => hPNw.out q (Nat.le_trans hX hq)) hp hd hf2.out
   generalize hq : parX n .operand d p (ts.drop (i + k)) = q at CE HQ
   clear hs hmk hmn hq hf2 hg
   go_upto_region 4 with (go_at_call 176; (with_reducible refine Calls.mono CS.out ?_); rintro ee V2 ⟨rfl, hb2, hr2⟩; have bg2 := Hd (hW.out.1.trans hb2.bag); have ps2 := Hd (hW.out.2.1.but hb2 hr2); have L2 := Hd (hW.out.2.2.1.bag hb2.bag nb); have sz2 := Hd (Nat.le_trans hW.out.2.2.2 hb2.size); clear hb2 hr2)
   go_upto_region 5 with (go_at_call 177; (with_reducible refine Calls.mono (CE.out _ sz2.out bg2.out ps2.out) ?_); rintro ee V3 ⟨j3, wr3, e3, p3, d3, o3, v3, nm3, A3, n3, c3, ok3, hbV3, hrV3, hj3, rfl, hxV3⟩; have bg3 := Hd (bg2.out.trans hbV3); have ps3 := Hd hrV3; have xr3 := Hd hxV3; have L3 := Hd (L2.out.bag hbV3 nb); clear hbV3 hrV3 hxV3)
   obtain ⟨vk3, vn3, vs3, vt3, vm3⟩ := v3
   refine uN (w0 := V3) (by exact Bel.y) fun W4 hcc hf hz hbW4 => ?_
   have T3 : Qab W4 V3.heap.size o3 ⟨vk3, vn3, vs3, vt3, vm3⟩ nm3 A3 n3 c3 := by simp [Qab, Qap, hcc, hf, hz, go_sem]
   clear hcc hf hz
   have nM3 : N < V3.heap.size := L3.out.1
   have bM3 : b < V3.heap.size := ps3.out.1.1
   have xs3 := Hd (show ∀ l, Lie (fun k => P k /\ k ≠ N) V3 A3 l -> Lie (fun k => (P k /\ k ≠ N) /\ k ≠ V3.heap.size) W4 A3 l from fun l h => (h.weak (Q := fun k => (P k /\ k ≠ N) /\ k ≠ V3.heap.size) (fun q hq hlt => ⟨hq, by omega⟩)).keep hbW4)
   have MW3 := Hd (show w.heap.size <= V3.heap.size from bg3.out.size)
   generalize V3.heap.size = M at T3 nM3 bM3 xs3 MW3
   have mb3 : M ≠ b := by omega
   have mN3 : ¬ N = M := by omega
   have Nm3 : ¬ M = N := by omega
   have xM3 : ¬ b = M := by omega
   have LM3 := Hd T3
   have LN3 := Hd (L3.out.keep hbW4)
   have bh3 := Hd (bg3.out.trans (Bag.of hbW4))
   have ph3 := Hd (ps3.out.keep hbW4)
   clear T3 hbW4
   have K5 := Hd (show itX (k - 0) q = Q /\ Bag b w W4 /\ Psr W4 b A ts.length c j3 en wr3 e3 p3 d3 /\ j3 <= ts.length /\ Qab W4 N 0 zv ⟨#[]⟩ none 0 0 /\ Qab W4 M o3 ⟨vk3, vn3, vs3, vt3, vm3⟩ nm3 A3 n3 c3 /\ XRes (fun k => (P k /\ k ≠ N) /\ k ≠ M) ts en wo d q o3 ⟨vk3, vn3, vs3, vt3, vm3⟩ nm3 A3 n3 ok3 W4 j3 wr3 e3 p3 d3 from ⟨HQ.out, bh3.out, ph3.out, hj3, LN3.out, LM3.out, xr3.out.move xs3.out⟩)
   clear hW CS CE HQ
   go_wp2_with fail
   go_loopg [6, 19] (k + 1) (fun g okv sv wq => ∃ (s : Nat) (q' : PR (Ex × Nat)) (j : Nat) (wr' e' p' d' o vk vn vs : Int) (vt : ByteArray) (vm : Int) (nm : ByteArray) (A' : Option Addr) (n' c' : Nat) (ok : Bool), okv = .bool ok /\ sv = .int .i64 s /\ s <= k /\ Hid (g = k + 1 - s) /\ Hid (itX (k - s) q' = Q /\ Bag b w wq /\ Psr wq b A ts.length c j en wr' e' p' d' /\ j <= ts.length /\ Qab wq N 0 zv ⟨#[]⟩ none 0 0 /\ Qab wq M o ⟨vk, vn, vs, vt, vm⟩ nm A' n' c' /\ XRes (fun k => (P k /\ k ≠ N) /\ k ≠ M) ts en wo d q' o ⟨vk, vn, vs, vt, vm⟩ nm A' n' ok wq j wr' e' p' d'))
   case atStart => exact ⟨0, q, j3, wr3, e3, p3, d3, o3, vk3, vn3, vs3, vt3, vm3, nm3, A3, n3, c3, ok3, rfl, rfl, Nat.zero_le _, Hd (by omega), K5⟩
   case round =>
    obtain ⟨s, q', j, wr', e', p', d', o, vk, vn, vs, vt, vm, nm, A', n', c', ok, rfl, rfl, hsk, hg, hI⟩ := hrel
    have wk : IntKind.i64.wrap ((s : Int) + 1) = ((s + 1 : Nat) : Int) := by rw [IntKind.wrap_i64]; have := KC.out.2.1; omega
    clear K5 xr3 LM3 LN3 bh3 ph3 xs3 K0
    rcases Nat.lt_or_ge s k with hlt | hge
    ·have hlti : (s : Int) < (k : Int) := by omega
     have hks : k - s = (k - (s + 1)) + 1 := by omega
     cases q' with
     | bad r f =>
      obtain rfl : ok = false := hI.out.2.2.2.2.2.2.1
      have hI2 := Hd (show itX (k - (s + 1)) (.bad r f) = Q from by have := hI.out.1; rw [hks] at this; exact this)
      go_wp2_with fail
      go_roundg (k + 1 - (s + 1))
      case measure => have := hg.out; omega
      case rel => exact ⟨s + 1, .bad r f, j, wr', e', p', d', o, vk, vn, vs, vt, vm, nm, A', n', c', false, rfl, rfl, hlt, Hd rfl, Hd ⟨hI2.out, hI.out.2⟩⟩
     | ok y r =>
      obtain ⟨hI1, hbg, hps, hj, hLN, hLM, hxr⟩ := hI.out
      obtain ⟨rfl, rfl, hv, rfl, rfl, hl, hdr, hwr, rfl, rfl, rfl, hpp⟩ : ok = true /\ o = y.1.op /\ _ = y.1.v /\ nm = Qaa y.1.nm /\ n' = y.1.ks.length /\ Lie _ _ A' y.1.ks /\ ts.drop j = r /\ wr' = wo /\ e' = 0 /\ p' = y.2 /\ d' = d /\ y.2 <= 4096 := hxr
      replace hwr := hwr.symm
      subst hwr
      have hI2 := Hd (show itX (k - (s + 1)) (cmpX (.mk 3 zv [] [y.1]) y.2 (ts.drop j)) = Q from by have := hI1; rw [hks] at this; rw [hdr]; exact this)
      have hNew := Hd (show ((P wr.heap.size /\ wr.heap.size ≠ N) /\ wr.heap.size ≠ M) from ⟨⟨KPw.out _ hbg.size, by have := hLN.1; omega⟩, by have := hLM.1; omega⟩)
      have hNw := Hd (show ∀ q, wr.heap.size <= q -> ((P q /\ q ≠ N) /\ q ≠ M) from fun q hq => ⟨⟨KPw.out _ (Nat.le_trans hbg.size hq), by have := hLN.1; omega⟩, by have := hLM.1; omega⟩)
      have CPT := Hd fun (ty : TypeId) => (show Calls Tryz.prog 92 #[.pointer (some ⟨b, 0, none⟩), .int .i64 3, .slice (some ⟨wr.heap.size, 0, none⟩) 1 1] (wr.alloc (.cells #[.int .i64 y.1.op, .int .i64 vk, .int .i64 vn, .int .i64 vs, .string vt, .int .i64 vm, .string (Qaa y.1.nm), .slice A' y.1.ks.length c'] ty)) (XOut (fun k => (P k /\ k ≠ N) /\ k ≠ M) ts b A c en wo d (cmpX (.mk 3 zv [] [y.1]) y.2 (ts.drop j)) (wr.alloc (.cells #[.int .i64 y.1.op, .int .i64 vk, .int .i64 vn, .int .i64 vs, .string vt, .int .i64 vm, .string (Qaa y.1.nm), .slice A' y.1.ks.length c'] ty))) from by
       have hB := (Bel.refl wr).alloc (.cells #[.int .i64 y.1.op, .int .i64 vk, .int .i64 vn, .int .i64 vs, .string vt, .int .i64 vm, .string (Qaa y.1.nm), .slice A' y.1.ks.length c'] ty)
       refine Qe5 (fun k => (P k /\ k ≠ N) /\ k ≠ M) 3 [y.1] (some ⟨wr.heap.size, 0, none⟩) 1 ts _ b A c j en wo y.2 d ((KC.out.bag hbg).keep hB) (hps.keep hB) hj ?_ (by simp) (by simp) (fun h => hPN h.1) (fun k hk => hNw.out k (Nat.le_trans hB.size hk)) hpp
       refine Qkl hNew.out (by simp) fun q x hx => ?_
       cases q with
       | zero =>
        obtain rfl : y.1 = x := by simpa using hx
        refine ⟨A', c', ?_, (hl.keep hB).weak fun k h _ => h⟩
        have hE : Qap (wr.alloc (.cells #[.int .i64 y.1.op, .int .i64 vk, .int .i64 vn, .int .i64 vs, .string vt, .int .i64 vm, .string (Qaa y.1.nm), .slice A' y.1.ks.length c'] ty)) wr.heap.size 0 y.1.op ⟨vk, vn, vs, vt, vm⟩ (Qaa y.1.nm) A' y.1.ks.length c' := by simp [Qap, go_sem]
        rw [← hv]
        simpa using hE
       | succ q => simp at hx)
      have BG := Hd hbg
      have LN := Hd hLN
      have LM := Hd hLM
      have hMw : w.heap.size <= M := MW3.out
      obtain ⟨tz, ⟨t0, t1, t2, t3, t4, t5, t6, t7⟩, ⟨tf0, tf1, tf2, tf3, tf4, tf5, tf6, tf7⟩⟩ := LM.out
      simp only [Nat.zero_add] at t0 t1 t2 t3 t4 t5 t6 t7
      clear hI hI1 hNew hps hbg hLN hLM hdr
      generalize cmpX (.mk 3 zv [] [y.1]) y.2 (ts.drop j) = q2 at CPT hI2
      go_wp2_with (go_at_call 92; (with_reducible refine Calls.mono (CPT.out _) ?_); rintro ee V7 ⟨j7, wr7, e7, p7, d7, o7, v7, nm7, A7, n7, c7, ok7, hb7, hr7, hj7, rfl, hx7⟩; have bg7 := Hd ((BG.out.trans (Bag.of ((Bel.refl wr).alloc _))).trans hb7); have ps7 := Hd hr7; have xr7 := Hd hx7; obtain ⟨vk7, vn7, vs7, vt7, vm7⟩ := v7; have LN7 := Hd ((LN.out.keep ((Bel.refl wr).alloc _)).bag hb7 nb); have LM7 := Hd ((LM.out.keep ((Bel.refl wr).alloc _)).bag hb7 mb3); obtain ⟨uz, ⟨u0, u1, u2, u3, u4, u5, u6, u7⟩, ⟨uf0, uf1, uf2, uf3, uf4, uf5, uf6, uf7⟩⟩ := LM7.out; simp only [Nat.zero_add] at u0 u1 u2 u3 u4 u5 u6 u7; clear hb7 hr7 hx7)
      go_roundg (k + 1 - (s + 1))
      case measure => have := hg.out; omega
      case rel =>
       refine ⟨s + 1, q2, j7, wr7, e7, p7, d7, o7, vk7, vn7, vs7, vt7, vm7, nm7, A7, n7, c7, ok7, rfl, rfl, hlt, Hd rfl, Hd ⟨hI2.out, bg7.out.over (bag8 _ _ _ _ _ _ _ _) hMw, ps7.out.apart (bag8 _ _ _ _ _ _ _ _) xM3, hj7, LN7.out.bag (bag8 _ _ _ _ _ _ _ _) mN3, LM7.out.put _ _ _ _ _ _ _ _ _ _, ?_⟩⟩
       exact xr7.out.move fun l hl => hl.bag (bag8 _ _ _ _ _ _ _ _) (fun h => h.2 rfl)
    obtain rfl : s = k := by omega
    have hI1 := hI.out.1
    rw [Nat.sub_self] at hI1
    obtain rfl : q' = Q := hI1
    have BG := Hd hI.out.2.1
    have PS := Hd hI.out.2.2.1
    have hj := hI.out.2.2.2.1
    have xr := Hd hI.out.2.2.2.2.2.2
    obtain ⟨tz, ⟨t0, t1, t2, t3, t4, t5, t6, t7⟩, ⟨tf0, tf1, tf2, tf3, tf4, tf5, tf6, tf7⟩⟩ := hI.out.2.2.2.2.2.1
    simp only [Nat.zero_add] at t0 t1 t2 t3 t4 t5 t6 t7
    obtain ⟨sz, ⟨s0, s1, s2, s3, s4, s5, s6, s7⟩, ⟨sf0, sf1, sf2, sf3, sf4, sf5, sf6, sf7⟩⟩ := hI.out.2.2.2.2.1
    simp only [zv, Nat.zero_add] at s0 s1 s2 s3 s4 s5 s6 s7
    clear hI
    go_wp2_with fail
    refine pR (v := .tuple #[exV o ⟨vk, vn, vs, vt, vm⟩ nm A' n' c', .bool ok]) (by simp [results, Tryz.results138, go_sem, zv, sz, s0, s1, s2, s3, s4, s5, s6, s7]) rfl (Qaq (j := j) (wr' := wr') (e' := e') (p' := p') (d' := d') ?_ ?_ hj rfl ?_)
    ·repeat (first | with_reducible exact BG.out | refine Bag.new ?_ NW.out _)
    ·repeat (first | with_reducible exact PS.out | refine Psr.far ?_ xN _)
    intro _
    refine XRes.move xr.out fun l hl => (hl.bag (b := N) ?_ (fun h => hPNN h.1)).weak fun k h _ => h.1.1
    repeat (first | with_reducible exact Bag.refl N _ | refine Bag.setCell (b := N) ?_ rfl _)
end
section
open Go.RowKit
def opKd (o : Int) : Int := if o = 14 \/ o = 15 then 4 else 5
theorem Qln (o : Int) (l : List UInt8) (h1 : ¬ o = 14) (h2 : ¬ o = 15) (ts : List Tok) (w : World) (b : Nat) (A : Option Addr) (c i : Nat) (en wr p d : Int) (hC : Cx ts A b w) (hr : Psr w b A ts.length c i en wr 0 p d) (hi : i <= ts.length) :
  Calls Tryz.prog 141 #[.pointer (some ⟨b, 0, none⟩), .agg #[.int .i64 o, .string (Qaa l)]] w fun r w' => r = .returned (.bool (isK 5 l (ts.drop i))) /\ But b w w' /\ Psr w' b A ts.length c (if isK 5 l (ts.drop i) = true then i + 1 else i) en wr 0 p d := by
 have hbw := hr.1.1
 obtain ⟨j, hj⟩ : ∃ j, j = if isK 5 l (ts.drop i) = true then i + 1 else i := ⟨_, rfl⟩
 rw [← hj]
 have CS := fun X (hX : Bel w X) => Qbd ts l X b A c i j en wr 0 (hC.keep hX).toks (hr.keep hX).1 hi hC.2.1 hj
 clear hj
 generalize isK 5 l (ts.drop i) = kb at CS ⊢
 replace CS := Hd CS
 have KR := Hd hr
 have eg : ∀ args w, (callFunc 176 args).run Tryz.prog w = .ok (.enter 176 args) w := enters_of Tryz.func176 (by kernel_rfl) rfl
 clear hr hC hi
 go_enter Tryz.func141, Tryz.ntmps141
 go_upto_region 1 with fail
 refine uN ((Bel.refl w).alloc _) fun W hcc hf hz hb => ?_
 have c0 : W.cell? ⟨w.heap.size, 0, none⟩ = some (.int .i64 o) := by simp [hcc, go_sem]
 have c1 : W.cell? ⟨w.heap.size, 1, none⟩ = some (.string (Qaa l)) := by simp [hcc, go_sem]
 clear hcc hf hz
 have HB := Hd hb
 clear hb
 generalize w.heap.size = N at c0 c1 ⊢
 go_wp2_with (go_at_fn 176; (with_reducible refine Calls.mono (CS.out _ HB.out) ?_); rintro ee V1 ⟨rfl, hb1, hr1⟩; have hq1 := Hd (And.intro hb1 hr1); clear hb1 hr1)
 ·exfalso
  have h : (o == 14) = true \/ (o == 15) = true := by assumption
  rcases h with h | h
  ·exact h1 (by simpa using h)
  exact h2 (by simpa using h)
 go_ret
 exact ⟨rfl, (But.of HB.out).trans hq1.out.1, (KR.out.keep HB.out).but hq1.out.1 hq1.out.2⟩
theorem Qn4 (o : Int) (l : List UInt8) (h1 : o = 14) (ts : List Tok) (w : World) (b : Nat) (A : Option Addr) (c i : Nat) (en wr p d : Int) (hC : Cx ts A b w) (hr : Psr w b A ts.length c i en wr 0 p d) (hi : i <= ts.length) :
  Calls Tryz.prog 141 #[.pointer (some ⟨b, 0, none⟩), .agg #[.int .i64 o, .string (Qaa l)]] w fun r w' => r = .returned (.bool (isK 4 l (ts.drop i))) /\ But b w w' /\ Psr w' b A ts.length c (if isK 4 l (ts.drop i) = true then i + 1 else i) en wr 0 p d := by
 have hbw := hr.1.1
 subst h1
 obtain ⟨j, hj⟩ : ∃ j, j = if isK 4 l (ts.drop i) = true then i + 1 else i := ⟨_, rfl⟩
 rw [← hj]
 have CS := fun X (hX : Bel w X) => Qbe ts l X b A c i j en wr 0 (hC.keep hX).toks (hr.keep hX).1 hi hC.2.1 hj
 clear hj
 generalize isK 4 l (ts.drop i) = kb at CS ⊢
 replace CS := Hd CS
 have KR := Hd hr
 have eg : ∀ args w, (callFunc 90 args).run Tryz.prog w = .ok (.enter 90 args) w := enters_of Tryz.func90 (by kernel_rfl) rfl
 clear hr hC hi
 go_enter Tryz.func141, Tryz.ntmps141
 go_upto_region 1 with fail
 refine uN ((Bel.refl w).alloc _) fun W hcc hf hz hb => ?_
 have c0 : W.cell? ⟨w.heap.size, 0, none⟩ = some (.int .i64 14) := by simp [hcc, go_sem]
 have c1 : W.cell? ⟨w.heap.size, 1, none⟩ = some (.string (Qaa l)) := by simp [hcc, go_sem]
 clear hcc hf hz
 have HB := Hd hb
 clear hb
 generalize w.heap.size = N at c0 c1 ⊢
 go_wp2_with (go_at_fn 90; (with_reducible refine Calls.mono (CS.out _ HB.out) ?_); rintro ee V1 ⟨rfl, hb1, hr1⟩; have hq1 := Hd (And.intro hb1 hr1); clear hb1 hr1)
 go_ret
 exact ⟨rfl, (But.of HB.out).trans hq1.out.1, (KR.out.keep HB.out).but hq1.out.1 hq1.out.2⟩
theorem Qq1 (o : Int) (l : List UInt8) (h1 : o = 15) (ts : List Tok) (w : World) (b : Nat) (A : Option Addr) (c i : Nat) (en wr p d : Int) (hC : Cx ts A b w) (hr : Psr w b A ts.length c i en wr 0 p d) (hi : i <= ts.length) :
  Calls Tryz.prog 141 #[.pointer (some ⟨b, 0, none⟩), .agg #[.int .i64 o, .string (Qaa l)]] w fun r w' => r = .returned (.bool (isK 4 l (ts.drop i))) /\ But b w w' /\ Psr w' b A ts.length c (if isK 4 l (ts.drop i) = true then i + 1 else i) en wr 0 p d := by
 have hbw := hr.1.1
 subst h1
 obtain ⟨j, hj⟩ : ∃ j, j = if isK 4 l (ts.drop i) = true then i + 1 else i := ⟨_, rfl⟩
 rw [← hj]
 have CS := fun X (hX : Bel w X) => Qbe ts l X b A c i j en wr 0 (hC.keep hX).toks (hr.keep hX).1 hi hC.2.1 hj
 clear hj
 generalize isK 4 l (ts.drop i) = kb at CS ⊢
 replace CS := Hd CS
 have KR := Hd hr
 have eg : ∀ args w, (callFunc 90 args).run Tryz.prog w = .ok (.enter 90 args) w := enters_of Tryz.func90 (by kernel_rfl) rfl
 clear hr hC hi
 go_enter Tryz.func141, Tryz.ntmps141
 go_upto_region 1 with fail
 refine uN ((Bel.refl w).alloc _) fun W hcc hf hz hb => ?_
 have c0 : W.cell? ⟨w.heap.size, 0, none⟩ = some (.int .i64 15) := by simp [hcc, go_sem]
 have c1 : W.cell? ⟨w.heap.size, 1, none⟩ = some (.string (Qaa l)) := by simp [hcc, go_sem]
 clear hcc hf hz
 have HB := Hd hb
 clear hb
 generalize w.heap.size = N at c0 c1 ⊢
 go_wp2_with (go_at_fn 90; (with_reducible refine Calls.mono (CS.out _ HB.out) ?_); rintro ee V1 ⟨rfl, hb1, hr1⟩; have hq1 := Hd (And.intro hb1 hr1); clear hb1 hr1)
 go_ret
 exact ⟨rfl, (But.of HB.out).trans hq1.out.1, (KR.out.keep HB.out).but hq1.out.1 hq1.out.2⟩
theorem Qn5 (o : Int) (l : List UInt8) (ts : List Tok) (w : World) (b : Nat) (A : Option Addr) (c i : Nat) (en wr p d : Int) (hC : Cx ts A b w) (hr : Psr w b A ts.length c i en wr 0 p d) (hi : i <= ts.length) :
  Calls Tryz.prog 141 #[.pointer (some ⟨b, 0, none⟩), .agg #[.int .i64 o, .string (Qaa l)]] w fun r w' => r = .returned (.bool (isK (opKd o) l (ts.drop i))) /\ But b w w' /\ Psr w' b A ts.length c (if isK (opKd o) l (ts.drop i) = true then i + 1 else i) en wr 0 p d := by
 by_cases h1 : o = 14
 ·rw [show opKd o = 4 from iP (.inl h1)]
  exact Qn4 o l h1 ts w b A c i en wr p d hC hr hi
 by_cases h2 : o = 15
 ·rw [show opKd o = 4 from iP (.inr h2)]
  exact Qq1 o l h2 ts w b A c i en wr p d hC hr hi
 rw [show opKd o = 5 from iN (by rintro (h | h) <;> contradiction)]
 exact Qln o l h1 h2 ts w b A c i en wr p d hC hr hi
end
section
open Go.RowKit
def opL (k : Nat) : List (Int × List UInt8) :=
 if k = 1 then [(15, [111, 114])] else if k = 2 then [(14, [97, 110, 100])]
 else if k = 3 then [(8, [61]), (9, [33, 61]), (10, [60]), (11, [60, 61]), (12, [62]), (13, [62, 61])]
 else if k = 4 then [(4, [43]), (5, [45])] else if k = 5 then [(6, [42]), (7, [47])] else []
def OpAt (w : World) (B : Nat) : Nat -> List (Int × List UInt8) -> Prop
 | _, [] => True
 | o, x :: t => w.cell? ⟨B, o, none⟩ = some (.int .i64 x.1) /\ w.cell? ⟨B, o + 1, none⟩ = some (.string (Qaa x.2)) /\ OpAt w B (o + 2) t
theorem OpAt.same {w w' : World} {B : Nat} (hc : ∀ o, w'.cell? ⟨B, o, none⟩ = w.cell? ⟨B, o, none⟩) : ∀ {o : Nat} {l : List (Int × List UInt8)}, OpAt w B o l -> OpAt w' B o l
 | o, [], h => trivial
 | o, x :: t, h => ⟨by rw [hc]; exact h.1, by rw [hc]; exact h.2.1, OpAt.same hc h.2.2⟩
theorem OpAt.get {w : World} {B : Nat} : ∀ {o : Nat} {l : List (Int × List UInt8)} {j : Nat} {x : Int × List UInt8}, OpAt w B o l -> l[j]? = some x -> w.cell? ⟨B, o + j * 2, none⟩ = some (.int .i64 x.1) /\ w.cell? ⟨B, o + j * 2 + 1, none⟩ = some (.string (Qaa x.2))
 | o, [], j, x, h, hx => by simp at hx
 | o, y :: t, 0, x, h, hx => by
  obtain rfl : y = x := by simpa using hx
  exact ⟨by simpa using h.1, by simpa using h.2.1⟩
 | o, y :: t, j + 1, x, h, hx => by
  have := OpAt.get (j := j) (x := x) h.2.2 (by simpa using hx)
  rw [show o + (j + 1) * 2 = o + 2 + j * 2 by omega]
  exact this
def fsO : List (Int × List UInt8) -> List Tok -> Nat -> Option (Nat × Int)
 | [], _, _ => none
 | x :: t, r, j => if isK (opKd x.1) x.2 r = true then some (j, x.1) else fsO t r (j + 1)
theorem Qn6 : ∀ (l : List (Int × List UInt8)) (r : List Tok) (j : Nat) {q : Nat × Int}, fsO l r j = some q -> ∃ x, l[q.1 - j]? = some x /\ x.1 = q.2 /\ j <= q.1 /\ isK (opKd x.1) x.2 r = true
 | [], r, j, q, h => by cases h
 | y :: t, r, j, q, h => by
  rw [fsO] at h
  by_cases h1 : isK (opKd y.1) y.2 r = true
  ·rw [iP h1] at h
   obtain rfl := Option.some.inj h
   exact ⟨y, by simp, rfl, Nat.le_refl _, h1⟩
  rw [iN h1] at h
  obtain ⟨x, hx, h2, h3, h4⟩ := Qn6 t r (j + 1) h
  refine ⟨x, ?_, h2, by omega, h4⟩
  rw [show q.1 - j = (q.1 - (j + 1)) + 1 by omega]
  simpa using hx
theorem Qt9 (k : Nat) (r : List Tok) (h1 : 1 <= k) (h5 : k <= 5) : (fsO (opL k) r 0).map (·.2) = opR k r := by
 rcases (show k = 1 \/ k = 2 \/ k = 3 \/ k = 4 \/ k = 5 from by omega) with rfl | rfl | rfl | rfl | rfl <;>
  simp only [opL, opR, fsO, opKd, isS] <;> simp only [fsO, opKd, reduceIte, Nat.reduceEqDiff, Int.reduceEq, or_true, true_or, or_self, or_false, false_or] <;> (repeat' split) <;> first | rfl | contradiction | (simp_all; done)
theorem Qi9 (w : World) : Calls Tryz.prog 139 #[.int .i64 1] w fun r w' => ∃ B, r = .returned (.slice (some ⟨B, 0, none⟩) 1 1) /\ Bel w w' /\ w.heap.size <= B /\ B < w'.heap.size /\ OpAt w' B 0 (opL 1) := by
 go_enter Tryz.func139, Tryz.ntmps139
 go_wp2_with fail
 go_ret
 exact ⟨w.heap.size, rfl, (Bel.refl w).alloc _, Nat.le_refl _, by simp, by simp [OpAt, opL, Qaa, go_sem]⟩
theorem Qja (w : World) : Calls Tryz.prog 139 #[.int .i64 2] w fun r w' => ∃ B, r = .returned (.slice (some ⟨B, 0, none⟩) 1 1) /\ Bel w w' /\ w.heap.size <= B /\ B < w'.heap.size /\ OpAt w' B 0 (opL 2) := by
 go_enter Tryz.func139, Tryz.ntmps139
 go_wp2_with fail
 go_ret
 exact ⟨w.heap.size, rfl, (Bel.refl w).alloc _, Nat.le_refl _, by simp, by simp [OpAt, opL, Qaa, go_sem]⟩
theorem Qjb (w : World) : Calls Tryz.prog 139 #[.int .i64 3] w fun r w' => ∃ B, r = .returned (.slice (some ⟨B, 0, none⟩) 6 6) /\ Bel w w' /\ w.heap.size <= B /\ B < w'.heap.size /\ OpAt w' B 0 (opL 3) := by
 go_enter Tryz.func139, Tryz.ntmps139
 go_wp2_with fail
 go_ret
 exact ⟨w.heap.size, rfl, (Bel.refl w).alloc _, Nat.le_refl _, by simp, by simp [OpAt, opL, Qaa, go_sem]⟩
theorem Qjc (w : World) : Calls Tryz.prog 139 #[.int .i64 4] w fun r w' => ∃ B, r = .returned (.slice (some ⟨B, 0, none⟩) 2 2) /\ Bel w w' /\ w.heap.size <= B /\ B < w'.heap.size /\ OpAt w' B 0 (opL 4) := by
 go_enter Tryz.func139, Tryz.ntmps139
 go_wp2_with fail
 go_ret
 exact ⟨w.heap.size, rfl, (Bel.refl w).alloc _, Nat.le_refl _, by simp, by simp [OpAt, opL, Qaa, go_sem]⟩
theorem Qjd (w : World) : Calls Tryz.prog 139 #[.int .i64 5] w fun r w' => ∃ B, r = .returned (.slice (some ⟨B, 0, none⟩) 2 2) /\ Bel w w' /\ w.heap.size <= B /\ B < w'.heap.size /\ OpAt w' B 0 (opL 5) := by
 go_enter Tryz.func139, Tryz.ntmps139
 go_wp2_with fail
 go_ret
 exact ⟨w.heap.size, rfl, (Bel.refl w).alloc _, Nat.le_refl _, by simp, by simp [OpAt, opL, Qaa, go_sem]⟩
theorem Qg0 (k : Nat) (h1 : 1 <= k) (h5 : k <= 5) (w : World) : Calls Tryz.prog 139 #[.int .i64 k] w fun r w' => ∃ B, r = .returned (.slice (some ⟨B, 0, none⟩) (opL k).length (opL k).length) /\ Bel w w' /\ w.heap.size <= B /\ B < w'.heap.size /\ OpAt w' B 0 (opL k) := by
 rcases (show k = 1 \/ k = 2 \/ k = 3 \/ k = 4 \/ k = 5 from by omega) with rfl | rfl | rfl | rfl | rfl
 ·exact Qi9 w
 ·exact Qja w
 ·exact Qjb w
 ·exact Qjc w
 exact Qjd w
end
section
open Go.RowKit
def idxI (q : Option (Nat × Int)) : Int := match q with
 | some q => q.1
 | none => -1
def idxJ (q : Option (Nat × Int)) (i : Nat) : Nat := match q with
 | some _ => i + 1
 | none => i
theorem Qhy : ∀ args w, (callFunc 141 args).run Tryz.prog w = .ok (.enter 141 args) w := enters_of Tryz.func141 (by kernel_rfl) rfl
theorem Qua {l : List (Int × List UInt8)} {r : List Tok} {j : Nat} {x : Int × List UInt8} {t : List (Int × List UInt8)} (hl : l.drop j = x :: t) (h : isK (opKd x.1) x.2 r = true) (hf : fsO l r 0 = fsO (l.drop j) r j) : fsO l r 0 = some (j, x.1) := by
 rw [hf, hl, fsO, iP h]
theorem Qq2 {l : List (Int × List UInt8)} {r : List Tok} {j : Nat} {x : Int × List UInt8} {t : List (Int × List UInt8)} (hl : l.drop j = x :: t) (h : isK (opKd x.1) x.2 r = false) (hf : fsO l r 0 = fsO (l.drop j) r j) : fsO l r 0 = fsO (l.drop (j + 1)) r (j + 1) := by
 rw [hf, ← List.tail_drop, hl, fsO, iN (by rw [h]; decide), List.tail_cons]
theorem Qlo (l : List (Int × List UInt8)) (hll : l.length <= 100) (ts : List Tok) (w : World) (b : Nat) (A : Option Addr) (c i : Nat) (en wr0 p d : Int) (B : Nat) (hC : Cx ts A b w) (hr : Psr w b A ts.length c i en wr0 0 p d) (hi : i <= ts.length) (hB : B < w.heap.size) (hne : B ≠ b) (hO : OpAt w B 0 l) :
  Calls Tryz.prog 140 #[.slice (some ⟨B, 0, none⟩) l.length l.length, .func (.func 141) #[.pointer (some ⟨b, 0, none⟩)] #[]] w fun r w' => r = .returned (.int .i64 (idxI (fsO l (ts.drop i) 0))) /\ But b w w' /\ Psr w' b A ts.length c (idxJ (fsO l (ts.drop i) 0) i) en wr0 0 p d := by
 have hbw := hr.1.1
 have eg := Qhy
 have KC := Hd hC
 have KO := Hd hO
 have K0 := Hd (And.intro (But.refl b w) hr)
 obtain ⟨q, hq⟩ : ∃ q, fsO l (ts.drop i) 0 = q := ⟨_, rfl⟩
 rw [hq]
 have HQ := Hd (show fsO (l.drop 0) (ts.drop i) 0 = q from hq)
 have HP := Hd hq
 clear hC hr hO hq
 generalize hn : l.length = n
 have hn' : l.length = n := hn
 rw [hn] at hll
 go_enter Tryz.func140, Tryz.ntmps140
 go_wp2_with fail
 go_loopg [5, 8] n (fun g _ s8 wr => ∃ kk : Nat, kk <= n /\ Hid (g = n - kk) /\ s8 = .int .i64 kk /\ Hid (fsO (l.drop kk) (ts.drop i) kk = q) /\ Hid (But b w wr /\ Psr wr b A ts.length c i en wr0 0 p d))
 case atStart => exact ⟨0, Nat.zero_le _, Hd rfl, rfl, HQ, K0⟩
 case round =>
  obtain ⟨kk, hkk, hg, rfl, hF, hW⟩ := hrel
  have hnn : (n : Int) <= 100 := by omega
  rcases Nat.lt_or_ge kk n with hlt | hge
  ·have hlti : (kk : Int) < (n : Int) := by omega
   have hlk : kk < l.length := by omega
   have hld : l.drop kk = l[kk] :: l.drop (kk + 1) := List.drop_eq_getElem_cons hlk
   have hgt : l[kk]? = some l[kk] := gE hlk
   have wk : IntKind.i64.wrap ((kk : Int) + 1) = ((kk + 1 : Nat) : Int) := by rw [IntKind.wrap_i64]; omega
   generalize l[kk] = x at hld hgt
   obtain ⟨c0, c1⟩ := (KO.out.same fun o => hW.out.1.cell (p := ⟨B, o, none⟩) hB hne).get hgt
   simp only [Nat.zero_add] at c0 c1
   have CT := Qn5 x.1 x.2 ts wr b A c i en wr0 p d (KC.out.bag hW.out.1.bag) hW.out.2 hi
   cases hx : isK (opKd x.1) x.2 (ts.drop i) with
   | true =>
    have hq2 := Hd (show q = some (kk, x.1) from by rw [← HP.out]; exact Qua hld hx (by rw [HP.out, hF.out]))
    rw [hx, iP rfl] at CT
    replace CT := Hd CT
    clear hld hgt hx
    go_wp2_with (go_at_fn 141; (with_reducible refine Calls.mono CT.out ?_); rintro ee V1 ⟨rfl, hb1, hr1⟩; have hq1 := Hd (And.intro (hW.out.1.trans hb1) hr1); clear hb1 hr1)
    go_ret
    rw [hq2.out]
    exact ⟨rfl, hq1.out⟩
   | false =>
    have hF2 := Hd (show fsO (l.drop (kk + 1)) (ts.drop i) (kk + 1) = q from by rw [← Qq2 hld hx (by rw [HP.out, hF.out]), HP.out])
    rw [hx, iN (by decide)] at CT
    replace CT := Hd CT
    clear hld hgt hx
    go_wp2_with (go_at_fn 141; (with_reducible refine Calls.mono CT.out ?_); rintro ee V1 ⟨rfl, hb1, hr1⟩; have hq1 := Hd (And.intro (hW.out.1.trans hb1) hr1); clear hb1 hr1)
    go_roundg (n - (kk + 1))
    case measure => have := hg.out; omega
    case rel => exact ⟨kk + 1, by omega, Hd rfl, rfl, hF2, hq1⟩
  obtain rfl : kk = n := by omega
  have hq2 := Hd (show q = none from by rw [← hF.out, List.drop_eq_nil_of_le (by omega)]; rfl)
  go_wp2_with fail
  go_ret
  rw [hq2.out]
  exact ⟨rfl, hW.out⟩
end
end Go.Proofs.YtjckpkamhdbcnaaGreatDoor
