import Derived.Test.YtjckpkamhdbcnaaGreatDoorPed
namespace Go.Proofs.YtjckpkamhdbcnaaGreatDoor
set_option linter.unusedSimpArgs false
set_option linter.unusedVariables false
open Go.RowKit
/-! The parser: not( ). -/
set_option maxRecDepth 100000 in
set_option maxHeartbeats 8000000 in
theorem operand_not (n : Nat) (IH : XEnc n) (P : Nat → Prop) (ts : List Tok) (w : World) (b : Nat) (A : Option Addr) (c i : Nat) (en wo : Int) (p d : Nat) (hC : Cx ts A b w) (hr : Psr w b A ts.length c i en wo 0 p d) (hi : i ≤ ts.length) (hP : ¬ P b) (hPw : ∀ k, w.heap.size ≤ k → P k) (hp : p ≤ 4096) (hd : d ≤ 64) (hfine : (parX (n + 1) .operand d p (ts.drop i)).fine) (h1 : isS [40] (ts.drop i) = false) (h2 : isK 4 wNOT (ts.drop i) = true) (h3 : isS [40] (ts.drop (i + 1)) = true) :
  Calls Tryz.prog 177 #[.pointer (some ⟨b, 0, none⟩)] w (XOut P ts b A c en wo d (parX (n + 1) .operand d p (ts.drop i)) w) := by
 have hbw := hr.1.1
 have KR := Lib.hid hr
 have KC := Lib.hid hC
 have KPw := Lib.hid hPw
 have he : parX (n + 1) .operand d p (ts.drop i) = if isS [40] (ts.drop i) = true then encX (parX n .inner d p (ts.drop i).tail) else if isK 4 wNOT (ts.drop i) = true then (if isS [40] (ts.drop i).tail = true then bndX (encX (parX n .inner d p (ts.drop i).tail.tail)) fun x r1 => cmpX (.mk 16 zv [] [x.1]) x.2 r1 else .bad (ts.drop i).tail 5) else litX p (ts.drop i) := by rw [parX.eq_def]
 rw [he] at hfine ⊢
 clear he hC hr hPw
 rw [if_neg (by rw [h1]; decide), if_pos h2] at hfine ⊢
 have hil := isK_lt h2
 rw [List.tail_drop] at hfine ⊢
 rw [if_pos h3] at hfine ⊢
 have hil2 : i + 1 + 1 ≤ ts.length := isK_lt h3
 rw [List.tail_drop] at hfine ⊢
 have h1h := Lib.hid (show isK 5 [40] (ts.drop i) = false from h1)
 have h2h := Lib.hid (show isK 4 [110, 111, 116] (ts.drop i) = true from h2)
 have h3h := Lib.hid (show isK 5 [40] (ts.drop (i + 1)) = true from h3)
 have hfine2 := fine_bnd hfine
 have CE := Lib.hid fun (Q : Nat → Prop) (W0 : World) (hQ : ¬ Q b) (hQw : ∀ k, W0.heap.size ≤ k → Q k) W (h0 : W0.heap.size ≤ W.heap.size) (hW : Bag b w W) (hR : Psr W b A ts.length c (i + 1 + 1) en wo 0 p d) => IH Q ts W b A c (i + 1 + 1) en wo p d (KC.out.bag hW) hR hil2 hQ (fun k hk => hQw k (Nat.le_trans h0 hk)) hp hd hfine2
 generalize hq : encX (parX n .inner d p (ts.drop (i + 1 + 1))) = q at CE ⊢
 clear hfine hd hq h1 h2 h3 hfine2
 have CA := fun X (hX : Bag b w X) (hR : Psr X b A ts.length c i en wo 0 p d) => sign_any ts [40] X b A c i i en wo 0 (KC.out.bag hX).toks hR.1 hi KC.out.2.1 (by rw [if_neg (by rw [h1h.out]; decide)])
 rw [show isK 5 [40] (ts.drop i) = false from h1h.out, show bytesOf [40] = (⟨#[40]⟩ : ByteArray) from rfl] at CA
 replace CA := Lib.hid CA
 have CB := fun X (hX : Bag b w X) (hR : Psr X b A ts.length c i en wo 0 p d) => word_any ts [110, 111, 116] X b A c i (i + 1) en wo 0 (KC.out.bag hX).toks hR.1 hi KC.out.2.1 (by rw [if_pos h2h.out])
 rw [show isK 4 [110, 111, 116] (ts.drop i) = true from h2h.out, show bytesOf [110, 111, 116] = (⟨#[110, 111, 116]⟩ : ByteArray) from rfl] at CB
 replace CB := Lib.hid CB
 have CD := fun X (hX : Bag b w X) (hR : Psr X b A ts.length c (i + 1) en wo 0 p d) => sign_any ts [40] X b A c (i + 1) (i + 1 + 1) en wo 0 (KC.out.bag hX).toks hR.1 hil KC.out.2.1 (by rw [if_pos h3h.out])
 rw [show isK 5 [40] (ts.drop (i + 1)) = true from h3h.out, show bytesOf [40] = (⟨#[40]⟩ : ByteArray) from rfl] at CD
 replace CD := Lib.hid CD
 go_enter Tryz.func177, Tryz.ntmps177
 go_upto_region 1 with fail
 refine under_name ((Bel.refl w).alloc _) fun W hcc hf hz hb => ?_
 have T1 : XFree W w.heap.size 0 zv ⟨#[]⟩ none 0 0 := by simp [XFree, ExAt, zv, hcc, hf, hz, go_sem]
 clear hcc hf hz
 have hwW : w.heap.size < W.heap.size := T1.1
 generalize hN : w.heap.size = N at T1 hwW ⊢
 have NW := Lib.hid (show w.heap.size ≤ N from by omega)
 have nb : N ≠ b := by omega
 clear hN
 have xN : ¬ b = N := fun e => nb e.symm
 have K1 := Lib.hid T1
 clear T1
 have KP := Lib.hid (KR.out.keep hb)
 have B1 := Lib.hid (Bag.of (b := b) hb)
 have hPN : ¬ (fun k => P k ∧ k ≠ N) b := fun h => hP h.1
 have hPNN : ¬ (fun k => P k ∧ k ≠ N) N := fun h => h.2 rfl
 have hPNw := Lib.hid (show ∀ k, W.heap.size ≤ k → (fun k => P k ∧ k ≠ N) k from fun k hk => ⟨KPw.out k (by have := NW.out; omega), by omega⟩)
 go_upto_region 3 with (go_at_call 176; (with_reducible refine Calls.mono (CA.out _ B1.out KP.out) ?_); rintro ee V2 ⟨rfl, hbV2, hrV2⟩; have bg2 := Lib.hid (B1.out.trans hbV2.bag); have ps2 := Lib.hid (KP.out.but hbV2 hrV2); have L2 := Lib.hid (K1.out.bag hbV2.bag nb); have sz2 := Lib.hid hbV2.size; clear hbV2 hrV2)
 go_upto_region 4 with (go_at_call 90; (with_reducible refine Calls.mono (CB.out _ bg2.out ps2.out) ?_); rintro ee U3 ⟨rfl, hbU3, hrU3⟩; have bg20 := Lib.hid (bg2.out.trans hbU3.bag); have ps20 := Lib.hid (ps2.out.but hbU3 hrU3); have L20 := Lib.hid (L2.out.bag hbU3.bag nb); have sz20 := Lib.hid hbU3.size; clear hbU3 hrU3)
 go_upto_region 6 with (go_at_call 176; (with_reducible refine Calls.mono (CD.out _ bg20.out ps20.out) ?_); rintro ee U4 ⟨rfl, hbU4, hrU4⟩; have bg21 := Lib.hid (bg20.out.trans hbU4.bag); have ps21 := Lib.hid (ps20.out.but hbU4 hrU4); have L21 := Lib.hid (L20.out.bag hbU4.bag nb); have sz21 := Lib.hid hbU4.size; clear hbU4 hrU4)
 have szU := Lib.hid (Nat.le_trans (Nat.le_trans sz2.out sz20.out) sz21.out)
 have CEX := Lib.hid fun X (hX : X = U4) (hW : Bag b w X) (hR : Psr X b A ts.length c (i + 1 + 1) en wo 0 p d) => CE.out (fun k => P k ∧ k ≠ N) W hPN hPNw.out X (by rw [hX]; exact szU.out) hW hR
 go_upto_region 7 with (go_at_call 194; (with_reducible refine Calls.mono (CEX.out _ rfl bg21.out ps21.out) ?_); rintro ee V3 ⟨j3, wr3, e3, p3, d3, o3, v3, nm3, A3, n3, c3, ok3, hbV3, hrV3, hj3, rfl, hxV3⟩; have bg3 := Lib.hid (bg21.out.trans hbV3); have ps3 := Lib.hid hrV3; have xr3 := Lib.hid hxV3; have L3 := Lib.hid (L21.out.bag hbV3 nb); have szV := Lib.hid (Nat.le_trans szU.out hbV3.size); clear hbV3 hrV3 hxV3)
 obtain ⟨vk3, vn3, vs3, vt3, vm3⟩ := v3
 refine under_name (w0 := V3) (by (with_reducible repeat first | exact Bel.refl _ | refine Bel.setCell ?_ (by first | exact Nat.le_refl _ | (dsimp only; omega)) _ | refine Bel.alloc ?_ _ | refine Bel.drew ?_ | assumption | refine Bel.trans ?_ (by assumption))) fun W4 hcc hf hz hbW4 => ?_
 have T3 : XFree W4 V3.heap.size o3 ⟨vk3, vn3, vs3, vt3, vm3⟩ nm3 A3 n3 c3 := by simp [XFree, ExAt, hcc, hf, hz, go_sem]
 clear hcc hf hz
 have nM3 : N < V3.heap.size := L3.out.1
 have bM3 : b < V3.heap.size := ps3.out.1.1
 have xs3 := Lib.hid (show ∀ l, Lie (fun k => P k ∧ k ≠ N) V3 A3 l → Lie (fun k => (P k ∧ k ≠ N) ∧ k ≠ V3.heap.size) W4 A3 l from fun l h => (h.weak (Q := fun k => (P k ∧ k ≠ N) ∧ k ≠ V3.heap.size) (fun q hq hlt => ⟨hq, by omega⟩)).keep hbW4)
 have MW3 := Lib.hid (show w.heap.size ≤ V3.heap.size from bg3.out.size)
 generalize V3.heap.size = M at T3 nM3 bM3 xs3 MW3
 have mb3 : M ≠ b := by omega
 have mN3 : ¬ N = M := by omega
 have Nm3 : ¬ M = N := by omega
 have xM3 : ¬ b = M := by omega
 have LM3 := Lib.hid T3
 have szW := Lib.hid (Nat.le_trans szV.out hbW4.size)
 have LN3 := Lib.hid (L3.out.keep hbW4)
 have bh3 := Lib.hid (bg3.out.trans (Bag.of hbW4))
 have ph3 := Lib.hid (ps3.out.keep hbW4)
 clear T3 hbW4
 cases q with
 | bad r f =>
  obtain ⟨rfl, hw3, he3⟩ : ok3 = false ∧ wr3 = plcT en r ∧ e3 = f := xr3.out
  have hwe := Lib.hid (And.intro hw3 he3)
  clear hw3 he3
  obtain ⟨sz, ⟨s0, s1, s2, s3, s4, s5, s6, s7⟩, ⟨sf0, sf1, sf2, sf3, sf4, sf5, sf6, sf7⟩⟩ := LN3.out
  simp only [zv, Nat.zero_add] at s0 s1 s2 s3 s4 s5 s6 s7
  go_wp2_with fail
  refine bodyPost_ret (v := .tuple #[exV 0 zv ⟨#[]⟩ none 0 0, .bool false]) (by simp [results, Tryz.results177, go_sem, zv, sz, s0, s1, s2, s3, s4, s5, s6, s7]) rfl (xout_mk (j := j3) (wr' := wr3) (e' := e3) (p' := p3) (d' := d3) ?_ ?_ hj3 rfl ?_)
  ·repeat (first | with_reducible exact bh3.out | refine Bag.new ?_ NW.out _)
  ·repeat (first | with_reducible exact ph3.out | refine Psr.far ?_ xN _)
  ·exact fun _ => ⟨rfl, hwe.out.1, hwe.out.2⟩
 | ok y r =>
  obtain ⟨rfl, ho3, hv3, hn3, hk3, hl3, hd3, hw3, rfl, rfl, rfl, hpp3⟩ : ok3 = true ∧ o3 = y.1.op ∧ _ = y.1.v ∧ nm3 = bytesOf y.1.nm ∧ n3 = y.1.ks.length ∧ Lie _ V3 A3 y.1.ks ∧ ts.drop j3 = r ∧ wr3 = wo ∧ e3 = 0 ∧ p3 = y.2 ∧ d3 = d ∧ y.2 ≤ 4096 := xr3.out
  have hw3' := hw3.symm
  subst hw3'
  have hxx := Lib.hid (And.intro ho3 (And.intro hv3 (And.intro hn3 hk3)))
  have hd4 := Lib.hid hd3
  have hl4 := Lib.hid (xs3.out _ hl3)
  clear ho3 hv3 hn3 hk3 hd3 hl3 xr3
  have hNew := Lib.hid (show P W4.heap.size ∧ W4.heap.size ≠ N from ⟨KPw.out _ (by have := bh3.out.size; omega), by have := LN3.out.1; omega⟩)
  have CPT := Lib.hid fun (ty : TypeId) => (show Calls Tryz.prog 92 #[.pointer (some ⟨b, 0, none⟩), .int .i64 16, .slice (some ⟨W4.heap.size, 0, none⟩) 1 1] (W4.alloc (.cells #[.int .i64 o3, .int .i64 vk3, .int .i64 vn3, .int .i64 vs3, .string vt3, .int .i64 vm3, .string nm3, .slice A3 n3 c3] ty)) (XOut (fun k => P k ∧ k ≠ N) ts b A c en wo d (cmpX (.mk 16 zv [] [y.1]) y.2 (ts.drop j3)) (W4.alloc (.cells #[.int .i64 o3, .int .i64 vk3, .int .i64 vn3, .int .i64 vs3, .string vt3, .int .i64 vm3, .string nm3, .slice A3 n3 c3] ty))) from by
   have hB := (Bel.refl W4).alloc (.cells #[.int .i64 o3, .int .i64 vk3, .int .i64 vn3, .int .i64 vs3, .string vt3, .int .i64 vm3, .string nm3, .slice A3 n3 c3] ty)
   refine part_any (fun k => P k ∧ k ≠ N) 16 [y.1] (some ⟨W4.heap.size, 0, none⟩) 1 ts _ b A c j3 en wo y.2 d ((KC.out.bag bh3.out).keep hB) (ph3.out.keep hB) hj3 ?_ (by simp) (by simp) hPN (fun k hk => hPNw.out k (Nat.le_trans szW.out (Nat.le_trans hB.size hk))) hpp3
   refine lie_mk hNew.out (by simp) fun q x hx => ?_
   cases q with
   | zero =>
    obtain rfl : y.1 = x := by simpa using hx
    refine ⟨A3, c3, ?_, (hl4.out.keep hB).weak fun k h _ => h.1⟩
    have hE : ExAt (W4.alloc (.cells #[.int .i64 o3, .int .i64 vk3, .int .i64 vn3, .int .i64 vs3, .string vt3, .int .i64 vm3, .string nm3, .slice A3 n3 c3] ty)) W4.heap.size 0 o3 ⟨vk3, vn3, vs3, vt3, vm3⟩ nm3 A3 n3 c3 := by simp [ExAt, go_sem]
    obtain ⟨h1, h2, h3, h4⟩ := hxx.out
    rw [← h1, ← h2, ← h3, ← h4]
    simpa using hE
   | succ q => simp at hx)
  have hq := Lib.hid (show bndX (PR.ok y r) (fun (x : Ex × Nat) r1 => cmpX (.mk 16 zv [] [x.1]) x.2 r1) = cmpX (.mk 16 zv [] [y.1]) y.2 (ts.drop j3) from by rw [hd4.out]; rfl)
  generalize cmpX (.mk 16 zv [] [y.1]) y.2 (ts.drop j3) = q at CPT hq
  obtain ⟨tz, ⟨t0, t1, t2, t3, t4, t5, t6, t7⟩, ⟨tf0, tf1, tf2, tf3, tf4, tf5, tf6, tf7⟩⟩ := LM3.out
  simp only [zv, Nat.zero_add] at t0 t1 t2 t3 t4 t5 t6 t7
  go_upto_region 9 with fail
  go_wp2_with (go_at_call 92; (with_reducible refine Calls.mono (CPT.out _) ?_); rintro ee V7 ⟨j7, wr7, e7, p7, d7, o7, v7, nm7, A7, n7, c7, ok7, hb7, hr7, hj7, rfl, hx7⟩; have bg7 := Lib.hid ((bh3.out.trans (Bag.of ((Bel.refl W4).alloc _))).trans hb7); have ps7 := Lib.hid hr7; have xr7 := Lib.hid hx7; obtain ⟨vk7, vn7, vs7, vt7, vm7⟩ := v7; obtain ⟨sz, ⟨s0, s1, s2, s3, s4, s5, s6, s7⟩, ⟨sf0, sf1, sf2, sf3, sf4, sf5, sf6, sf7⟩⟩ := (LN3.out.keep ((Bel.refl W4).alloc _)).bag hb7 nb; simp only [zv, Nat.zero_add] at s0 s1 s2 s3 s4 s5 s6 s7; clear hb7 hr7 hx7)
  refine bodyPost_ret (v := .tuple #[exV o7 ⟨vk7, vn7, vs7, vt7, vm7⟩ nm7 A7 n7 c7, .bool ok7]) (by simp [results, Tryz.results177, go_sem, zv, sz, s0, s1, s2, s3, s4, s5, s6, s7]) rfl (xout_mk (j := j7) (wr' := wr7) (e' := e7) (p' := p7) (d' := d7) ?_ ?_ hj7 rfl ?_)
  ·repeat (first | with_reducible exact bg7.out | refine Bag.new ?_ NW.out _)
  ·repeat (first | with_reducible exact ps7.out | refine Psr.far ?_ xN _)
  ·intro _
   rw [hq.out]
   refine XRes.move xr7.out fun l hl => (hl.bag (b := N) ?_ hPNN).weak fun k h _ => h.1
   repeat (first | with_reducible exact Bag.refl N V7 | refine Bag.setCell (b := N) ?_ rfl _)
theorem tok_len {t : Tok} (h : ksnd t = true) : t.text.length ≤ 1000000 := by
 have hl := wr_len h
 rcases snd_parts h with ⟨h1, h2, h3, h4, h5⟩ | ⟨h1, h2, h3, h4, h5⟩ | ⟨h1, h2, h3, h4, h5, h6⟩ | ⟨h1, h2, h3, h4, h5⟩ | ⟨h1, h2, h3, h4, h5⟩
 ·rw [h2]; simp
 ·have := str_len h5; omega
 ·rw [h2]; simp
 ·have e : wrT t = t.text := by unfold wrT; rw [if_neg (by rw [h1]; decide), if_neg (by rw [h1]; decide), if_neg (by rw [h1]; decide)]
  rw [e] at hl; omega
 ·have e : wrT t = t.text := by unfold wrT; rw [if_neg (by rw [h1]; decide), if_neg (by rw [h1]; decide), if_neg (by rw [h1]; decide)]
  rw [e] at hl; omega
theorem operand_any (n : Nat) (IH : XEnc n) : XCon 177 .operand (n + 1) := by
 intro P ts w b A c i en wo p d hC hr hi hP hPw hp hd hfine
 cases h1 : isS [40] (ts.drop i) with
 | true => exact operand_brk n IH P ts w b A c i en wo p d hC hr hi hP hPw hp hd hfine h1
 | false =>
  cases h2 : isK 4 wNOT (ts.drop i) with
  | true =>
   cases h3 : isS [40] (ts.drop (i + 1)) with
   | true => exact operand_not n IH P ts w b A c i en wo p d hC hr hi hP hPw hp hd hfine h1 h2 h3
   | false => exact operand_notbad n IH P ts w b A c i en wo p d hC hr hi hP hPw hp hd hfine h1 h2 h3
  | false =>
   cases hv : valT (pekT (ts.drop i)) with
   | some v => exact operand_val n IH P ts w b A c i en wo p d hC hr hi hP hPw hp hd hfine h1 h2 v hv
   | none =>
    have htx : (pekT (ts.drop i)).text.length ≤ 1000000 := by
     cases hr2 : ts.drop i with
     | nil => decide
     | cons t r => exact tok_len (hC.2.2 t (List.mem_of_mem_drop (by rw [hr2]; simp)))
    by_cases hk : (pekT (ts.drop i)).kind = 4
    ·cases hw : wordB (bytesOf (pekT (ts.drop i)).text) with
     | true => exact operand_name n IH P ts w b A c i en wo p d hC hr hi hP hPw hp hd hfine h1 h2 hv hk hw htx
     | false => exact operand_bad2 n IH P ts w b A c i en wo p d hC hr hi hP hPw hp hd hfine h1 h2 hv hk hw htx
    ·exact operand_bad1 n IH P ts w b A c i en wo p d hC hr hi hP hPw hp hd hfine h1 h2 hv hk
end Go.Proofs.YtjckpkamhdbcnaaGreatDoor
namespace Go.Proofs.YtjckpkamhdbcnaaGreatDoor
set_option linter.unusedSimpArgs false
set_option linter.unusedVariables false
open Go.RowKit
/-! The parser: signed. -/
theorem mn_drop (ts : List Tok) (i : Nat) : mnR (ts.drop i) = if isS [45] (ts.drop i) = true then mnR (ts.drop (i + 1)) + 1 else 0 := by
 rw [← List.tail_drop]
 cases ts.drop i with
 | nil => rfl
 | cons t r =>
  rw [List.tail_cons]
  rfl
/-- So many minus signs in front. -/
def itX : Nat → PR (Ex × Nat) → PR (Ex × Nat)
 | 0, q => q
 | m + 1, q => itX m (bndX q fun (y : Ex × Nat) r => cmpX (.mk 3 zv [] [y.1]) y.2 r)
theorem itX_bad : ∀ (m : Nat) (r : List Tok) (e : Nat), itX m (.bad r e) = .bad r e
 | 0, r, e => rfl
 | m + 1, r, e => itX_bad m r e
theorem itX_neg : ∀ (m : Nat) (q : PR (Ex × Nat)), bndX q (fun x r => negX m x.1 x.2 r) = itX m q
 | 0, q => by cases q <;> rfl
 | m + 1, q => by
  cases q with
  | bad r e => exact (itX_bad (m + 1) r e).symm
  | ok y r =>
   show negX (m + 1) y.1 y.2 r = itX m (cmpX (.mk 3 zv [] [y.1]) y.2 r)
   rw [← itX_neg m]
   rw [negX]
   cases cmpX (.mk 3 zv [] [y.1]) y.2 r <;> rfl
theorem itX_fine : ∀ (m : Nat) {q : PR (Ex × Nat)}, (itX m q).fine → q.fine
 | 0, q, h => h
 | m + 1, q, h => fine_bnd (itX_fine m h)
theorem XFree.put {V : World} {M : Nat} {o : Int} {v : Val} {nm : ByteArray} {A : Option Addr} {n c : Nat} (h : XFree V M o v nm A n c) (o' k1 k2 k3 : Int) (k4 : ByteArray) (k5 : Int) (nm' : ByteArray) (A' : Option Addr) (n' c' : Nat) :
  XFree ((((((((V.setCell ⟨M, 0, none⟩ (.int .i64 o')).setCell ⟨M, 1, none⟩ (.int .i64 k1)).setCell ⟨M, 2, none⟩ (.int .i64 k2)).setCell ⟨M, 3, none⟩ (.int .i64 k3)).setCell ⟨M, 4, none⟩ (.string k4)).setCell ⟨M, 5, none⟩ (.int .i64 k5)).setCell ⟨M, 6, none⟩ (.string nm')).setCell ⟨M, 7, none⟩ (.slice A' n' c')) M o' ⟨k1, k2, k3, k4, k5⟩ nm' A' n' c' := by
 obtain ⟨hz, ⟨h0, h1, h2, h3, h4, h5, h6, h7⟩, ⟨f0, f1, f2, f3, f4, f5, f6, f7⟩⟩ := h
 simp only [Nat.zero_add] at h0 h1 h2 h3 h4 h5 h6 h7
 simp [XFree, ExAt, go_sem, hz, h0, h1, h2, h3, h4, h5, h6, h7, f0, f1, f2, f3, f4, f5, f6, f7]
theorem bag8 {V : World} {M : Nat} (x0 x1 x2 x3 x4 x5 x6 x7 : Value) : Bag M V ((((((((V.setCell ⟨M, 0, none⟩ x0).setCell ⟨M, 1, none⟩ x1).setCell ⟨M, 2, none⟩ x2).setCell ⟨M, 3, none⟩ x3).setCell ⟨M, 4, none⟩ x4).setCell ⟨M, 5, none⟩ x5).setCell ⟨M, 6, none⟩ x6).setCell ⟨M, 7, none⟩ x7) :=
 (((((((((Bag.refl M V).setCell (p := ⟨M, 0, none⟩) rfl _).setCell (p := ⟨M, 1, none⟩) rfl _).setCell (p := ⟨M, 2, none⟩) rfl _).setCell (p := ⟨M, 3, none⟩) rfl _).setCell (p := ⟨M, 4, none⟩) rfl _).setCell (p := ⟨M, 5, none⟩) rfl _).setCell (p := ⟨M, 6, none⟩) rfl _).setCell (p := ⟨M, 7, none⟩) rfl _)
theorem Bag.over {b M : Nat} {u w w' : World} (h : Bag b u w) (h' : Bag M w w') (hM : u.heap.size ≤ M) : Bag b u w' :=
 ⟨h'.os.trans h.os, h'.tape.trans h.tape, h'.output.trans h.output, Nat.le_trans h.size h'.size, fun k hk hb => (h'.block k (Nat.lt_of_lt_of_le hk h.size) (by omega)).trans (h.block k hk hb)⟩
set_option maxRecDepth 100000 in
set_option maxHeartbeats 8000000 in
theorem signed_any (n : Nat) (IH : XCon 177 .operand n) : XCon 138 .signed (n + 1) := by
 intro P ts w b A c i en wo p d hC hr hi hP hPw hp hd hfine
 have hbw := hr.1.1
 have KR := Lib.hid hr
 have KC := Lib.hid hC
 have KPw := Lib.hid hPw
 have he : parX (n + 1) .signed d p (ts.drop i) = itX (mnR (ts.drop i)) (parX n .operand d p ((ts.drop i).drop (mnR (ts.drop i)))) := by
  rw [parX.eq_def]
  exact itX_neg _ _
 rw [he] at hfine ⊢
 have hf2 := Lib.hid (itX_fine _ hfine)
 generalize hQ : itX (mnR (ts.drop i)) (parX n .operand d p ((ts.drop i).drop (mnR (ts.drop i)))) = Q
 have HQ := Lib.hid hQ
 clear hfine he hQ hC hr hPw
 go_enter Tryz.func138, Tryz.ntmps138
 go_upto_region 1 with fail
 refine under_name ((Bel.refl w).alloc _) fun W hcc hf hz hb => ?_
 have T1 : XFree W w.heap.size 0 zv ⟨#[]⟩ none 0 0 := by simp [XFree, ExAt, zv, hcc, hf, hz, go_sem]
 clear hcc hf hz
 have hwW : w.heap.size < W.heap.size := T1.1
 generalize hN : w.heap.size = N at T1 hwW ⊢
 have NW := Lib.hid (show w.heap.size ≤ N from by omega)
 have nb : N ≠ b := by omega
 clear hN
 have xN : ¬ b = N := fun e => nb e.symm
 have K1 := Lib.hid T1
 clear T1
 have KP := Lib.hid (KR.out.keep hb)
 have B1 := Lib.hid (Bag.of (b := b) hb)
 have hPN : ¬ (fun k => P k ∧ k ≠ N) b := fun h => hP h.1
 have hPNN : ¬ (fun k => P k ∧ k ≠ N) N := fun h => h.2 rfl
 have hPNw := Lib.hid (show ∀ k, W.heap.size ≤ k → (fun k => P k ∧ k ≠ N) k from fun k hk => ⟨KPw.out k (by have := NW.out; omega), by omega⟩)
 have K0 := Lib.hid (show Bag b w W ∧ Psr W b A ts.length c i en wo 0 p d ∧ XFree W N 0 zv ⟨#[]⟩ none 0 0 ∧ W.heap.size ≤ W.heap.size from ⟨B1.out, KP.out, K1.out, Nat.le_refl _⟩)
 go_wp2_with fail
 go_loopg [4] (ts.length + 1 - i) (fun g kv wq => ∃ k : Nat, kv = .int .i64 k ∧ i + k ≤ ts.length ∧ Hid (g = ts.length + 1 - (i + k)) ∧ Hid (mnR (ts.drop i) = mnR (ts.drop (i + k)) + k) ∧ Hid (Bag b w wq ∧ Psr wq b A ts.length c (i + k) en wo 0 p d ∧ XFree wq N 0 zv ⟨#[]⟩ none 0 0 ∧ W.heap.size ≤ wq.heap.size))
 case atStart => exact ⟨0, rfl, hi, Lib.hid (by omega), Lib.hid rfl, K0⟩
 case round =>
  obtain ⟨k, rfl, hik, hg, hmn, hW⟩ := hrel
  cases hs : isS [45] (ts.drop (i + k)) with
  | true =>
   have hil := isK_lt hs
   have hsh := Lib.hid (show isK 5 [45] (ts.drop (i + k)) = true from hs)
   have hmn2 := Lib.hid (show mnR (ts.drop i) = mnR (ts.drop (i + (k + 1))) + (k + 1) from by rw [hmn.out, mn_drop ts (i + k), if_pos hs, show i + (k + 1) = i + k + 1 by omega]; omega)
   have CS := sign_any ts [45] wr b A c (i + k) (i + k + 1) en wo 0 (KC.out.bag hW.out.1).toks hW.out.2.1.1 hik KC.out.2.1 (by rw [if_pos hsh.out])
   rw [show isK 5 [45] (ts.drop (i + k)) = true from hsh.out, show bytesOf [45] = (⟨#[45]⟩ : ByteArray) from rfl] at CS
   replace CS := Lib.hid CS
   have wk : IntKind.i64.wrap ((k : Int) + 1) = ((k + 1 : Nat) : Int) := by rw [IntKind.wrap_i64]; have := KC.out.2.1; omega
   clear hs
   go_wp2_with (go_at_call 176; (with_reducible refine Calls.mono CS.out ?_); rintro ee V2 ⟨rfl, hb2, hr2⟩; have hq2 := Lib.hid (And.intro (hW.out.1.trans hb2.bag) (And.intro (hW.out.2.1.but hb2 hr2) (And.intro (hW.out.2.2.1.bag hb2.bag nb) (Nat.le_trans hW.out.2.2.2 hb2.size)))); clear hb2 hr2)
   go_roundg (ts.length + 1 - (i + (k + 1)))
   case measure => have := hg.out; omega
   case rel => exact ⟨k + 1, rfl, by omega, Lib.hid rfl, hmn2, hq2⟩
  | false =>
   have hsh := Lib.hid (show isK 5 [45] (ts.drop (i + k)) = false from hs)
   have hmk : mnR (ts.drop i) = k := by rw [hmn.out, mn_drop ts (i + k), if_neg (by rw [hs]; decide)]; omega
   rw [hmk, List.drop_drop] at HQ hf2
   have CS := sign_any ts [45] wr b A c (i + k) (i + k) en wo 0 (KC.out.bag hW.out.1).toks hW.out.2.1.1 hik KC.out.2.1 (by rw [if_neg (by rw [hsh.out]; decide)])
   rw [show isK 5 [45] (ts.drop (i + k)) = false from hsh.out, show bytesOf [45] = (⟨#[45]⟩ : ByteArray) from rfl] at CS
   replace CS := Lib.hid CS
   have CE := Lib.hid fun X (hX : W.heap.size ≤ X.heap.size) (hW : Bag b w X) (hR : Psr X b A ts.length c (i + k) en wo 0 p d) => IH (fun k => P k ∧ k ≠ N) ts X b A c (i + k) en wo p d (KC.out.bag hW) hR hik hPN (fun q hq => hPNw.out q (Nat.le_trans hX hq)) hp hd hf2.out
   generalize hq : parX n .operand d p (ts.drop (i + k)) = q at CE HQ
   clear hs hmk hmn hq hf2 hg
   go_upto_region 4 with (go_at_call 176; (with_reducible refine Calls.mono CS.out ?_); rintro ee V2 ⟨rfl, hb2, hr2⟩; have bg2 := Lib.hid (hW.out.1.trans hb2.bag); have ps2 := Lib.hid (hW.out.2.1.but hb2 hr2); have L2 := Lib.hid (hW.out.2.2.1.bag hb2.bag nb); have sz2 := Lib.hid (Nat.le_trans hW.out.2.2.2 hb2.size); clear hb2 hr2)
   go_upto_region 5 with (go_at_call 177; (with_reducible refine Calls.mono (CE.out _ sz2.out bg2.out ps2.out) ?_); rintro ee V3 ⟨j3, wr3, e3, p3, d3, o3, v3, nm3, A3, n3, c3, ok3, hbV3, hrV3, hj3, rfl, hxV3⟩; have bg3 := Lib.hid (bg2.out.trans hbV3); have ps3 := Lib.hid hrV3; have xr3 := Lib.hid hxV3; have L3 := Lib.hid (L2.out.bag hbV3 nb); clear hbV3 hrV3 hxV3)
   obtain ⟨vk3, vn3, vs3, vt3, vm3⟩ := v3
   refine under_name (w0 := V3) (by (with_reducible repeat first | exact Bel.refl _ | refine Bel.setCell ?_ (by first | exact Nat.le_refl _ | (dsimp only; omega)) _ | refine Bel.alloc ?_ _ | refine Bel.drew ?_ | assumption | refine Bel.trans ?_ (by assumption))) fun W4 hcc hf hz hbW4 => ?_
   have T3 : XFree W4 V3.heap.size o3 ⟨vk3, vn3, vs3, vt3, vm3⟩ nm3 A3 n3 c3 := by simp [XFree, ExAt, hcc, hf, hz, go_sem]
   clear hcc hf hz
   have nM3 : N < V3.heap.size := L3.out.1
   have bM3 : b < V3.heap.size := ps3.out.1.1
   have xs3 := Lib.hid (show ∀ l, Lie (fun k => P k ∧ k ≠ N) V3 A3 l → Lie (fun k => (P k ∧ k ≠ N) ∧ k ≠ V3.heap.size) W4 A3 l from fun l h => (h.weak (Q := fun k => (P k ∧ k ≠ N) ∧ k ≠ V3.heap.size) (fun q hq hlt => ⟨hq, by omega⟩)).keep hbW4)
   have MW3 := Lib.hid (show w.heap.size ≤ V3.heap.size from bg3.out.size)
   generalize V3.heap.size = M at T3 nM3 bM3 xs3 MW3
   have mb3 : M ≠ b := by omega
   have mN3 : ¬ N = M := by omega
   have Nm3 : ¬ M = N := by omega
   have xM3 : ¬ b = M := by omega
   have LM3 := Lib.hid T3
   have LN3 := Lib.hid (L3.out.keep hbW4)
   have bh3 := Lib.hid (bg3.out.trans (Bag.of hbW4))
   have ph3 := Lib.hid (ps3.out.keep hbW4)
   clear T3 hbW4
   have K5 := Lib.hid (show itX (k - 0) q = Q ∧ Bag b w W4 ∧ Psr W4 b A ts.length c j3 en wr3 e3 p3 d3 ∧ j3 ≤ ts.length ∧ XFree W4 N 0 zv ⟨#[]⟩ none 0 0 ∧ XFree W4 M o3 ⟨vk3, vn3, vs3, vt3, vm3⟩ nm3 A3 n3 c3 ∧ XRes (fun k => (P k ∧ k ≠ N) ∧ k ≠ M) ts en wo d q o3 ⟨vk3, vn3, vs3, vt3, vm3⟩ nm3 A3 n3 ok3 W4 j3 wr3 e3 p3 d3 from ⟨HQ.out, bh3.out, ph3.out, hj3, LN3.out, LM3.out, xr3.out.move xs3.out⟩)
   clear hW CS CE HQ
   go_wp2_with fail
   go_loopg [6, 19] (k + 1) (fun g okv sv wq => ∃ (s : Nat) (q' : PR (Ex × Nat)) (j : Nat) (wr' e' p' d' o vk vn vs : Int) (vt : ByteArray) (vm : Int) (nm : ByteArray) (A' : Option Addr) (n' c' : Nat) (ok : Bool), okv = .bool ok ∧ sv = .int .i64 s ∧ s ≤ k ∧ Hid (g = k + 1 - s) ∧ Hid (itX (k - s) q' = Q ∧ Bag b w wq ∧ Psr wq b A ts.length c j en wr' e' p' d' ∧ j ≤ ts.length ∧ XFree wq N 0 zv ⟨#[]⟩ none 0 0 ∧ XFree wq M o ⟨vk, vn, vs, vt, vm⟩ nm A' n' c' ∧ XRes (fun k => (P k ∧ k ≠ N) ∧ k ≠ M) ts en wo d q' o ⟨vk, vn, vs, vt, vm⟩ nm A' n' ok wq j wr' e' p' d'))
   case atStart => exact ⟨0, q, j3, wr3, e3, p3, d3, o3, vk3, vn3, vs3, vt3, vm3, nm3, A3, n3, c3, ok3, rfl, rfl, Nat.zero_le _, Lib.hid (by omega), K5⟩
   case round =>
    obtain ⟨s, q', j, wr', e', p', d', o, vk, vn, vs, vt, vm, nm, A', n', c', ok, rfl, rfl, hsk, hg, hI⟩ := hrel
    have wk : IntKind.i64.wrap ((s : Int) + 1) = ((s + 1 : Nat) : Int) := by rw [IntKind.wrap_i64]; have := KC.out.2.1; omega
    clear K5 xr3 LM3 LN3 bh3 ph3 xs3 K0
    rcases Nat.lt_or_ge s k with hlt | hge
    ·have hlti : (s : Int) < (k : Int) := by omega
     have hks : k - s = (k - (s + 1)) + 1 := by omega
     cases q' with
     | bad r f =>
      obtain rfl : ok = false := hI.out.2.2.2.2.2.2.1
      have hI2 := Lib.hid (show itX (k - (s + 1)) (.bad r f) = Q from by have := hI.out.1; rw [hks] at this; exact this)
      go_wp2_with fail
      go_roundg (k + 1 - (s + 1))
      case measure => have := hg.out; omega
      case rel => exact ⟨s + 1, .bad r f, j, wr', e', p', d', o, vk, vn, vs, vt, vm, nm, A', n', c', false, rfl, rfl, hlt, Lib.hid rfl, Lib.hid ⟨hI2.out, hI.out.2⟩⟩
     | ok y r =>
      obtain ⟨hI1, hbg, hps, hj, hLN, hLM, hxr⟩ := hI.out
      obtain ⟨rfl, rfl, hv, rfl, rfl, hl, hdr, hwr, rfl, rfl, rfl, hpp⟩ : ok = true ∧ o = y.1.op ∧ _ = y.1.v ∧ nm = bytesOf y.1.nm ∧ n' = y.1.ks.length ∧ Lie _ _ A' y.1.ks ∧ ts.drop j = r ∧ wr' = wo ∧ e' = 0 ∧ p' = y.2 ∧ d' = d ∧ y.2 ≤ 4096 := hxr
      replace hwr := hwr.symm
      subst hwr
      have hI2 := Lib.hid (show itX (k - (s + 1)) (cmpX (.mk 3 zv [] [y.1]) y.2 (ts.drop j)) = Q from by have := hI1; rw [hks] at this; rw [hdr]; exact this)
      have hNew := Lib.hid (show ((P wr.heap.size ∧ wr.heap.size ≠ N) ∧ wr.heap.size ≠ M) from ⟨⟨KPw.out _ hbg.size, by have := hLN.1; omega⟩, by have := hLM.1; omega⟩)
      have hNw := Lib.hid (show ∀ q, wr.heap.size ≤ q → ((P q ∧ q ≠ N) ∧ q ≠ M) from fun q hq => ⟨⟨KPw.out _ (Nat.le_trans hbg.size hq), by have := hLN.1; omega⟩, by have := hLM.1; omega⟩)
      have CPT := Lib.hid fun (ty : TypeId) => (show Calls Tryz.prog 92 #[.pointer (some ⟨b, 0, none⟩), .int .i64 3, .slice (some ⟨wr.heap.size, 0, none⟩) 1 1] (wr.alloc (.cells #[.int .i64 y.1.op, .int .i64 vk, .int .i64 vn, .int .i64 vs, .string vt, .int .i64 vm, .string (bytesOf y.1.nm), .slice A' y.1.ks.length c'] ty)) (XOut (fun k => (P k ∧ k ≠ N) ∧ k ≠ M) ts b A c en wo d (cmpX (.mk 3 zv [] [y.1]) y.2 (ts.drop j)) (wr.alloc (.cells #[.int .i64 y.1.op, .int .i64 vk, .int .i64 vn, .int .i64 vs, .string vt, .int .i64 vm, .string (bytesOf y.1.nm), .slice A' y.1.ks.length c'] ty))) from by
       have hB := (Bel.refl wr).alloc (.cells #[.int .i64 y.1.op, .int .i64 vk, .int .i64 vn, .int .i64 vs, .string vt, .int .i64 vm, .string (bytesOf y.1.nm), .slice A' y.1.ks.length c'] ty)
       refine part_any (fun k => (P k ∧ k ≠ N) ∧ k ≠ M) 3 [y.1] (some ⟨wr.heap.size, 0, none⟩) 1 ts _ b A c j en wo y.2 d ((KC.out.bag hbg).keep hB) (hps.keep hB) hj ?_ (by simp) (by simp) (fun h => hPN h.1) (fun k hk => hNw.out k (Nat.le_trans hB.size hk)) hpp
       refine lie_mk hNew.out (by simp) fun q x hx => ?_
       cases q with
       | zero =>
        obtain rfl : y.1 = x := by simpa using hx
        refine ⟨A', c', ?_, (hl.keep hB).weak fun k h _ => h⟩
        have hE : ExAt (wr.alloc (.cells #[.int .i64 y.1.op, .int .i64 vk, .int .i64 vn, .int .i64 vs, .string vt, .int .i64 vm, .string (bytesOf y.1.nm), .slice A' y.1.ks.length c'] ty)) wr.heap.size 0 y.1.op ⟨vk, vn, vs, vt, vm⟩ (bytesOf y.1.nm) A' y.1.ks.length c' := by simp [ExAt, go_sem]
        rw [← hv]
        simpa using hE
       | succ q => simp at hx)
      have BG := Lib.hid hbg
      have LN := Lib.hid hLN
      have LM := Lib.hid hLM
      have hMw : w.heap.size ≤ M := MW3.out
      obtain ⟨tz, ⟨t0, t1, t2, t3, t4, t5, t6, t7⟩, ⟨tf0, tf1, tf2, tf3, tf4, tf5, tf6, tf7⟩⟩ := LM.out
      simp only [Nat.zero_add] at t0 t1 t2 t3 t4 t5 t6 t7
      clear hI hI1 hNew hps hbg hLN hLM hdr
      generalize cmpX (.mk 3 zv [] [y.1]) y.2 (ts.drop j) = q2 at CPT hI2
      go_wp2_with (go_at_call 92; (with_reducible refine Calls.mono (CPT.out _) ?_); rintro ee V7 ⟨j7, wr7, e7, p7, d7, o7, v7, nm7, A7, n7, c7, ok7, hb7, hr7, hj7, rfl, hx7⟩; have bg7 := Lib.hid ((BG.out.trans (Bag.of ((Bel.refl wr).alloc _))).trans hb7); have ps7 := Lib.hid hr7; have xr7 := Lib.hid hx7; obtain ⟨vk7, vn7, vs7, vt7, vm7⟩ := v7; have LN7 := Lib.hid ((LN.out.keep ((Bel.refl wr).alloc _)).bag hb7 nb); have LM7 := Lib.hid ((LM.out.keep ((Bel.refl wr).alloc _)).bag hb7 mb3); obtain ⟨uz, ⟨u0, u1, u2, u3, u4, u5, u6, u7⟩, ⟨uf0, uf1, uf2, uf3, uf4, uf5, uf6, uf7⟩⟩ := LM7.out; simp only [Nat.zero_add] at u0 u1 u2 u3 u4 u5 u6 u7; clear hb7 hr7 hx7)
      go_roundg (k + 1 - (s + 1))
      case measure => have := hg.out; omega
      case rel =>
       refine ⟨s + 1, q2, j7, wr7, e7, p7, d7, o7, vk7, vn7, vs7, vt7, vm7, nm7, A7, n7, c7, ok7, rfl, rfl, hlt, Lib.hid rfl, Lib.hid ⟨hI2.out, bg7.out.over (bag8 _ _ _ _ _ _ _ _) hMw, ps7.out.apart (bag8 _ _ _ _ _ _ _ _) xM3, hj7, LN7.out.bag (bag8 _ _ _ _ _ _ _ _) mN3, LM7.out.put _ _ _ _ _ _ _ _ _ _, ?_⟩⟩
       exact xr7.out.move fun l hl => hl.bag (bag8 _ _ _ _ _ _ _ _) (fun h => h.2 rfl)
    ·obtain rfl : s = k := by omega
     have hI1 := hI.out.1
     rw [Nat.sub_self] at hI1
     obtain rfl : q' = Q := hI1
     have BG := Lib.hid hI.out.2.1
     have PS := Lib.hid hI.out.2.2.1
     have hj := hI.out.2.2.2.1
     have xr := Lib.hid hI.out.2.2.2.2.2.2
     obtain ⟨tz, ⟨t0, t1, t2, t3, t4, t5, t6, t7⟩, ⟨tf0, tf1, tf2, tf3, tf4, tf5, tf6, tf7⟩⟩ := hI.out.2.2.2.2.2.1
     simp only [Nat.zero_add] at t0 t1 t2 t3 t4 t5 t6 t7
     obtain ⟨sz, ⟨s0, s1, s2, s3, s4, s5, s6, s7⟩, ⟨sf0, sf1, sf2, sf3, sf4, sf5, sf6, sf7⟩⟩ := hI.out.2.2.2.2.1
     simp only [zv, Nat.zero_add] at s0 s1 s2 s3 s4 s5 s6 s7
     clear hI
     go_wp2_with fail
     refine bodyPost_ret (v := .tuple #[exV o ⟨vk, vn, vs, vt, vm⟩ nm A' n' c', .bool ok]) (by simp [results, Tryz.results138, go_sem, zv, sz, s0, s1, s2, s3, s4, s5, s6, s7]) rfl (xout_mk (j := j) (wr' := wr') (e' := e') (p' := p') (d' := d') ?_ ?_ hj rfl ?_)
     ·repeat (first | with_reducible exact BG.out | refine Bag.new ?_ NW.out _)
     ·repeat (first | with_reducible exact PS.out | refine Psr.far ?_ xN _)
     ·intro _
      refine XRes.move xr.out fun l hl => (hl.bag (b := N) ?_ (fun h => hPNN h.1)).weak fun k h _ => h.1.1
      repeat (first | with_reducible exact Bag.refl N _ | refine Bag.setCell (b := N) ?_ rfl _)
end Go.Proofs.YtjckpkamhdbcnaaGreatDoor
namespace Go.Proofs.YtjckpkamhdbcnaaGreatDoor
set_option linter.unusedSimpArgs false
set_option linter.unusedVariables false
open Go.RowKit
/-! The parser: takes. -/
def opKd (o : Int) : Int := if o = 14 ∨ o = 15 then 4 else 5
set_option maxRecDepth 100000 in
set_option maxHeartbeats 8000000 in
theorem takes_sign (o : Int) (l : List UInt8) (h1 : ¬ o = 14) (h2 : ¬ o = 15) (ts : List Tok) (w : World) (b : Nat) (A : Option Addr) (c i : Nat) (en wr p d : Int) (hC : Cx ts A b w) (hr : Psr w b A ts.length c i en wr 0 p d) (hi : i ≤ ts.length) :
  Calls Tryz.prog 141 #[.pointer (some ⟨b, 0, none⟩), .agg #[.int .i64 o, .string (bytesOf l)]] w fun r w' => r = .returned (.bool (isK 5 l (ts.drop i))) ∧ But b w w' ∧ Psr w' b A ts.length c (if isK 5 l (ts.drop i) = true then i + 1 else i) en wr 0 p d := by
 have hbw := hr.1.1
 obtain ⟨j, hj⟩ : ∃ j, j = if isK 5 l (ts.drop i) = true then i + 1 else i := ⟨_, rfl⟩
 rw [← hj]
 have CS := fun X (hX : Bel w X) => sign_any ts l X b A c i j en wr 0 (hC.keep hX).toks (hr.keep hX).1 hi hC.2.1 hj
 clear hj
 generalize isK 5 l (ts.drop i) = kb at CS ⊢
 replace CS := Lib.hid CS
 have KR := Lib.hid hr
 have eg : ∀ args w, (callFunc 176 args).run Tryz.prog w = .ok (.enter 176 args) w := enters_of Tryz.func176 (by kernel_rfl) rfl
 clear hr hC hi
 go_enter Tryz.func141, Tryz.ntmps141
 go_upto_region 1 with fail
 refine under_name ((Bel.refl w).alloc _) fun W hcc hf hz hb => ?_
 have c0 : W.cell? ⟨w.heap.size, 0, none⟩ = some (.int .i64 o) := by simp [hcc, go_sem]
 have c1 : W.cell? ⟨w.heap.size, 1, none⟩ = some (.string (bytesOf l)) := by simp [hcc, go_sem]
 clear hcc hf hz
 have HB := Lib.hid hb
 clear hb
 generalize w.heap.size = N at c0 c1 ⊢
 go_wp2_with (go_at_fn 176; (with_reducible refine Calls.mono (CS.out _ HB.out) ?_); rintro ee V1 ⟨rfl, hb1, hr1⟩; have hq1 := Lib.hid (And.intro hb1 hr1); clear hb1 hr1)
 ·exfalso
  have h : (o == 14) = true ∨ (o == 15) = true := by assumption
  rcases h with h | h
  ·exact h1 (by simpa using h)
  ·exact h2 (by simpa using h)
 go_ret
 exact ⟨rfl, (But.of HB.out).trans hq1.out.1, (KR.out.keep HB.out).but hq1.out.1 hq1.out.2⟩
set_option maxRecDepth 100000 in
set_option maxHeartbeats 8000000 in
theorem takes_and (o : Int) (l : List UInt8) (h1 : o = 14) (ts : List Tok) (w : World) (b : Nat) (A : Option Addr) (c i : Nat) (en wr p d : Int) (hC : Cx ts A b w) (hr : Psr w b A ts.length c i en wr 0 p d) (hi : i ≤ ts.length) :
  Calls Tryz.prog 141 #[.pointer (some ⟨b, 0, none⟩), .agg #[.int .i64 o, .string (bytesOf l)]] w fun r w' => r = .returned (.bool (isK 4 l (ts.drop i))) ∧ But b w w' ∧ Psr w' b A ts.length c (if isK 4 l (ts.drop i) = true then i + 1 else i) en wr 0 p d := by
 have hbw := hr.1.1
 subst h1
 obtain ⟨j, hj⟩ : ∃ j, j = if isK 4 l (ts.drop i) = true then i + 1 else i := ⟨_, rfl⟩
 rw [← hj]
 have CS := fun X (hX : Bel w X) => word_any ts l X b A c i j en wr 0 (hC.keep hX).toks (hr.keep hX).1 hi hC.2.1 hj
 clear hj
 generalize isK 4 l (ts.drop i) = kb at CS ⊢
 replace CS := Lib.hid CS
 have KR := Lib.hid hr
 have eg : ∀ args w, (callFunc 90 args).run Tryz.prog w = .ok (.enter 90 args) w := enters_of Tryz.func90 (by kernel_rfl) rfl
 clear hr hC hi
 go_enter Tryz.func141, Tryz.ntmps141
 go_upto_region 1 with fail
 refine under_name ((Bel.refl w).alloc _) fun W hcc hf hz hb => ?_
 have c0 : W.cell? ⟨w.heap.size, 0, none⟩ = some (.int .i64 14) := by simp [hcc, go_sem]
 have c1 : W.cell? ⟨w.heap.size, 1, none⟩ = some (.string (bytesOf l)) := by simp [hcc, go_sem]
 clear hcc hf hz
 have HB := Lib.hid hb
 clear hb
 generalize w.heap.size = N at c0 c1 ⊢
 go_wp2_with (go_at_fn 90; (with_reducible refine Calls.mono (CS.out _ HB.out) ?_); rintro ee V1 ⟨rfl, hb1, hr1⟩; have hq1 := Lib.hid (And.intro hb1 hr1); clear hb1 hr1)
 go_ret
 exact ⟨rfl, (But.of HB.out).trans hq1.out.1, (KR.out.keep HB.out).but hq1.out.1 hq1.out.2⟩
set_option maxRecDepth 100000 in
set_option maxHeartbeats 8000000 in
theorem takes_or (o : Int) (l : List UInt8) (h1 : o = 15) (ts : List Tok) (w : World) (b : Nat) (A : Option Addr) (c i : Nat) (en wr p d : Int) (hC : Cx ts A b w) (hr : Psr w b A ts.length c i en wr 0 p d) (hi : i ≤ ts.length) :
  Calls Tryz.prog 141 #[.pointer (some ⟨b, 0, none⟩), .agg #[.int .i64 o, .string (bytesOf l)]] w fun r w' => r = .returned (.bool (isK 4 l (ts.drop i))) ∧ But b w w' ∧ Psr w' b A ts.length c (if isK 4 l (ts.drop i) = true then i + 1 else i) en wr 0 p d := by
 have hbw := hr.1.1
 subst h1
 obtain ⟨j, hj⟩ : ∃ j, j = if isK 4 l (ts.drop i) = true then i + 1 else i := ⟨_, rfl⟩
 rw [← hj]
 have CS := fun X (hX : Bel w X) => word_any ts l X b A c i j en wr 0 (hC.keep hX).toks (hr.keep hX).1 hi hC.2.1 hj
 clear hj
 generalize isK 4 l (ts.drop i) = kb at CS ⊢
 replace CS := Lib.hid CS
 have KR := Lib.hid hr
 have eg : ∀ args w, (callFunc 90 args).run Tryz.prog w = .ok (.enter 90 args) w := enters_of Tryz.func90 (by kernel_rfl) rfl
 clear hr hC hi
 go_enter Tryz.func141, Tryz.ntmps141
 go_upto_region 1 with fail
 refine under_name ((Bel.refl w).alloc _) fun W hcc hf hz hb => ?_
 have c0 : W.cell? ⟨w.heap.size, 0, none⟩ = some (.int .i64 15) := by simp [hcc, go_sem]
 have c1 : W.cell? ⟨w.heap.size, 1, none⟩ = some (.string (bytesOf l)) := by simp [hcc, go_sem]
 clear hcc hf hz
 have HB := Lib.hid hb
 clear hb
 generalize w.heap.size = N at c0 c1 ⊢
 go_wp2_with (go_at_fn 90; (with_reducible refine Calls.mono (CS.out _ HB.out) ?_); rintro ee V1 ⟨rfl, hb1, hr1⟩; have hq1 := Lib.hid (And.intro hb1 hr1); clear hb1 hr1)
 go_ret
 exact ⟨rfl, (But.of HB.out).trans hq1.out.1, (KR.out.keep HB.out).but hq1.out.1 hq1.out.2⟩
theorem takes_any (o : Int) (l : List UInt8) (ts : List Tok) (w : World) (b : Nat) (A : Option Addr) (c i : Nat) (en wr p d : Int) (hC : Cx ts A b w) (hr : Psr w b A ts.length c i en wr 0 p d) (hi : i ≤ ts.length) :
  Calls Tryz.prog 141 #[.pointer (some ⟨b, 0, none⟩), .agg #[.int .i64 o, .string (bytesOf l)]] w fun r w' => r = .returned (.bool (isK (opKd o) l (ts.drop i))) ∧ But b w w' ∧ Psr w' b A ts.length c (if isK (opKd o) l (ts.drop i) = true then i + 1 else i) en wr 0 p d := by
 by_cases h1 : o = 14
 ·rw [show opKd o = 4 from if_pos (.inl h1)]
  exact takes_and o l h1 ts w b A c i en wr p d hC hr hi
 ·by_cases h2 : o = 15
  ·rw [show opKd o = 4 from if_pos (.inr h2)]
   exact takes_or o l h2 ts w b A c i en wr p d hC hr hi
  ·rw [show opKd o = 5 from if_neg (by rintro (h | h) <;> contradiction)]
   exact takes_sign o l h1 h2 ts w b A c i en wr p d hC hr hi
end Go.Proofs.YtjckpkamhdbcnaaGreatDoor
namespace Go.Proofs.YtjckpkamhdbcnaaGreatDoor
set_option linter.unusedSimpArgs false
set_option linter.unusedVariables false
open Go.RowKit
/-! The parser: operators, the first of them that is next. -/
/-- The operators of a strength. -/
def opL (k : Nat) : List (Int × List UInt8) :=
 if k = 1 then [(15, [111, 114])] else if k = 2 then [(14, [97, 110, 100])]
 else if k = 3 then [(8, [61]), (9, [33, 61]), (10, [60]), (11, [60, 61]), (12, [62]), (13, [62, 61])]
 else if k = 4 then [(4, [43]), (5, [45])] else if k = 5 then [(6, [42]), (7, [47])] else []
/-- They lie in a block. -/
def OpAt (w : World) (B : Nat) : Nat → List (Int × List UInt8) → Prop
 | _, [] => True
 | o, x :: t => w.cell? ⟨B, o, none⟩ = some (.int .i64 x.1) ∧ w.cell? ⟨B, o + 1, none⟩ = some (.string (bytesOf x.2)) ∧ OpAt w B (o + 2) t
theorem OpAt.same {w w' : World} {B : Nat} (hc : ∀ o, w'.cell? ⟨B, o, none⟩ = w.cell? ⟨B, o, none⟩) : ∀ {o : Nat} {l : List (Int × List UInt8)}, OpAt w B o l → OpAt w' B o l
 | o, [], h => trivial
 | o, x :: t, h => ⟨by rw [hc]; exact h.1, by rw [hc]; exact h.2.1, OpAt.same hc h.2.2⟩
theorem OpAt.get {w : World} {B : Nat} : ∀ {o : Nat} {l : List (Int × List UInt8)} {j : Nat} {x : Int × List UInt8}, OpAt w B o l → l[j]? = some x → w.cell? ⟨B, o + j * 2, none⟩ = some (.int .i64 x.1) ∧ w.cell? ⟨B, o + j * 2 + 1, none⟩ = some (.string (bytesOf x.2))
 | o, [], j, x, h, hx => by simp at hx
 | o, y :: t, 0, x, h, hx => by
  obtain rfl : y = x := by simpa using hx
  exact ⟨by simpa using h.1, by simpa using h.2.1⟩
 | o, y :: t, j + 1, x, h, hx => by
  have := OpAt.get (j := j) (x := x) h.2.2 (by simpa using hx)
  rw [show o + (j + 1) * 2 = o + 2 + j * 2 by omega]
  exact this
/-- The first that is next. -/
def fsO : List (Int × List UInt8) → List Tok → Nat → Option (Nat × Int)
 | [], _, _ => none
 | x :: t, r, j => if isK (opKd x.1) x.2 r = true then some (j, x.1) else fsO t r (j + 1)
theorem fsO_get : ∀ (l : List (Int × List UInt8)) (r : List Tok) (j : Nat) {q : Nat × Int}, fsO l r j = some q → ∃ x, l[q.1 - j]? = some x ∧ x.1 = q.2 ∧ j ≤ q.1 ∧ isK (opKd x.1) x.2 r = true
 | [], r, j, q, h => by cases h
 | y :: t, r, j, q, h => by
  rw [fsO] at h
  by_cases h1 : isK (opKd y.1) y.2 r = true
  ·rw [if_pos h1] at h
   obtain rfl := Option.some.inj h
   exact ⟨y, by simp, rfl, Nat.le_refl _, h1⟩
  ·rw [if_neg h1] at h
   obtain ⟨x, hx, h2, h3, h4⟩ := fsO_get t r (j + 1) h
   refine ⟨x, ?_, h2, by omega, h4⟩
   rw [show q.1 - j = (q.1 - (j + 1)) + 1 by omega]
   simpa using hx
theorem fsO_opR (k : Nat) (r : List Tok) (h1 : 1 ≤ k) (h5 : k ≤ 5) : (fsO (opL k) r 0).map (·.2) = opR k r := by
 rcases (show k = 1 ∨ k = 2 ∨ k = 3 ∨ k = 4 ∨ k = 5 from by omega) with rfl | rfl | rfl | rfl | rfl <;>
  simp only [opL, opR, fsO, opKd, isS] <;> simp only [fsO, opKd, reduceIte, Nat.reduceEqDiff, Int.reduceEq, or_true, true_or, or_self, or_false, false_or] <;> (repeat' split) <;> first | rfl | contradiction | (simp_all; done)
set_option maxRecDepth 100000 in
set_option maxHeartbeats 8000000 in
theorem operators_1 (w : World) : Calls Tryz.prog 139 #[.int .i64 1] w fun r w' => ∃ B, r = .returned (.slice (some ⟨B, 0, none⟩) 1 1) ∧ Bel w w' ∧ w.heap.size ≤ B ∧ B < w'.heap.size ∧ OpAt w' B 0 (opL 1) := by
 go_enter Tryz.func139, Tryz.ntmps139
 go_wp2_with fail
 go_ret
 exact ⟨w.heap.size, rfl, (Bel.refl w).alloc _, Nat.le_refl _, by simp, by simp [OpAt, opL, bytesOf, go_sem]⟩
set_option maxRecDepth 100000 in
set_option maxHeartbeats 8000000 in
theorem operators_2 (w : World) : Calls Tryz.prog 139 #[.int .i64 2] w fun r w' => ∃ B, r = .returned (.slice (some ⟨B, 0, none⟩) 1 1) ∧ Bel w w' ∧ w.heap.size ≤ B ∧ B < w'.heap.size ∧ OpAt w' B 0 (opL 2) := by
 go_enter Tryz.func139, Tryz.ntmps139
 go_wp2_with fail
 go_ret
 exact ⟨w.heap.size, rfl, (Bel.refl w).alloc _, Nat.le_refl _, by simp, by simp [OpAt, opL, bytesOf, go_sem]⟩
set_option maxRecDepth 100000 in
set_option maxHeartbeats 8000000 in
theorem operators_3 (w : World) : Calls Tryz.prog 139 #[.int .i64 3] w fun r w' => ∃ B, r = .returned (.slice (some ⟨B, 0, none⟩) 6 6) ∧ Bel w w' ∧ w.heap.size ≤ B ∧ B < w'.heap.size ∧ OpAt w' B 0 (opL 3) := by
 go_enter Tryz.func139, Tryz.ntmps139
 go_wp2_with fail
 go_ret
 exact ⟨w.heap.size, rfl, (Bel.refl w).alloc _, Nat.le_refl _, by simp, by simp [OpAt, opL, bytesOf, go_sem]⟩
set_option maxRecDepth 100000 in
set_option maxHeartbeats 8000000 in
theorem operators_4 (w : World) : Calls Tryz.prog 139 #[.int .i64 4] w fun r w' => ∃ B, r = .returned (.slice (some ⟨B, 0, none⟩) 2 2) ∧ Bel w w' ∧ w.heap.size ≤ B ∧ B < w'.heap.size ∧ OpAt w' B 0 (opL 4) := by
 go_enter Tryz.func139, Tryz.ntmps139
 go_wp2_with fail
 go_ret
 exact ⟨w.heap.size, rfl, (Bel.refl w).alloc _, Nat.le_refl _, by simp, by simp [OpAt, opL, bytesOf, go_sem]⟩
set_option maxRecDepth 100000 in
set_option maxHeartbeats 8000000 in
theorem operators_5 (w : World) : Calls Tryz.prog 139 #[.int .i64 5] w fun r w' => ∃ B, r = .returned (.slice (some ⟨B, 0, none⟩) 2 2) ∧ Bel w w' ∧ w.heap.size ≤ B ∧ B < w'.heap.size ∧ OpAt w' B 0 (opL 5) := by
 go_enter Tryz.func139, Tryz.ntmps139
 go_wp2_with fail
 go_ret
 exact ⟨w.heap.size, rfl, (Bel.refl w).alloc _, Nat.le_refl _, by simp, by simp [OpAt, opL, bytesOf, go_sem]⟩
theorem operators_any (k : Nat) (h1 : 1 ≤ k) (h5 : k ≤ 5) (w : World) : Calls Tryz.prog 139 #[.int .i64 k] w fun r w' => ∃ B, r = .returned (.slice (some ⟨B, 0, none⟩) (opL k).length (opL k).length) ∧ Bel w w' ∧ w.heap.size ≤ B ∧ B < w'.heap.size ∧ OpAt w' B 0 (opL k) := by
 rcases (show k = 1 ∨ k = 2 ∨ k = 3 ∨ k = 4 ∨ k = 5 from by omega) with rfl | rfl | rfl | rfl | rfl
 ·exact operators_1 w
 ·exact operators_2 w
 ·exact operators_3 w
 ·exact operators_4 w
 ·exact operators_5 w
end Go.Proofs.YtjckpkamhdbcnaaGreatDoor
namespace Go.Proofs.YtjckpkamhdbcnaaGreatDoor
set_option linter.unusedSimpArgs false
set_option linter.unusedVariables false
open Go.RowKit
/-! The parser: which operator is next. -/
def idxI (q : Option (Nat × Int)) : Int := match q with
 | some q => q.1
 | none => -1
def idxJ (q : Option (Nat × Int)) (i : Nat) : Nat := match q with
 | some _ => i + 1
 | none => i
theorem takes_enters : ∀ args w, (callFunc 141 args).run Tryz.prog w = .ok (.enter 141 args) w := enters_of Tryz.func141 (by kernel_rfl) rfl
theorem fsO_hit {l : List (Int × List UInt8)} {r : List Tok} {j : Nat} {x : Int × List UInt8} {t : List (Int × List UInt8)} (hl : l.drop j = x :: t) (h : isK (opKd x.1) x.2 r = true) (hf : fsO l r 0 = fsO (l.drop j) r j) : fsO l r 0 = some (j, x.1) := by
 rw [hf, hl, fsO, if_pos h]
theorem fsO_miss {l : List (Int × List UInt8)} {r : List Tok} {j : Nat} {x : Int × List UInt8} {t : List (Int × List UInt8)} (hl : l.drop j = x :: t) (h : isK (opKd x.1) x.2 r = false) (hf : fsO l r 0 = fsO (l.drop j) r j) : fsO l r 0 = fsO (l.drop (j + 1)) r (j + 1) := by
 rw [hf, ← List.tail_drop, hl, fsO, if_neg (by rw [h]; decide), List.tail_cons]
set_option maxRecDepth 100000 in
set_option maxHeartbeats 8000000 in
theorem indexO_any (l : List (Int × List UInt8)) (hll : l.length ≤ 100) (ts : List Tok) (w : World) (b : Nat) (A : Option Addr) (c i : Nat) (en wr0 p d : Int) (B : Nat) (hC : Cx ts A b w) (hr : Psr w b A ts.length c i en wr0 0 p d) (hi : i ≤ ts.length) (hB : B < w.heap.size) (hne : B ≠ b) (hO : OpAt w B 0 l) :
  Calls Tryz.prog 140 #[.slice (some ⟨B, 0, none⟩) l.length l.length, .func (.func 141) #[.pointer (some ⟨b, 0, none⟩)] #[]] w fun r w' => r = .returned (.int .i64 (idxI (fsO l (ts.drop i) 0))) ∧ But b w w' ∧ Psr w' b A ts.length c (idxJ (fsO l (ts.drop i) 0) i) en wr0 0 p d := by
 have hbw := hr.1.1
 have eg := takes_enters
 have KC := Lib.hid hC
 have KO := Lib.hid hO
 have K0 := Lib.hid (And.intro (But.refl b w) hr)
 obtain ⟨q, hq⟩ : ∃ q, fsO l (ts.drop i) 0 = q := ⟨_, rfl⟩
 rw [hq]
 have HQ := Lib.hid (show fsO (l.drop 0) (ts.drop i) 0 = q from hq)
 have HP := Lib.hid hq
 clear hC hr hO hq
 generalize hn : l.length = n
 have hn' : l.length = n := hn
 rw [hn] at hll
 go_enter Tryz.func140, Tryz.ntmps140
 go_wp2_with fail
 go_loopg [5, 8] n (fun g _ s8 wr => ∃ kk : Nat, kk ≤ n ∧ Hid (g = n - kk) ∧ s8 = .int .i64 kk ∧ Hid (fsO (l.drop kk) (ts.drop i) kk = q) ∧ Hid (But b w wr ∧ Psr wr b A ts.length c i en wr0 0 p d))
 case atStart => exact ⟨0, Nat.zero_le _, Lib.hid rfl, rfl, HQ, K0⟩
 case round =>
  obtain ⟨kk, hkk, hg, rfl, hF, hW⟩ := hrel
  have hnn : (n : Int) ≤ 100 := by omega
  rcases Nat.lt_or_ge kk n with hlt | hge
  ·have hlti : (kk : Int) < (n : Int) := by omega
   have hlk : kk < l.length := by omega
   have hld : l.drop kk = l[kk] :: l.drop (kk + 1) := List.drop_eq_getElem_cons hlk
   have hgt : l[kk]? = some l[kk] := List.getElem?_eq_getElem hlk
   have wk : IntKind.i64.wrap ((kk : Int) + 1) = ((kk + 1 : Nat) : Int) := by rw [IntKind.wrap_i64]; omega
   generalize l[kk] = x at hld hgt
   obtain ⟨c0, c1⟩ := (KO.out.same fun o => hW.out.1.cell (p := ⟨B, o, none⟩) hB hne).get hgt
   simp only [Nat.zero_add] at c0 c1
   have CT := takes_any x.1 x.2 ts wr b A c i en wr0 p d (KC.out.bag hW.out.1.bag) hW.out.2 hi
   cases hx : isK (opKd x.1) x.2 (ts.drop i) with
   | true =>
    have hq2 := Lib.hid (show q = some (kk, x.1) from by rw [← HP.out]; exact fsO_hit hld hx (by rw [HP.out, hF.out]))
    rw [hx, if_pos rfl] at CT
    replace CT := Lib.hid CT
    clear hld hgt hx
    go_wp2_with (go_at_fn 141; (with_reducible refine Calls.mono CT.out ?_); rintro ee V1 ⟨rfl, hb1, hr1⟩; have hq1 := Lib.hid (And.intro (hW.out.1.trans hb1) hr1); clear hb1 hr1)
    go_ret
    rw [hq2.out]
    exact ⟨rfl, hq1.out⟩
   | false =>
    have hF2 := Lib.hid (show fsO (l.drop (kk + 1)) (ts.drop i) (kk + 1) = q from by rw [← fsO_miss hld hx (by rw [HP.out, hF.out]), HP.out])
    rw [hx, if_neg (by decide)] at CT
    replace CT := Lib.hid CT
    clear hld hgt hx
    go_wp2_with (go_at_fn 141; (with_reducible refine Calls.mono CT.out ?_); rintro ee V1 ⟨rfl, hb1, hr1⟩; have hq1 := Lib.hid (And.intro (hW.out.1.trans hb1) hr1); clear hb1 hr1)
    go_roundg (n - (kk + 1))
    case measure => have := hg.out; omega
    case rel => exact ⟨kk + 1, by omega, Lib.hid rfl, rfl, hF2, hq1⟩
  ·obtain rfl : kk = n := by omega
   have hq2 := Lib.hid (show q = none from by rw [← hF.out, List.drop_eq_nil_of_le (by omega)]; rfl)
   go_wp2_with fail
   go_ret
   rw [hq2.out]
   exact ⟨rfl, hW.out⟩
end Go.Proofs.YtjckpkamhdbcnaaGreatDoor
