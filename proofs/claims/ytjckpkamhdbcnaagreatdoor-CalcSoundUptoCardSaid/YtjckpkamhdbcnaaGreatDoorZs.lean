import Derived.Test.YtjckpkamhdbcnaaGreatDoorZr
namespace Go.Proofs.YtjckpkamhdbcnaaGreatDoor
set_option maxRecDepth 100000
set_option maxHeartbeats 64000000
set_option linter.unusedSimpArgs false
set_option linter.unusedVariables false
section
open Go.RowKit
theorem Qg1 (n : Nat) (IC : XChn 1 n) (P : Nat -> Prop) (ts : List Tok) (w : World) (b : Nat) (A : Option Addr) (c i : Nat) (en wo : Int) (p d : Nat) (hC : Cx ts A b w) (hr : Psr w b A ts.length c i en wo 0 p d) (hi : i <= ts.length) (hP : ¬ P b) (hPw : ∀ k, w.heap.size <= k -> P k) (hp : p <= 4096) (hd : d <= 64) (hfine : (parX (n + 1) .expr d p (ts.drop i)).fine) (h1 : isK 4 wIF (ts.drop i) = false) :
  Calls Tryz.prog 64 #[.pointer (some ⟨b, 0, none⟩)] w (XOut P ts b A c en wo d (parX (n + 1) .expr d p (ts.drop i)) w) := by
 have hbw := hr.1.1
 have KR := Hd hr
 have KC := Hd hC
 have KPw := Hd hPw
 rw [Qud h1] at hfine ⊢
 have h1h := Hd (show isK 4 [105, 102] (ts.drop i) = false from h1)
 have CE := Hd fun (Q : Nat -> Prop) (W0 : World) (hQ : ¬ Q b) (hQw : ∀ k, W0.heap.size <= k -> Q k) W (h0 : W0.heap.size <= W.heap.size) (hW : Bag b w W) (hR : Psr W b A ts.length c i en wo 0 p d) => IC 1 rfl Q ts W b A c i en wo p d (KC.out.bag hW) hR hi hQ (fun k hk => hQw k (Nat.le_trans h0 hk)) hp hd hfine
 generalize hq : parX n (.chain 1) d p (ts.drop i) = q at CE ⊢
 clear hfine hd hq h1 hC hr hPw
 have CA := fun X (hX : Bag b w X) (hR : Psr X b A ts.length c i en wo 0 p d) => Qbe ts [105, 102] X b A c i i en wo 0 (KC.out.bag hX).toks hR.1 hi KC.out.2.1 (by rw [iN (by rw [h1h.out]; decide)])
 rw [show isK 4 [105, 102] (ts.drop i) = false from h1h.out, show Qaa [105, 102] = (⟨#[105, 102]⟩ : ByteArray) from rfl] at CA
 replace CA := Hd CA
 go_enter Tryz.func64, Tryz.ntmps64
 go_upto_region 1 with fail
 refine uN ((Bel.refl w).alloc _) fun W hcc hf hz hb => ?_
 have T1 : Qab W w.heap.size 0 zv ⟨#[]⟩ none 0 0 := by simp [Qab, Qap, zv, hcc, hf, hz, go_sem]
 clear hcc hf hz
 have hwW : w.heap.size < W.heap.size := T1.1
 generalize hN : w.heap.size = N at T1 hwW ⊢
 have NW := Hd (show w.heap.size <= N from by omega)
 have nb : N ≠ b := by omega
 clear hN
 have xN : ¬ b = N := fun e => nb e.symm
 have K1 := Hd T1
 clear T1
 have KP := Hd (KR.out.keep hb)
 have B1 := Hd (Bag.of (b := b) hb)
 have hPN : ¬ (fun k => P k /\ k ≠ N) b := fun h => hP h.1
 have hPNN : ¬ (fun k => P k /\ k ≠ N) N := fun h => h.2 rfl
 have hPNw := Hd (show ∀ k, W.heap.size <= k -> (fun k => P k /\ k ≠ N) k from fun k hk => ⟨KPw.out k (by have := NW.out; omega), by omega⟩)
 go_upto_region 2 with (go_at_call 90; (with_reducible refine Calls.mono (CA.out _ B1.out KP.out) ?_); rintro ee V2 ⟨rfl, hbV2, hrV2⟩; have bg2 := Hd (B1.out.trans hbV2.bag); have ps2 := Hd (KP.out.but hbV2 hrV2); have L2 := Hd (K1.out.bag hbV2.bag nb); have sz2 := Hd hbV2.size; clear hbV2 hrV2)
 have CEX := Hd fun X (hX : X = V2) (hW : Bag b w X) (hR : Psr X b A ts.length c i en wo 0 p d) => CE.out (fun k => P k /\ k ≠ N) W hPN hPNw.out X (by rw [hX]; exact sz2.out) hW hR
 go_wp2_with (go_at_call 91; (with_reducible refine Calls.mono (CEX.out _ rfl bg2.out ps2.out) ?_); rintro ee V3 ⟨j3, wr3, e3, p3, d3, o3, v3, nm3, A3, n3, c3, ok3, hb3, hr3, hj3, rfl, hx3⟩; have bg3 := Hd (bg2.out.trans hb3); have ps3 := Hd hr3; have xr3 := Hd hx3; obtain ⟨vk3, vn3, vs3, vt3, vm3⟩ := v3; obtain ⟨sz, ⟨s0, s1, s2, s3, s4, s5, s6, s7⟩, ⟨sf0, sf1, sf2, sf3, sf4, sf5, sf6, sf7⟩⟩ := L2.out.bag hb3 nb; simp only [zv, Nat.zero_add] at s0 s1 s2 s3 s4 s5 s6 s7; clear hb3 hr3 hx3)
 refine pR (v := .tuple #[exV o3 ⟨vk3, vn3, vs3, vt3, vm3⟩ nm3 A3 n3 c3, .bool ok3]) (by simp [results, Tryz.results64, go_sem, zv, sz, s0, s1, s2, s3, s4, s5, s6, s7]) rfl (Qaq (j := j3) (wr' := wr3) (e' := e3) (p' := p3) (d' := d3) ?_ ?_ hj3 rfl ?_)
 ·repeat (first | with_reducible exact bg3.out | refine Bag.new ?_ NW.out _)
 ·repeat (first | with_reducible exact ps3.out | refine Psr.far ?_ xN _)
 intro _
 refine XRes.move xr3.out fun l hl => (hl.bag (b := N) ?_ hPNN).weak fun k h _ => h.1
 repeat (first | with_reducible exact Bag.refl N V3 | refine Bag.setCell (b := N) ?_ rfl _)
theorem Qg2 (n : Nat) (IE : XCon 64 .expr n) (P : Nat -> Prop) (ts : List Tok) (w : World) (b : Nat) (A : Option Addr) (c i : Nat) (en wo : Int) (p d : Nat) (hC : Cx ts A b w) (hr : Psr w b A ts.length c i en wo 0 p d) (hi : i <= ts.length) (hP : ¬ P b) (hPw : ∀ k, w.heap.size <= k -> P k) (hp : p <= 4096) (hd : d <= 64) (hfine : (parX (n + 1) .expr d p (ts.drop i)).fine) (h1 : isK 4 wIF (ts.drop i) = true) :
  Calls Tryz.prog 64 #[.pointer (some ⟨b, 0, none⟩)] w (XOut P ts b A c en wo d (parX (n + 1) .expr d p (ts.drop i)) w) := by
 have hbw := hr.1.1
 have KR := Hd hr
 have KC := Hd hC
 have KPw := Hd hPw
 rw [Quc h1] at hfine ⊢
 have h1h := Hd (show isK 4 [105, 102] (ts.drop i) = true from h1)
 have hil := Qd6 h1
 rw [List.tail_drop] at hfine ⊢
 have CE := Hd fun (Q : Nat -> Prop) (W0 : World) (hQ : ¬ Q b) (hQw : ∀ k, W0.heap.size <= k -> Q k) W (j pp : Nat) (hj : j <= ts.length) (hpp : pp <= 4096) (hf : (parX n .expr d pp (ts.drop j)).fine) (h0 : W0.heap.size <= W.heap.size) (hW : Bag b w W) (hR : Psr W b A ts.length c j en wo 0 pp d) => IE Q ts W b A c j en wo pp d (KC.out.bag hW) hR hj hQ (fun k hk => hQw k (Nat.le_trans h0 hk)) hpp hd hf
 have HQf := Hd hfine
 generalize hQ : exX n d 3 [] p (ts.drop (i + 1)) = Q at HQf ⊢
 have HQ := Hd hQ
 clear hfine hd hQ h1 hC hr hPw
 have CA := fun X (hX : Bag b w X) (hR : Psr X b A ts.length c i en wo 0 p d) => Qbe ts [105, 102] X b A c i (i + 1) en wo 0 (KC.out.bag hX).toks hR.1 hi KC.out.2.1 (by rw [iP h1h.out])
 rw [show isK 4 [105, 102] (ts.drop i) = true from h1h.out, show Qaa [105, 102] = (⟨#[105, 102]⟩ : ByteArray) from rfl] at CA
 replace CA := Hd CA
 go_enter Tryz.func64, Tryz.ntmps64
 go_upto_region 1 with fail
 refine uN ((Bel.refl w).alloc _) fun W hcc hf hz hb => ?_
 have T1 : Qab W w.heap.size 0 zv ⟨#[]⟩ none 0 0 := by simp [Qab, Qap, zv, hcc, hf, hz, go_sem]
 clear hcc hf hz
 have hwW : w.heap.size < W.heap.size := T1.1
 generalize hN : w.heap.size = N at T1 hwW ⊢
 have NW := Hd (show w.heap.size <= N from by omega)
 have nb : N ≠ b := by omega
 clear hN
 have xN : ¬ b = N := fun e => nb e.symm
 have K1 := Hd T1
 clear T1
 have KP := Hd (KR.out.keep hb)
 have B1 := Hd (Bag.of (b := b) hb)
 have hPN : ¬ (fun k => P k /\ k ≠ N) b := fun h => hP h.1
 have hPNN : ¬ (fun k => P k /\ k ≠ N) N := fun h => h.2 rfl
 have hPNw := Hd (show ∀ k, W.heap.size <= k -> (fun k => P k /\ k ≠ N) k from fun k hk => ⟨KPw.out k (by have := NW.out; omega), by omega⟩)
 go_upto_region 3 with (go_at_call 90; (with_reducible refine Calls.mono (CA.out _ B1.out KP.out) ?_); rintro ee V2 ⟨rfl, hbV2, hrV2⟩; have bg2 := Hd (B1.out.trans hbV2.bag); have ps2 := Hd (KP.out.but hbV2 hrV2); have L2 := Hd (K1.out.bag hbV2.bag nb); have sz2 := Hd hbV2.size; clear hbV2 hrV2)
 go_upto_region 4 with fail
 refine uN (w0 := V2) (by exact Bel.y) fun W4 hcc hf hz hb4 => ?_
 have T4 : ArrX W4 V2.heap.size (fun k => (P k /\ k ≠ N) /\ k ≠ V2.heap.size) [] := by
  refine ⟨by rw [hz]; simp, fun o ho => ?_, fun q x hx => by simp at hx⟩
  rcases (show o = 0 \/ o = 1 \/ o = 2 \/ o = 3 \/ o = 4 \/ o = 5 \/ o = 6 \/ o = 7 \/ o = 8 \/ o = 9 \/ o = 10 \/ o = 11 \/ o = 12 \/ o = 13 \/ o = 14 \/ o = 15 \/ o = 16 \/ o = 17 \/ o = 18 \/ o = 19 \/ o = 20 \/ o = 21 \/ o = 22 \/ o = 23 from by omega) with rfl | rfl | rfl | rfl | rfl | rfl | rfl | rfl | rfl | rfl | rfl | rfl | rfl | rfl | rfl | rfl | rfl | rfl | rfl | rfl | rfl | rfl | rfl | rfl
  all_goals exact ⟨⟨_, by simp [hcc, go_sem]; rfl⟩, by simp [hf, go_sem]⟩
 clear hcc hf hz
 have nR : N < V2.heap.size := L2.out.1
 have bR : b < V2.heap.size := ps2.out.1.1
 have RW := Hd (show w.heap.size <= V2.heap.size from bg2.out.size)
 generalize V2.heap.size = R at T4 nR bR RW
 have rb : R ≠ b := by omega
 have rN : R ≠ N := by omega
 have nRn : N ≠ R := by omega
 have bRn : ¬ b = R := by omega
 have hP3b : ¬ (fun k => (P k /\ k ≠ N) /\ k ≠ R) b := fun h => hPN h.1
 have hP3R : ¬ (fun k => (P k /\ k ≠ N) /\ k ≠ R) R := fun h => h.2 rfl
 have hP3w := Hd (show ∀ q, W4.heap.size <= q -> (fun k => (P k /\ k ≠ N) /\ k ≠ R) q from fun q hq => ⟨⟨KPw.out _ (by have := RW.out; have := T4.1; omega), by have := T4.1; omega⟩, by have := T4.1; omega⟩)
 have K5 := Hd (show Bag b w W4 /\ Psr W4 b A ts.length c (i + 1) en wo 0 p d /\ Qab W4 N 0 zv ⟨#[]⟩ none 0 0 /\ ArrX W4 R (fun k => (P k /\ k ≠ N) /\ k ≠ R) [] /\ W4.heap.size <= W4.heap.size from ⟨bg2.out.trans (Bag.of hb4), ps2.out.keep hb4, L2.out.keep hb4, T4, Nat.le_refl _⟩)
 have W4g := Hd (show W.heap.size <= W4.heap.size from Nat.le_trans sz2.out hb4.size)
 clear hb4 T4
 go_wp2_with fail
 go_loopg [5, 6, 8, 19] 3 (fun g _ _ _ sv wq => ∃ (l : List Ex) (q : Int) (pp j : Nat), sv = .int .i64 q /\ q = l.length /\ l.length <= 3 /\ j <= ts.length /\ pp <= 4096 /\ Hid (g = 3 - l.length) /\ Hid (exX n d (3 - l.length) l pp (ts.drop j) = Q) /\ Hid (Bag b w wq /\ Psr wq b A ts.length c j en wo 0 pp d /\ Qab wq N 0 zv ⟨#[]⟩ none 0 0 /\ ArrX wq R (fun k => (P k /\ k ≠ N) /\ k ≠ R) l /\ W4.heap.size <= wq.heap.size))
 case atStart => exact ⟨[], 0, p, i + 1, rfl, rfl, Nat.zero_le _, hil, hp, Hd rfl, HQ, K5⟩
 case round =>
  obtain ⟨l, q, pp, j, rfl, hql, hl3, hj, hpp, hg, hQ, hW⟩ := hrel
  rcases (show l.length = 0 \/ l.length = 1 \/ l.length = 2 \/ l.length = 3 from by omega) with hl | hl | hl | hl
  ·obtain rfl : q = 0 := by omega
   clear hql
   have hQ1 : exX n d (2 + 1) l pp (ts.drop j) = Q := by have h := hQ.out; rw [hl] at h; exact h
   rw [exX] at hQ1
   have hf3 : (parX n .expr d pp (ts.drop j)).fine := Qbc (by rw [hQ1]; exact HQf.out)
   have CY := Hd fun X (hX : X = wr) (hWb : Bag b w X) (hR : Psr X b A ts.length c j en wo 0 pp d) => CE.out (fun k => (P k /\ k ≠ N) /\ k ≠ R) W4 hP3b hP3w.out X j pp hj hpp hf3 (by rw [hX]; exact hW.out.2.2.2.2) hWb hR
   generalize hz : parX n .expr d pp (ts.drop j) = z at CY hQ1
   replace hQ1 := Hd hQ1
   have bg6 := Hd hW.out.1
   have ps6 := Hd hW.out.2.1
   have L6 := Hd hW.out.2.2.1
   have R6 := Hd hW.out.2.2.2.1
   have sz6 := Hd hW.out.2.2.2.2
   clear hz hf3 hW
   have ix : ∀ w, Sem.run Tryz.prog (Instr.index 116 (.agg #[.string ⟨#[116, 104, 101, 110]⟩, .string ⟨#[101, 108, 115, 101]⟩, .string ⟨#[]⟩]) (.int .i64 0)) w = .ok (.string ⟨#[116, 104, 101, 110]⟩) w := fun w => by kernel_rfl
   go_upto_region 8 with (go_at_call 64; (with_reducible refine Calls.mono (CY.out _ rfl bg6.out ps6.out) ?_); rintro ee V8 ⟨j8, wr8, e8, p8, d8, o8, v8, nm8, A8, n8, c8, ok8, hbV8, hrV8, hj8, rfl, hxV8⟩; have bg8 := Hd (bg6.out.trans hbV8); have ps8 := Hd hrV8; have xr8 := Hd hxV8; have L8 := Hd (L6.out.bag hbV8 nb); have HV8 := Hd hbV8; clear hbV8 hrV8 hxV8)
   obtain ⟨vk8, vn8, vs8, vt8, vm8⟩ := v8
   refine uN (w0 := V8) (by exact Bel.y) fun W9 hcc hf hz hbW9 => ?_
   have T8 : Qab W9 V8.heap.size o8 ⟨vk8, vn8, vs8, vt8, vm8⟩ nm8 A8 n8 c8 := by simp [Qab, Qap, hcc, hf, hz, go_sem]
   clear hcc hf hz
   have nM8 : N < V8.heap.size := L8.out.1
   have bM8 : b < V8.heap.size := ps8.out.1.1
   have xs8 := Hd (show ∀ l, Lie (fun k => (P k /\ k ≠ N) /\ k ≠ R) V8 A8 l -> Lie (fun k => ((P k /\ k ≠ N) /\ k ≠ R) /\ k ≠ V8.heap.size) W9 A8 l from fun l h => (h.weak (Q := fun k => ((P k /\ k ≠ N) /\ k ≠ R) /\ k ≠ V8.heap.size) (fun q hq hlt => ⟨hq, by omega⟩)).keep hbW9)
   have MW8 := Hd (show w.heap.size <= V8.heap.size from bg8.out.size)
   have rY8 : R < V8.heap.size := (R6.out.bag HV8.out rb hP3b).1
   generalize V8.heap.size = Y at rY8 T8 nM8 bM8 xs8 MW8
   have mb8 : Y ≠ b := by omega
   have mN8 : ¬ N = Y := by omega
   have Nm8 : ¬ Y = N := by omega
   have xM8 : ¬ b = Y := by omega
   have LM8 := Hd T8
   have LN8 := Hd (L8.out.keep hbW9)
   have bh8 := Hd (bg8.out.trans (Bag.of hbW9))
   have ph8 := Hd (ps8.out.keep hbW9)
   have HW8 := Hd hbW9
   clear T8 hbW9
   have R8 := Hd ((R6.out.bag HV8.out rb hP3b).keep HW8.out)
   have sz8 := Hd (Nat.le_trans sz6.out (Nat.le_trans HV8.out.size HW8.out.size))
   cases z with
   | bad r2 f2 =>
    obtain ⟨rfl, hw3, he3⟩ : ok8 = false /\ wr8 = plcT en r2 /\ e8 = f2 := xr8.out
    have hwe := Hd (And.intro hw3 he3)
    have hq2 := Hd (show Q = .bad r2 f2 from hQ1.out.symm)
    clear hw3 he3
    obtain ⟨sz, ⟨s0, s1, s2, s3, s4, s5, s6, s7⟩, ⟨sf0, sf1, sf2, sf3, sf4, sf5, sf6, sf7⟩⟩ := LN8.out
    simp only [zv, Nat.zero_add] at s0 s1 s2 s3 s4 s5 s6 s7
    go_wp2_with fail
    refine pR (v := .tuple #[exV 0 zv ⟨#[]⟩ none 0 0, .bool false]) (by simp [results, Tryz.results64, go_sem, zv, sz, s0, s1, s2, s3, s4, s5, s6, s7]) rfl (Qaq (j := j8) (wr' := wr8) (e' := e8) (p' := p8) (d' := d8) ?_ ?_ hj8 rfl ?_)
    ·repeat (first | with_reducible exact bh8.out | refine Bag.new ?_ NW.out _)
    ·repeat (first | with_reducible exact ph8.out | refine Psr.far ?_ xN _)
    ·intro _
     rw [hq2.out]
     exact ⟨rfl, hwe.out.1, hwe.out.2⟩
   | ok y2 r2 =>
    obtain ⟨rfl, rfl, hv8, rfl, rfl, hl8, hd8, hw8, rfl, rfl, rfl, hpp8⟩ : ok8 = true /\ o8 = y2.1.op /\ _ = y2.1.v /\ nm8 = Qaa y2.1.nm /\ n8 = y2.1.ks.length /\ Lie _ V8 A8 y2.1.ks /\ ts.drop j8 = r2 /\ wr8 = wo /\ e8 = 0 /\ p8 = y2.2 /\ d8 = d /\ y2.2 <= 4096 := xr8.out
    replace hw8 := hw8.symm
    subst hw8
    have TY8 := Hd (xs8.out _ hl8)
    have hv8h := Hd hv8
    have hd8h := Hd hd8
    clear hl8 hv8 hd8 xr8
    cases h4 : isK 4 wTHEN r2 with
    | true =>
     have h4h := Hd (show isK 4 [116, 104, 101, 110] (ts.drop j8) = true from by rw [hd8h.out]; exact h4)
     have hjl := Qd6 h4h.out
     have hq3 := Hd (show exX n d (3 - (l ++ [y2.1]).length) (l ++ [y2.1]) y2.2 (ts.drop (j8 + 1)) = Q from by
      rw [lA, hl, ← List.tail_drop, hd8h.out, ← hQ1.out]
      exact (iP h4).symm)
     clear h4
     have CS := Qbe ts [116, 104, 101, 110] W9 b A c j8 (j8 + 1) en wo 0 (KC.out.bag bh8.out).toks ph8.out.1 hj8 KC.out.2.1 (by rw [iP h4h.out])
     rw [show isK 4 [116, 104, 101, 110] (ts.drop j8) = true from h4h.out, show Qaa [116, 104, 101, 110] = (⟨#[116, 104, 101, 110]⟩ : ByteArray) from rfl] at CS
     replace CS := Hd CS
     have wk : IntKind.i64.wrap (0 + 1) = 1 := by decide
     go_upto_region 12 with (go_at_call 90; (with_reducible refine Calls.mono CS.out ?_); rintro ee V10 ⟨rfl, hb10, hr10⟩; have bg10 := Hd (bh8.out.trans hb10.bag); have ps10 := Hd (ph8.out.but hb10 hr10); have LN10 := Hd (LN8.out.bag hb10.bag nb); have LY10 := Hd (LM8.out.bag hb10.bag mb8); have R10 := Hd (R8.out.bag hb10.bag rb hP3b); have TY10 := Hd (TY8.out.bag hb10.bag (fun h => hP3b h.1)); have sz10 := Hd (Nat.le_trans sz8.out hb10.size); clear hb10 hr10)
     obtain ⟨tz, ⟨t0, t1, t2, t3, t4, t5, t6, t7⟩, ⟨tf0, tf1, tf2, tf3, tf4, tf5, tf6, tf7⟩⟩ := LY10.out
     simp only [Nat.zero_add] at t0 t1 t2 t3 t4 t5 t6 t7
     obtain ⟨hR0, hR1, -⟩ := R10.out
     obtain ⟨⟨u0, g0⟩, q0⟩ := hR1 0 (by omega)
     obtain ⟨⟨u1, g1⟩, q1⟩ := hR1 1 (by omega)
     obtain ⟨⟨u2, g2⟩, q2⟩ := hR1 2 (by omega)
     obtain ⟨⟨u3, g3⟩, q3⟩ := hR1 3 (by omega)
     obtain ⟨⟨u4, g4⟩, q4⟩ := hR1 4 (by omega)
     obtain ⟨⟨u5, g5⟩, q5⟩ := hR1 5 (by omega)
     obtain ⟨⟨u6, g6⟩, q6⟩ := hR1 6 (by omega)
     obtain ⟨⟨u7, g7⟩, q7⟩ := hR1 7 (by omega)
     go_wp2_with fail
     go_roundg (3 - (l.length + 1))
     case measure => have := hg.out; omega
     case rel => exact ⟨l ++ [y2.1], 1, y2.2, j8 + 1, rfl, by rw [lA, hl]; rfl, by rw [lA, hl]; simp, hjl, hpp8, Hd (by rw [lA]; rfl), hq3, Hd ⟨bg10.out.over (bag8e 0 _ _ _ _ _ _ _ _) RW.out, ps10.out.apart (bag8e 0 _ _ _ _ _ _ _ _) bRn, LN10.out.bag (bag8e 0 _ _ _ _ _ _ _ _) nRn, R10.out.put hP3R (by omega) y2.1 vk8 vn8 vs8 vt8 vm8 hv8h.out A8 c8 (TY10.out.weak fun k h _ => h.1) 0 (by rw [hl]), Nat.le_trans sz10.out ((bag8e 0 _ _ _ _ _ _ _ _) : Bag R _ _).size⟩⟩
    | false =>
     have h4h := Hd (show isK 4 [116, 104, 101, 110] (ts.drop j8) = false from by rw [hd8h.out]; exact h4)
     have hq3 := Hd (show Q = .bad r2 5 from by rw [← hQ1.out]; exact iN (fun h => absurd (show isK 4 wTHEN r2 = true from h) (by rw [h4]; decide)))
     clear h4
     have CS := Qbe ts [116, 104, 101, 110] W9 b A c j8 j8 en wo 0 (KC.out.bag bh8.out).toks ph8.out.1 hj8 KC.out.2.1 (by rw [iN (by rw [h4h.out]; decide)])
     rw [show isK 4 [116, 104, 101, 110] (ts.drop j8) = false from h4h.out, show Qaa [116, 104, 101, 110] = (⟨#[116, 104, 101, 110]⟩ : ByteArray) from rfl] at CS
     replace CS := Hd CS
     go_upto_region 11 with (go_at_call 90; (with_reducible refine Calls.mono CS.out ?_); rintro ee V10 ⟨rfl, hb10, hr10⟩; have bg10 := Hd (bh8.out.trans hb10.bag); have ps10 := Hd (ph8.out.but hb10 hr10); have LN10 := Hd (LN8.out.bag hb10.bag nb); have LY10 := Hd (LM8.out.bag hb10.bag mb8); have R10 := Hd (R8.out.bag hb10.bag rb hP3b); have TY10 := Hd (TY8.out.bag hb10.bag (fun h => hP3b h.1)); have sz10 := Hd (Nat.le_trans sz8.out hb10.size); clear hb10 hr10)
     have CF := Hd (Qbu ts V10 b A c j8 en wo 5 y2.2 d (KC.out.bag bg10.out) ps10.out hj8)
     go_wp2_with (go_at_call 63; (with_reducible refine Calls.mono CF.out ?_); rintro ee V9 ⟨rfl, hb9, hr9⟩; have hq9 := Hd (bg10.out.trans hb9); have hr9' := Hd hr9; obtain ⟨sz, ⟨s0, s1, s2, s3, s4, s5, s6, s7⟩, ⟨sf0, sf1, sf2, sf3, sf4, sf5, sf6, sf7⟩⟩ := LN10.out.bag hb9 nb; simp only [zv, Nat.zero_add] at s0 s1 s2 s3 s4 s5 s6 s7; clear hb9 hr9)
     refine pR (v := .tuple #[exV 0 zv ⟨#[]⟩ none 0 0, .bool false]) (by simp [results, Tryz.results64, go_sem, zv, sz, s0, s1, s2, s3, s4, s5, s6, s7]) rfl (Qaq (j := j8) (wr' := plcT en (ts.drop j8)) (e' := 5) (p' := y2.2) (d' := d) ?_ ?_ hj8 rfl ?_)
     ·repeat (first | with_reducible exact hq9.out | refine Bag.new ?_ NW.out _)
     ·repeat (first | with_reducible exact hr9'.out | refine Psr.far ?_ xN _)
     intro _
     rw [hq3.out]
     exact ⟨rfl, by rw [hd8h.out], rfl⟩
  ·obtain rfl : q = 1 := by omega
   clear hql
   have hQ1 : exX n d (1 + 1) l pp (ts.drop j) = Q := by have h := hQ.out; rw [hl] at h; exact h
   rw [exX] at hQ1
   have hf3 : (parX n .expr d pp (ts.drop j)).fine := Qbc (by rw [hQ1]; exact HQf.out)
   have CY := Hd fun X (hX : X = wr) (hWb : Bag b w X) (hR : Psr X b A ts.length c j en wo 0 pp d) => CE.out (fun k => (P k /\ k ≠ N) /\ k ≠ R) W4 hP3b hP3w.out X j pp hj hpp hf3 (by rw [hX]; exact hW.out.2.2.2.2) hWb hR
   generalize hz : parX n .expr d pp (ts.drop j) = z at CY hQ1
   replace hQ1 := Hd hQ1
   have bg6 := Hd hW.out.1
   have ps6 := Hd hW.out.2.1
   have L6 := Hd hW.out.2.2.1
   have R6 := Hd hW.out.2.2.2.1
   have sz6 := Hd hW.out.2.2.2.2
   clear hz hf3 hW
   have ix : ∀ w, Sem.run Tryz.prog (Instr.index 116 (.agg #[.string ⟨#[116, 104, 101, 110]⟩, .string ⟨#[101, 108, 115, 101]⟩, .string ⟨#[]⟩]) (.int .i64 1)) w = .ok (.string ⟨#[101, 108, 115, 101]⟩) w := fun w => by kernel_rfl
   go_upto_region 8 with (go_at_call 64; (with_reducible refine Calls.mono (CY.out _ rfl bg6.out ps6.out) ?_); rintro ee V8 ⟨j8, wr8, e8, p8, d8, o8, v8, nm8, A8, n8, c8, ok8, hbV8, hrV8, hj8, rfl, hxV8⟩; have bg8 := Hd (bg6.out.trans hbV8); have ps8 := Hd hrV8; have xr8 := Hd hxV8; have L8 := Hd (L6.out.bag hbV8 nb); have HV8 := Hd hbV8; clear hbV8 hrV8 hxV8)
   obtain ⟨vk8, vn8, vs8, vt8, vm8⟩ := v8
   refine uN (w0 := V8) (by exact Bel.y) fun W9 hcc hf hz hbW9 => ?_
   have T8 : Qab W9 V8.heap.size o8 ⟨vk8, vn8, vs8, vt8, vm8⟩ nm8 A8 n8 c8 := by simp [Qab, Qap, hcc, hf, hz, go_sem]
   clear hcc hf hz
   have nM8 : N < V8.heap.size := L8.out.1
   have bM8 : b < V8.heap.size := ps8.out.1.1
   have xs8 := Hd (show ∀ l, Lie (fun k => (P k /\ k ≠ N) /\ k ≠ R) V8 A8 l -> Lie (fun k => ((P k /\ k ≠ N) /\ k ≠ R) /\ k ≠ V8.heap.size) W9 A8 l from fun l h => (h.weak (Q := fun k => ((P k /\ k ≠ N) /\ k ≠ R) /\ k ≠ V8.heap.size) (fun q hq hlt => ⟨hq, by omega⟩)).keep hbW9)
   have MW8 := Hd (show w.heap.size <= V8.heap.size from bg8.out.size)
   have rY8 : R < V8.heap.size := (R6.out.bag HV8.out rb hP3b).1
   generalize V8.heap.size = Y at rY8 T8 nM8 bM8 xs8 MW8
   have mb8 : Y ≠ b := by omega
   have mN8 : ¬ N = Y := by omega
   have Nm8 : ¬ Y = N := by omega
   have xM8 : ¬ b = Y := by omega
   have LM8 := Hd T8
   have LN8 := Hd (L8.out.keep hbW9)
   have bh8 := Hd (bg8.out.trans (Bag.of hbW9))
   have ph8 := Hd (ps8.out.keep hbW9)
   have HW8 := Hd hbW9
   clear T8 hbW9
   have R8 := Hd ((R6.out.bag HV8.out rb hP3b).keep HW8.out)
   have sz8 := Hd (Nat.le_trans sz6.out (Nat.le_trans HV8.out.size HW8.out.size))
   cases z with
   | bad r2 f2 =>
    obtain ⟨rfl, hw3, he3⟩ : ok8 = false /\ wr8 = plcT en r2 /\ e8 = f2 := xr8.out
    have hwe := Hd (And.intro hw3 he3)
    have hq2 := Hd (show Q = .bad r2 f2 from hQ1.out.symm)
    clear hw3 he3
    obtain ⟨sz, ⟨s0, s1, s2, s3, s4, s5, s6, s7⟩, ⟨sf0, sf1, sf2, sf3, sf4, sf5, sf6, sf7⟩⟩ := LN8.out
    simp only [zv, Nat.zero_add] at s0 s1 s2 s3 s4 s5 s6 s7
    go_wp2_with fail
    refine pR (v := .tuple #[exV 0 zv ⟨#[]⟩ none 0 0, .bool false]) (by simp [results, Tryz.results64, go_sem, zv, sz, s0, s1, s2, s3, s4, s5, s6, s7]) rfl (Qaq (j := j8) (wr' := wr8) (e' := e8) (p' := p8) (d' := d8) ?_ ?_ hj8 rfl ?_)
    ·repeat (first | with_reducible exact bh8.out | refine Bag.new ?_ NW.out _)
    ·repeat (first | with_reducible exact ph8.out | refine Psr.far ?_ xN _)
    ·intro _
     rw [hq2.out]
     exact ⟨rfl, hwe.out.1, hwe.out.2⟩
   | ok y2 r2 =>
    obtain ⟨rfl, rfl, hv8, rfl, rfl, hl8, hd8, hw8, rfl, rfl, rfl, hpp8⟩ : ok8 = true /\ o8 = y2.1.op /\ _ = y2.1.v /\ nm8 = Qaa y2.1.nm /\ n8 = y2.1.ks.length /\ Lie _ V8 A8 y2.1.ks /\ ts.drop j8 = r2 /\ wr8 = wo /\ e8 = 0 /\ p8 = y2.2 /\ d8 = d /\ y2.2 <= 4096 := xr8.out
    replace hw8 := hw8.symm
    subst hw8
    have TY8 := Hd (xs8.out _ hl8)
    have hv8h := Hd hv8
    have hd8h := Hd hd8
    clear hl8 hv8 hd8 xr8
    cases h4 : isK 4 wELSE r2 with
    | true =>
     have h4h := Hd (show isK 4 [101, 108, 115, 101] (ts.drop j8) = true from by rw [hd8h.out]; exact h4)
     have hjl := Qd6 h4h.out
     have hq3 := Hd (show exX n d (3 - (l ++ [y2.1]).length) (l ++ [y2.1]) y2.2 (ts.drop (j8 + 1)) = Q from by
      rw [lA, hl, ← List.tail_drop, hd8h.out, ← hQ1.out]
      exact (iP h4).symm)
     clear h4
     have CS := Qbe ts [101, 108, 115, 101] W9 b A c j8 (j8 + 1) en wo 0 (KC.out.bag bh8.out).toks ph8.out.1 hj8 KC.out.2.1 (by rw [iP h4h.out])
     rw [show isK 4 [101, 108, 115, 101] (ts.drop j8) = true from h4h.out, show Qaa [101, 108, 115, 101] = (⟨#[101, 108, 115, 101]⟩ : ByteArray) from rfl] at CS
     replace CS := Hd CS
     have wk : IntKind.i64.wrap (1 + 1) = 2 := by decide
     go_upto_region 12 with (go_at_call 90; (with_reducible refine Calls.mono CS.out ?_); rintro ee V10 ⟨rfl, hb10, hr10⟩; have bg10 := Hd (bh8.out.trans hb10.bag); have ps10 := Hd (ph8.out.but hb10 hr10); have LN10 := Hd (LN8.out.bag hb10.bag nb); have LY10 := Hd (LM8.out.bag hb10.bag mb8); have R10 := Hd (R8.out.bag hb10.bag rb hP3b); have TY10 := Hd (TY8.out.bag hb10.bag (fun h => hP3b h.1)); have sz10 := Hd (Nat.le_trans sz8.out hb10.size); clear hb10 hr10)
     obtain ⟨tz, ⟨t0, t1, t2, t3, t4, t5, t6, t7⟩, ⟨tf0, tf1, tf2, tf3, tf4, tf5, tf6, tf7⟩⟩ := LY10.out
     simp only [Nat.zero_add] at t0 t1 t2 t3 t4 t5 t6 t7
     obtain ⟨hR0, hR1, -⟩ := R10.out
     obtain ⟨⟨u0, g0⟩, q0⟩ := hR1 8 (by omega)
     obtain ⟨⟨u1, g1⟩, q1⟩ := hR1 9 (by omega)
     obtain ⟨⟨u2, g2⟩, q2⟩ := hR1 10 (by omega)
     obtain ⟨⟨u3, g3⟩, q3⟩ := hR1 11 (by omega)
     obtain ⟨⟨u4, g4⟩, q4⟩ := hR1 12 (by omega)
     obtain ⟨⟨u5, g5⟩, q5⟩ := hR1 13 (by omega)
     obtain ⟨⟨u6, g6⟩, q6⟩ := hR1 14 (by omega)
     obtain ⟨⟨u7, g7⟩, q7⟩ := hR1 15 (by omega)
     go_wp2_with fail
     go_roundg (3 - (l.length + 1))
     case measure => have := hg.out; omega
     case rel => exact ⟨l ++ [y2.1], 2, y2.2, j8 + 1, rfl, by rw [lA, hl]; rfl, by rw [lA, hl]; simp, hjl, hpp8, Hd (by rw [lA]; rfl), hq3, Hd ⟨bg10.out.over (bag8e 8 _ _ _ _ _ _ _ _) RW.out, ps10.out.apart (bag8e 8 _ _ _ _ _ _ _ _) bRn, LN10.out.bag (bag8e 8 _ _ _ _ _ _ _ _) nRn, R10.out.put hP3R (by omega) y2.1 vk8 vn8 vs8 vt8 vm8 hv8h.out A8 c8 (TY10.out.weak fun k h _ => h.1) 8 (by rw [hl]), Nat.le_trans sz10.out ((bag8e 8 _ _ _ _ _ _ _ _) : Bag R _ _).size⟩⟩
    | false =>
     have h4h := Hd (show isK 4 [101, 108, 115, 101] (ts.drop j8) = false from by rw [hd8h.out]; exact h4)
     have hq3 := Hd (show Q = .bad r2 5 from by rw [← hQ1.out]; exact iN (fun h => absurd (show isK 4 wELSE r2 = true from h) (by rw [h4]; decide)))
     clear h4
     have CS := Qbe ts [101, 108, 115, 101] W9 b A c j8 j8 en wo 0 (KC.out.bag bh8.out).toks ph8.out.1 hj8 KC.out.2.1 (by rw [iN (by rw [h4h.out]; decide)])
     rw [show isK 4 [101, 108, 115, 101] (ts.drop j8) = false from h4h.out, show Qaa [101, 108, 115, 101] = (⟨#[101, 108, 115, 101]⟩ : ByteArray) from rfl] at CS
     replace CS := Hd CS
     go_upto_region 11 with (go_at_call 90; (with_reducible refine Calls.mono CS.out ?_); rintro ee V10 ⟨rfl, hb10, hr10⟩; have bg10 := Hd (bh8.out.trans hb10.bag); have ps10 := Hd (ph8.out.but hb10 hr10); have LN10 := Hd (LN8.out.bag hb10.bag nb); have LY10 := Hd (LM8.out.bag hb10.bag mb8); have R10 := Hd (R8.out.bag hb10.bag rb hP3b); have TY10 := Hd (TY8.out.bag hb10.bag (fun h => hP3b h.1)); have sz10 := Hd (Nat.le_trans sz8.out hb10.size); clear hb10 hr10)
     have CF := Hd (Qbu ts V10 b A c j8 en wo 5 y2.2 d (KC.out.bag bg10.out) ps10.out hj8)
     go_wp2_with (go_at_call 63; (with_reducible refine Calls.mono CF.out ?_); rintro ee V9 ⟨rfl, hb9, hr9⟩; have hq9 := Hd (bg10.out.trans hb9); have hr9' := Hd hr9; obtain ⟨sz, ⟨s0, s1, s2, s3, s4, s5, s6, s7⟩, ⟨sf0, sf1, sf2, sf3, sf4, sf5, sf6, sf7⟩⟩ := LN10.out.bag hb9 nb; simp only [zv, Nat.zero_add] at s0 s1 s2 s3 s4 s5 s6 s7; clear hb9 hr9)
     refine pR (v := .tuple #[exV 0 zv ⟨#[]⟩ none 0 0, .bool false]) (by simp [results, Tryz.results64, go_sem, zv, sz, s0, s1, s2, s3, s4, s5, s6, s7]) rfl (Qaq (j := j8) (wr' := plcT en (ts.drop j8)) (e' := 5) (p' := y2.2) (d' := d) ?_ ?_ hj8 rfl ?_)
     ·repeat (first | with_reducible exact hq9.out | refine Bag.new ?_ NW.out _)
     ·repeat (first | with_reducible exact hr9'.out | refine Psr.far ?_ xN _)
     intro _
     rw [hq3.out]
     exact ⟨rfl, by rw [hd8h.out], rfl⟩
  ·obtain rfl : q = 2 := by omega
   clear hql
   have hQ1 : exX n d (0 + 1) l pp (ts.drop j) = Q := by have h := hQ.out; rw [hl] at h; exact h
   rw [exX] at hQ1
   have hf3 : (parX n .expr d pp (ts.drop j)).fine := Qbc (by rw [hQ1]; exact HQf.out)
   have CY := Hd fun X (hX : X = wr) (hWb : Bag b w X) (hR : Psr X b A ts.length c j en wo 0 pp d) => CE.out (fun k => (P k /\ k ≠ N) /\ k ≠ R) W4 hP3b hP3w.out X j pp hj hpp hf3 (by rw [hX]; exact hW.out.2.2.2.2) hWb hR
   generalize hz : parX n .expr d pp (ts.drop j) = z at CY hQ1
   replace hQ1 := Hd hQ1
   have bg6 := Hd hW.out.1
   have ps6 := Hd hW.out.2.1
   have L6 := Hd hW.out.2.2.1
   have R6 := Hd hW.out.2.2.2.1
   have sz6 := Hd hW.out.2.2.2.2
   clear hz hf3 hW
   have ix : ∀ w, Sem.run Tryz.prog (Instr.index 116 (.agg #[.string ⟨#[116, 104, 101, 110]⟩, .string ⟨#[101, 108, 115, 101]⟩, .string ⟨#[]⟩]) (.int .i64 2)) w = .ok (.string ⟨#[]⟩) w := fun w => by kernel_rfl
   go_upto_region 8 with (go_at_call 64; (with_reducible refine Calls.mono (CY.out _ rfl bg6.out ps6.out) ?_); rintro ee V8 ⟨j8, wr8, e8, p8, d8, o8, v8, nm8, A8, n8, c8, ok8, hbV8, hrV8, hj8, rfl, hxV8⟩; have bg8 := Hd (bg6.out.trans hbV8); have ps8 := Hd hrV8; have xr8 := Hd hxV8; have L8 := Hd (L6.out.bag hbV8 nb); have HV8 := Hd hbV8; clear hbV8 hrV8 hxV8)
   obtain ⟨vk8, vn8, vs8, vt8, vm8⟩ := v8
   refine uN (w0 := V8) (by exact Bel.y) fun W9 hcc hf hz hbW9 => ?_
   have T8 : Qab W9 V8.heap.size o8 ⟨vk8, vn8, vs8, vt8, vm8⟩ nm8 A8 n8 c8 := by simp [Qab, Qap, hcc, hf, hz, go_sem]
   clear hcc hf hz
   have nM8 : N < V8.heap.size := L8.out.1
   have bM8 : b < V8.heap.size := ps8.out.1.1
   have xs8 := Hd (show ∀ l, Lie (fun k => (P k /\ k ≠ N) /\ k ≠ R) V8 A8 l -> Lie (fun k => ((P k /\ k ≠ N) /\ k ≠ R) /\ k ≠ V8.heap.size) W9 A8 l from fun l h => (h.weak (Q := fun k => ((P k /\ k ≠ N) /\ k ≠ R) /\ k ≠ V8.heap.size) (fun q hq hlt => ⟨hq, by omega⟩)).keep hbW9)
   have MW8 := Hd (show w.heap.size <= V8.heap.size from bg8.out.size)
   have rY8 : R < V8.heap.size := (R6.out.bag HV8.out rb hP3b).1
   generalize V8.heap.size = Y at rY8 T8 nM8 bM8 xs8 MW8
   have mb8 : Y ≠ b := by omega
   have mN8 : ¬ N = Y := by omega
   have Nm8 : ¬ Y = N := by omega
   have xM8 : ¬ b = Y := by omega
   have LM8 := Hd T8
   have LN8 := Hd (L8.out.keep hbW9)
   have bh8 := Hd (bg8.out.trans (Bag.of hbW9))
   have ph8 := Hd (ps8.out.keep hbW9)
   have HW8 := Hd hbW9
   clear T8 hbW9
   have R8 := Hd ((R6.out.bag HV8.out rb hP3b).keep HW8.out)
   have sz8 := Hd (Nat.le_trans sz6.out (Nat.le_trans HV8.out.size HW8.out.size))
   cases z with
   | bad r2 f2 =>
    obtain ⟨rfl, hw3, he3⟩ : ok8 = false /\ wr8 = plcT en r2 /\ e8 = f2 := xr8.out
    have hwe := Hd (And.intro hw3 he3)
    have hq2 := Hd (show Q = .bad r2 f2 from hQ1.out.symm)
    clear hw3 he3
    obtain ⟨sz, ⟨s0, s1, s2, s3, s4, s5, s6, s7⟩, ⟨sf0, sf1, sf2, sf3, sf4, sf5, sf6, sf7⟩⟩ := LN8.out
    simp only [zv, Nat.zero_add] at s0 s1 s2 s3 s4 s5 s6 s7
    go_wp2_with fail
    refine pR (v := .tuple #[exV 0 zv ⟨#[]⟩ none 0 0, .bool false]) (by simp [results, Tryz.results64, go_sem, zv, sz, s0, s1, s2, s3, s4, s5, s6, s7]) rfl (Qaq (j := j8) (wr' := wr8) (e' := e8) (p' := p8) (d' := d8) ?_ ?_ hj8 rfl ?_)
    ·repeat (first | with_reducible exact bh8.out | refine Bag.new ?_ NW.out _)
    ·repeat (first | with_reducible exact ph8.out | refine Psr.far ?_ xN _)
    ·intro _
     rw [hq2.out]
     exact ⟨rfl, hwe.out.1, hwe.out.2⟩
   | ok y2 r2 =>
    obtain ⟨rfl, rfl, hv8, rfl, rfl, hl8, hd8, hw8, rfl, rfl, rfl, hpp8⟩ : ok8 = true /\ o8 = y2.1.op /\ _ = y2.1.v /\ nm8 = Qaa y2.1.nm /\ n8 = y2.1.ks.length /\ Lie _ V8 A8 y2.1.ks /\ ts.drop j8 = r2 /\ wr8 = wo /\ e8 = 0 /\ p8 = y2.2 /\ d8 = d /\ y2.2 <= 4096 := xr8.out
    replace hw8 := hw8.symm
    subst hw8
    have TY8 := Hd (xs8.out _ hl8)
    have hv8h := Hd hv8
    have hd8h := Hd hd8
    clear hl8 hv8 hd8 xr8
    have hq3 := Hd (show exX n d (3 - (l ++ [y2.1]).length) (l ++ [y2.1]) y2.2 (ts.drop j8) = Q from by rw [lA, hl, hd8h.out]; exact hQ1.out)
    have wk : IntKind.i64.wrap (2 + 1) = 3 := by decide
    obtain ⟨tz, ⟨t0, t1, t2, t3, t4, t5, t6, t7⟩, ⟨tf0, tf1, tf2, tf3, tf4, tf5, tf6, tf7⟩⟩ := LM8.out
    simp only [Nat.zero_add] at t0 t1 t2 t3 t4 t5 t6 t7
    obtain ⟨hR0, hR1, -⟩ := R8.out
    obtain ⟨⟨u0, g0⟩, q0⟩ := hR1 16 (by omega)
    obtain ⟨⟨u1, g1⟩, q1⟩ := hR1 17 (by omega)
    obtain ⟨⟨u2, g2⟩, q2⟩ := hR1 18 (by omega)
    obtain ⟨⟨u3, g3⟩, q3⟩ := hR1 19 (by omega)
    obtain ⟨⟨u4, g4⟩, q4⟩ := hR1 20 (by omega)
    obtain ⟨⟨u5, g5⟩, q5⟩ := hR1 21 (by omega)
    obtain ⟨⟨u6, g6⟩, q6⟩ := hR1 22 (by omega)
    obtain ⟨⟨u7, g7⟩, q7⟩ := hR1 23 (by omega)
    go_wp2_with fail
    go_roundg (3 - (l.length + 1))
    case measure => have := hg.out; omega
    case rel => exact ⟨l ++ [y2.1], 3, y2.2, j8, rfl, by rw [lA, hl]; rfl, by rw [lA, hl]; simp, hj8, hpp8, Hd (by rw [lA]; rfl), hq3, Hd ⟨bh8.out.over (bag8e 16 _ _ _ _ _ _ _ _) RW.out, ph8.out.apart (bag8e 16 _ _ _ _ _ _ _ _) bRn, LN8.out.bag (bag8e 16 _ _ _ _ _ _ _ _) nRn, R8.out.put hP3R (by omega) y2.1 vk8 vn8 vs8 vt8 vm8 hv8h.out A8 c8 (TY8.out.weak fun k h _ => h.1) 16 (by rw [hl]), Nat.le_trans sz8.out ((bag8e 16 _ _ _ _ _ _ _ _) : Bag R _ _).size⟩⟩
  obtain rfl : q = 3 := by omega
  clear hql
  have hQ1 := Hd (show cmpX (.mk 17 zv [] l) pp (ts.drop j) = Q from by have h := hQ.out; rw [hl] at h; exact h)
  have hR3 := hW.out.2.2.2.1
  have CP := Qe5 (fun k => P k /\ k ≠ N) 17 l (some ⟨R, 0, none⟩) 3 ts wr b A c j en wo pp d (KC.out.bag hW.out.1) hW.out.2.1 hj (Qkl ⟨KPw.out _ RW.out, rN⟩ hR3.1 fun q x hx => by
   obtain ⟨A', c', k1, k2⟩ := hR3.2.2 q x hx
   exact ⟨A', c', by rw [Nat.zero_add]; exact k1, k2.weak fun k h _ => h.1⟩) (by omega) (by omega) hPN (fun k hk => hPNw.out k (by have := hW.out.2.2.2.2; have := W4g.out; omega)) hpp
  rw [hl, hQ1.out] at CP
  replace CP := Hd CP
  clear hR3
  go_wp2_with (go_at_call 92; (with_reducible refine Calls.mono CP.out ?_); rintro ee V3 ⟨j3, wr3, e3, p3, d3, o3, v3, nm3, A3, n3, c3, ok3, hb3, hr3, hj3, rfl, hx3⟩; have bg3 := Hd (hW.out.1.trans hb3); have ps3 := Hd hr3; have xr3 := Hd hx3; obtain ⟨vk3, vn3, vs3, vt3, vm3⟩ := v3; obtain ⟨sz, ⟨s0, s1, s2, s3, s4, s5, s6, s7⟩, ⟨sf0, sf1, sf2, sf3, sf4, sf5, sf6, sf7⟩⟩ := hW.out.2.2.1.bag hb3 nb; simp only [zv, Nat.zero_add] at s0 s1 s2 s3 s4 s5 s6 s7; clear hb3 hr3 hx3)
  refine pR (v := .tuple #[exV o3 ⟨vk3, vn3, vs3, vt3, vm3⟩ nm3 A3 n3 c3, .bool ok3]) (by simp [results, Tryz.results64, go_sem, zv, sz, s0, s1, s2, s3, s4, s5, s6, s7]) rfl (Qaq (j := j3) (wr' := wr3) (e' := e3) (p' := p3) (d' := d3) ?_ ?_ hj3 rfl ?_)
  ·repeat (first | with_reducible exact bg3.out | refine Bag.new ?_ NW.out _)
  ·repeat (first | with_reducible exact ps3.out | refine Psr.far ?_ xN _)
  intro _
  refine XRes.move xr3.out fun l hl => (hl.bag (b := N) ?_ hPNN).weak fun k h _ => h.1
  repeat (first | with_reducible exact Bag.refl N V3 | refine Bag.setCell (b := N) ?_ rfl _)
theorem Qf1 (n : Nat) (IC : XChn 1 n) (IE : XCon 64 .expr n) : XCon 64 .expr (n + 1) := by
 intro P ts w b A c i en wo p d hC hr hi hP hPw hp hd hfine
 cases h1 : isK 4 wIF (ts.drop i) with
 | true => exact Qg2 n IE P ts w b A c i en wo p d hC hr hi hP hPw hp hd hfine h1
 | false => exact Qg1 n IC P ts w b A c i en wo p d hC hr hi hP hPw hp hd hfine h1
end
section
open Go.RowKit
def XAll (n : Nat) : Prop := XCon 64 .expr n /\ (∀ k, 1 <= k -> k <= 6 -> XChn k n) /\ XCon 138 .signed n /\ XCon 177 .operand n /\ XCon 33 .inner n
theorem Qfr {m : Md} {d p : Nat} {r : List Tok} {X : Prop} (h : (parX 0 m d p r).fine) : X := by
 rw [parX] at h
 exact absurd rfl h
theorem Qg3 : ∀ n, XAll n := fun n => Nat.strongRecOn n fun n IH => by
 cases n with
 | zero =>
  refine ⟨?_, ?_, ?_, ?_, ?_⟩
  ·intro P ts w b A c i en wo p d hC hr hi hP hPw hp hd hfine
   exact Qfr hfine
  ·intro k h1 h6 kv hkv P ts w b A c i en wo p d hC hr hi hP hPw hp hd hfine
   exact Qfr hfine
  ·intro P ts w b A c i en wo p d hC hr hi hP hPw hp hd hfine
   exact Qfr hfine
  ·intro P ts w b A c i en wo p d hC hr hi hP hPw hp hd hfine
   exact Qfr hfine
  ·intro P ts w b A c i en wo p d hC hr hi hP hPw hp hd hfine
   exact Qfr hfine
 | succ n =>
  have h := IH n (Nat.lt_succ_self n)
  refine ⟨Qf1 n (h.2.1 1 (by omega) (by omega)) h.1, fun k h1 h6 => ?_, Qlm n h.2.2.2.1, Qi8 n (Qhs n h.2.2.2.2), Qnw n h.1⟩
  rcases Nat.lt_or_ge k 6 with hk | hk
  ·exact Qoa k n h1 (by omega) fun m hm => (IH m (by omega)).2.1 (k + 1) (by omega) (by omega)
  obtain rfl : k = 6 := by omega
  exact Qn9 n h.2.2.1
end
end Go.Proofs.YtjckpkamhdbcnaaGreatDoor
