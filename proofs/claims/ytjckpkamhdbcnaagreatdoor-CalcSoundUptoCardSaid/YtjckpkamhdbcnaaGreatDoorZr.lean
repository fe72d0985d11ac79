import Derived.Test.YtjckpkamhdbcnaaGreatDoorZq
namespace Go.Proofs.YtjckpkamhdbcnaaGreatDoor
set_option maxRecDepth 100000
set_option maxHeartbeats 64000000
set_option linter.unusedSimpArgs false
set_option linter.unusedVariables false
section
open Go.RowKit
def XChn (k n : Nat) : Prop := ∀ (kv : Int), kv = k -> ∀ (P : Nat -> Prop) (ts : List Tok) (w : World) (b : Nat) (A : Option Addr) (c i : Nat) (en wo : Int) (p d : Nat), Cx ts A b w -> Psr w b A ts.length c i en wo 0 p d -> i <= ts.length -> ¬ P b -> (∀ k, w.heap.size <= k -> P k) -> p <= 4096 -> d <= 64 -> (parX n (.chain k) d p (ts.drop i)).fine ->
 Calls Tryz.prog 91 #[.pointer (some ⟨b, 0, none⟩), .int .i64 kv] w (XOut P ts b A c en wo d (parX n (.chain k) d p (ts.drop i)) w)
section
variable {P : Program} {ops : Array Go.Oper} {Q : Exit -> Act -> World -> Prop} {K : Act -> World -> Prop} {a : Act} {w : World}
theorem Qf9 {i : Nat} {o : Go.Oper} {v : Value} {w' : World} (hi : ops[i]? = some o) (hw : Region.wanted o (yielded ops a.tmps) = true) (hx : (execOp a.eval o).run P w = .ok (.value v) w') (h : K (a.put o.dst v) w') : wpOp P ops Q i K a w := by
 unfold wpOp
 rw [hi]
 simp only [hw, if_true]
 left
 unfold Oper.wp
 rw [hx]
 exact h
theorem Qbv {i : Nat} {o : Go.Oper} {w' : World} (hi : ops[i]? = some o) (hw : Region.wanted o (yielded ops a.tmps) = true) (hx : (execOp a.eval o).run P w = .ok .skip w') (h : K (a.put o.dst undef) w') : wpOp P ops Q i K a w := by
 unfold wpOp
 rw [hi]
 simp only [hw, if_true]
 left
 unfold Oper.wp
 rw [hx]
 exact h
theorem Qa6 {i : Nat} {o : Go.Oper} {f : FuncId} {args : Array Value} {R : Value -> World -> Prop} (hi : ops[i]? = some o) (hw : Region.wanted o (yielded ops a.tmps) = true) (hx : (execOp a.eval o).run P w = .ok (.enter f args) w)
  (hc : Calls P f args w fun e w' => ∃ v, e = .returned v /\ R v w') (h : ∀ v w', R v w' -> K (a.put o.dst v) w') : wpOp P ops Q i K a w := by
 unfold wpOp
 rw [hi]
 simp only [hw, if_true]
 left
 unfold Oper.wp
 rw [hx]
 show Oper.upon P o a K Q _
 refine Calls.mono hc ?_
 rintro e w' ⟨v, rfl, hR⟩
 exact h v w' hR
end
theorem Qq3 {P : Nat -> Prop} {ts : List Tok} {b : Nat} {A : Option Addr} {c : Nat} {en wo d : Int} {q : PR (Ex × Nat)} {w : World} {r : Ending} {w' : World} (h : XOut P ts b A c en wo d q w r w') : ∃ v, r = .returned v /\ XOut P ts b A c en wo d q w (.returned v) w' := by
 obtain ⟨j, wr, e, p, d', o, v, nm, A', n', c', ok, h1, h2, h3, rfl, h5⟩ := h
 exact ⟨_, rfl, j, wr, e, p, d', o, v, nm, A', n', c', ok, h1, h2, h3, rfl, h5⟩
theorem Qn7 {k m d p : Nat} {a : Ex} {r : List Tok} (h : opR k r = none) : parX (m + 1) (.loop k a) d p r = .ok (a, p) r := by
 rw [parX.eq_def]
 simp only [h]
theorem Qn8 {k m d p : Nat} {a : Ex} {r : List Tok} {o : Int} (h : opR k r = some o) : parX (m + 1) (.loop k a) d p r = bndX (parX m (.chain (k + 1)) d p r.tail) fun b r1 => bndX (cmpX (.mk o zv [] [a, b.1]) b.2 r1) fun y r2 => if k = 3 then .ok y r2 else parX m (.loop k y.1) d y.2 r2 := by
 rw [parX.eq_def]
 simp only [h]
theorem Qub (k : Nat) : (opL k).length <= 100 := by
 unfold opL
 repeat' split
 all_goals decide
theorem Qn9 (n : Nat) (IH : XCon 138 .signed n) : XChn 6 (n + 1) := by
 intro kv hkv
 obtain rfl : kv = 6 := hkv
 intro P ts w b A c i en wo p d hC hr hi hP hPw hp hd hfine
 have hbw := hr.1.1
 have KR := Hd hr
 have KC := Hd hC
 have KPw := Hd hPw
 have he : parX (n + 1) (.chain 6) d p (ts.drop i) = parX n .signed d p (ts.drop i) := by
  rw [parX.eq_def]
  exact iP rfl
 rw [he] at hfine ⊢
 have CE := Hd fun (Q : Nat -> Prop) (W0 : World) (hQ : ¬ Q b) (hQw : ∀ k, W0.heap.size <= k -> Q k) W (h0 : W0.heap.size <= W.heap.size) (hW : Bag b w W) (hR : Psr W b A ts.length c i en wo 0 p d) => IH Q ts W b A c i en wo p d (KC.out.bag hW) hR hi hQ (fun k hk => hQw k (Nat.le_trans h0 hk)) hp hd hfine
 generalize hq : parX n .signed d p (ts.drop i) = q at CE ⊢
 clear hfine he hq hC hr hPw
 go_enter Tryz.func91, Tryz.ntmps91
 go_upto_region 1 with fail
 refine uN ((Bel.refl w).alloc _) fun W hcc hf hz hb => ?_
 have T1 : Qab W w.heap.size 0 zv ⟨#[]⟩ none 0 0 := by simp [Qab, Qap, zv, hcc, hf, hz, go_sem]
 clear hcc hf hz
 have hwW : w.heap.size < W.heap.size := T1.1
 generalize hN : w.heap.size = N at T1 hwW ⊢
 have NW := Hd (show w.heap.size <= N from by omega)
 have nb : N ≠ b := by omega
 clear hN
 have xN : ¬ b = N := fun e => nb e.symm
 have K1 := Hd T1
 clear T1
 have KP := Hd (KR.out.keep hb)
 have B1 := Hd (Bag.of (b := b) hb)
 have hPN : ¬ (fun k => P k /\ k ≠ N) b := fun h => hP h.1
 have hPNN : ¬ (fun k => P k /\ k ≠ N) N := fun h => h.2 rfl
 have hPNw := Hd (show ∀ k, W.heap.size <= k -> (fun k => P k /\ k ≠ N) k from fun k hk => ⟨KPw.out k (by have := NW.out; omega), by omega⟩)
 have CEX := Hd fun X (hX : X = W) (hW : Bag b w X) (hR : Psr X b A ts.length c i en wo 0 p d) => CE.out (fun k => P k /\ k ≠ N) W hPN hPNw.out X (by rw [hX]; exact Nat.le_refl _) hW hR
 go_wp2_with (go_at_call 138; (with_reducible refine Calls.mono (CEX.out _ rfl B1.out KP.out) ?_); rintro ee V3 ⟨j3, wr3, e3, p3, d3, o3, v3, nm3, A3, n3, c3, ok3, hb3, hr3, hj3, rfl, hx3⟩; have bg3 := Hd (B1.out.trans hb3); have ps3 := Hd hr3; have xr3 := Hd hx3; obtain ⟨vk3, vn3, vs3, vt3, vm3⟩ := v3; obtain ⟨sz, ⟨s0, s1, s2, s3, s4, s5, s6, s7⟩, ⟨sf0, sf1, sf2, sf3, sf4, sf5, sf6, sf7⟩⟩ := K1.out.bag hb3 nb; simp only [zv, Nat.zero_add] at s0 s1 s2 s3 s4 s5 s6 s7; clear hb3 hr3 hx3)
 refine pR (v := .tuple #[exV o3 ⟨vk3, vn3, vs3, vt3, vm3⟩ nm3 A3 n3 c3, .bool ok3]) (by simp [results, Tryz.results91, go_sem, zv, sz, s0, s1, s2, s3, s4, s5, s6, s7]) rfl (Qaq (j := j3) (wr' := wr3) (e' := e3) (p' := p3) (d' := d3) ?_ ?_ hj3 rfl ?_)
 ·repeat (first | with_reducible exact bg3.out | refine Bag.new ?_ NW.out _)
 ·repeat (first | with_reducible exact ps3.out | refine Psr.far ?_ xN _)
 intro _
 refine XRes.move xr3.out fun l hl => (hl.bag (b := N) ?_ hPNN).weak fun k h _ => h.1
 repeat (first | with_reducible exact Bag.refl N V3 | refine Bag.setCell (b := N) ?_ rfl _)
theorem Qoa (k n : Nat) (h1 : 1 <= k) (h5 : k <= 5) (IH : ∀ m, m <= n -> XChn (k + 1) m) : XChn k (n + 1) := by
 intro kv hkv
 subst hkv
 intro P ts w b A c i en wo p d hC hr hi hP hPw hp hd hfine
 have hbw := hr.1.1
 have KR := Hd hr
 have KC := Hd hC
 have KPw := Hd hPw
 have he : parX (n + 1) (.chain k) d p (ts.drop i) = bndX (parX n (.chain (k + 1)) d p (ts.drop i)) fun a r1 => parX n (.loop k a.1) d a.2 r1 := by
  rw [parX.eq_def]
  exact iN (by omega)
 rw [he] at hfine ⊢
 have hf2 := Qbc hfine
 have g6 : ¬ (k : Int) = 6 := by omega
 have wk : IntKind.i64.wrap ((k : Int) + 1) = (k : Int) + 1 := by rw [IntKind.wrap_i64]; omega
 have CE := Hd fun (m : Nat) (hm : m <= n) (Q : Nat -> Prop) (W0 : World) (hQ : ¬ Q b) (hQw : ∀ k, W0.heap.size <= k -> Q k) W (j pp : Nat) (hj : j <= ts.length) (hpp : pp <= 4096) (hf : (parX m (.chain (k + 1)) d pp (ts.drop j)).fine) (h0 : W0.heap.size <= W.heap.size) (hW : Bag b w W) (hR : Psr W b A ts.length c j en wo 0 pp d) => IH m hm ((k : Int) + 1) (by omega) Q ts W b A c j en wo pp d (KC.out.bag hW) hR hj hQ (fun k hk => hQw k (Nat.le_trans h0 hk)) hpp hd hf
 have CX0 := Hd fun (Q : Nat -> Prop) (W0 : World) (hQ : ¬ Q b) (hQw : ∀ k, W0.heap.size <= k -> Q k) W (h0 : W0.heap.size <= W.heap.size) (hW : Bag b w W) (hR : Psr W b A ts.length c i en wo 0 p d) => CE.out n (Nat.le_refl _) Q W0 hQ hQw W i p hi hp hf2 h0 hW hR
 have hfh := Hd hfine
 clear hfine he hf2 hC hr hPw
 generalize hq : parX n (.chain (k + 1)) d p (ts.drop i) = q at CX0 hfh ⊢
 clear hq
 go_enter Tryz.func91, Tryz.ntmps91
 go_upto_region 1 with fail
 refine uN ((Bel.refl w).alloc _) fun W hcc hf hz hb => ?_
 have T1 : Qab W w.heap.size 0 zv ⟨#[]⟩ none 0 0 := by simp [Qab, Qap, zv, hcc, hf, hz, go_sem]
 clear hcc hf hz
 have hwW : w.heap.size < W.heap.size := T1.1
 generalize hN : w.heap.size = N at T1 hwW ⊢
 have NW := Hd (show w.heap.size <= N from by omega)
 have nb : N ≠ b := by omega
 clear hN
 have xN : ¬ b = N := fun e => nb e.symm
 have K1 := Hd T1
 clear T1
 have KP := Hd (KR.out.keep hb)
 have B1 := Hd (Bag.of (b := b) hb)
 have hPN : ¬ (fun k => P k /\ k ≠ N) b := fun h => hP h.1
 have hPNN : ¬ (fun k => P k /\ k ≠ N) N := fun h => h.2 rfl
 have hPNw := Hd (show ∀ k, W.heap.size <= k -> (fun k => P k /\ k ≠ N) k from fun k hk => ⟨KPw.out k (by have := NW.out; omega), by omega⟩)
 have CEX := Hd fun X (hX : X = W) (hW : Bag b w X) (hR : Psr X b A ts.length c i en wo 0 p d) => CX0.out (fun k => P k /\ k ≠ N) W hPN hPNw.out X (by rw [hX]; exact Nat.le_refl _) hW hR
 go_upto_region 3 with fail
 go_upto_region 4 with (go_at_call 91; (with_reducible refine Calls.mono (CEX.out _ rfl B1.out KP.out) ?_); rintro ee V3 ⟨j3, wr3, e3, p3, d3, o3, v3, nm3, A3, n3, c3, ok3, hbV3, hrV3, hj3, rfl, hxV3⟩; have bg3 := Hd (B1.out.trans hbV3); have ps3 := Hd hrV3; have xr3 := Hd hxV3; have L3 := Hd (K1.out.bag hbV3 nb); clear hbV3 hrV3 hxV3)
 obtain ⟨vk3, vn3, vs3, vt3, vm3⟩ := v3
 refine uN (w0 := V3) (by exact Bel.y) fun W4 hcc hf hz hbW4 => ?_
 have T3 : Qab W4 V3.heap.size o3 ⟨vk3, vn3, vs3, vt3, vm3⟩ nm3 A3 n3 c3 := by simp [Qab, Qap, hcc, hf, hz, go_sem]
 clear hcc hf hz
 have nM3 : N < V3.heap.size := L3.out.1
 have bM3 : b < V3.heap.size := ps3.out.1.1
 have xs3 := Hd (show ∀ l, Lie (fun k => P k /\ k ≠ N) V3 A3 l -> Lie (fun k => (P k /\ k ≠ N) /\ k ≠ V3.heap.size) W4 A3 l from fun l h => (h.weak (Q := fun k => (P k /\ k ≠ N) /\ k ≠ V3.heap.size) (fun q hq hlt => ⟨hq, by omega⟩)).keep hbW4)
 have MW3 := Hd (show w.heap.size <= V3.heap.size from bg3.out.size)
 generalize V3.heap.size = M at T3 nM3 bM3 xs3 MW3
 have mb3 : M ≠ b := by omega
 have mN3 : ¬ N = M := by omega
 have Nm3 : ¬ M = N := by omega
 have xM3 : ¬ b = M := by omega
 have LM3 := Hd T3
 have LN3 := Hd (L3.out.keep hbW4)
 have bh3 := Hd (bg3.out.trans (Bag.of hbW4))
 have ph3 := Hd (ps3.out.keep hbW4)
 clear T3 hbW4
 cases q with
 | bad r f =>
  obtain ⟨rfl, hw3, he3⟩ : ok3 = false /\ wr3 = plcT en r /\ e3 = f := xr3.out
  have hwe := Hd (And.intro hw3 he3)
  clear hw3 he3
  obtain ⟨sz, ⟨s0, s1, s2, s3, s4, s5, s6, s7⟩, ⟨sf0, sf1, sf2, sf3, sf4, sf5, sf6, sf7⟩⟩ := LN3.out
  simp only [zv, Nat.zero_add] at s0 s1 s2 s3 s4 s5 s6 s7
  go_wp2_with fail
  refine pR (v := .tuple #[exV 0 zv ⟨#[]⟩ none 0 0, .bool false]) (by simp [results, Tryz.results91, go_sem, zv, sz, s0, s1, s2, s3, s4, s5, s6, s7]) rfl (Qaq (j := j3) (wr' := wr3) (e' := e3) (p' := p3) (d' := d3) ?_ ?_ hj3 rfl ?_)
  ·repeat (first | with_reducible exact bh3.out | refine Bag.new ?_ NW.out _)
  ·repeat (first | with_reducible exact ph3.out | refine Psr.far ?_ xN _)
  ·exact fun _ => ⟨rfl, hwe.out.1, hwe.out.2⟩
 | ok y r =>
  obtain ⟨rfl, rfl, hv3, rfl, rfl, hl3, hd3, hw3, rfl, rfl, rfl, hpp3⟩ : ok3 = true /\ o3 = y.1.op /\ _ = y.1.v /\ nm3 = Qaa y.1.nm /\ n3 = y.1.ks.length /\ Lie _ V3 A3 y.1.ks /\ ts.drop j3 = r /\ wr3 = wo /\ e3 = 0 /\ p3 = y.2 /\ d3 = d /\ y.2 <= 4096 := xr3.out
  replace hw3 := hw3.symm
  subst hw3
  have hP3b : ¬ (fun k => (P k /\ k ≠ N) /\ k ≠ M) b := fun h => hPN h.1
  have hP3w := Hd (show ∀ q, W4.heap.size <= q -> (fun k => (P k /\ k ≠ N) /\ k ≠ M) q from fun q hq => ⟨⟨KPw.out _ (Nat.le_trans bh3.out.size hq), by have := LN3.out.1; omega⟩, by have := LM3.out.1; omega⟩)
  have hMw : w.heap.size <= M := MW3.out
  have hQf : (parX n (.loop k y.1) d y.2 (ts.drop j3)).fine := by rw [hd3]; exact hfh.out
  have HR := Hd (show bndX (PR.ok y r) (fun (a : Ex × Nat) r1 => parX n (.loop k a.1) d a.2 r1) = parX n (.loop k y.1) d y.2 (ts.drop j3) from by rw [hd3]; rfl)
  generalize hQ : parX n (.loop k y.1) d y.2 (ts.drop j3) = Q at hQf HR
  have HQf := Hd hQf
  have CO := Hd (Qg0 k h1 h5 W4)
  have K5 := Hd (And.intro hQ (And.intro (xs3.out _ hl3) (And.intro hv3 hpp3)))
  clear hQ hl3 hv3 hpp3 hd3 xr3 hfh hQf CEX
  go_wp2_with (go_at_call 139; (with_reducible refine Calls.mono CO.out ?_); rintro ee V5 ⟨B, rfl, hb5, hB1, hB2, hO⟩; have h5b := Hd hb5; have hBO := Hd (And.intro hB1 (And.intro hB2 hO)); clear hb5 hB1 hB2 hO)
  have hBb : B ≠ b := by have := hBO.out.1; have := ph3.out.1.1; omega
  have hBN : B ≠ N := by have := hBO.out.1; have := LN3.out.1; omega
  have hBM : B ≠ M := by have := hBO.out.1; have := LM3.out.1; omega
  have K6 := Hd (show Bag b w V5 /\ Psr V5 b A ts.length c j3 en wo 0 y.2 d /\ Qab V5 N 0 zv ⟨#[]⟩ none 0 0 /\ Qab V5 M y.1.op ⟨vk3, vn3, vs3, vt3, vm3⟩ (Qaa y.1.nm) A3 y.1.ks.length c3 /\ Lie (fun k => (P k /\ k ≠ N) /\ k ≠ M) V5 A3 y.1.ks /\ OpAt V5 B 0 (opL k) /\ B < V5.heap.size /\ W4.heap.size <= V5.heap.size from ⟨bh3.out.trans (Bag.of h5b.out), ph3.out.keep h5b.out, LN3.out.keep h5b.out, LM3.out.keep h5b.out, K5.out.2.1.keep h5b.out, hBO.out.2.2, hBO.out.2.1, h5b.out.size⟩)
  go_loopg [9, 11] n (fun g _ _ wq => ∃ (m : Nat) (a : Ex) (pp j : Nat) (vk vn vs : Int) (vt : ByteArray) (vm : Int) (A' : Option Addr) (c' : Nat), m <= n /\ j <= ts.length /\ pp <= 4096 /\ Hid (g = m) /\ Hid (⟨vk, vn, vs, vt, vm⟩ = a.v) /\ Hid (parX m (.loop k a) d pp (ts.drop j) = Q) /\ Hid (Bag b w wq /\ Psr wq b A ts.length c j en wo 0 pp d /\ Qab wq N 0 zv ⟨#[]⟩ none 0 0 /\ Qab wq M a.op ⟨vk, vn, vs, vt, vm⟩ (Qaa a.nm) A' a.ks.length c' /\ Lie (fun k => (P k /\ k ≠ N) /\ k ≠ M) wq A' a.ks /\ OpAt wq B 0 (opL k) /\ B < wq.heap.size /\ W4.heap.size <= wq.heap.size))
  case atStart => exact ⟨n, y.1, y.2, j3, vk3, vn3, vs3, vt3, vm3, A3, c3, Nat.le_refl _, hj3, K5.out.2.2.2, Hd rfl, Hd K5.out.2.2.1, Hd K5.out.1, K6⟩
  case round =>
   obtain ⟨m, a, pp, j, vk, vn, vs, vt, vm, A', c', hmn, hj, hpp, hg, hv, hQ, hW⟩ := hrel
   cases m with
   | zero => exact absurd (show (parX 0 (.loop k a) d pp (ts.drop j)).fine from by rw [hQ.out]; exact HQf.out) (fun h => h rfl)
   | succ m =>
    have hop := Qt9 k (ts.drop j) h1 h5
    have CI := Qlo (opL k) (Qub k) ts wr b A c j en wo pp d B (KC.out.bag hW.out.1) hW.out.2.1 hj hW.out.2.2.2.2.2.2.1 hBb hW.out.2.2.2.2.2.1
    cases hf : fsO (opL k) (ts.drop j) 0 with
    | none =>
     rw [hf] at hop CI
     simp only [idxI, idxJ] at CI
     have hq2 := Hd (show Q = .ok (a, pp) (ts.drop j) from by rw [← hQ.out]; exact Qn7 hop.symm)
     replace CI := Hd CI
     clear hf hop
     go_wp2_with (go_at_call 140; (with_reducible refine Calls.mono CI.out ?_); rintro ee V6 ⟨rfl, hb6, hr6⟩; have bg6 := Hd (hW.out.1.trans hb6.bag); have ps6 := Hd hr6; have T6 := Hd (hW.out.2.2.2.2.1.bag hb6.bag hP3b); obtain ⟨tz, ⟨t0, t1, t2, t3, t4, t5, t6, t7⟩, ⟨tf0, tf1, tf2, tf3, tf4, tf5, tf6, tf7⟩⟩ := hW.out.2.2.2.1.bag hb6.bag mb3; simp only [Nat.zero_add] at t0 t1 t2 t3 t4 t5 t6 t7; obtain ⟨sz, ⟨s0, s1, s2, s3, s4, s5, s6, s7⟩, ⟨sf0, sf1, sf2, sf3, sf4, sf5, sf6, sf7⟩⟩ := hW.out.2.2.1.bag hb6.bag nb; simp only [zv, Nat.zero_add] at s0 s1 s2 s3 s4 s5 s6 s7; clear hb6 hr6)
     refine pR (v := .tuple #[exV a.op ⟨vk, vn, vs, vt, vm⟩ (Qaa a.nm) A' a.ks.length c', .bool true]) (by simp [results, Tryz.results91, go_sem, zv, sz, s0, s1, s2, s3, s4, s5, s6, s7]) rfl (Qaq (j := j) (wr' := wo) (e' := 0) (p' := pp) (d' := d) ?_ ?_ hj rfl ?_)
     ·repeat (first | with_reducible exact bg6.out | refine Bag.new ?_ NW.out _)
     ·repeat (first | with_reducible exact ps6.out | refine Psr.far ?_ xN _)
     ·intro _
      rw [HR.out, hq2.out]
      refine ⟨rfl, rfl, hv.out, rfl, rfl, (T6.out.bag (b := N) ?_ (fun h => hPNN h.1)).weak fun k h _ => h.1.1, rfl, rfl, rfl, rfl, rfl, hpp⟩
      repeat (first | with_reducible exact Bag.refl N _ | refine Bag.setCell (b := N) ?_ rfl _)
    | some q0 =>
     obtain ⟨jx, o⟩ := q0
     obtain ⟨x, hx, hxo, _, hxK⟩ := Qn6 _ _ _ hf
     rw [hf] at hop CI
     simp only [idxI, idxJ] at CI
     simp only [Nat.sub_zero] at hx hxo
     subst hxo
     have hjl := Qd6 hxK
     have hQ2 := hQ.out
     rw [Qn8 hop.symm, List.tail_drop] at hQ2
     have hf3 : (parX m (.chain (k + 1)) d pp (ts.drop (j + 1))).fine := Qbc (by rw [hQ2]; exact HQf.out)
     have CY := Hd fun X (h0 : W4.heap.size <= X.heap.size) (hW : Bag b w X) (hR : Psr X b A ts.length c (j + 1) en wo 0 pp d) => CE.out m (by omega) (fun k => (P k /\ k ≠ N) /\ k ≠ M) W4 hP3b hP3w.out X (j + 1) pp hjl hpp hf3 h0 hW hR
     generalize hz : parX m (.chain (k + 1)) d pp (ts.drop (j + 1)) = z at CY hQ2
     replace CI := Hd CI
     replace hQ2 := Hd hQ2
     have hxh := Hd hx
     have hjx : jx < (opL k).length := (List.getElem?_eq_some_iff.1 hx).1
     have hjx0 : (jx : Int) < ((opL k).length : Int) := by omega
     have hjx1 : ¬ (jx : Int) < 0 := by omega
     clear hf hop hz hf3 hxK hx
     go_upto_region 10 with (go_at_call 140; (with_reducible refine Calls.mono CI.out ?_); rintro ee V6 ⟨rfl, hb6, hr6⟩; have bg6 := Hd (hW.out.1.trans hb6.bag); have ps6 := Hd hr6; have L6 := Hd (hW.out.2.2.1.bag hb6.bag nb); have M6 := Hd (hW.out.2.2.2.1.bag hb6.bag mb3); have T6 := Hd (hW.out.2.2.2.2.1.bag hb6.bag hP3b); have O6 := Hd (hW.out.2.2.2.2.2.1.same fun o => hb6.cell (p := ⟨B, o, none⟩) hW.out.2.2.2.2.2.2.1 hBb); have sz6 := Hd (And.intro (lL hW.out.2.2.2.2.2.2.1 hb6.size) (Nat.le_trans hW.out.2.2.2.2.2.2.2 hb6.size)); clear hb6 hr6)
     go_upto_region 11 with (go_at_call 91; (with_reducible refine Calls.mono (CY.out _ sz6.out.2 bg6.out ps6.out) ?_); rintro ee V8 ⟨j8, wr8, e8, p8, d8, o8, v8, nm8, A8, n8, c8, ok8, hbV8, hrV8, hj8, rfl, hxV8⟩; have bg8 := Hd (bg6.out.trans hbV8); have ps8 := Hd hrV8; have xr8 := Hd hxV8; have L8 := Hd (L6.out.bag hbV8 nb); have HV8 := Hd hbV8; clear hbV8 hrV8 hxV8)
     obtain ⟨vk8, vn8, vs8, vt8, vm8⟩ := v8
     refine uN (w0 := V8) (by exact Bel.y) fun W9 hcc hf hz hbW9 => ?_
     have T8 : Qab W9 V8.heap.size o8 ⟨vk8, vn8, vs8, vt8, vm8⟩ nm8 A8 n8 c8 := by simp [Qab, Qap, hcc, hf, hz, go_sem]
     clear hcc hf hz
     have nM8 : N < V8.heap.size := L8.out.1
     have bM8 : b < V8.heap.size := ps8.out.1.1
     have xs8 := Hd (show ∀ l, Lie (fun k => (P k /\ k ≠ N) /\ k ≠ M) V8 A8 l -> Lie (fun k => ((P k /\ k ≠ N) /\ k ≠ M) /\ k ≠ V8.heap.size) W9 A8 l from fun l h => (h.weak (Q := fun k => ((P k /\ k ≠ N) /\ k ≠ M) /\ k ≠ V8.heap.size) (fun q hq hlt => ⟨hq, by omega⟩)).keep hbW9)
     have MW8 := Hd (show w.heap.size <= V8.heap.size from bg8.out.size)
     have mY8 : M < V8.heap.size := (M6.out.bag HV8.out mb3).1
     have BY8 : B < V8.heap.size := lL sz6.out.1 HV8.out.size
     generalize V8.heap.size = Y at mY8 BY8 T8 nM8 bM8 xs8 MW8
     have mb8 : Y ≠ b := by omega
     have mN8 : ¬ N = Y := by omega
     have Nm8 : ¬ Y = N := by omega
     have xM8 : ¬ b = Y := by omega
     have LM8 := Hd T8
     have LN8 := Hd (L8.out.keep hbW9)
     have bh8 := Hd (bg8.out.trans (Bag.of hbW9))
     have ph8 := Hd (ps8.out.keep hbW9)
     have HW8 := Hd hbW9
     clear T8 hbW9
     have LX8 := Hd ((M6.out.bag HV8.out mb3).keep HW8.out)
     have TX8 := Hd ((T6.out.bag HV8.out hP3b).keep HW8.out)
     have OX8 := Hd ((O6.out.same fun o => HV8.out.cell (p := ⟨B, o, none⟩) sz6.out.1 hBb).same fun o => (Bag.of (b := b) HW8.out).cell (p := ⟨B, o, none⟩) (lL sz6.out.1 HV8.out.size) hBb)
     cases z with
     | bad r2 f2 =>
      obtain ⟨rfl, hw3, he3⟩ : ok8 = false /\ wr8 = plcT en r2 /\ e8 = f2 := xr8.out
      have hwe := Hd (And.intro hw3 he3)
      have hq2 := Hd (show Q = .bad r2 f2 from hQ2.out.symm)
      clear hw3 he3
      obtain ⟨sz, ⟨s0, s1, s2, s3, s4, s5, s6, s7⟩, ⟨sf0, sf1, sf2, sf3, sf4, sf5, sf6, sf7⟩⟩ := LN8.out
      simp only [zv, Nat.zero_add] at s0 s1 s2 s3 s4 s5 s6 s7
      go_wp2_with fail
      refine pR (v := .tuple #[exV 0 zv ⟨#[]⟩ none 0 0, .bool false]) (by simp [results, Tryz.results91, go_sem, zv, sz, s0, s1, s2, s3, s4, s5, s6, s7]) rfl (Qaq (j := j8) (wr' := wr8) (e' := e8) (p' := p8) (d' := d8) ?_ ?_ hj8 rfl ?_)
      ·repeat (first | with_reducible exact bh8.out | refine Bag.new ?_ NW.out _)
      ·repeat (first | with_reducible exact ph8.out | refine Psr.far ?_ xN _)
      ·intro _
       rw [HR.out, hq2.out]
       exact ⟨rfl, hwe.out.1, hwe.out.2⟩
     | ok y2 r2 =>
      obtain ⟨rfl, rfl, hv8, rfl, rfl, hl8, hd8, hw8, rfl, rfl, rfl, hpp8⟩ : ok8 = true /\ o8 = y2.1.op /\ _ = y2.1.v /\ nm8 = Qaa y2.1.nm /\ n8 = y2.1.ks.length /\ Lie _ V8 A8 y2.1.ks /\ ts.drop j8 = r2 /\ wr8 = wo /\ e8 = 0 /\ p8 = y2.2 /\ d8 = d /\ y2.2 <= 4096 := xr8.out
      replace hw8 := hw8.symm
      subst hw8
      have TY8 := Hd (xs8.out _ hl8)
      have hQ3 := Hd (show (bndX (cmpX (.mk x.1 zv [] [a, y2.1]) y2.2 (ts.drop j8)) fun y r2 => if k = 3 then .ok y r2 else parX m (.loop k y.1) d y.2 r2) = Q from by rw [hd8]; exact hQ2.out)
      have hv8h := Hd hv8
      clear hl8 hv8 hd8 hQ2 xr8
      go_upto_region 13 with fail
      have szB : B < W9.heap.size := lL BY8 (Nat.le_of_lt LM8.out.1)
      have sz9 : W4.heap.size <= W9.heap.size := Nat.le_trans sz6.out.2 (Nat.le_trans HV8.out.size HW8.out.size)
      refine wp_region_noPanic ?_
      refine wp_region_held (S := fun X => Qap X Y 0 y2.1.op ⟨vk8, vn8, vs8, vt8, vm8⟩ (Qaa y2.1.nm) A8 y2.1.ks.length c8 /\ X.cell? ⟨B, jx * 2, none⟩ = some (.int .i64 x.1)) (by kernel_rfl) ?_
      have hX0 : Bel W9 { W9 with drawn := W9.drawn + 1 } := (Bel.refl W9).drew
      generalize { W9 with drawn := W9.drawn + 1 } = X0 at hX0 ⊢
      have O0 := Hd (OX8.out.same fun o => (Bag.of (b := b) hX0).cell (p := ⟨B, o, none⟩) szB hBb)
      have S0 : Qap X0 Y 0 y2.1.op ⟨vk8, vn8, vs8, vt8, vm8⟩ (Qaa y2.1.nm) A8 y2.1.ks.length c8 /\ X0.cell? ⟨B, jx * 2, none⟩ = some (.int .i64 x.1) := ⟨(LM8.out.keep hX0).2.1, by have h := (O0.out.get hxh.out).1; simpa using h⟩
      have LX0 := Hd (LX8.out.keep hX0)
      have LY0 := Hd (LM8.out.keep hX0)
      have LN0 := Hd (LN8.out.keep hX0)
      have TX0 := TX8.out.keep hX0
      have TY0 := TY8.out.keep hX0
      have BG0 := bh8.out.trans (Bag.of hX0)
      have PS0 := ph8.out.keep hX0
      have sB0 : B < X0.heap.size := lL szB hX0.size
      have s40 : W4.heap.size <= X0.heap.size := Nat.le_trans sz9 hX0.size
      have hne := hP3w.out X0.heap.size s40
      have hBl := (Bel.refl X0).alloc (.cells #[.int .i64 a.op, .int .i64 vk, .int .i64 vn, .int .i64 vs, .string vt, .int .i64 vm, .string (Qaa a.nm), .slice A' a.ks.length c', .int .i64 y2.1.op, .int .i64 vk8, .int .i64 vn8, .int .i64 vs8, .string vt8, .int .i64 vm8, .string (Qaa y2.1.nm), .slice A8 y2.1.ks.length c8] 28)
      have CPT := Qe5 (fun k => (P k /\ k ≠ N) /\ k ≠ M) x.1 [a, y2.1] (some ⟨X0.heap.size, 0, none⟩) 2 ts (X0.alloc (.cells #[.int .i64 a.op, .int .i64 vk, .int .i64 vn, .int .i64 vs, .string vt, .int .i64 vm, .string (Qaa a.nm), .slice A' a.ks.length c', .int .i64 y2.1.op, .int .i64 vk8, .int .i64 vn8, .int .i64 vs8, .string vt8, .int .i64 vm8, .string (Qaa y2.1.nm), .slice A8 y2.1.ks.length c8] 28)) b A c j8 en wo y2.2 d ((KC.out.bag BG0).keep hBl) (PS0.keep hBl) hj8 (Qkl hne (by simp) fun q z hz => by
       match q, hz with
       | 0, hz =>
        obtain rfl : a = z := by simpa using hz
        refine ⟨A', c', ?_, (TX0.keep hBl).weak fun k h _ => h⟩
        have hE : Qap (X0.alloc (.cells #[.int .i64 a.op, .int .i64 vk, .int .i64 vn, .int .i64 vs, .string vt, .int .i64 vm, .string (Qaa a.nm), .slice A' a.ks.length c', .int .i64 y2.1.op, .int .i64 vk8, .int .i64 vn8, .int .i64 vs8, .string vt8, .int .i64 vm8, .string (Qaa y2.1.nm), .slice A8 y2.1.ks.length c8] 28)) X0.heap.size 0 a.op ⟨vk, vn, vs, vt, vm⟩ (Qaa a.nm) A' a.ks.length c' := by simp [Qap, go_sem]
        rw [← hv.out]
        simpa using hE
       | 1, hz =>
        obtain rfl : y2.1 = z := by simpa using hz
        refine ⟨A8, c8, ?_, (TY0.keep hBl).weak fun k h _ => h.1⟩
        have hE : Qap (X0.alloc (.cells #[.int .i64 a.op, .int .i64 vk, .int .i64 vn, .int .i64 vs, .string vt, .int .i64 vm, .string (Qaa a.nm), .slice A' a.ks.length c', .int .i64 y2.1.op, .int .i64 vk8, .int .i64 vn8, .int .i64 vs8, .string vt8, .int .i64 vm8, .string (Qaa y2.1.nm), .slice A8 y2.1.ks.length c8] 28)) X0.heap.size 8 y2.1.op ⟨vk8, vn8, vs8, vt8, vm8⟩ (Qaa y2.1.nm) A8 y2.1.ks.length c8 := by simp [Qap, go_sem]
        rw [← hv8h.out]
        simpa using hE
       | q + 2, hz => simp at hz) (by simp) (by simp) hP3b (fun k hk => hP3w.out k (Nat.le_trans s40 (Nat.le_trans hBl.size hk))) hpp8
      generalize hq2 : cmpX (.mk x.1 zv [] [a, y2.1]) y2.2 (ts.drop j8) = q2 at CPT hQ3
      replace CPT := Hd CPT
      have BG1 := Hd (BG0.trans (Bag.of hBl))
      have LX1 := Hd (LX0.out.keep hBl)
      have LY1 := Hd (LY0.out.keep hBl)
      have LN1 := Hd (LN0.out.keep hBl)
      have O1 := Hd (O0.out.same fun o => (Bag.of (b := b) hBl).cell (p := ⟨B, o, none⟩) sB0 hBb)
      have s41 := Nat.le_trans s40 hBl.size
      have sB1 := lL sB0 hBl.size
      clear hX0 TX0 TY0 BG0 PS0 hne hq2 hBl
      refine wpAnyH_take (i := 0) (oi := { dst := some 48, op := Op.move (Operand.tmp 0), type := 57, pos := "parse.go:139", after := #[], guard := none }) (v := .pointer (some ⟨b, 0, none⟩)) rfl (by kernel_rfl) (by kernel_rfl) (by kernel_rfl) (fun _ _ _ h => h) (.inl ⟨by rfl, fun X hS => by
        clear hS
        go_simp; first | done | with_reducible rfl | rfl⟩) S0 ?_
      (try simp only [Act.put, List.setIfInBounds_toArray, List.set_cons_zero, List.set_cons_succ])
      refine wpAnyH_take (i := 1) (oi := { dst := some 49, op := Op.move (Operand.tmp 8), type := 153, pos := "parse.go:139", after := #[], guard := none }) (v := .slice (some ⟨B, 0, none⟩) (opL k).length (opL k).length) rfl (by kernel_rfl) (by kernel_rfl) (by kernel_rfl) (fun _ _ _ h => h) (.inl ⟨by rfl, fun X hS => by
        clear hS
        go_simp; first | done | with_reducible rfl | rfl⟩) S0 ?_
      (try simp only [Act.put, List.setIfInBounds_toArray, List.set_cons_zero, List.set_cons_succ])
      refine wpAnyH_take (i := 2) (oi := { dst := some 50, op := Op.move (Operand.tmp 9), type := 3, pos := "parse.go:139", after := #[], guard := none }) (v := .int .i64 jx) rfl (by kernel_rfl) (by kernel_rfl) (by kernel_rfl) (fun _ _ _ h => h) (.inl ⟨by rfl, fun X hS => by
        clear hS
        go_simp; first | done | with_reducible rfl | rfl⟩) S0 ?_
      (try simp only [Act.put, List.setIfInBounds_toArray, List.set_cons_zero, List.set_cons_succ])
      refine wpAnyH_take (i := 3) (oi := { dst := some 51, op := Op.indexAddr 153 (Operand.tmp 49) (Operand.tmp 50), type := 0, pos := "parse.go:139", after := #[{ on := 1, ground := Ground.data }, { on := 2, ground := Ground.data }], guard := none }) (v := .pointer (some ⟨B, jx * 2, none⟩)) rfl (by kernel_rfl) (by kernel_rfl) (by kernel_rfl) (fun _ _ _ h => h) (.inl ⟨by rfl, fun X hS => by
        clear hS
        go_simp; first | done | with_reducible rfl | rfl⟩) S0 ?_
      (try simp only [Act.put, List.setIfInBounds_toArray, List.set_cons_zero, List.set_cons_succ])
      refine wpAnyH_take (i := 4) (oi := { dst := some 52, op := Op.fieldAddr 157 (Operand.tmp 51) 0, type := 0, pos := "parse.go:139", after := #[{ on := 3, ground := Ground.data }], guard := none }) (v := .pointer (some ⟨B, jx * 2, none⟩)) rfl (by kernel_rfl) (by kernel_rfl) (by kernel_rfl) (fun _ _ _ h => h) (.inl ⟨by rfl, fun X hS => by
        clear hS
        go_simp; first | done | with_reducible rfl | rfl⟩) S0 ?_
      (try simp only [Act.put, List.setIfInBounds_toArray, List.set_cons_zero, List.set_cons_succ])
      refine wpAnyH_take (i := 5) (oi := { dst := some 53, op := Op.load 3 (Operand.tmp 52), type := 3, pos := "parse.go:139", after := #[{ on := 4, ground := Ground.data }], guard := none }) (v := .int .i64 x.1) rfl (by kernel_rfl) (by kernel_rfl) (by kernel_rfl) (fun _ _ _ h => h) (.inl ⟨by rfl, fun X hS => by
        obtain ⟨-, k0⟩ := hS
        go_simp; first | done | with_reducible rfl | rfl⟩) S0 ?_
      (try simp only [Act.put, List.setIfInBounds_toArray, List.set_cons_zero, List.set_cons_succ])
      refine wpAnyH_take (i := 7) (oi := { dst := some 55, op := Op.load 28 (Operand.tmp 10), type := 28, pos := "parse.go:139", after := #[], guard := none }) (v := .agg #[.int .i64 y2.1.op, .int .i64 vk8, .int .i64 vn8, .int .i64 vs8, .string vt8, .int .i64 vm8, .string (Qaa y2.1.nm), .slice A8 y2.1.ks.length c8]) rfl (by kernel_rfl) (by kernel_rfl) (by kernel_rfl) (fun _ _ _ h => h) (.inl ⟨by rfl, fun X hS => by
        obtain ⟨⟨k0, k1, k2, k3, k4, k5, k6, k7⟩, -⟩ := hS
        simp only [Nat.zero_add] at k0 k1 k2 k3 k4 k5 k6 k7
        go_simp; first | done | with_reducible rfl | rfl⟩) S0 ?_
      (try simp only [Act.put, List.setIfInBounds_toArray, List.set_cons_zero, List.set_cons_succ])
      refine wpAnyH_all (rs := [6]) (by kernel_rfl) (by simp) ?_
      intro i hi
      simp only [List.mem_cons, List.not_mem_nil, or_false] at hi
      subst hi
      obtain ⟨k0, k1, k2, k3, k4, k5, k6, k7⟩ := LX0.out.2.1
      simp only [Nat.zero_add] at k0 k1 k2 k3 k4 k5 k6 k7
      refine Qf9 (o := { dst := some 54, op := Op.load 28 (Operand.tmp 6), type := 28, pos := "parse.go:139", after := #[], guard := none }) (v := .agg #[.int .i64 a.op, .int .i64 vk, .int .i64 vn, .int .i64 vs, .string vt, .int .i64 vm, .string (Qaa a.nm), .slice A' a.ks.length c']) (w' := X0) rfl (by rfl) (by go_simp; first | done | with_reducible rfl | rfl) ?_
      clear k0 k1 k2 k3 k4 k5 k6 k7
      refine ⟨S0, ?_⟩
      (try simp only [Act.put, List.setIfInBounds_toArray, List.set_cons_zero, List.set_cons_succ])
      refine wpAnyH_all (rs := [8]) (by kernel_rfl) (by simp) ?_
      intro i hi
      simp only [List.mem_cons, List.not_mem_nil, or_false] at hi
      subst hi
      refine Qf9 (o := { dst := some 56, op := Op.buildSlice 26 2 #[(0, Operand.tmp 54), (1, Operand.tmp 55)], type := 26, pos := "parse.go:139", after := #[{ on := 6, ground := Ground.data }, { on := 7, ground := Ground.data }], guard := none }) (v := .slice (some ⟨X0.heap.size, 0, none⟩) 2 2) (w' := (X0.alloc (.cells #[.int .i64 a.op, .int .i64 vk, .int .i64 vn, .int .i64 vs, .string vt, .int .i64 vm, .string (Qaa a.nm), .slice A' a.ks.length c', .int .i64 y2.1.op, .int .i64 vk8, .int .i64 vn8, .int .i64 vs8, .string vt8, .int .i64 vm8, .string (Qaa y2.1.nm), .slice A8 y2.1.ks.length c8] 28))) rfl (by rfl) (by go_simp; first | done | with_reducible rfl | rfl) ?_
      have S1 : Qap (X0.alloc (.cells #[.int .i64 a.op, .int .i64 vk, .int .i64 vn, .int .i64 vs, .string vt, .int .i64 vm, .string (Qaa a.nm), .slice A' a.ks.length c', .int .i64 y2.1.op, .int .i64 vk8, .int .i64 vn8, .int .i64 vs8, .string vt8, .int .i64 vm8, .string (Qaa y2.1.nm), .slice A8 y2.1.ks.length c8] 28)) Y 0 y2.1.op ⟨vk8, vn8, vs8, vt8, vm8⟩ (Qaa y2.1.nm) A8 y2.1.ks.length c8 /\ (X0.alloc (.cells #[.int .i64 a.op, .int .i64 vk, .int .i64 vn, .int .i64 vs, .string vt, .int .i64 vm, .string (Qaa a.nm), .slice A' a.ks.length c', .int .i64 y2.1.op, .int .i64 vk8, .int .i64 vn8, .int .i64 vs8, .string vt8, .int .i64 vm8, .string (Qaa y2.1.nm), .slice A8 y2.1.ks.length c8] 28)).cell? ⟨B, jx * 2, none⟩ = some (.int .i64 x.1) := ⟨LY1.out.2.1, by have h := (O1.out.get hxh.out).1; simpa using h⟩
      refine ⟨S1, ?_⟩
      (try simp only [Act.put, List.setIfInBounds_toArray, List.set_cons_zero, List.set_cons_succ])
      generalize (X0.alloc (.cells #[.int .i64 a.op, .int .i64 vk, .int .i64 vn, .int .i64 vs, .string vt, .int .i64 vm, .string (Qaa a.nm), .slice A' a.ks.length c', .int .i64 y2.1.op, .int .i64 vk8, .int .i64 vn8, .int .i64 vs8, .string vt8, .int .i64 vm8, .string (Qaa y2.1.nm), .slice A8 y2.1.ks.length c8] 28)) = X1 at S1 CPT BG1 LX1 LY1 LN1 O1 s41 sB1 ⊢
      clear S0 LX0 LY0 LN0 O0 s40 sB0
      refine wpAnyH_all (rs := [9]) (by kernel_rfl) (by simp) ?_
      intro i hi
      simp only [List.mem_cons, List.not_mem_nil, or_false] at hi
      subst hi
      refine Qa6 (o := { dst := some 57, op := Op.call { callee := Callee.value (Operand.func 92), args := #[Operand.tmp 48, Operand.tmp 53, Operand.tmp 56], argTypes := #[57, 3, 26] }, type := 66, pos := "parse.go:139", after := #[{ on := 0, ground := Ground.data }, { on := 5, ground := Ground.data }, { on := 8, ground := Ground.data }], guard := none }) (R := fun v w' => XOut (fun k => (P k /\ k ≠ N) /\ k ≠ M) ts b A c en wo d q2 X1 (.returned v) w') rfl (by rfl) (by go_simp; first | done | with_reducible rfl | rfl) (CPT.out.mono fun e w' h => Qq3 h) ?_
      rintro v X2 ⟨j7, wr7, e7, p7, d7, o7, v7, nm7, A7, n7, c7, ok7, hb7, hr7, hj7, hrr, hx7⟩
      obtain ⟨vk7, vn7, vs7, vt7, vm7⟩ := v7
      obtain rfl := Ending.returned.inj hrr
      clear hrr
      have bg7 := Hd (BG1.out.trans hb7)
      have ps7 := Hd hr7
      have xr7 := Hd hx7
      have LX2 := Hd (LX1.out.bag hb7 mb3)
      have LY2 := Hd (LY1.out.bag hb7 mb8)
      have LN2 := Hd (LN1.out.bag hb7 nb)
      have O2 := Hd (O1.out.same fun o => hb7.cell (p := ⟨B, o, none⟩) sB1 hBb)
      have s42 := Nat.le_trans s41 hb7.size
      have sB2 := lL sB1 hb7.size
      have S2 : Qap X2 Y 0 y2.1.op ⟨vk8, vn8, vs8, vt8, vm8⟩ (Qaa y2.1.nm) A8 y2.1.ks.length c8 /\ X2.cell? ⟨B, jx * 2, none⟩ = some (.int .i64 x.1) := ⟨LY2.out.2.1, by have h := (O2.out.get hxh.out).1; simpa using h⟩
      clear hb7 hr7 hx7 S1 LX1 LY1 LN1 O1 BG1 CPT s41 sB1
      refine ⟨S2, ?_⟩
      (try simp only [Act.put, List.setIfInBounds_toArray, List.set_cons_zero, List.set_cons_succ])
      refine wpAnyH_take (i := 10) (oi := { dst := some 47, op := Op.move (Operand.tmp 57), type := 66, pos := "parse.go:139", after := #[{ on := 9, ground := Ground.data }], guard := none }) (v := .tuple #[.agg #[.int .i64 o7, .int .i64 vk7, .int .i64 vn7, .int .i64 vs7, .string vt7, .int .i64 vm7, .string nm7, .slice A7 n7 c7], .bool ok7]) rfl (by kernel_rfl) (by kernel_rfl) (by kernel_rfl) (fun _ _ _ h => h) (.inl ⟨by rfl, fun X hS => by
        clear hS
        go_simp; first | done | with_reducible rfl | rfl⟩) S2 ?_
      (try simp only [Act.put, List.setIfInBounds_toArray, List.set_cons_zero, List.set_cons_succ])
      refine wpAnyH_take (i := 11) (oi := { dst := some 58, op := Op.extract (Operand.tmp 47) 0, type := 28, pos := "parse.go:139", after := #[{ on := 10, ground := Ground.data }], guard := none }) (v := .agg #[.int .i64 o7, .int .i64 vk7, .int .i64 vn7, .int .i64 vs7, .string vt7, .int .i64 vm7, .string nm7, .slice A7 n7 c7]) rfl (by kernel_rfl) (by kernel_rfl) (by kernel_rfl) (fun _ _ _ h => h) (.inl ⟨by rfl, fun X hS => by
        clear hS
        go_simp; first | done | with_reducible rfl | rfl⟩) S2 ?_
      (try simp only [Act.put, List.setIfInBounds_toArray, List.set_cons_zero, List.set_cons_succ])
      refine wpAnyH_take (i := 12) (oi := { dst := some 59, op := Op.extract (Operand.tmp 47) 1, type := 4, pos := "parse.go:139", after := #[{ on := 10, ground := Ground.data }, { on := 13, ground := Ground.gcOnly Departure.lateStores }], guard := none }) (v := .bool ok7) rfl (by kernel_rfl) (by kernel_rfl) (by kernel_rfl) (fun _ _ _ h => h) (.inl ⟨by rfl, fun X hS => by
        clear hS
        go_simp; first | done | with_reducible rfl | rfl⟩) S2 ?_
      (try simp only [Act.put, List.setIfInBounds_toArray, List.set_cons_zero, List.set_cons_succ])
      refine wpAnyH_all (rs := [13]) (by kernel_rfl) (by simp) ?_
      intro i hi
      simp only [List.mem_cons, List.not_mem_nil, or_false] at hi
      subst hi
      have hM := bag8 (V := X2) (M := M) (.int .i64 o7) (.int .i64 vk7) (.int .i64 vn7) (.int .i64 vs7) (.string vt7) (.int .i64 vm7) (.string nm7) (.slice A7 n7 c7)
      have hF := LX2.out.put o7 vk7 vn7 vs7 vt7 vm7 nm7 A7 n7 c7
      obtain ⟨sz, ⟨s0, s1, s2, s3, s4, s5, s6, s7⟩, ⟨sf0, sf1, sf2, sf3, sf4, sf5, sf6, sf7⟩⟩ := LX2.out
      simp only [Nat.zero_add] at s0 s1 s2 s3 s4 s5 s6 s7
      refine Qbv (o := { dst := none, op := Op.store 28 (Operand.tmp 6) (Operand.tmp 58), type := 0, pos := "parse.go:139", after := #[{ on := 11, ground := Ground.data }, { on := 9, ground := Ground.chain }, { on := 0, ground := Ground.phase }, { on := 1, ground := Ground.phase }, { on := 2, ground := Ground.phase }, { on := 3, ground := Ground.phase }, { on := 4, ground := Ground.phase }, { on := 5, ground := Ground.phase }, { on := 6, ground := Ground.phase }, { on := 7, ground := Ground.phase }, { on := 8, ground := Ground.phase }, { on := 9, ground := Ground.phase }, { on := 10, ground := Ground.phase }, { on := 11, ground := Ground.phase }, { on := 12, ground := Ground.textOnly Departure.lateStores }], guard := none }) (w' := ((((((((X2.setCell ⟨M, 0, none⟩ (.int .i64 o7)).setCell ⟨M, 1, none⟩ (.int .i64 vk7)).setCell ⟨M, 2, none⟩ (.int .i64 vn7)).setCell ⟨M, 3, none⟩ (.int .i64 vs7)).setCell ⟨M, 4, none⟩ (.string vt7)).setCell ⟨M, 5, none⟩ (.int .i64 vm7)).setCell ⟨M, 6, none⟩ (.string nm7)).setCell ⟨M, 7, none⟩ (.slice A7 n7 c7))) rfl (by rfl) (by go_simp; first | done | with_reducible rfl | rfl) ?_
      clear sz s0 s1 s2 s3 s4 s5 s6 s7 sf0 sf1 sf2 sf3 sf4 sf5 sf6 sf7
      generalize ((((((((X2.setCell ⟨M, 0, none⟩ (.int .i64 o7)).setCell ⟨M, 1, none⟩ (.int .i64 vk7)).setCell ⟨M, 2, none⟩ (.int .i64 vn7)).setCell ⟨M, 3, none⟩ (.int .i64 vs7)).setCell ⟨M, 4, none⟩ (.string vt7)).setCell ⟨M, 5, none⟩ (.int .i64 vm7)).setCell ⟨M, 6, none⟩ (.string nm7)).setCell ⟨M, 7, none⟩ (.slice A7 n7 c7)) = X3 at hM hF ⊢
      have LX3 := Hd hF
      have LN3' := Hd (LN2.out.bag hM mN3)
      have LY3 := LY2.out.bag hM (by omega)
      have O3 := Hd (O2.out.same fun o => hM.cell (p := ⟨B, o, none⟩) sB2 hBM)
      have bg9 := Hd (bg7.out.over hM hMw)
      have ps9 := Hd (ps7.out.apart hM xM3)
      have xr9 := Hd (show XRes (fun k => (P k /\ k ≠ N) /\ k ≠ M) ts en wo d q2 o7 ⟨vk7, vn7, vs7, vt7, vm7⟩ nm7 A7 n7 ok7 X3 j7 wr7 e7 p7 d7 from xr7.out.move fun l hl => hl.bag hM (fun h => h.2 rfl))
      have s43 := Nat.le_trans s42 hM.size
      have sB3 := lL sB2 hM.size
      have S3 : Qap X3 Y 0 y2.1.op ⟨vk8, vn8, vs8, vt8, vm8⟩ (Qaa y2.1.nm) A8 y2.1.ks.length c8 /\ X3.cell? ⟨B, jx * 2, none⟩ = some (.int .i64 x.1) := ⟨LY3.2.1, by have h := (O3.out.get hxh.out).1; simpa using h⟩
      refine ⟨S3, ?_⟩
      (try simp only [Act.put, List.setIfInBounds_toArray, List.set_cons_zero, List.set_cons_succ])
      clear hM hF S2 LX2 LY2 LN2 O2 bg7 ps7 xr7 s42 sB2 LY3
      refine wpAnyH_take (i := 14) (oi := { dst := some 11, op := Op.assign (Operand.tmp 59), type := 4, pos := "parse.go:139", after := #[{ on := 12, ground := Ground.data }, { on := 13, ground := Ground.chain }, { on := 0, ground := Ground.phase }, { on := 1, ground := Ground.phase }, { on := 2, ground := Ground.phase }, { on := 3, ground := Ground.phase }, { on := 4, ground := Ground.phase }, { on := 5, ground := Ground.phase }, { on := 6, ground := Ground.phase }, { on := 7, ground := Ground.phase }, { on := 8, ground := Ground.phase }, { on := 9, ground := Ground.phase }, { on := 10, ground := Ground.phase }, { on := 11, ground := Ground.phase }, { on := 12, ground := Ground.phase }, { on := 13, ground := Ground.phase }], guard := none }) (v := .bool ok7) rfl (by kernel_rfl) (by kernel_rfl) (by kernel_rfl) (fun _ _ _ h => h) (.inl ⟨by rfl, fun X hS => by
        clear hS
        go_simp; first | done | with_reducible rfl | rfl⟩) S3 ?_
      (try simp only [Act.put, List.setIfInBounds_toArray, List.set_cons_zero, List.set_cons_succ])
      refine wpAnyH_done (by kernel_rfl) ?_ _
      refine NoPanic.normal ?_
      clear S3 LX8 TX8 OX8 TY8 LM8 LN8 bh8 ph8 HV8 HW8 L6 M6 T6 O6 bg6 ps6 sz6 hW K6 K5 CI CY
      cases q2 with
      | bad r4 f4 =>
       obtain rfl : ok7 = false := xr9.out.1
       have hq := Hd (show Q = .bad r4 f4 from hQ3.out.symm)
       obtain ⟨tz, ⟨t0, t1, t2, t3, t4, t5, t6, t7⟩, ⟨tf0, tf1, tf2, tf3, tf4, tf5, tf6, tf7⟩⟩ := LX3.out
       simp only [Nat.zero_add] at t0 t1 t2 t3 t4 t5 t6 t7
       obtain ⟨sz, ⟨s0, s1, s2, s3, s4, s5, s6, s7⟩, ⟨sf0, sf1, sf2, sf3, sf4, sf5, sf6, sf7⟩⟩ := LN3'.out
       simp only [zv, Nat.zero_add] at s0 s1 s2 s3 s4 s5 s6 s7
       go_wp2_with fail
       refine pR (v := .tuple #[exV o7 ⟨vk7, vn7, vs7, vt7, vm7⟩ nm7 A7 n7 c7, .bool false]) (by simp [results, Tryz.results91, go_sem, zv, sz, s0, s1, s2, s3, s4, s5, s6, s7]) rfl (Qaq (j := j7) (wr' := wr7) (e' := e7) (p' := p7) (d' := d7) ?_ ?_ hj7 rfl ?_)
       ·repeat (first | with_reducible exact bg9.out | refine Bag.new ?_ NW.out _)
       ·repeat (first | with_reducible exact ps9.out | refine Psr.far ?_ xN _)
       ·intro _
        rw [HR.out, hq.out]
        refine XRes.move xr9.out fun l hl => (hl.bag (b := N) ?_ (fun h => hPNN h.1)).weak fun k h _ => h.1.1
        repeat (first | with_reducible exact Bag.refl N _ | refine Bag.setCell (b := N) ?_ rfl _)
      | ok y3 r4 =>
       by_cases k3 : k = 3
       ·obtain rfl : ok7 = true := xr9.out.1
        have hq := Hd (show Q = .ok y3 r4 from by rw [← hQ3.out]; exact iP k3)
        subst k3
        obtain ⟨tz, ⟨t0, t1, t2, t3, t4, t5, t6, t7⟩, ⟨tf0, tf1, tf2, tf3, tf4, tf5, tf6, tf7⟩⟩ := LX3.out
        simp only [Nat.zero_add] at t0 t1 t2 t3 t4 t5 t6 t7
        obtain ⟨sz, ⟨s0, s1, s2, s3, s4, s5, s6, s7⟩, ⟨sf0, sf1, sf2, sf3, sf4, sf5, sf6, sf7⟩⟩ := LN3'.out
        simp only [zv, Nat.zero_add] at s0 s1 s2 s3 s4 s5 s6 s7
        go_wp2_with fail
        refine pR (v := .tuple #[exV o7 ⟨vk7, vn7, vs7, vt7, vm7⟩ nm7 A7 n7 c7, .bool true]) (by simp [results, Tryz.results91, go_sem, zv, sz, s0, s1, s2, s3, s4, s5, s6, s7]) rfl (Qaq (j := j7) (wr' := wr7) (e' := e7) (p' := p7) (d' := d7) ?_ ?_ hj7 rfl ?_)
        ·repeat (first | with_reducible exact bg9.out | refine Bag.new ?_ NW.out _)
        ·repeat (first | with_reducible exact ps9.out | refine Psr.far ?_ xN _)
        intro _
        rw [HR.out, hq.out]
        refine XRes.move xr9.out fun l hl => (hl.bag (b := N) ?_ (fun h => hPNN h.1)).weak fun k h _ => h.1.1
        repeat (first | with_reducible exact Bag.refl N _ | refine Bag.setCell (b := N) ?_ rfl _)
       obtain ⟨rfl, rfl, hv7, rfl, rfl, hl7, hd7, hw7, rfl, rfl, rfl, hpp7⟩ : ok7 = true /\ o7 = y3.1.op /\ _ = y3.1.v /\ nm7 = Qaa y3.1.nm /\ n7 = y3.1.ks.length /\ Lie _ X3 A7 y3.1.ks /\ ts.drop j7 = r4 /\ wr7 = wo /\ e7 = 0 /\ p7 = y3.2 /\ d7 = d /\ y3.2 <= 4096 := xr9.out
       replace hw7 := hw7.symm
       subst hw7
       have hq := Hd (show parX m (.loop k y3.1) d y3.2 (ts.drop j7) = Q from by rw [← hQ3.out, hd7]; exact (iN k3).symm)
       have k3' : ¬ (k : Int) = 3 := by omega
       have hK := Hd (And.intro hv7 hl7)
       clear hv7 hl7 hd7
       go_wp2_with fail
       go_roundg m
       case measure => have := hg.out; omega
       case rel => exact ⟨m, y3.1, y3.2, j7, vk7, vn7, vs7, vt7, vm7, A7, c7, by omega, hj7, hpp7, Hd rfl, Hd hK.out.1, hq, Hd ⟨bg9.out, ps9.out, LN3'.out, LX3.out, hK.out.2, O3.out, sB3, s43⟩⟩
end
section
open Go.RowKit
def exX (n d : Nat) : Nat -> List Ex -> Nat -> List Tok -> PR (Ex × Nat)
 | 0, l, p, r => cmpX (.mk 17 zv [] l) p r
 | s + 1, l, p, r => bndX (parX n .expr d p r) fun a r1 => if s = 0 then exX n d s (l ++ [a.1]) a.2 r1 else if isK 4 (if s = 2 then wTHEN else wELSE) r1 = true then exX n d s (l ++ [a.1]) a.2 r1.tail else .bad r1 5
theorem Quc {n d p : Nat} {r : List Tok} (h : isK 4 wIF r = true) : parX (n + 1) .expr d p r = exX n d 3 [] p r.tail := by
 rw [parX.eq_def]
 simp only [h, if_true]
 rfl
theorem Qud {n d p : Nat} {r : List Tok} (h : isK 4 wIF r = false) : parX (n + 1) .expr d p r = parX n (.chain 1) d p r := by
 rw [parX.eq_def]
 simp only [h]
 rfl
theorem far8 (V : World) (M e o : Nat) (x0 x1 x2 x3 x4 x5 x6 x7 : Value) (h : o < e \/ e + 8 <= o) : ((((((((V.setCell ⟨M, e, none⟩ x0).setCell ⟨M, e + 1, none⟩ x1).setCell ⟨M, e + 2, none⟩ x2).setCell ⟨M, e + 3, none⟩ x3).setCell ⟨M, e + 4, none⟩ x4).setCell ⟨M, e + 5, none⟩ x5).setCell ⟨M, e + 6, none⟩ x6).setCell ⟨M, e + 7, none⟩ x7).cell? ⟨M, o, none⟩ = V.cell? ⟨M, o, none⟩ := by
 have ne : ∀ k, k < 8 -> (⟨M, e + k, none⟩ : Addr) ≠ ⟨M, o, none⟩ := fun k hk hh => by
  injection hh with h1 h2 h3
  omega
 rw [World.cell?_setCell_other _ _ _ _ (ne 7 (by omega)), World.cell?_setCell_other _ _ _ _ (ne 6 (by omega)), World.cell?_setCell_other _ _ _ _ (ne 5 (by omega)), World.cell?_setCell_other _ _ _ _ (ne 4 (by omega)), World.cell?_setCell_other _ _ _ _ (ne 3 (by omega)), World.cell?_setCell_other _ _ _ _ (ne 2 (by omega)), World.cell?_setCell_other _ _ _ _ (ne 1 (by omega))]
 exact World.cell?_setCell_other _ _ _ _ (ne 0 (by omega))
def ArrX (w : World) (R : Nat) (P : Nat -> Prop) (l : List Ex) : Prop := R < w.heap.size /\ (∀ o, o < 24 -> (∃ v, w.cell? ⟨R, o, none⟩ = some v) /\ w.frozen? ⟨R, o, none⟩ = false) /\ ∀ (q : Nat) (x : Ex), l[q]? = some x -> ∃ A' c', Qap w R (q * 8) x.op x.v (Qaa x.nm) A' x.ks.length c' /\ Lie P w A' x.ks
theorem ArrX.bag {w w' : World} {R b : Nat} {P : Nat -> Prop} {l : List Ex} (h : ArrX w R P l) (hb : Bag b w w') (hR : R ≠ b) (hP : ¬ P b) : ArrX w' R P l := by
 obtain ⟨h0, h1, h2⟩ := h
 have cc : ∀ o, w'.cell? ⟨R, o, none⟩ = w.cell? ⟨R, o, none⟩ := fun o => hb.cell (p := ⟨R, o, none⟩) h0 hR
 have f : ∀ o, w'.frozen? ⟨R, o, none⟩ = w.frozen? ⟨R, o, none⟩ := fun o => hb.frozen (p := ⟨R, o, none⟩) h0 hR
 refine ⟨lL h0 hb.size, fun o ho => ?_, fun q x hx => ?_⟩
 ·rw [cc, f]
  exact h1 o ho
 obtain ⟨A', c', k1, k2⟩ := h2 q x hx
 exact ⟨A', c', k1.same cc, k2.bag hb hP⟩
theorem ArrX.keep {w w' : World} {R : Nat} {P : Nat -> Prop} {l : List Ex} (h : ArrX w R P l) (hb : Bel w w') : ArrX w' R P l := by
 obtain ⟨h0, h1, h2⟩ := h
 have cc : ∀ o, w'.cell? ⟨R, o, none⟩ = w.cell? ⟨R, o, none⟩ := fun o => (Bag.of (b := R + 1) hb).cell (p := ⟨R, o, none⟩) h0 (by show R ≠ R + 1; omega)
 have f : ∀ o, w'.frozen? ⟨R, o, none⟩ = w.frozen? ⟨R, o, none⟩ := fun o => (Bag.of (b := R + 1) hb).frozen (p := ⟨R, o, none⟩) h0 (by show R ≠ R + 1; omega)
 refine ⟨lL h0 hb.size, fun o ho => ?_, fun q x hx => ?_⟩
 ·rw [cc, f]
  exact h1 o ho
 obtain ⟨A', c', k1, k2⟩ := h2 q x hx
 exact ⟨A', c', k1.same cc, k2.keep hb⟩
theorem bag8e {V : World} {M : Nat} (e : Nat) (x0 x1 x2 x3 x4 x5 x6 x7 : Value) : Bag M V ((((((((V.setCell ⟨M, e, none⟩ x0).setCell ⟨M, e + 1, none⟩ x1).setCell ⟨M, e + 2, none⟩ x2).setCell ⟨M, e + 3, none⟩ x3).setCell ⟨M, e + 4, none⟩ x4).setCell ⟨M, e + 5, none⟩ x5).setCell ⟨M, e + 6, none⟩ x6).setCell ⟨M, e + 7, none⟩ x7) :=
 (((((((((Bag.refl M V).setCell (p := ⟨M, e, none⟩) rfl _).setCell (p := ⟨M, e + 1, none⟩) rfl _).setCell (p := ⟨M, e + 2, none⟩) rfl _).setCell (p := ⟨M, e + 3, none⟩) rfl _).setCell (p := ⟨M, e + 4, none⟩) rfl _).setCell (p := ⟨M, e + 5, none⟩) rfl _).setCell (p := ⟨M, e + 6, none⟩) rfl _).setCell (p := ⟨M, e + 7, none⟩) rfl _)
theorem ArrX.put {V : World} {R : Nat} {P : Nat -> Prop} {l : List Ex} (h : ArrX V R P l) (hP : ¬ P R) (hl : l.length < 3) (x : Ex) (vk vn vs : Int) (vt : ByteArray) (vm : Int) (hv : ⟨vk, vn, vs, vt, vm⟩ = x.v) (A' : Option Addr) (c' : Nat) (hL : Lie P V A' x.ks) (e : Nat) (he : l.length * 8 = e) : ArrX ((((((((V.setCell ⟨R, e, none⟩ (.int .i64 x.op)).setCell ⟨R, e + 1, none⟩ (.int .i64 vk)).setCell ⟨R, e + 2, none⟩ (.int .i64 vn)).setCell ⟨R, e + 3, none⟩ (.int .i64 vs)).setCell ⟨R, e + 4, none⟩ (.string vt)).setCell ⟨R, e + 5, none⟩ (.int .i64 vm)).setCell ⟨R, e + 6, none⟩ (.string (Qaa x.nm))).setCell ⟨R, e + 7, none⟩ (.slice A' x.ks.length c')) R P (l ++ [x]) := by
 obtain ⟨h0, h1, h2⟩ := h
 have hb := bag8e (V := V) (M := R) e (.int .i64 x.op) (.int .i64 vk) (.int .i64 vn) (.int .i64 vs) (.string vt) (.int .i64 vm) (.string (Qaa x.nm)) (.slice A' x.ks.length c')
 have hfar := fun o h => far8 V R e o (.int .i64 x.op) (.int .i64 vk) (.int .i64 vn) (.int .i64 vs) (.string vt) (.int .i64 vm) (.string (Qaa x.nm)) (.slice A' x.ks.length c') h
 obtain ⟨⟨u0, c0⟩, f0⟩ := h1 e (by omega)
 obtain ⟨⟨u1, c1⟩, f1⟩ := h1 (e + 1) (by omega)
 obtain ⟨⟨u2, c2⟩, f2⟩ := h1 (e + 2) (by omega)
 obtain ⟨⟨u3, c3⟩, f3⟩ := h1 (e + 3) (by omega)
 obtain ⟨⟨u4, c4⟩, f4⟩ := h1 (e + 4) (by omega)
 obtain ⟨⟨u5, c5⟩, f5⟩ := h1 (e + 5) (by omega)
 obtain ⟨⟨u6, c6⟩, f6⟩ := h1 (e + 6) (by omega)
 obtain ⟨⟨u7, c7⟩, f7⟩ := h1 (e + 7) (by omega)
 have hE : Qap ((((((((V.setCell ⟨R, e, none⟩ (.int .i64 x.op)).setCell ⟨R, e + 1, none⟩ (.int .i64 vk)).setCell ⟨R, e + 2, none⟩ (.int .i64 vn)).setCell ⟨R, e + 3, none⟩ (.int .i64 vs)).setCell ⟨R, e + 4, none⟩ (.string vt)).setCell ⟨R, e + 5, none⟩ (.int .i64 vm)).setCell ⟨R, e + 6, none⟩ (.string (Qaa x.nm))).setCell ⟨R, e + 7, none⟩ (.slice A' x.ks.length c')) R e x.op ⟨vk, vn, vs, vt, vm⟩ (Qaa x.nm) A' x.ks.length c' := by simp [Qap, go_sem, c0, c1, c2, c3, c4, c5, c6, c7]
 have hfz : ∀ o, ((((((((V.setCell ⟨R, e, none⟩ (.int .i64 x.op)).setCell ⟨R, e + 1, none⟩ (.int .i64 vk)).setCell ⟨R, e + 2, none⟩ (.int .i64 vn)).setCell ⟨R, e + 3, none⟩ (.int .i64 vs)).setCell ⟨R, e + 4, none⟩ (.string vt)).setCell ⟨R, e + 5, none⟩ (.int .i64 vm)).setCell ⟨R, e + 6, none⟩ (.string (Qaa x.nm))).setCell ⟨R, e + 7, none⟩ (.slice A' x.ks.length c')).frozen? ⟨R, o, none⟩ = V.frozen? ⟨R, o, none⟩ := fun o => by simp
 generalize ((((((((V.setCell ⟨R, e, none⟩ (.int .i64 x.op)).setCell ⟨R, e + 1, none⟩ (.int .i64 vk)).setCell ⟨R, e + 2, none⟩ (.int .i64 vn)).setCell ⟨R, e + 3, none⟩ (.int .i64 vs)).setCell ⟨R, e + 4, none⟩ (.string vt)).setCell ⟨R, e + 5, none⟩ (.int .i64 vm)).setCell ⟨R, e + 6, none⟩ (.string (Qaa x.nm))).setCell ⟨R, e + 7, none⟩ (.slice A' x.ks.length c')) = V' at hb hfar hE hfz ⊢
 refine ⟨lL h0 hb.size, fun o ho => ⟨?_, by rw [hfz]; exact (h1 o ho).2⟩, fun q y hy => ?_⟩
 ·by_cases hh : o < e \/ e + 8 <= o
  ·rw [hfar o hh]
   exact (h1 o ho).1
  obtain ⟨e0, e1, e2, e3, e4, e5, e6, e7⟩ := hE
  rcases (show o = e \/ o = e + 1 \/ o = e + 2 \/ o = e + 3 \/ o = e + 4 \/ o = e + 5 \/ o = e + 6 \/ o = e + 7 from by omega) with rfl | rfl | rfl | rfl | rfl | rfl | rfl | rfl
  all_goals exact ⟨_, by assumption⟩
 rcases Nat.lt_or_ge q l.length with hq | hq
 ·rw [List.getElem?_append_left hq] at hy
  obtain ⟨A2, c2, k1, k2⟩ := h2 q y hy
  refine ⟨A2, c2, ?_, k2.bag hb hP⟩
  obtain ⟨e0, e1, e2, e3, e4, e5, e6, e7⟩ := k1
  exact ⟨by rw [hfar _ (by omega)]; exact e0, by rw [hfar _ (by omega)]; exact e1, by rw [hfar _ (by omega)]; exact e2, by rw [hfar _ (by omega)]; exact e3, by rw [hfar _ (by omega)]; exact e4, by rw [hfar _ (by omega)]; exact e5, by rw [hfar _ (by omega)]; exact e6, by rw [hfar _ (by omega)]; exact e7⟩
 have hql : q = l.length := by
  have := (List.getElem?_eq_some_iff.1 hy).1
  simp at this
  omega
 subst hql
 obtain rfl : x = y := by simpa using hy
 refine ⟨A', c', ?_, hL.bag hb hP⟩
 rw [he, ← hv]
 exact hE
end
end Go.Proofs.YtjckpkamhdbcnaaGreatDoor
