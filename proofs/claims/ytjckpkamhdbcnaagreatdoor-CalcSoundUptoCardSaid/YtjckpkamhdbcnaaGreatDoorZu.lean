import Derived.Test.YtjckpkamhdbcnaaGreatDoorZt
namespace Go.Proofs.YtjckpkamhdbcnaaGreatDoor
set_option maxRecDepth 100000
set_option maxHeartbeats 64000000
set_option linter.unusedSimpArgs false
set_option linter.unusedVariables false
section
open Go.RowKit
def GT (r : List Tok) : Prop := ∀ t ∈ r, ksnd t = true
theorem GT.suf {r s : List Tok} (h : GT r) (hs : s <:+ r) : GT s := fun t ht => h t (hs.subset ht)
theorem GT.tail {r : List Tok} (h : GT r) : GT r.tail := h.suf (List.tail_suffix r)
def PR.sm (q : PR (Ex × Nat)) : Prop := match q with
 | .ok y _ => smX y.1
 | .bad _ _ => True
theorem Qex {q : PR (Ex × Nat)} {f : Ex × Nat -> List Tok -> PR (Ex × Nat)} {r : List Tok} (h : q.sm) (hs : q.suf r) (hG : GT r) (hf : ∀ y r1, smX y.1 -> GT r1 -> (f y r1).sm) : (bndX q f).sm := by
 cases q with
 | bad s e => trivial
 | ok y s => exact hf y s h (hG.suf hs)
theorem Qgb {x : Ex} (h : smX x) (p : Nat) (r : List Tok) : (cmpX x p r).sm := by
 unfold cmpX
 split
 ·trivial
 exact h
theorem Qg6 {o : Int} {l : List Ex} (h : smL l) : smX (.mk o zv [] l) := ⟨by decide, by decide, h⟩
theorem smL1 {a : Ex} (h : smX a) : smL [a] := ⟨h, trivial⟩
theorem smL2 {a b : Ex} (h : smX a) (h2 : smX b) : smL [a, b] := ⟨h, h2, trivial⟩
theorem smL3 {a b c : Ex} (h : smX a) (h2 : smX b) (h3 : smX c) : smL [a, b, c] := ⟨h, h2, h3, trivial⟩
theorem Qof {o : Int} {v : Val} {nm : List UInt8} (h1 : v.text.size <= 9223372036854775807) (h2 : nm.length <= 9223372036854775807) : smX (.mk o v nm []) := ⟨h1, h2, trivial⟩
theorem Qsp : ∀ (m : Nat) {x : Ex} (h : smX x) (p : Nat) (r : List Tok), (negX m x p r).sm
 | 0, x, h, p, r => h
 | m + 1, x, h, p, r => by
  rw [negX]
  have hc := Qgb (Qg6 (o := 3) (l := [x]) ⟨h, trivial⟩) p r
  cases hq : cmpX (.mk 3 zv [] [x]) p r with
  | bad s e => trivial
  | ok y s =>
   rw [hq] at hc
   exact Qsp m hc y.2 s
theorem Qsq {q : PR (Ex × Nat)} (h : q.sm) : (encX q).sm := by
 cases q with
 | bad s e => trivial
 | ok y s =>
  unfold encX
  simp only
  split
  ·exact h
  trivial
theorem Qwc {t : Tok} {v : Val} (h : ksnd t = true) (hv : valT t = some v) : v.text.size <= 9223372036854775807 := by
 have hl := Qi7 h
 unfold valT at hv
 repeat' split at hv
 all_goals first | (obtain rfl := Option.some.inj hv; simp only [Qae]; first | omega | decide) | cases hv
theorem Qwd {p : Nat} {r : List Tok} (h : GT r) : (litX p r).sm := by
 cases r with
 | nil => trivial
 | cons t r =>
  have ht := h t (by simp)
  have hl := Qi7 ht
  unfold litX
  simp only
  split
  ·rename_i v hv
   exact Qgb (Qof (Qwc ht hv) (by decide)) _ _
  split
  ·exact Qgb (Qof (by decide) (by omega)) _ _
  trivial
def MdS : Md -> Prop
 | .loop _ a => smX a
 | _ => True
theorem Qbj : ∀ (n : Nat) (m : Md) (d p : Nat) (r : List Tok), MdS m -> GT r -> (parX n m d p r).sm
 | 0, m, d, p, r, hm, h => trivial
 | n + 1, .expr, d, p, r, hm, h => by
  rw [parX.eq_def]
  simp only
  split
  ·refine Qex (Qbj n .expr d p r.tail trivial h.tail) (Qak n .expr d p r.tail) h.tail fun a r1 ha h1 => ?_
   split
   ·refine Qex (Qbj n .expr d a.2 r1.tail trivial h1.tail) (Qak n .expr d a.2 r1.tail) h1.tail fun b r2 hb h2 => ?_
    split
    ·exact Qex (Qbj n .expr d b.2 r2.tail trivial h2.tail) (Qak n .expr d b.2 r2.tail) h2.tail fun c r3 hc h3 => Qgb (Qg6 (smL3 ha hb hc)) _ _
    trivial
   trivial
  ·exact Qbj n (.chain 1) d p r trivial h
 | n + 1, .chain k, d, p, r, hm, h => by
  rw [parX.eq_def]
  simp only
  split
  ·exact Qbj n .signed d p r trivial h
  ·exact Qex (Qbj n (.chain (k + 1)) d p r trivial h) (Qak n (.chain (k + 1)) d p r) h fun a r1 ha h1 => Qbj n (.loop k a.1) d a.2 r1 ha h1
 | n + 1, .loop k a, d, p, r, hm, h => by
  rw [parX.eq_def]
  simp only
  cases ho : opR k r with
  | none => exact hm
  | some o =>
   simp only
   refine Qex (Qbj n (.chain (k + 1)) d p r.tail trivial h.tail) (Qak n (.chain (k + 1)) d p r.tail) h.tail fun b r1 hb h1 => Qex (Qgb (Qg6 (smL2 hm hb)) _ _) (Qdr _ _ _) h1 fun y r2 hy h2 => ?_
   split
   ·exact hy
   ·exact Qbj n (.loop k y.1) d y.2 r2 hy h2
 | n + 1, .signed, d, p, r, hm, h => by
  rw [parX.eq_def]
  simp only
  exact Qex (Qbj n .operand d p _ trivial (h.suf (List.drop_suffix _ r))) (Qak n .operand d p _) (h.suf (List.drop_suffix _ r)) fun x r1 hx h1 => Qsp _ hx _ _
 | n + 1, .operand, d, p, r, hm, h => by
  rw [parX.eq_def]
  simp only
  split
  ·exact Qsq (Qbj n .inner d p r.tail trivial h.tail)
  ·split
   ·split
    ·exact Qex (Qsq (Qbj n .inner d p r.tail.tail trivial h.tail.tail)) (Qi0 (Qak n .inner d p r.tail.tail)) h.tail.tail fun x r1 hx h1 => Qgb (Qg6 (smL1 hx)) _ _
    trivial
   ·exact Qwd h
 | n + 1, .inner, d, p, r, hm, h => by
  rw [parX.eq_def]
  simp only
  split
  ·trivial
  exact Qbj n .expr (d + 1) p r trivial h
end
section
open Go.RowKit
def EOut (s : ByteArray) (w : World) (r : Ending) (w' : World) : Prop := ∃ (A' : Option Addr) (c' : Nat), r = .returned (.tuple #[exV (parE s).1.op (parE s).1.v (Qaa (parE s).1.nm) A' (parE s).1.ks.length c', .int .i64 (parE s).2.1, .int .i64 (parE s).2.2]) /\ Lie (fun k => w.heap.size <= k) w' A' (parE s).1.ks /\ Bel w w'
theorem Qsr (n : Nat) (r : List Tok) : plcT (n : Int) r = posT n r := by cases r <;> rfl
theorem EOut.zero {s : ByteArray} {w : World} {w' : World} {p : Int} {e : Nat} {r : Ending} (h : parE s = (zx, p, e)) (hr : r = .returned (.tuple #[exV 0 zv ⟨#[]⟩ none 0 0, .int .i64 p, .int .i64 e])) (hb : Bel w w') : EOut s w r w' := by
 unfold EOut
 rw [h]
 exact ⟨none, 0, hr, Lie.nil _ _ _, hb⟩
theorem Qlp (s : ByteArray) (hs : s.size <= 9223372036854775807) (w : World) (hm : Mx w) (h0 : (tokS s).2.2 ≠ 0) : Calls Tryz.prog 14 #[.string s] w (EOut s w) := by
 have CN := Hd fun W (hW : Bel w W) => Qfp s hs W (hm.keep hW)
 have KS := Hd (Qb4 s)
 have KL := (Qd4 s).2
 have HP := show parE s = (zx, ((tokS s).2.1 : Int), (tokS s).2.2) from by unfold parE; rw [iN h0]
 generalize hsn : s.size = sn at CN 
 clear hsn
 generalize hX : tokS s = X at CN KS KL h0 HP
 clear hX hm hs
 obtain ⟨ts, wo, ez⟩ := X
 simp only at CN KS KL h0 HP
 go_enter Tryz.func14, Tryz.ntmps14
 go_upto_region 1 with fail
 refine uN ((Bel.refl w).alloc _) fun W hcc hf hz hb => ?_
 have T1 : Qab W w.heap.size 0 zv ⟨#[]⟩ none 0 0 := by simp [Qab, Qap, zv, hcc, hf, hz, go_sem]
 clear hcc hf hz
 generalize hN : w.heap.size = N at T1 ⊢
 have NW := Hd (show w.heap.size <= N from by omega)
 clear hN
 have K1 := Hd T1
 have B1 := Hd hb
 clear T1 hb
 go_upto_region 2 with (go_at_call 31; (with_reducible refine Calls.mono (CN.out _ B1.out) ?_); rintro ee V2 ⟨A, c, rfl, hT2, hb2⟩; have K2 := Hd (K1.out.keep hb2); have B2 := Hd (B1.out.trans hb2); have KT2 := Hd hT2; clear hb2 hT2)
 refine uN (w0 := V2) (by exact Bel.y) fun W3 hcc hf hz hb3 => ?_
 have P3 : Psr W3 V2.heap.size A ts.length c 0 sn wo ez 0 0 := by simp [Psr, Rdc, hcc, hf, hz, go_sem]
 clear hcc hf hz
 have hNb : N < V2.heap.size := K2.out.1
 have HB3 := Hd (show ∃ B, Toks B A ts /\ Bel B W3 /\ B.heap.size <= V2.heap.size from ⟨V2, KT2.out, hb3, Nat.le_refl _⟩)
 have K3 := Hd (K2.out.keep hb3)
 have B3 := Hd (B2.out.trans hb3)
 have hwb := Hd (show w.heap.size <= V2.heap.size from B2.out.size)
 generalize V2.heap.size = b at P3 hNb HB3 hwb
 have PS3 := Hd P3
 have nb : N ≠ b := by omega
 have bn : ¬ b = N := by omega
 clear hb3 P3
 replace HP := Hd HP
 have R3 := PS3.out.1
 go_wp2_with (go_at_call 32; (with_reducible refine Calls.mono (Qbh _ _ _ _ _ _ _ _ _ R3) ?_); rintro ee V4 ⟨rfl, hbV4⟩; obtain ⟨sz, ⟨s0, s1, s2, s3, s4, s5, s6, s7⟩, ⟨sf0, sf1, sf2, sf3, sf4, sf5, sf6, sf7⟩⟩ := K3.out.keep hbV4; simp only [zv, Nat.zero_add] at s0 s1 s2 s3 s4 s5 s6 s7; have B4 := Hd (B3.out.trans hbV4); clear hbV4)
 refine pR (v := .tuple #[exV 0 zv ⟨#[]⟩ none 0 0, .int .i64 wo, .int .i64 ez]) (by simp [results, Tryz.results14, go_sem, zv, sz, s0, s1, s2, s3, s4, s5, s6, s7]) rfl (EOut.zero HP.out rfl ?_)
 repeat (first | with_reducible exact B4.out | refine Bel.setCell ?_ NW.out _)
theorem Qlq (s : ByteArray) (hs : s.size <= 9223372036854775807) (w : World) (hm : Mx w) (h0 : (tokS s).2.2 = 0) (r : List Tok) (f : Nat) (hq0 : parX (12 * (tokS s).1.length + 11) .inner 0 0 (tokS s).1 = .bad r f) : Calls Tryz.prog 14 #[.string s] w (EOut s w) := by
 have CN := Hd fun W (hW : Bel w W) => Qfp s hs W (hm.keep hW)
 have KS := Hd (Qb4 s)
 have KL := (Qd4 s).2
 have HP : parE s = (zx, posT s.size r, f) := by unfold parE; rw [iP h0, hq0]
 have hf0 := Qa9 (12 * (tokS s).1.length + 11) .inner 0 0 (tokS s).1
 rw [hq0] at hf0
 have hf1 : ¬ (f : Int) = 0 := fun e => hf0 (by omega)
 clear hf0
 have hq := hq0
 generalize hsn : s.size = sn at CN HP
 clear hsn hq0
 generalize hX : tokS s = X at CN KS KL h0 hq
 clear hX hm hs
 obtain ⟨ts, wo, ez⟩ := X
 simp only at CN KS KL h0 hq
 subst h0
 replace HP := Hd HP
 go_enter Tryz.func14, Tryz.ntmps14
 go_upto_region 1 with fail
 refine uN ((Bel.refl w).alloc _) fun W hcc hf hz hb => ?_
 have T1 : Qab W w.heap.size 0 zv ⟨#[]⟩ none 0 0 := by simp [Qab, Qap, zv, hcc, hf, hz, go_sem]
 clear hcc hf hz
 generalize hN : w.heap.size = N at T1 ⊢
 have NW := Hd (show w.heap.size <= N from by omega)
 clear hN
 have K1 := Hd T1
 have B1 := Hd hb
 clear T1 hb
 go_upto_region 2 with (go_at_call 31; (with_reducible refine Calls.mono (CN.out _ B1.out) ?_); rintro ee V2 ⟨A, c, rfl, hT2, hb2⟩; have K2 := Hd (K1.out.keep hb2); have B2 := Hd (B1.out.trans hb2); have KT2 := Hd hT2; clear hb2 hT2)
 refine uN (w0 := V2) (by exact Bel.y) fun W3 hcc hf hz hb3 => ?_
 have P3 : Psr W3 V2.heap.size A ts.length c 0 sn wo 0 0 0 := by simp [Psr, Rdc, hcc, hf, hz, go_sem]
 clear hcc hf hz
 have hNb : N < V2.heap.size := K2.out.1
 have HB3 := Hd (show ∃ B, Toks B A ts /\ Bel B W3 /\ B.heap.size <= V2.heap.size from ⟨V2, KT2.out, hb3, Nat.le_refl _⟩)
 have K3 := Hd (K2.out.keep hb3)
 have B3 := Hd (B2.out.trans hb3)
 have hwb := Hd (show w.heap.size <= V2.heap.size from B2.out.size)
 generalize V2.heap.size = b at P3 hNb HB3 hwb
 have PS3 := Hd P3
 have nb : N ≠ b := by omega
 have bn : ¬ b = N := by omega
 clear hb3 P3
 have R3 := PS3.out.1
 go_upto_region 5 with (go_at_call 32; (with_reducible refine Calls.mono (Qbh _ _ _ _ _ _ _ _ _ R3) ?_); rintro ee V3 ⟨rfl, hbV3⟩; have PS4 := Hd (PS3.out.keep hbV3); have K4 := Hd (K3.out.keep hbV3); have B4 := Hd (B3.out.trans hbV3); have HB4 := Hd (show ∃ B, Toks B A ts /\ Bel B V3 /\ B.heap.size <= b from by (obtain ⟨B, q1, q2, q3⟩ := HB3.out; exact ⟨B, q1, q2.trans hbV3, q3⟩)); clear hbV3)
 obtain ⟨P, hPd⟩ : ∃ P : Nat -> Prop, P = fun k => w.heap.size <= k /\ k ≠ b := ⟨_, rfl⟩
 have hPb : ¬ P b := by rw [hPd]; exact fun h => h.2 rfl
 have hPw := Hd (show ∀ k, V3.heap.size <= k -> P k from fun k hk => by
  rw [hPd]
  exact ⟨by have := B4.out.size; omega, by have := PS4.out.1.1; omega⟩)
 have hPN : ¬ (fun k => P k /\ k ≠ N) b := fun h => hPb h.1
 have hPNN : ¬ (fun k => P k /\ k ≠ N) N := fun h => h.2 rfl
 have BG3 := Hd (Bag.of (b := b) B4.out)
 have hfin := Qao (12 * ts.length + 11) .inner 0 0 ts trivial (by simp only [levM]; omega)
 have KC := Hd (show Cx ts A b V3 from ⟨HB4.out, KL, KS.out⟩)
 have CI := (Qg3 (12 * ts.length + 11)).2.2.2.2 (fun k => P k /\ k ≠ N) ts V3 b A c 0 sn wo 0 0 KC.out (by simpa using PS4.out) (Nat.zero_le _) hPN (fun k hk => ⟨hPw.out k hk, by have := K4.out.1; omega⟩) (by decide) (by decide) (by rw [List.drop_zero]; exact hfin)
 rw [List.drop_zero, hq] at CI
 replace CI := Hd CI
 clear hfin
 go_upto_region 6 with (go_at_call 33; (with_reducible refine Calls.mono CI.out ?_); rintro ee V4 ⟨j5, wr5, e5, p5, d5, o5, v5, nm5, A5, n5, c5, ok5, hbV4, hrV4, hj5, rfl, hxV4⟩; have bg5 := Hd (BG3.out.trans hbV4); have ps5 := Hd hrV4; have xr5 := Hd hxV4; have L5 := Hd (K4.out.bag hbV4 nb); clear hbV4 hrV4 hxV4)
 obtain ⟨vk5, vn5, vs5, vt5, vm5⟩ := v5
 refine uN (w0 := V4) (by exact Bel.y) fun W5 hcc hf hz hbW5 => ?_
 have T5 : Qab W5 V4.heap.size o5 ⟨vk5, vn5, vs5, vt5, vm5⟩ nm5 A5 n5 c5 := by simp [Qab, Qap, hcc, hf, hz, go_sem]
 clear hcc hf hz
 have nM5 : N < V4.heap.size := L5.out.1
 have bM5 : b < V4.heap.size := ps5.out.1.1
 have xs5 := Hd (show ∀ l, Lie (fun k => P k /\ k ≠ N) V4 A5 l -> Lie (fun k => (P k /\ k ≠ N) /\ k ≠ V4.heap.size) W5 A5 l from fun l h => (h.weak (Q := fun k => (P k /\ k ≠ N) /\ k ≠ V4.heap.size) (fun q hq hlt => ⟨hq, by omega⟩)).keep hbW5)
 have MW5 := Hd (show w.heap.size <= V4.heap.size from bg5.out.size)
 generalize V4.heap.size = M at T5 nM5 bM5 xs5 MW5
 have mb5 : M ≠ b := by omega
 have mN5 : ¬ N = M := by omega
 have Nm5 : ¬ M = N := by omega
 have xM5 : ¬ b = M := by omega
 have LM5 := Hd T5
 have LN5 := Hd (L5.out.keep hbW5)
 have bh5 := Hd (bg5.out.trans (Bag.of hbW5))
 have ph5 := Hd (ps5.out.keep hbW5)
 clear T5 hbW5
 obtain ⟨rfl, rfl, rfl⟩ : ok5 = false /\ wr5 = plcT sn r /\ e5 = f := xr5.out
 have R5 := ph5.out.1
 rw [Qsr] at R5
 go_wp2_with (go_at_call 32; (with_reducible refine Calls.mono (Qbh _ _ _ _ _ _ _ _ _ R5) ?_); rintro ee V6 ⟨rfl, hbV6⟩; obtain ⟨sz, ⟨s0, s1, s2, s3, s4, s5, s6, s7⟩, ⟨sf0, sf1, sf2, sf3, sf4, sf5, sf6, sf7⟩⟩ := LN5.out.keep hbV6; simp only [zv, Nat.zero_add] at s0 s1 s2 s3 s4 s5 s6 s7; have B6 := Hd (((bh5.out.bel (Bel.refl w) hwb.out)).trans hbV6); clear hbV6)
 refine pR (v := .tuple #[exV 0 zv ⟨#[]⟩ none 0 0, .int .i64 (posT sn r), .int .i64 f]) (by simp [results, Tryz.results14, go_sem, zv, sz, s0, s1, s2, s3, s4, s5, s6, s7]) rfl (EOut.zero HP.out rfl ?_)
 repeat (first | with_reducible exact B6.out | refine Bel.setCell ?_ NW.out _)
theorem Qjf (s : ByteArray) (hs : s.size <= 9223372036854775807) (w : World) (hm : Mx w) (h0 : (tokS s).2.2 = 0) (y : Ex × Nat) (r : List Tok) (hr : r ≠ []) (hq0 : parX (12 * (tokS s).1.length + 11) .inner 0 0 (tokS s).1 = .ok y r) : Calls Tryz.prog 14 #[.string s] w (EOut s w) := by
 have CN := Hd fun W (hW : Bel w W) => Qfp s hs W (hm.keep hW)
 have KS := Hd (Qb4 s)
 have KL := (Qd4 s).2
 have HP : parE s = (zx, posT s.size r, 5) := by unfold parE; rw [iP h0, hq0]; exact iN hr
 have hq := hq0
 generalize hsn : s.size = sn at CN HP
 clear hsn hq0
 generalize hX : tokS s = X at CN KS KL h0 hq
 clear hX hm hs
 obtain ⟨ts, wo, ez⟩ := X
 simp only at CN KS KL h0 hq
 subst h0
 replace HP := Hd HP
 go_enter Tryz.func14, Tryz.ntmps14
 go_upto_region 1 with fail
 refine uN ((Bel.refl w).alloc _) fun W hcc hf hz hb => ?_
 have T1 : Qab W w.heap.size 0 zv ⟨#[]⟩ none 0 0 := by simp [Qab, Qap, zv, hcc, hf, hz, go_sem]
 clear hcc hf hz
 generalize hN : w.heap.size = N at T1 ⊢
 have NW := Hd (show w.heap.size <= N from by omega)
 clear hN
 have K1 := Hd T1
 have B1 := Hd hb
 clear T1 hb
 go_upto_region 2 with (go_at_call 31; (with_reducible refine Calls.mono (CN.out _ B1.out) ?_); rintro ee V2 ⟨A, c, rfl, hT2, hb2⟩; have K2 := Hd (K1.out.keep hb2); have B2 := Hd (B1.out.trans hb2); have KT2 := Hd hT2; clear hb2 hT2)
 refine uN (w0 := V2) (by exact Bel.y) fun W3 hcc hf hz hb3 => ?_
 have P3 : Psr W3 V2.heap.size A ts.length c 0 sn wo 0 0 0 := by simp [Psr, Rdc, hcc, hf, hz, go_sem]
 clear hcc hf hz
 have hNb : N < V2.heap.size := K2.out.1
 have HB3 := Hd (show ∃ B, Toks B A ts /\ Bel B W3 /\ B.heap.size <= V2.heap.size from ⟨V2, KT2.out, hb3, Nat.le_refl _⟩)
 have K3 := Hd (K2.out.keep hb3)
 have B3 := Hd (B2.out.trans hb3)
 have hwb := Hd (show w.heap.size <= V2.heap.size from B2.out.size)
 generalize V2.heap.size = b at P3 hNb HB3 hwb
 have PS3 := Hd P3
 have nb : N ≠ b := by omega
 have bn : ¬ b = N := by omega
 clear hb3 P3
 have R3 := PS3.out.1
 go_upto_region 5 with (go_at_call 32; (with_reducible refine Calls.mono (Qbh _ _ _ _ _ _ _ _ _ R3) ?_); rintro ee V3 ⟨rfl, hbV3⟩; have PS4 := Hd (PS3.out.keep hbV3); have K4 := Hd (K3.out.keep hbV3); have B4 := Hd (B3.out.trans hbV3); have HB4 := Hd (show ∃ B, Toks B A ts /\ Bel B V3 /\ B.heap.size <= b from by (obtain ⟨B, q1, q2, q3⟩ := HB3.out; exact ⟨B, q1, q2.trans hbV3, q3⟩)); clear hbV3)
 obtain ⟨P, hPd⟩ : ∃ P : Nat -> Prop, P = fun k => w.heap.size <= k /\ k ≠ b := ⟨_, rfl⟩
 have hPb : ¬ P b := by rw [hPd]; exact fun h => h.2 rfl
 have hPw := Hd (show ∀ k, V3.heap.size <= k -> P k from fun k hk => by
  rw [hPd]
  exact ⟨by have := B4.out.size; omega, by have := PS4.out.1.1; omega⟩)
 have hPN : ¬ (fun k => P k /\ k ≠ N) b := fun h => hPb h.1
 have hPNN : ¬ (fun k => P k /\ k ≠ N) N := fun h => h.2 rfl
 have BG3 := Hd (Bag.of (b := b) B4.out)
 have hfin := Qao (12 * ts.length + 11) .inner 0 0 ts trivial (by simp only [levM]; omega)
 have KC := Hd (show Cx ts A b V3 from ⟨HB4.out, KL, KS.out⟩)
 have CI := (Qg3 (12 * ts.length + 11)).2.2.2.2 (fun k => P k /\ k ≠ N) ts V3 b A c 0 sn wo 0 0 KC.out (by simpa using PS4.out) (Nat.zero_le _) hPN (fun k hk => ⟨hPw.out k hk, by have := K4.out.1; omega⟩) (by decide) (by decide) (by rw [List.drop_zero]; exact hfin)
 rw [List.drop_zero, hq] at CI
 replace CI := Hd CI
 clear hfin
 go_upto_region 6 with (go_at_call 33; (with_reducible refine Calls.mono CI.out ?_); rintro ee V4 ⟨j5, wr5, e5, p5, d5, o5, v5, nm5, A5, n5, c5, ok5, hbV4, hrV4, hj5, rfl, hxV4⟩; have bg5 := Hd (BG3.out.trans hbV4); have ps5 := Hd hrV4; have xr5 := Hd hxV4; have L5 := Hd (K4.out.bag hbV4 nb); have HBV4 := Hd hbV4; clear hbV4 hrV4 hxV4)
 obtain ⟨vk5, vn5, vs5, vt5, vm5⟩ := v5
 refine uN (w0 := V4) (by exact Bel.y) fun W5 hcc hf hz hbW5 => ?_
 have T5 : Qab W5 V4.heap.size o5 ⟨vk5, vn5, vs5, vt5, vm5⟩ nm5 A5 n5 c5 := by simp [Qab, Qap, hcc, hf, hz, go_sem]
 clear hcc hf hz
 have nM5 : N < V4.heap.size := L5.out.1
 have bM5 : b < V4.heap.size := ps5.out.1.1
 have xs5 := Hd (show ∀ l, Lie (fun k => P k /\ k ≠ N) V4 A5 l -> Lie (fun k => (P k /\ k ≠ N) /\ k ≠ V4.heap.size) W5 A5 l from fun l h => (h.weak (Q := fun k => (P k /\ k ≠ N) /\ k ≠ V4.heap.size) (fun q hq hlt => ⟨hq, by omega⟩)).keep hbW5)
 have MW5 := Hd (show w.heap.size <= V4.heap.size from bg5.out.size)
 generalize V4.heap.size = M at T5 nM5 bM5 xs5 MW5
 have mb5 : M ≠ b := by omega
 have mN5 : ¬ N = M := by omega
 have Nm5 : ¬ M = N := by omega
 have xM5 : ¬ b = M := by omega
 have LM5 := Hd T5
 have LN5 := Hd (L5.out.keep hbW5)
 have bh5 := Hd (bg5.out.trans (Bag.of hbW5))
 have ph5 := Hd (ps5.out.keep hbW5)
 have HV45 := Hd (HBV4.out.trans (Bag.of (b := b) hbW5))
 clear T5 hbW5
 obtain ⟨rfl, rfl, hv5, rfl, rfl, hl5, hd5, rfl, rfl, hp5, hdd5, hpp5⟩ : ok5 = true /\ o5 = y.1.op /\ _ = y.1.v /\ nm5 = Qaa y.1.nm /\ n5 = y.1.ks.length /\ Lie _ V4 A5 y.1.ks /\ ts.drop j5 = r /\ wr5 = wo /\ e5 = 0 /\ p5 = y.2 /\ d5 = _ /\ y.2 <= 4096 := xr5.out
 have R5 := ph5.out.1
 have HL5 := Hd (xs5.out _ hl5)
 have HV := Hd hv5
 clear hl5 hv5 xr5 hp5 hdd5 hpp5
 have hjn : ¬ j5 = ts.length := fun e => hr (by rw [← hd5, e]; exact List.drop_eq_nil_of_le (Nat.le_refl _))
 have CD := Qd5 W5 b A ts.length c j5 sn wo 0 R5
 rw [dF hjn] at CD
 replace CD := Hd CD
 have CF := Hd fun X (hX : Bel W5 X) (hR : Rdc X b A ts.length c j5 sn wo 0) => Qki ts X b A c j5 sn wo 0 5 (plcT sn (ts.drop j5)) 5 ((KC.out.bag HV45.out).keep hX).toks hR hj5 KC.out.2.1 (by rw [iP rfl]) (by rw [iP rfl])
 rw [hd5, Qsr] at CF
 go_wp2_with (first
  | (go_at_call 34; (with_reducible refine Calls.mono CD.out ?_); rintro ee V6 ⟨rfl, hb6⟩; have R6 := R5.keep hb6; have LN6 := Hd (LN5.out.keep hb6); have LM6 := Hd (LM5.out.keep hb6); have HL6 := Hd (HL5.out.keep hb6); have B6 := Hd (bh5.out.trans (Bag.of hb6)); have HB6 := Hd hb6; clear hb6)
  | (go_at_call 35; (with_reducible refine Calls.mono (CF.out _ HB6.out R6) ?_); rintro ee V7 ⟨rfl, hb7, R7⟩; have LN7 := Hd (LN6.out.bag hb7.bag nb); have B7 := Hd (B6.out.trans hb7.bag); clear hb7)
  | (go_at_call 32; (with_reducible refine Calls.mono (Qbh _ _ _ _ _ _ _ _ _ R7) ?_); rintro ee V8 ⟨rfl, hbV8⟩; obtain ⟨sz, ⟨s0, s1, s2, s3, s4, s5, s6, s7⟩, ⟨sf0, sf1, sf2, sf3, sf4, sf5, sf6, sf7⟩⟩ := LN7.out.keep hbV8; simp only [zv, Nat.zero_add] at s0 s1 s2 s3 s4 s5 s6 s7; have B8 := Hd (((B7.out.bel (Bel.refl w) hwb.out)).trans hbV8); clear hbV8))
 refine pR (v := .tuple #[exV 0 zv ⟨#[]⟩ none 0 0, .int .i64 (posT sn r), .int .i64 5]) (by simp [results, Tryz.results14, go_sem, zv, sz, s0, s1, s2, s3, s4, s5, s6, s7]) rfl (EOut.zero HP.out rfl ?_)
 repeat (first | with_reducible exact B8.out | refine Bel.setCell ?_ NW.out _)
theorem Qlr (s : ByteArray) (hs : s.size <= 9223372036854775807) (w : World) (hm : Mx w) (h0 : (tokS s).2.2 = 0) (y : Ex × Nat) (hsd : sndX y.1 = true) (hq0 : parX (12 * (tokS s).1.length + 11) .inner 0 0 (tokS s).1 = .ok y []) : Calls Tryz.prog 14 #[.string s] w (EOut s w) := by
 have CN := Hd fun W (hW : Bel w W) => Qfp s hs W (hm.keep hW)
 have KS := Hd (Qb4 s)
 have KL := (Qd4 s).2
 have HP : parE s = (y.1, 0, 0) := by unfold parE; rw [iP h0, hq0]; show (if ([] : List Tok) = [] then (if sndX y.1 = true then (y.1, (0 : Int), 0) else (zx, 0, 9)) else (zx, posT s.size [], 5)) = _; rw [iP rfl]; exact iP hsd
 have hsm := Qbj (12 * (tokS s).1.length + 11) .inner 0 0 (tokS s).1 trivial (Qb4 s)
 rw [hq0] at hsm
 have HSM := Hd (show smX y.1 from hsm)
 clear hsm
 have hq := hq0
 generalize hsn : s.size = sn at CN HP
 clear hsn hq0
 generalize hX : tokS s = X at CN KS KL h0 hq
 clear hX hm hs
 obtain ⟨ts, wo, ez⟩ := X
 simp only at CN KS KL h0 hq
 subst h0
 replace HP := Hd HP
 go_enter Tryz.func14, Tryz.ntmps14
 go_upto_region 1 with fail
 refine uN ((Bel.refl w).alloc _) fun W hcc hf hz hb => ?_
 have T1 : Qab W w.heap.size 0 zv ⟨#[]⟩ none 0 0 := by simp [Qab, Qap, zv, hcc, hf, hz, go_sem]
 clear hcc hf hz
 generalize hN : w.heap.size = N at T1 ⊢
 have NW := Hd (show w.heap.size <= N from by omega)
 clear hN
 have K1 := Hd T1
 have B1 := Hd hb
 clear T1 hb
 go_upto_region 2 with (go_at_call 31; (with_reducible refine Calls.mono (CN.out _ B1.out) ?_); rintro ee V2 ⟨A, c, rfl, hT2, hb2⟩; have K2 := Hd (K1.out.keep hb2); have B2 := Hd (B1.out.trans hb2); have KT2 := Hd hT2; clear hb2 hT2)
 refine uN (w0 := V2) (by exact Bel.y) fun W3 hcc hf hz hb3 => ?_
 have P3 : Psr W3 V2.heap.size A ts.length c 0 sn wo 0 0 0 := by simp [Psr, Rdc, hcc, hf, hz, go_sem]
 clear hcc hf hz
 have hNb : N < V2.heap.size := K2.out.1
 have HB3 := Hd (show ∃ B, Toks B A ts /\ Bel B W3 /\ B.heap.size <= V2.heap.size from ⟨V2, KT2.out, hb3, Nat.le_refl _⟩)
 have K3 := Hd (K2.out.keep hb3)
 have B3 := Hd (B2.out.trans hb3)
 have hwb := Hd (show w.heap.size <= V2.heap.size from B2.out.size)
 generalize V2.heap.size = b at P3 hNb HB3 hwb
 have PS3 := Hd P3
 have nb : N ≠ b := by omega
 have bn : ¬ b = N := by omega
 clear hb3 P3
 have R3 := PS3.out.1
 go_upto_region 5 with (go_at_call 32; (with_reducible refine Calls.mono (Qbh _ _ _ _ _ _ _ _ _ R3) ?_); rintro ee V3 ⟨rfl, hbV3⟩; have PS4 := Hd (PS3.out.keep hbV3); have K4 := Hd (K3.out.keep hbV3); have B4 := Hd (B3.out.trans hbV3); have HB4 := Hd (show ∃ B, Toks B A ts /\ Bel B V3 /\ B.heap.size <= b from by (obtain ⟨B, q1, q2, q3⟩ := HB3.out; exact ⟨B, q1, q2.trans hbV3, q3⟩)); clear hbV3)
 obtain ⟨P, hPd⟩ : ∃ P : Nat -> Prop, P = fun k => w.heap.size <= k /\ k ≠ b := ⟨_, rfl⟩
 have hPb : ¬ P b := by rw [hPd]; exact fun h => h.2 rfl
 have hPw := Hd (show ∀ k, V3.heap.size <= k -> P k from fun k hk => by
  rw [hPd]
  exact ⟨by have := B4.out.size; omega, by have := PS4.out.1.1; omega⟩)
 have hPN : ¬ (fun k => P k /\ k ≠ N) b := fun h => hPb h.1
 have hPNN : ¬ (fun k => P k /\ k ≠ N) N := fun h => h.2 rfl
 have BG3 := Hd (Bag.of (b := b) B4.out)
 have hfin := Qao (12 * ts.length + 11) .inner 0 0 ts trivial (by simp only [levM]; omega)
 have KC := Hd (show Cx ts A b V3 from ⟨HB4.out, KL, KS.out⟩)
 have CI := (Qg3 (12 * ts.length + 11)).2.2.2.2 (fun k => P k /\ k ≠ N) ts V3 b A c 0 sn wo 0 0 KC.out (by simpa using PS4.out) (Nat.zero_le _) hPN (fun k hk => ⟨hPw.out k hk, by have := K4.out.1; omega⟩) (by decide) (by decide) (by rw [List.drop_zero]; exact hfin)
 rw [List.drop_zero, hq] at CI
 replace CI := Hd CI
 clear hfin
 go_upto_region 6 with (go_at_call 33; (with_reducible refine Calls.mono CI.out ?_); rintro ee V4 ⟨j5, wr5, e5, p5, d5, o5, v5, nm5, A5, n5, c5, ok5, hbV4, hrV4, hj5, rfl, hxV4⟩; have bg5 := Hd (BG3.out.trans hbV4); have ps5 := Hd hrV4; have xr5 := Hd hxV4; have L5 := Hd (K4.out.bag hbV4 nb); clear hbV4 hrV4 hxV4)
 obtain ⟨vk5, vn5, vs5, vt5, vm5⟩ := v5
 refine uN (w0 := V4) (by exact Bel.y) fun W5 hcc hf hz hbW5 => ?_
 have T5 : Qab W5 V4.heap.size o5 ⟨vk5, vn5, vs5, vt5, vm5⟩ nm5 A5 n5 c5 := by simp [Qab, Qap, hcc, hf, hz, go_sem]
 clear hcc hf hz
 have nM5 : N < V4.heap.size := L5.out.1
 have bM5 : b < V4.heap.size := ps5.out.1.1
 have xs5 := Hd (show ∀ l, Lie (fun k => P k /\ k ≠ N) V4 A5 l -> Lie (fun k => (P k /\ k ≠ N) /\ k ≠ V4.heap.size) W5 A5 l from fun l h => (h.weak (Q := fun k => (P k /\ k ≠ N) /\ k ≠ V4.heap.size) (fun q hq hlt => ⟨hq, by omega⟩)).keep hbW5)
 have MW5 := Hd (show w.heap.size <= V4.heap.size from bg5.out.size)
 generalize V4.heap.size = M at T5 nM5 bM5 xs5 MW5
 have mb5 : M ≠ b := by omega
 have mN5 : ¬ N = M := by omega
 have Nm5 : ¬ M = N := by omega
 have xM5 : ¬ b = M := by omega
 have LM5 := Hd T5
 have LN5 := Hd (L5.out.keep hbW5)
 have bh5 := Hd (bg5.out.trans (Bag.of hbW5))
 have ph5 := Hd (ps5.out.keep hbW5)
 clear T5 hbW5
 obtain ⟨rfl, rfl, hv5, rfl, rfl, hl5, hd5, rfl, rfl, hp5, hdd5, hpp5⟩ : ok5 = true /\ o5 = y.1.op /\ _ = y.1.v /\ nm5 = Qaa y.1.nm /\ n5 = y.1.ks.length /\ Lie _ V4 A5 y.1.ks /\ ts.drop j5 = [] /\ wr5 = wo /\ e5 = 0 /\ p5 = y.2 /\ d5 = _ /\ y.2 <= 4096 := xr5.out
 have R5 := ph5.out.1
 have HL5 := Hd (xs5.out _ hl5)
 have HV := Hd hv5
 clear hl5 hv5 xr5 hp5 hdd5 hpp5
 have hjn : j5 = ts.length := by
  have h := congrArg List.length hd5
  rw [List.length_drop, List.length_nil] at h
  omega
 have CD := Qd5 W5 b A ts.length c j5 sn wo 0 R5
 rw [dT hjn] at CD
 replace CD := Hd CD
 have CS := Hd fun X (hL : Lie (fun k => (P k /\ k ≠ N) /\ k ≠ M) X A5 y.1.ks) => Qdc y.1 (fun k => (P k /\ k ≠ N) /\ k ≠ M) A5 c5 X HSM.out hL
 rw [hsd, ← HV.out] at CS
 clear hjn
 go_wp2_with (first
  | (go_at_call 34; (with_reducible refine Calls.mono CD.out ?_); rintro ee V6 ⟨rfl, hb6⟩; have R6 := R5.keep hb6; have LN6 := Hd (LN5.out.keep hb6); have LM6 := Hd (LM5.out.keep hb6); have HL6 := Hd (HL5.out.keep hb6); have B6 := Hd (bh5.out.trans (Bag.of hb6)); clear hb6)
  | (go_at_call 32; (with_reducible refine Calls.mono (Qbh _ _ _ _ _ _ _ _ _ R6) ?_); rintro ee V7 ⟨rfl, hbV7⟩; have LN7 := Hd (LN6.out.keep hbV7); have LM7 := Hd (LM6.out.keep hbV7); have HL7 := Hd (HL6.out.keep hbV7); obtain ⟨tz, ⟨t0, t1, t2, t3, t4, t5, t6, t7⟩, ⟨tf0, tf1, tf2, tf3, tf4, tf5, tf6, tf7⟩⟩ := LM7.out; simp only [Nat.zero_add] at t0 t1 t2 t3 t4 t5 t6 t7; have B7 := Hd (((B6.out.bel (Bel.refl w) hwb.out)).trans hbV7); clear hbV7)
  | (go_at_call 23; (with_reducible refine Calls.mono (CS.out _ HL7.out) ?_); rintro ee V8 ⟨rfl, hb8⟩; obtain ⟨sz, ⟨s0, s1, s2, s3, s4, s5, s6, s7⟩, ⟨sf0, sf1, sf2, sf3, sf4, sf5, sf6, sf7⟩⟩ := LN7.out.keep hb8; simp only [zv, Nat.zero_add] at s0 s1 s2 s3 s4 s5 s6 s7; obtain ⟨uz, ⟨u0, u1, u2, u3, u4, u5, u6, u7⟩, ⟨uf0, uf1, uf2, uf3, uf4, uf5, uf6, uf7⟩⟩ := LM7.out.keep hb8; simp only [Nat.zero_add] at u0 u1 u2 u3 u4 u5 u6 u7; have B8 := Hd (B7.out.trans hb8); have HL8 := Hd (HL7.out.keep hb8); clear hb8))
 refine pR (v := .tuple #[exV y.1.op ⟨vk5, vn5, vs5, vt5, vm5⟩ (Qaa y.1.nm) A5 y.1.ks.length c5, .int .i64 0, .int .i64 0]) (by simp [results, Tryz.results14, go_sem, zv, sz, s0, s1, s2, s3, s4, s5, s6, s7]) rfl ?_
 refine ⟨A5, c5, by rw [HP.out, ← HV.out]; rfl, ?_, ?_⟩
 ·rw [HP.out]
  refine ((HL8.out.bag (b := N) ?_ (fun h => h.1.2 rfl)).weak fun k h _ => ?_)
  ·repeat (first | with_reducible exact Bag.refl N _ | refine Bag.setCell (b := N) ?_ rfl _)
  have h1 := h.1.1
  rw [hPd] at h1
  exact h1.1
 repeat (first | with_reducible exact B8.out | refine Bel.setCell ?_ NW.out _)
theorem Qjg (s : ByteArray) (hs : s.size <= 9223372036854775807) (w : World) (hm : Mx w) (h0 : (tokS s).2.2 = 0) (y : Ex × Nat) (hsd : sndX y.1 = false) (hq0 : parX (12 * (tokS s).1.length + 11) .inner 0 0 (tokS s).1 = .ok y []) : Calls Tryz.prog 14 #[.string s] w (EOut s w) := by
 have CN := Hd fun W (hW : Bel w W) => Qfp s hs W (hm.keep hW)
 have KS := Hd (Qb4 s)
 have KL := (Qd4 s).2
 have HP : parE s = (zx, 0, 9) := by unfold parE; rw [iP h0, hq0]; show (if ([] : List Tok) = [] then (if sndX y.1 = true then (y.1, (0 : Int), 0) else (zx, 0, 9)) else (zx, posT s.size [], 5)) = _; rw [iP rfl]; exact iN (by rw [hsd]; decide)
 have hsm := Qbj (12 * (tokS s).1.length + 11) .inner 0 0 (tokS s).1 trivial (Qb4 s)
 rw [hq0] at hsm
 have HSM := Hd (show smX y.1 from hsm)
 clear hsm
 have hq := hq0
 generalize hsn : s.size = sn at CN HP
 clear hsn hq0
 generalize hX : tokS s = X at CN KS KL h0 hq
 clear hX hm hs
 obtain ⟨ts, wo, ez⟩ := X
 simp only at CN KS KL h0 hq
 subst h0
 replace HP := Hd HP
 go_enter Tryz.func14, Tryz.ntmps14
 go_upto_region 1 with fail
 refine uN ((Bel.refl w).alloc _) fun W hcc hf hz hb => ?_
 have T1 : Qab W w.heap.size 0 zv ⟨#[]⟩ none 0 0 := by simp [Qab, Qap, zv, hcc, hf, hz, go_sem]
 clear hcc hf hz
 generalize hN : w.heap.size = N at T1 ⊢
 have NW := Hd (show w.heap.size <= N from by omega)
 clear hN
 have K1 := Hd T1
 have B1 := Hd hb
 clear T1 hb
 go_upto_region 2 with (go_at_call 31; (with_reducible refine Calls.mono (CN.out _ B1.out) ?_); rintro ee V2 ⟨A, c, rfl, hT2, hb2⟩; have K2 := Hd (K1.out.keep hb2); have B2 := Hd (B1.out.trans hb2); have KT2 := Hd hT2; clear hb2 hT2)
 refine uN (w0 := V2) (by exact Bel.y) fun W3 hcc hf hz hb3 => ?_
 have P3 : Psr W3 V2.heap.size A ts.length c 0 sn wo 0 0 0 := by simp [Psr, Rdc, hcc, hf, hz, go_sem]
 clear hcc hf hz
 have hNb : N < V2.heap.size := K2.out.1
 have HB3 := Hd (show ∃ B, Toks B A ts /\ Bel B W3 /\ B.heap.size <= V2.heap.size from ⟨V2, KT2.out, hb3, Nat.le_refl _⟩)
 have K3 := Hd (K2.out.keep hb3)
 have B3 := Hd (B2.out.trans hb3)
 have hwb := Hd (show w.heap.size <= V2.heap.size from B2.out.size)
 generalize V2.heap.size = b at P3 hNb HB3 hwb
 have PS3 := Hd P3
 have nb : N ≠ b := by omega
 have bn : ¬ b = N := by omega
 clear hb3 P3
 have R3 := PS3.out.1
 go_upto_region 5 with (go_at_call 32; (with_reducible refine Calls.mono (Qbh _ _ _ _ _ _ _ _ _ R3) ?_); rintro ee V3 ⟨rfl, hbV3⟩; have PS4 := Hd (PS3.out.keep hbV3); have K4 := Hd (K3.out.keep hbV3); have B4 := Hd (B3.out.trans hbV3); have HB4 := Hd (show ∃ B, Toks B A ts /\ Bel B V3 /\ B.heap.size <= b from by (obtain ⟨B, q1, q2, q3⟩ := HB3.out; exact ⟨B, q1, q2.trans hbV3, q3⟩)); clear hbV3)
 obtain ⟨P, hPd⟩ : ∃ P : Nat -> Prop, P = fun k => w.heap.size <= k /\ k ≠ b := ⟨_, rfl⟩
 have hPb : ¬ P b := by rw [hPd]; exact fun h => h.2 rfl
 have hPw := Hd (show ∀ k, V3.heap.size <= k -> P k from fun k hk => by
  rw [hPd]
  exact ⟨by have := B4.out.size; omega, by have := PS4.out.1.1; omega⟩)
 have hPN : ¬ (fun k => P k /\ k ≠ N) b := fun h => hPb h.1
 have hPNN : ¬ (fun k => P k /\ k ≠ N) N := fun h => h.2 rfl
 have BG3 := Hd (Bag.of (b := b) B4.out)
 have hfin := Qao (12 * ts.length + 11) .inner 0 0 ts trivial (by simp only [levM]; omega)
 have KC := Hd (show Cx ts A b V3 from ⟨HB4.out, KL, KS.out⟩)
 have CI := (Qg3 (12 * ts.length + 11)).2.2.2.2 (fun k => P k /\ k ≠ N) ts V3 b A c 0 sn wo 0 0 KC.out (by simpa using PS4.out) (Nat.zero_le _) hPN (fun k hk => ⟨hPw.out k hk, by have := K4.out.1; omega⟩) (by decide) (by decide) (by rw [List.drop_zero]; exact hfin)
 rw [List.drop_zero, hq] at CI
 replace CI := Hd CI
 clear hfin
 go_upto_region 6 with (go_at_call 33; (with_reducible refine Calls.mono CI.out ?_); rintro ee V4 ⟨j5, wr5, e5, p5, d5, o5, v5, nm5, A5, n5, c5, ok5, hbV4, hrV4, hj5, rfl, hxV4⟩; have bg5 := Hd (BG3.out.trans hbV4); have ps5 := Hd hrV4; have xr5 := Hd hxV4; have L5 := Hd (K4.out.bag hbV4 nb); clear hbV4 hrV4 hxV4)
 obtain ⟨vk5, vn5, vs5, vt5, vm5⟩ := v5
 refine uN (w0 := V4) (by exact Bel.y) fun W5 hcc hf hz hbW5 => ?_
 have T5 : Qab W5 V4.heap.size o5 ⟨vk5, vn5, vs5, vt5, vm5⟩ nm5 A5 n5 c5 := by simp [Qab, Qap, hcc, hf, hz, go_sem]
 clear hcc hf hz
 have nM5 : N < V4.heap.size := L5.out.1
 have bM5 : b < V4.heap.size := ps5.out.1.1
 have xs5 := Hd (show ∀ l, Lie (fun k => P k /\ k ≠ N) V4 A5 l -> Lie (fun k => (P k /\ k ≠ N) /\ k ≠ V4.heap.size) W5 A5 l from fun l h => (h.weak (Q := fun k => (P k /\ k ≠ N) /\ k ≠ V4.heap.size) (fun q hq hlt => ⟨hq, by omega⟩)).keep hbW5)
 have MW5 := Hd (show w.heap.size <= V4.heap.size from bg5.out.size)
 generalize V4.heap.size = M at T5 nM5 bM5 xs5 MW5
 have mb5 : M ≠ b := by omega
 have mN5 : ¬ N = M := by omega
 have Nm5 : ¬ M = N := by omega
 have xM5 : ¬ b = M := by omega
 have LM5 := Hd T5
 have LN5 := Hd (L5.out.keep hbW5)
 have bh5 := Hd (bg5.out.trans (Bag.of hbW5))
 have ph5 := Hd (ps5.out.keep hbW5)
 clear T5 hbW5
 obtain ⟨rfl, rfl, hv5, rfl, rfl, hl5, hd5, rfl, rfl, hp5, hdd5, hpp5⟩ : ok5 = true /\ o5 = y.1.op /\ _ = y.1.v /\ nm5 = Qaa y.1.nm /\ n5 = y.1.ks.length /\ Lie _ V4 A5 y.1.ks /\ ts.drop j5 = [] /\ wr5 = wo /\ e5 = 0 /\ p5 = y.2 /\ d5 = _ /\ y.2 <= 4096 := xr5.out
 have R5 := ph5.out.1
 have HL5 := Hd (xs5.out _ hl5)
 have HV := Hd hv5
 clear hl5 hv5 xr5 hp5 hdd5 hpp5
 have hjn : j5 = ts.length := by
  have h := congrArg List.length hd5
  rw [List.length_drop, List.length_nil] at h
  omega
 have CD := Qd5 W5 b A ts.length c j5 sn wo 0 R5
 rw [dT hjn] at CD
 replace CD := Hd CD
 have CS := Hd fun X (hL : Lie (fun k => (P k /\ k ≠ N) /\ k ≠ M) X A5 y.1.ks) => Qdc y.1 (fun k => (P k /\ k ≠ N) /\ k ≠ M) A5 c5 X HSM.out hL
 rw [hsd, ← HV.out] at CS
 clear hjn
 go_wp2_with (first
  | (go_at_call 34; (with_reducible refine Calls.mono CD.out ?_); rintro ee V6 ⟨rfl, hb6⟩; have R6 := R5.keep hb6; have LN6 := Hd (LN5.out.keep hb6); have LM6 := Hd (LM5.out.keep hb6); have HL6 := Hd (HL5.out.keep hb6); have B6 := Hd (bh5.out.trans (Bag.of hb6)); clear hb6)
  | (go_at_call 32; (with_reducible refine Calls.mono (Qbh _ _ _ _ _ _ _ _ _ R6) ?_); rintro ee V7 ⟨rfl, hbV7⟩; have LN7 := Hd (LN6.out.keep hbV7); have LM7 := Hd (LM6.out.keep hbV7); have HL7 := Hd (HL6.out.keep hbV7); obtain ⟨tz, ⟨t0, t1, t2, t3, t4, t5, t6, t7⟩, ⟨tf0, tf1, tf2, tf3, tf4, tf5, tf6, tf7⟩⟩ := LM7.out; simp only [Nat.zero_add] at t0 t1 t2 t3 t4 t5 t6 t7; have B7 := Hd (((B6.out.bel (Bel.refl w) hwb.out)).trans hbV7); clear hbV7)
  | (go_at_call 23; (with_reducible refine Calls.mono (CS.out _ HL7.out) ?_); rintro ee V8 ⟨rfl, hb8⟩; obtain ⟨sz, ⟨s0, s1, s2, s3, s4, s5, s6, s7⟩, ⟨sf0, sf1, sf2, sf3, sf4, sf5, sf6, sf7⟩⟩ := LN7.out.keep hb8; simp only [zv, Nat.zero_add] at s0 s1 s2 s3 s4 s5 s6 s7; obtain ⟨uz, ⟨u0, u1, u2, u3, u4, u5, u6, u7⟩, ⟨uf0, uf1, uf2, uf3, uf4, uf5, uf6, uf7⟩⟩ := LM7.out.keep hb8; simp only [Nat.zero_add] at u0 u1 u2 u3 u4 u5 u6 u7; have B8 := Hd (B7.out.trans hb8); have HL8 := Hd (HL7.out.keep hb8); clear hb8))
 refine pR (v := .tuple #[exV 0 zv ⟨#[]⟩ none 0 0, .int .i64 0, .int .i64 9]) (by simp [results, Tryz.results14, go_sem, zv, sz, s0, s1, s2, s3, s4, s5, s6, s7]) rfl (EOut.zero HP.out rfl ?_)
 repeat (first | with_reducible exact B8.out | refine Bel.setCell ?_ NW.out _)
theorem Qls (s : ByteArray) (hs : s.size <= 9223372036854775807) (w : World) (hm : Mx w) : Calls Tryz.prog 14 #[.string s] w (EOut s w) := by
 by_cases h0 : (tokS s).2.2 = 0
 ·cases hq : parX (12 * (tokS s).1.length + 11) .inner 0 0 (tokS s).1 with
  | bad r f => exact Qlq s hs w hm h0 r f hq
  | ok y r =>
   by_cases hr : r = []
   ·subst hr
    cases hsd : sndX y.1 with
    | true => exact Qlr s hs w hm h0 y hsd hq
    | false => exact Qjg s hs w hm h0 y hsd hq
   exact Qjf s hs w hm h0 y r hr hq
 exact Qlp s hs w hm h0
end
section
open Go.RowKit
theorem Qss {s : ByteArray} {x : Ex} {n : Int} (h : parE s = (x, n, 0)) : smX x := by
 obtain ⟨_, _, _, p, ⟨_, k, hk⟩⟩ := Qi3 h
 have h1 := Qbj k .inner 0 0 (tokS s).1 trivial (Qb4 s)
 rw [hk k (Nat.le_refl _)] at h1
 exact h1
theorem Qst {x : Ex} (h : sndX x = true) : okX x = true := by
 unfold sndX at h
 rw [bA] at h
 exact h.1
theorem Qfs {s : ByteArray} {x : Ex} {n : Int} {e : Nat} (h : parE s = (x, n, e)) (hs : s.size <= 9223372036854775807) (w : World) (hm : Mx w) :
  Calls Tryz.prog 14 #[.string s] w fun r w' => ∃ A c, r = .returned (.tuple #[exV x.op x.v (Qaa x.nm) A x.ks.length c, .int .i64 n, .int .i64 e]) /\ Lie (fun _ => True) w' A x.ks /\ Bel w w' := by
 refine (Qls s hs w hm).mono fun r w' h' => ?_
 unfold EOut at h'
 rw [h] at h'
 obtain ⟨A, c, h1, h2, h3⟩ := h'
 exact ⟨A, c, h1, h2.weak (fun _ _ _ => trivial), h3⟩
end
end Go.Proofs.YtjckpkamhdbcnaaGreatDoor
