import Derived.Test.YtjckpkamhdbcnaaGreatDoorZo
import Derived.Test.YtjckpkamhdbcnaaGreatDoorZh
namespace Go.Proofs.YtjckpkamhdbcnaaGreatDoor
set_option maxRecDepth 100000
set_option maxHeartbeats 64000000
set_option linter.unusedSimpArgs false
set_option linter.unusedVariables false
open Go.RowKit
theorem Qhu {P : Nat -> Prop} {w : World} {b : Nat} : ∀ (l : List Ex) (off : Nat), (∀ i x, l[i]? = some x -> ∃ A' c', Qap w b (off + i * 8) x.op x.v (Qaa x.nm) A' x.ks.length c' /\ Lie P w A' x.ks) -> ∃ n, ∀ i x, l[i]? = some x -> ∃ A' c', Qap w b (off + i * 8) x.op x.v (Qaa x.nm) A' x.ks.length c' /\ LieAt P n w A' x.ks
 | [], off, h => ⟨0, fun i x hx => by simp at hx⟩
 | y :: l, off, h => by
  obtain ⟨A', c', h1, n1, h2⟩ := h 0 y rfl
  obtain ⟨n2, h3⟩ := Qhu l (off + 8) fun i x hx => by
   obtain ⟨A', c', k1, k2⟩ := h (i + 1) x (by simpa using hx)
   exact ⟨A', c', by rw [show off + 8 + i * 8 = off + (i + 1) * 8 by omega]; exact k1, k2⟩
  refine ⟨n1 + n2, fun i x hx => ?_⟩
  cases i with
  | zero =>
   obtain rfl : y = x := by simpa using hx
   exact ⟨A', c', h1, h2.le (by omega)⟩
  | succ i =>
   obtain ⟨A2, c2, k1, k2⟩ := h3 i x (by simpa using hx)
   exact ⟨A2, c2, by rw [show off + (i + 1) * 8 = off + 8 + i * 8 by omega]; exact k1, k2.le (by omega)⟩
theorem Qkl {P : Nat -> Prop} {w : World} {b off : Nat} {l : List Ex} (hP : P b) (hb : b < w.heap.size) (h : ∀ i x, l[i]? = some x -> ∃ A' c', Qap w b (off + i * 8) x.op x.v (Qaa x.nm) A' x.ks.length c' /\ Lie P w A' x.ks) : Lie P w (some ⟨b, off, none⟩) l := by
 obtain ⟨n, hn⟩ := Qhu l off h
 exact ⟨n + 1, fun _ => ⟨b, off, rfl, hP, hb, hn⟩⟩
theorem Qqz {p : Nat} {r : List Tok} {v : Val} (h : valT (pekT r) = some v) : litX p r = cmpX (.mk 1 v [] []) p r.tail := by
 cases r with
 | nil => cases h
 | cons t r =>
  have h' : valT t = some v := h
  unfold litX
  simp only [h', List.tail_cons]
theorem Qq0 {p : Nat} {r : List Tok} (h : valT (pekT r) = none) (hk : (pekT r).kind = 4) (hw : wordB (Qaa (pekT r).text) = true) : litX p r = cmpX (.mk 2 zv (pekT r).text []) p r.tail := by
 cases r with
 | nil => cases hk
 | cons t r =>
  have h' : valT t = none := h
  have hk' : t.kind = 4 := hk
  have hw' : wordB (Qaa t.text) = true := hw
  unfold litX
  simp only [h', List.tail_cons]
  rw [iP ⟨hk', hw'⟩]
  rfl
theorem Qn0 {p : Nat} {r : List Tok} (h : valT (pekT r) = none) (hw : ¬ ((pekT r).kind = 4 /\ wordB (Qaa (pekT r).text) = true)) : litX p r = .bad r 5 := by
 cases r with
 | nil => rfl
 | cons t r =>
  have h' : valT t = none := h
  unfold litX
  simp only [h']
  have hw' : ¬ (t.kind = 4 /\ wordB (Qaa t.text) = true) := hw
  rw [iN hw']
theorem Qd6 {k : Int} {x : List UInt8} {ts : List Tok} {i : Nat} (h : isK k x (ts.drop i) = true) : i < ts.length := by
 rcases Nat.lt_or_ge i ts.length with h2 | h2
 ·exact h2
 exact absurd (List.drop_eq_nil_of_le h2) (Qnr h)
theorem Qi4 (n : Nat) (IH : XEnc n) (P : Nat -> Prop) (ts : List Tok) (w : World) (b : Nat) (A : Option Addr) (c i : Nat) (en wo : Int) (p d : Nat) (hC : Cx ts A b w) (hr : Psr w b A ts.length c i en wo 0 p d) (hi : i <= ts.length) (hP : ¬ P b) (hPw : ∀ k, w.heap.size <= k -> P k) (hp : p <= 4096) (hd : d <= 64) (hfine : (parX (n + 1) .operand d p (ts.drop i)).fine) (h1 : isS [40] (ts.drop i) = true) :
  Calls Tryz.prog 177 #[.pointer (some ⟨b, 0, none⟩)] w (XOut P ts b A c en wo d (parX (n + 1) .operand d p (ts.drop i)) w) := by
 have hbw := hr.1.1
 have KR := Hd hr
 have KC := Hd hC
 have KPw := Hd hPw
 have he : parX (n + 1) .operand d p (ts.drop i) = if isS [40] (ts.drop i) = true then encX (parX n .inner d p (ts.drop i).tail) else if isK 4 wNOT (ts.drop i) = true then (if isS [40] (ts.drop i).tail = true then bndX (encX (parX n .inner d p (ts.drop i).tail.tail)) fun x r1 => cmpX (.mk 16 zv [] [x.1]) x.2 r1 else .bad (ts.drop i).tail 5) else litX p (ts.drop i) := by rw [parX.eq_def]
 rw [he] at hfine ⊢
 clear he hC hr hPw
 rw [iP h1] at hfine ⊢
 have hil := Qd6 h1
 rw [List.tail_drop] at hfine ⊢
 have h1h := Hd (show isK 5 [40] (ts.drop i) = true from h1)
 have CE := Hd fun (Q : Nat -> Prop) (W0 : World) (hQ : ¬ Q b) (hQw : ∀ k, W0.heap.size <= k -> Q k) W (h0 : W0.heap.size <= W.heap.size) (hW : Bag b w W) (hR : Psr W b A ts.length c (i + 1) en wo 0 p d) => IH Q ts W b A c (i + 1) en wo p d (KC.out.bag hW) hR hil hQ (fun k hk => hQw k (Nat.le_trans h0 hk)) hp hd hfine
 generalize hq : encX (parX n .inner d p (ts.drop (i + 1))) = q at CE ⊢
 clear hfine hd hq h1
 have CA := fun X (hX : Bag b w X) (hR : Psr X b A ts.length c i en wo 0 p d) => Qbd ts [40] X b A c i (i + 1) en wo 0 (KC.out.bag hX).toks hR.1 hi KC.out.2.1 (by rw [iP h1h.out])
 rw [show isK 5 [40] (ts.drop i) = true from h1h.out, show Qaa [40] = (⟨#[40]⟩ : ByteArray) from rfl] at CA
 replace CA := Hd CA
 go_enter Tryz.func177, Tryz.ntmps177
 go_upto_region 1 with fail
 refine uN ((Bel.refl w).alloc _) fun W hcc hf hz hb => ?_
 have T1 : Qab W w.heap.size 0 zv ⟨#[]⟩ none 0 0 := by simp [Qab, Qap, zv, hcc, hf, hz, go_sem]
 clear hcc hf hz
 have hwW : w.heap.size < W.heap.size := T1.1
 generalize hN : w.heap.size = N at T1 hwW ⊢
 have NW := Hd (show w.heap.size <= N from by omega)
 have nb : N ≠ b := by omega
 clear hN
 have xN : ¬ b = N := fun e => nb e.symm
 have K1 := Hd T1
 clear T1
 have KP := Hd (KR.out.keep hb)
 have B1 := Hd (Bag.of (b := b) hb)
 have hPN : ¬ (fun k => P k /\ k ≠ N) b := fun h => hP h.1
 have hPNN : ¬ (fun k => P k /\ k ≠ N) N := fun h => h.2 rfl
 have hPNw := Hd (show ∀ k, W.heap.size <= k -> (fun k => P k /\ k ≠ N) k from fun k hk => ⟨KPw.out k (by have := NW.out; omega), by omega⟩)
 go_upto_region 2 with (go_at_call 176; (with_reducible refine Calls.mono (CA.out _ B1.out KP.out) ?_); rintro ee V2 ⟨rfl, hbV2, hrV2⟩; have bg2 := Hd (B1.out.trans hbV2.bag); have ps2 := Hd (KP.out.but hbV2 hrV2); have L2 := Hd (K1.out.bag hbV2.bag nb); have sz2 := Hd hbV2.size; clear hbV2 hrV2)
 have CEX := Hd fun X (hX : X = V2) (hW : Bag b w X) (hR : Psr X b A ts.length c (i + 1) en wo 0 p d) => CE.out (fun k => P k /\ k ≠ N) W hPN hPNw.out X (by rw [hX]; exact sz2.out) hW hR
 go_wp2_with (go_at_call 194; (with_reducible refine Calls.mono (CEX.out _ rfl bg2.out ps2.out) ?_); rintro ee V3 ⟨j3, wr3, e3, p3, d3, o3, v3, nm3, A3, n3, c3, ok3, hb3, hr3, hj3, rfl, hx3⟩; have bg3 := Hd (bg2.out.trans hb3); have ps3 := Hd hr3; have xr3 := Hd hx3; obtain ⟨vk3, vn3, vs3, vt3, vm3⟩ := v3; obtain ⟨sz, ⟨s0, s1, s2, s3, s4, s5, s6, s7⟩, ⟨sf0, sf1, sf2, sf3, sf4, sf5, sf6, sf7⟩⟩ := L2.out.bag hb3 nb; simp only [zv, Nat.zero_add] at s0 s1 s2 s3 s4 s5 s6 s7; clear hb3 hr3 hx3)
 refine pR (v := .tuple #[exV o3 ⟨vk3, vn3, vs3, vt3, vm3⟩ nm3 A3 n3 c3, .bool ok3]) (by simp [results, Tryz.results177, go_sem, zv, sz, s0, s1, s2, s3, s4, s5, s6, s7]) rfl (Qaq (j := j3) (wr' := wr3) (e' := e3) (p' := p3) (d' := d3) ?_ ?_ hj3 rfl ?_)
 ·repeat (first | with_reducible exact bg3.out | refine Bag.new ?_ NW.out _)
 ·repeat (first | with_reducible exact ps3.out | refine Psr.far ?_ xN _)
 intro _
 refine XRes.move xr3.out fun l hl => (hl.bag (b := N) ?_ hPNN).weak fun k h _ => h.1
 repeat (first | with_reducible exact Bag.refl N V3 | refine Bag.setCell (b := N) ?_ rfl _)
theorem Qf0 (n : Nat) (IH : XEnc n) (P : Nat -> Prop) (ts : List Tok) (w : World) (b : Nat) (A : Option Addr) (c i : Nat) (en wo : Int) (p d : Nat) (hC : Cx ts A b w) (hr : Psr w b A ts.length c i en wo 0 p d) (hi : i <= ts.length) (hP : ¬ P b) (hPw : ∀ k, w.heap.size <= k -> P k) (hp : p <= 4096) (hd : d <= 64) (hfine : (parX (n + 1) .operand d p (ts.drop i)).fine) (h1 : isS [40] (ts.drop i) = false) (h2 : isK 4 wNOT (ts.drop i) = true) (h3 : isS [40] (ts.drop (i + 1)) = false) :
  Calls Tryz.prog 177 #[.pointer (some ⟨b, 0, none⟩)] w (XOut P ts b A c en wo d (parX (n + 1) .operand d p (ts.drop i)) w) := by
 have hbw := hr.1.1
 have KR := Hd hr
 have KC := Hd hC
 have KPw := Hd hPw
 have he : parX (n + 1) .operand d p (ts.drop i) = if isS [40] (ts.drop i) = true then encX (parX n .inner d p (ts.drop i).tail) else if isK 4 wNOT (ts.drop i) = true then (if isS [40] (ts.drop i).tail = true then bndX (encX (parX n .inner d p (ts.drop i).tail.tail)) fun x r1 => cmpX (.mk 16 zv [] [x.1]) x.2 r1 else .bad (ts.drop i).tail 5) else litX p (ts.drop i) := by rw [parX.eq_def]
 rw [he] at hfine ⊢
 clear he hC hr hPw
 rw [iN (by rw [h1]; decide), iP h2] at hfine ⊢
 have hil := Qd6 h2
 rw [List.tail_drop] at hfine ⊢
 rw [iN (by rw [h3]; decide)] at hfine ⊢
 have h1h := Hd (show isK 5 [40] (ts.drop i) = false from h1)
 have h2h := Hd (show isK 4 [110, 111, 116] (ts.drop i) = true from h2)
 have h3h := Hd (show isK 5 [40] (ts.drop (i + 1)) = false from h3)
 clear hfine hd h1 h2 h3
 have CA := fun X (hX : Bag b w X) (hR : Psr X b A ts.length c i en wo 0 p d) => Qbd ts [40] X b A c i i en wo 0 (KC.out.bag hX).toks hR.1 hi KC.out.2.1 (by rw [iN (by rw [h1h.out]; decide)])
 rw [show isK 5 [40] (ts.drop i) = false from h1h.out, show Qaa [40] = (⟨#[40]⟩ : ByteArray) from rfl] at CA
 replace CA := Hd CA
 have CB := fun X (hX : Bag b w X) (hR : Psr X b A ts.length c i en wo 0 p d) => Qbe ts [110, 111, 116] X b A c i (i + 1) en wo 0 (KC.out.bag hX).toks hR.1 hi KC.out.2.1 (by rw [iP h2h.out])
 rw [show isK 4 [110, 111, 116] (ts.drop i) = true from h2h.out, show Qaa [110, 111, 116] = (⟨#[110, 111, 116]⟩ : ByteArray) from rfl] at CB
 replace CB := Hd CB
 have CD := fun X (hX : Bag b w X) (hR : Psr X b A ts.length c (i + 1) en wo 0 p d) => Qbd ts [40] X b A c (i + 1) (i + 1) en wo 0 (KC.out.bag hX).toks hR.1 hil KC.out.2.1 (by rw [iN (by rw [h3h.out]; decide)])
 rw [show isK 5 [40] (ts.drop (i + 1)) = false from h3h.out, show Qaa [40] = (⟨#[40]⟩ : ByteArray) from rfl] at CD
 replace CD := Hd CD
 go_enter Tryz.func177, Tryz.ntmps177
 go_upto_region 1 with fail
 refine uN ((Bel.refl w).alloc _) fun W hcc hf hz hb => ?_
 have T1 : Qab W w.heap.size 0 zv ⟨#[]⟩ none 0 0 := by simp [Qab, Qap, zv, hcc, hf, hz, go_sem]
 clear hcc hf hz
 have hwW : w.heap.size < W.heap.size := T1.1
 generalize hN : w.heap.size = N at T1 hwW ⊢
 have NW := Hd (show w.heap.size <= N from by omega)
 have nb : N ≠ b := by omega
 clear hN
 have xN : ¬ b = N := fun e => nb e.symm
 have K1 := Hd T1
 clear T1
 have KP := Hd (KR.out.keep hb)
 have B1 := Hd (Bag.of (b := b) hb)
 have hPN : ¬ (fun k => P k /\ k ≠ N) b := fun h => hP h.1
 have hPNN : ¬ (fun k => P k /\ k ≠ N) N := fun h => h.2 rfl
 have hPNw := Hd (show ∀ k, W.heap.size <= k -> (fun k => P k /\ k ≠ N) k from fun k hk => ⟨KPw.out k (by have := NW.out; omega), by omega⟩)
 go_upto_region 3 with (go_at_call 176; (with_reducible refine Calls.mono (CA.out _ B1.out KP.out) ?_); rintro ee V2 ⟨rfl, hbV2, hrV2⟩; have bg2 := Hd (B1.out.trans hbV2.bag); have ps2 := Hd (KP.out.but hbV2 hrV2); have L2 := Hd (K1.out.bag hbV2.bag nb); have sz2 := Hd hbV2.size; clear hbV2 hrV2)
 go_upto_region 4 with (go_at_call 90; (with_reducible refine Calls.mono (CB.out _ bg2.out ps2.out) ?_); rintro ee V3 ⟨rfl, hbV3, hrV3⟩; have bg3 := Hd (bg2.out.trans hbV3.bag); have ps3 := Hd (ps2.out.but hbV3 hrV3); have L3 := Hd (L2.out.bag hbV3.bag nb); have sz3 := Hd hbV3.size; clear hbV3 hrV3)
 go_upto_region 5 with (go_at_call 176; (with_reducible refine Calls.mono (CD.out _ bg3.out ps3.out) ?_); rintro ee V4 ⟨rfl, hbV4, hrV4⟩; have bg4 := Hd (bg3.out.trans hbV4.bag); have ps4 := Hd (ps3.out.but hbV4 hrV4); have L4 := Hd (L3.out.bag hbV4.bag nb); have sz4 := Hd hbV4.size; clear hbV4 hrV4)
 have CF := Hd (Qbu ts V4 b A c (i + 1) en wo 5 p d (KC.out.bag bg4.out) ps4.out hil)
 go_wp2_with (go_at_call 63; (with_reducible refine Calls.mono CF.out ?_); rintro ee V9 ⟨rfl, hb9, hr9⟩; have hq9 := Hd (bg4.out.trans hb9); have hr9' := Hd hr9; obtain ⟨sz, ⟨s0, s1, s2, s3, s4, s5, s6, s7⟩, ⟨sf0, sf1, sf2, sf3, sf4, sf5, sf6, sf7⟩⟩ := L4.out.bag hb9 nb; simp only [zv, Nat.zero_add] at s0 s1 s2 s3 s4 s5 s6 s7; clear hb9 hr9)
 refine pR (v := .tuple #[exV 0 zv ⟨#[]⟩ none 0 0, .bool false]) (by simp [results, Tryz.results177, go_sem, zv, sz, s0, s1, s2, s3, s4, s5, s6, s7]) rfl (Qaq (j := (i + 1)) (wr' := plcT en (ts.drop (i + 1))) (e' := 5) (p' := p) (d' := d) ?_ ?_ hil rfl ?_)
 ·repeat (first | with_reducible exact hq9.out | refine Bag.new ?_ NW.out _)
 ·repeat (first | with_reducible exact hr9'.out | refine Psr.far ?_ xN _)
 exact fun _ => ⟨rfl, rfl, rfl⟩
theorem Qi5 (n : Nat) (IH : XEnc n) (P : Nat -> Prop) (ts : List Tok) (w : World) (b : Nat) (A : Option Addr) (c i : Nat) (en wo : Int) (p d : Nat) (hC : Cx ts A b w) (hr : Psr w b A ts.length c i en wo 0 p d) (hi : i <= ts.length) (hP : ¬ P b) (hPw : ∀ k, w.heap.size <= k -> P k) (hp : p <= 4096) (hd : d <= 64) (hfine : (parX (n + 1) .operand d p (ts.drop i)).fine) (h1 : isS [40] (ts.drop i) = false) (h2 : isK 4 wNOT (ts.drop i) = false) (v : Val) (hv : valT (pekT (ts.drop i)) = some v) :
  Calls Tryz.prog 177 #[.pointer (some ⟨b, 0, none⟩)] w (XOut P ts b A c en wo d (parX (n + 1) .operand d p (ts.drop i)) w) := by
 have hbw := hr.1.1
 have KR := Hd hr
 have KC := Hd hC
 have KPw := Hd hPw
 have he : parX (n + 1) .operand d p (ts.drop i) = if isS [40] (ts.drop i) = true then encX (parX n .inner d p (ts.drop i).tail) else if isK 4 wNOT (ts.drop i) = true then (if isS [40] (ts.drop i).tail = true then bndX (encX (parX n .inner d p (ts.drop i).tail.tail)) fun x r1 => cmpX (.mk 16 zv [] [x.1]) x.2 r1 else .bad (ts.drop i).tail 5) else litX p (ts.drop i) := by rw [parX.eq_def]
 rw [he] at hfine ⊢
 clear he hC hr hPw
 rw [iN (by rw [h1]; decide), iN (by rw [h2]; decide)] at hfine ⊢
 have h1h := Hd (show isK 5 [40] (ts.drop i) = false from h1)
 have h2h := Hd (show isK 4 [110, 111, 116] (ts.drop i) = false from h2)
 clear hfine hd h1 h2
 have CA := fun X (hX : Bag b w X) (hR : Psr X b A ts.length c i en wo 0 p d) => Qbd ts [40] X b A c i i en wo 0 (KC.out.bag hX).toks hR.1 hi KC.out.2.1 (by rw [iN (by rw [h1h.out]; decide)])
 rw [show isK 5 [40] (ts.drop i) = false from h1h.out, show Qaa [40] = (⟨#[40]⟩ : ByteArray) from rfl] at CA
 replace CA := Hd CA
 have CB := fun X (hX : Bag b w X) (hR : Psr X b A ts.length c i en wo 0 p d) => Qbe ts [110, 111, 116] X b A c i i en wo 0 (KC.out.bag hX).toks hR.1 hi KC.out.2.1 (by rw [iN (by rw [h2h.out]; decide)])
 rw [show isK 4 [110, 111, 116] (ts.drop i) = false from h2h.out, show Qaa [110, 111, 116] = (⟨#[110, 111, 116]⟩ : ByteArray) from rfl] at CB
 replace CB := Hd CB
 rw [Qqz hv, List.tail_drop]
 have hil : i < ts.length := by
  rcases Nat.lt_or_ge i ts.length with h2 | h2
  ·exact h2
  rw [List.drop_eq_nil_of_le h2] at hv
  cases hv
 have CV := Hd fun X (hX : Bag b w X) (hR : Psr X b A ts.length c i en wo 0 p d) => Qll ts v X b A c i en wo 0 (KC.out.bag hX).toks hR.1 hil KC.out.2.1 hv
 have CC := Hd fun (Q : Nat -> Prop) (hQ : ¬ Q b) X (hX : Bag b w X) (hR : Psr X b A ts.length c (i + 1) en wo 0 p d) => (show Calls Tryz.prog 142 #[.pointer (some ⟨b, 0, none⟩), .agg #[.int .i64 1, .int .i64 v.kind, .int .i64 v.n, .int .i64 v.scale, .string v.text, .int .i64 v.num, .string ⟨#[]⟩, .slice none 0 0]] X (XOut Q ts b A c en wo d (cmpX (.mk 1 v [] []) p (ts.drop (i + 1))) X) from Qcw Q (.mk 1 v [] []) none 0 ts X b A c (i + 1) en wo p d (KC.out.bag hX) hR hil (Lie.nil _ _ _) hQ hp)
 generalize hq : cmpX (.mk 1 v [] []) p (ts.drop (i + 1)) = q at CC ⊢
 obtain ⟨vk, vn, vs, vt, vm⟩ := v
 simp only at CV CC
 clear hq hv
 go_enter Tryz.func177, Tryz.ntmps177
 go_upto_region 1 with fail
 refine uN ((Bel.refl w).alloc _) fun W hcc hf hz hb => ?_
 have T1 : Qab W w.heap.size 0 zv ⟨#[]⟩ none 0 0 := by simp [Qab, Qap, zv, hcc, hf, hz, go_sem]
 clear hcc hf hz
 have hwW : w.heap.size < W.heap.size := T1.1
 generalize hN : w.heap.size = N at T1 hwW ⊢
 have NW := Hd (show w.heap.size <= N from by omega)
 have nb : N ≠ b := by omega
 clear hN
 have xN : ¬ b = N := fun e => nb e.symm
 have K1 := Hd T1
 clear T1
 have KP := Hd (KR.out.keep hb)
 have B1 := Hd (Bag.of (b := b) hb)
 have hPN : ¬ (fun k => P k /\ k ≠ N) b := fun h => hP h.1
 have hPNN : ¬ (fun k => P k /\ k ≠ N) N := fun h => h.2 rfl
 have hPNw := Hd (show ∀ k, W.heap.size <= k -> (fun k => P k /\ k ≠ N) k from fun k hk => ⟨KPw.out k (by have := NW.out; omega), by omega⟩)
 go_upto_region 3 with (go_at_call 176; (with_reducible refine Calls.mono (CA.out _ B1.out KP.out) ?_); rintro ee V2 ⟨rfl, hbV2, hrV2⟩; have bg2 := Hd (B1.out.trans hbV2.bag); have ps2 := Hd (KP.out.but hbV2 hrV2); have L2 := Hd (K1.out.bag hbV2.bag nb); have sz2 := Hd hbV2.size; clear hbV2 hrV2)
 go_upto_region 10 with (go_at_call 90; (with_reducible refine Calls.mono (CB.out _ bg2.out ps2.out) ?_); rintro ee V3 ⟨rfl, hbV3, hrV3⟩; have bg3 := Hd (bg2.out.trans hbV3.bag); have ps3 := Hd (ps2.out.but hbV3 hrV3); have L3 := Hd (L2.out.bag hbV3.bag nb); have sz3 := Hd hbV3.size; clear hbV3 hrV3)
 go_upto_region 12 with (go_at_call 195; (with_reducible refine Calls.mono (CV.out _ bg3.out ps3.out) ?_); rintro ee V4 ⟨rfl, hb4, hr4⟩; have bg4 := Hd (bg3.out.trans hb4.bag); have ps4 := Hd (ps3.out.but hb4 hr4); have L4 := Hd (L3.out.bag hb4.bag nb); have sz4 := Hd (Nat.le_trans (Nat.le_trans sz2.out sz3.out) hb4.size); clear hb4 hr4)
 refine uN (w0 := V4) (by exact Bel.y) fun W5 hcc hf hz hb5 => ?_
 have T5 : VSlot W5 V4.heap.size ⟨vk, vn, vs, vt, vm⟩ := by simp [VSlot, zv, hcc, hf, hz, go_sem]
 clear hcc hf hz
 have nM5 : N < V4.heap.size := L4.out.1
 have bM5 : b < V4.heap.size := ps4.out.1.1
 generalize V4.heap.size = M at T5 nM5 bM5
 have bg5 := Hd (bg4.out.trans (Bag.of hb5))
 have ps5 := Hd (ps4.out.keep hb5)
 have L5 := Hd (L4.out.keep hb5)
 have sz5 := Hd (Nat.le_trans sz4.out hb5.size)
 clear hb5
 obtain ⟨y0, ⟨y1, y2, y3, y4, y5⟩, -⟩ := T5
 simp only [zv] at y1 y2 y3 y4 y5
 have CC2 := Hd (CC.out (fun k => P k /\ k ≠ N) hPN)
 go_wp2_with (go_at_call 142; (with_reducible refine Calls.mono (CC2.out _ bg5.out ps5.out) ?_); rintro ee V7 ⟨j3, wr3, e3, p3, d3, o3, v3, nm3, A3, n3, c3, ok3, hb7, hr7, hj3, rfl, hx7⟩; have bg7 := Hd (bg5.out.trans hb7); have ps7 := Hd hr7; have xr7 := Hd hx7; obtain ⟨vk3, vn3, vs3, vt3, vm3⟩ := v3; obtain ⟨sz, ⟨s0, s1, s2, s3, s4, s5, s6, s7⟩, ⟨sf0, sf1, sf2, sf3, sf4, sf5, sf6, sf7⟩⟩ := L5.out.bag hb7 nb; simp only [zv, Nat.zero_add] at s0 s1 s2 s3 s4 s5 s6 s7; clear hb7 hr7 hx7)
 refine pR (v := .tuple #[exV o3 ⟨vk3, vn3, vs3, vt3, vm3⟩ nm3 A3 n3 c3, .bool ok3]) (by simp [results, Tryz.results177, go_sem, zv, sz, s0, s1, s2, s3, s4, s5, s6, s7]) rfl (Qaq (j := j3) (wr' := wr3) (e' := e3) (p' := p3) (d' := d3) ?_ ?_ hj3 rfl ?_)
 ·repeat (first | with_reducible exact bg7.out | refine Bag.new ?_ NW.out _)
 ·repeat (first | with_reducible exact ps7.out | refine Psr.far ?_ xN _)
 intro _
 refine XRes.move xr7.out fun l hl => (hl.bag (b := N) ?_ hPNN).weak fun k h _ => h.1
 repeat (first | with_reducible exact Bag.refl N V7 | refine Bag.setCell (b := N) ?_ rfl _)
theorem Qhv (n : Nat) (IH : XEnc n) (P : Nat -> Prop) (ts : List Tok) (w : World) (b : Nat) (A : Option Addr) (c i : Nat) (en wo : Int) (p d : Nat) (hC : Cx ts A b w) (hr : Psr w b A ts.length c i en wo 0 p d) (hi : i <= ts.length) (hP : ¬ P b) (hPw : ∀ k, w.heap.size <= k -> P k) (hp : p <= 4096) (hd : d <= 64) (hfine : (parX (n + 1) .operand d p (ts.drop i)).fine) (h1 : isS [40] (ts.drop i) = false) (h2 : isK 4 wNOT (ts.drop i) = false) (hv : valT (pekT (ts.drop i)) = none) (hk0 : (pekT (ts.drop i)).kind ≠ 4) :
  Calls Tryz.prog 177 #[.pointer (some ⟨b, 0, none⟩)] w (XOut P ts b A c en wo d (parX (n + 1) .operand d p (ts.drop i)) w) := by
 have hbw := hr.1.1
 have KR := Hd hr
 have KC := Hd hC
 have KPw := Hd hPw
 have he : parX (n + 1) .operand d p (ts.drop i) = if isS [40] (ts.drop i) = true then encX (parX n .inner d p (ts.drop i).tail) else if isK 4 wNOT (ts.drop i) = true then (if isS [40] (ts.drop i).tail = true then bndX (encX (parX n .inner d p (ts.drop i).tail.tail)) fun x r1 => cmpX (.mk 16 zv [] [x.1]) x.2 r1 else .bad (ts.drop i).tail 5) else litX p (ts.drop i) := by rw [parX.eq_def]
 rw [he] at hfine ⊢
 clear he hC hr hPw
 rw [iN (by rw [h1]; decide), iN (by rw [h2]; decide)] at hfine ⊢
 have h1h := Hd (show isK 5 [40] (ts.drop i) = false from h1)
 have h2h := Hd (show isK 4 [110, 111, 116] (ts.drop i) = false from h2)
 clear hfine hd h1 h2
 have CA := fun X (hX : Bag b w X) (hR : Psr X b A ts.length c i en wo 0 p d) => Qbd ts [40] X b A c i i en wo 0 (KC.out.bag hX).toks hR.1 hi KC.out.2.1 (by rw [iN (by rw [h1h.out]; decide)])
 rw [show isK 5 [40] (ts.drop i) = false from h1h.out, show Qaa [40] = (⟨#[40]⟩ : ByteArray) from rfl] at CA
 replace CA := Hd CA
 have CB := fun X (hX : Bag b w X) (hR : Psr X b A ts.length c i en wo 0 p d) => Qbe ts [110, 111, 116] X b A c i i en wo 0 (KC.out.bag hX).toks hR.1 hi KC.out.2.1 (by rw [iN (by rw [h2h.out]; decide)])
 rw [show isK 4 [110, 111, 116] (ts.drop i) = false from h2h.out, show Qaa [110, 111, 116] = (⟨#[110, 111, 116]⟩ : ByteArray) from rfl] at CB
 replace CB := Hd CB
 rw [Qn0 hv (fun h => hk0 h.1)]
 have CV := Hd fun X (hX : Bag b w X) (hR : Psr X b A ts.length c i en wo 0 p d) => Qen ts X b A c i en wo 0 (KC.out.bag hX).toks hR.1 hi KC.out.2.1 hv
 have CK := Hd fun X (hX : Bag b w X) (hR : Psr X b A ts.length c i en wo 0 p d) => Qda ts X b A c i en wo 0 (KC.out.bag hX).toks hR.1 hi KC.out.2.1
 generalize hpk : pekT (ts.drop i) = t at CK hk0
 obtain ⟨tk, tp, tx, ta, tb, td⟩ := t
 simp only at hk0
 have g4 : (tk == 4) = false := beq_eq_false_iff_ne.2 hk0
 clear hpk hv hk0
 go_enter Tryz.func177, Tryz.ntmps177
 go_upto_region 1 with fail
 refine uN ((Bel.refl w).alloc _) fun W hcc hf hz hb => ?_
 have T1 : Qab W w.heap.size 0 zv ⟨#[]⟩ none 0 0 := by simp [Qab, Qap, zv, hcc, hf, hz, go_sem]
 clear hcc hf hz
 have hwW : w.heap.size < W.heap.size := T1.1
 generalize hN : w.heap.size = N at T1 hwW ⊢
 have NW := Hd (show w.heap.size <= N from by omega)
 have nb : N ≠ b := by omega
 clear hN
 have xN : ¬ b = N := fun e => nb e.symm
 have K1 := Hd T1
 clear T1
 have KP := Hd (KR.out.keep hb)
 have B1 := Hd (Bag.of (b := b) hb)
 have hPN : ¬ (fun k => P k /\ k ≠ N) b := fun h => hP h.1
 have hPNN : ¬ (fun k => P k /\ k ≠ N) N := fun h => h.2 rfl
 have hPNw := Hd (show ∀ k, W.heap.size <= k -> (fun k => P k /\ k ≠ N) k from fun k hk => ⟨KPw.out k (by have := NW.out; omega), by omega⟩)
 go_upto_region 3 with (go_at_call 176; (with_reducible refine Calls.mono (CA.out _ B1.out KP.out) ?_); rintro ee V2 ⟨rfl, hbV2, hrV2⟩; have bg2 := Hd (B1.out.trans hbV2.bag); have ps2 := Hd (KP.out.but hbV2 hrV2); have L2 := Hd (K1.out.bag hbV2.bag nb); have sz2 := Hd hbV2.size; clear hbV2 hrV2)
 go_upto_region 10 with (go_at_call 90; (with_reducible refine Calls.mono (CB.out _ bg2.out ps2.out) ?_); rintro ee V3 ⟨rfl, hbV3, hrV3⟩; have bg3 := Hd (bg2.out.trans hbV3.bag); have ps3 := Hd (ps2.out.but hbV3 hrV3); have L3 := Hd (L2.out.bag hbV3.bag nb); have sz3 := Hd hbV3.size; clear hbV3 hrV3)
 go_upto_region 13 with (go_at_call 195; (with_reducible refine Calls.mono (CV.out _ bg3.out ps3.out) ?_); rintro ee V4 ⟨rfl, hb4, hr4⟩; have bg4 := Hd (bg3.out.trans hb4.bag); have ps4 := Hd (ps3.out.but hb4 hr4); have L4 := Hd (L3.out.bag hb4.bag nb); have sz4 := Hd (Nat.le_trans (Nat.le_trans sz2.out sz3.out) hb4.size); clear hb4 hr4)
 refine uN (w0 := V4) (by exact Bel.y) fun W5 hcc hf hz hb5 => ?_
 have T5 : VSlot W5 V4.heap.size zv := by simp [VSlot, zv, hcc, hf, hz, go_sem]
 clear hcc hf hz
 have nM5 : N < V4.heap.size := L4.out.1
 have bM5 : b < V4.heap.size := ps4.out.1.1
 generalize V4.heap.size = M at T5 nM5 bM5
 have bg5 := Hd (bg4.out.trans (Bag.of hb5))
 have ps5 := Hd (ps4.out.keep hb5)
 have L5 := Hd (L4.out.keep hb5)
 have sz5 := Hd (Nat.le_trans sz4.out hb5.size)
 clear hb5
 obtain ⟨y0, ⟨y1, y2, y3, y4, y5⟩, -⟩ := T5
 simp only [zv] at y1 y2 y3 y4 y5
 go_upto_region 14 with (go_at_call 175; (with_reducible refine Calls.mono (CK.out _ bg5.out ps5.out) ?_); rintro ee V6 ⟨rfl, hb6⟩; have bg6 := Hd (bg5.out.trans (Bag.of hb6)); have ps6 := Hd (ps5.out.keep hb6); have L6 := Hd (L5.out.keep hb6); have sz6 := Hd (Nat.le_trans sz5.out hb6.size); clear hb6 y0 y1 y2 y3 y4 y5)
 refine uN (w0 := V6) (by exact Bel.y) fun W7 hcc hf hz hb7 => ?_
 have T7 : Qan W7 V6.heap.size ⟨tk, tp, tx, ta, tb, td⟩ := by simp [Qan, hcc, hf, hz, go_sem]
 clear hcc hf hz
 have bM7 : b < V6.heap.size := ps6.out.1.1
 generalize V6.heap.size = M7 at T7 bM7
 have bg7 := Hd (bg6.out.trans (Bag.of hb7))
 have ps7 := Hd (ps6.out.keep hb7)
 have L7 := Hd (L6.out.keep hb7)
 have sz7 := Hd (Nat.le_trans sz6.out hb7.size)
 clear hb7
 have K7 := Hd T7
 obtain ⟨q0, ⟨q1, q2, q3, q4, q5, q6⟩, -⟩ := T7
 simp only at q1 q2 q3 q4 q5 q6
 go_upto_region 17 with fail
 clear q0 q1 q2 q3 q4 q5 q6
 have CF := Hd (Qbu ts W7 b A c i en wo 5 p d (KC.out.bag bg7.out) ps7.out hi)
 go_wp2_with (go_at_call 63; (with_reducible refine Calls.mono CF.out ?_); rintro ee V9 ⟨rfl, hb9, hr9⟩; have hq9 := Hd (bg7.out.trans hb9); have hr9' := Hd hr9; obtain ⟨sz, ⟨s0, s1, s2, s3, s4, s5, s6, s7⟩, ⟨sf0, sf1, sf2, sf3, sf4, sf5, sf6, sf7⟩⟩ := L7.out.bag hb9 nb; simp only [zv, Nat.zero_add] at s0 s1 s2 s3 s4 s5 s6 s7; clear hb9 hr9)
 refine pR (v := .tuple #[exV 0 zv ⟨#[]⟩ none 0 0, .bool false]) (by simp [results, Tryz.results177, go_sem, zv, sz, s0, s1, s2, s3, s4, s5, s6, s7]) rfl (Qaq (j := i) (wr' := plcT en (ts.drop i)) (e' := 5) (p' := p) (d' := d) ?_ ?_ hi rfl ?_)
 ·repeat (first | with_reducible exact hq9.out | refine Bag.new ?_ NW.out _)
 ·repeat (first | with_reducible exact hr9'.out | refine Psr.far ?_ xN _)
 exact fun _ => ⟨rfl, rfl, rfl⟩
theorem Qhw (n : Nat) (IH : XEnc n) (P : Nat -> Prop) (ts : List Tok) (w : World) (b : Nat) (A : Option Addr) (c i : Nat) (en wo : Int) (p d : Nat) (hC : Cx ts A b w) (hr : Psr w b A ts.length c i en wo 0 p d) (hi : i <= ts.length) (hP : ¬ P b) (hPw : ∀ k, w.heap.size <= k -> P k) (hp : p <= 4096) (hd : d <= 64) (hfine : (parX (n + 1) .operand d p (ts.drop i)).fine) (h1 : isS [40] (ts.drop i) = false) (h2 : isK 4 wNOT (ts.drop i) = false) (hv : valT (pekT (ts.drop i)) = none) (hk0 : (pekT (ts.drop i)).kind = 4) (hw : wordB (Qaa (pekT (ts.drop i)).text) = false) (htx : (pekT (ts.drop i)).text.length <= 1000000) :
  Calls Tryz.prog 177 #[.pointer (some ⟨b, 0, none⟩)] w (XOut P ts b A c en wo d (parX (n + 1) .operand d p (ts.drop i)) w) := by
 have hbw := hr.1.1
 have KR := Hd hr
 have KC := Hd hC
 have KPw := Hd hPw
 have he : parX (n + 1) .operand d p (ts.drop i) = if isS [40] (ts.drop i) = true then encX (parX n .inner d p (ts.drop i).tail) else if isK 4 wNOT (ts.drop i) = true then (if isS [40] (ts.drop i).tail = true then bndX (encX (parX n .inner d p (ts.drop i).tail.tail)) fun x r1 => cmpX (.mk 16 zv [] [x.1]) x.2 r1 else .bad (ts.drop i).tail 5) else litX p (ts.drop i) := by rw [parX.eq_def]
 rw [he] at hfine ⊢
 clear he hC hr hPw
 rw [iN (by rw [h1]; decide), iN (by rw [h2]; decide)] at hfine ⊢
 have h1h := Hd (show isK 5 [40] (ts.drop i) = false from h1)
 have h2h := Hd (show isK 4 [110, 111, 116] (ts.drop i) = false from h2)
 clear hfine hd h1 h2
 have CA := fun X (hX : Bag b w X) (hR : Psr X b A ts.length c i en wo 0 p d) => Qbd ts [40] X b A c i i en wo 0 (KC.out.bag hX).toks hR.1 hi KC.out.2.1 (by rw [iN (by rw [h1h.out]; decide)])
 rw [show isK 5 [40] (ts.drop i) = false from h1h.out, show Qaa [40] = (⟨#[40]⟩ : ByteArray) from rfl] at CA
 replace CA := Hd CA
 have CB := fun X (hX : Bag b w X) (hR : Psr X b A ts.length c i en wo 0 p d) => Qbe ts [110, 111, 116] X b A c i i en wo 0 (KC.out.bag hX).toks hR.1 hi KC.out.2.1 (by rw [iN (by rw [h2h.out]; decide)])
 rw [show isK 4 [110, 111, 116] (ts.drop i) = false from h2h.out, show Qaa [110, 111, 116] = (⟨#[110, 111, 116]⟩ : ByteArray) from rfl] at CB
 replace CB := Hd CB
 rw [Qn0 hv (fun h => by rw [hw] at h; exact absurd h.2 (by decide))]
 have CV := Hd fun X (hX : Bag b w X) (hR : Psr X b A ts.length c i en wo 0 p d) => Qen ts X b A c i en wo 0 (KC.out.bag hX).toks hR.1 hi KC.out.2.1 hv
 have CK := Hd fun X (hX : Bag b w X) (hR : Psr X b A ts.length c i en wo 0 p d) => Qda ts X b A c i en wo 0 (KC.out.bag hX).toks hR.1 hi KC.out.2.1
 generalize hpk : pekT (ts.drop i) = t at CK hk0 hw htx
 obtain ⟨tk, tp, tx, ta, tb, td⟩ := t
 simp only at hk0 hw htx
 subst hk0
 have CW := Hd fun X => Qfl (Qaa tx) (by rw [Qae]; exact Nat.le_trans htx (by decide)) X
 rw [hw] at CW
 clear hpk hv hw htx
 go_enter Tryz.func177, Tryz.ntmps177
 go_upto_region 1 with fail
 refine uN ((Bel.refl w).alloc _) fun W hcc hf hz hb => ?_
 have T1 : Qab W w.heap.size 0 zv ⟨#[]⟩ none 0 0 := by simp [Qab, Qap, zv, hcc, hf, hz, go_sem]
 clear hcc hf hz
 have hwW : w.heap.size < W.heap.size := T1.1
 generalize hN : w.heap.size = N at T1 hwW ⊢
 have NW := Hd (show w.heap.size <= N from by omega)
 have nb : N ≠ b := by omega
 clear hN
 have xN : ¬ b = N := fun e => nb e.symm
 have K1 := Hd T1
 clear T1
 have KP := Hd (KR.out.keep hb)
 have B1 := Hd (Bag.of (b := b) hb)
 have hPN : ¬ (fun k => P k /\ k ≠ N) b := fun h => hP h.1
 have hPNN : ¬ (fun k => P k /\ k ≠ N) N := fun h => h.2 rfl
 have hPNw := Hd (show ∀ k, W.heap.size <= k -> (fun k => P k /\ k ≠ N) k from fun k hk => ⟨KPw.out k (by have := NW.out; omega), by omega⟩)
 go_upto_region 3 with (go_at_call 176; (with_reducible refine Calls.mono (CA.out _ B1.out KP.out) ?_); rintro ee V2 ⟨rfl, hbV2, hrV2⟩; have bg2 := Hd (B1.out.trans hbV2.bag); have ps2 := Hd (KP.out.but hbV2 hrV2); have L2 := Hd (K1.out.bag hbV2.bag nb); have sz2 := Hd hbV2.size; clear hbV2 hrV2)
 go_upto_region 10 with (go_at_call 90; (with_reducible refine Calls.mono (CB.out _ bg2.out ps2.out) ?_); rintro ee V3 ⟨rfl, hbV3, hrV3⟩; have bg3 := Hd (bg2.out.trans hbV3.bag); have ps3 := Hd (ps2.out.but hbV3 hrV3); have L3 := Hd (L2.out.bag hbV3.bag nb); have sz3 := Hd hbV3.size; clear hbV3 hrV3)
 go_upto_region 13 with (go_at_call 195; (with_reducible refine Calls.mono (CV.out _ bg3.out ps3.out) ?_); rintro ee V4 ⟨rfl, hb4, hr4⟩; have bg4 := Hd (bg3.out.trans hb4.bag); have ps4 := Hd (ps3.out.but hb4 hr4); have L4 := Hd (L3.out.bag hb4.bag nb); have sz4 := Hd (Nat.le_trans (Nat.le_trans sz2.out sz3.out) hb4.size); clear hb4 hr4)
 refine uN (w0 := V4) (by exact Bel.y) fun W5 hcc hf hz hb5 => ?_
 have T5 : VSlot W5 V4.heap.size zv := by simp [VSlot, zv, hcc, hf, hz, go_sem]
 clear hcc hf hz
 have nM5 : N < V4.heap.size := L4.out.1
 have bM5 : b < V4.heap.size := ps4.out.1.1
 generalize V4.heap.size = M at T5 nM5 bM5
 have bg5 := Hd (bg4.out.trans (Bag.of hb5))
 have ps5 := Hd (ps4.out.keep hb5)
 have L5 := Hd (L4.out.keep hb5)
 have sz5 := Hd (Nat.le_trans sz4.out hb5.size)
 clear hb5
 obtain ⟨y0, ⟨y1, y2, y3, y4, y5⟩, -⟩ := T5
 simp only [zv] at y1 y2 y3 y4 y5
 go_upto_region 14 with (go_at_call 175; (with_reducible refine Calls.mono (CK.out _ bg5.out ps5.out) ?_); rintro ee V6 ⟨rfl, hb6⟩; have bg6 := Hd (bg5.out.trans (Bag.of hb6)); have ps6 := Hd (ps5.out.keep hb6); have L6 := Hd (L5.out.keep hb6); have sz6 := Hd (Nat.le_trans sz5.out hb6.size); clear hb6 y0 y1 y2 y3 y4 y5)
 refine uN (w0 := V6) (by exact Bel.y) fun W7 hcc hf hz hb7 => ?_
 have T7 : Qan W7 V6.heap.size ⟨4, tp, tx, ta, tb, td⟩ := by simp [Qan, hcc, hf, hz, go_sem]
 clear hcc hf hz
 have bM7 : b < V6.heap.size := ps6.out.1.1
 generalize V6.heap.size = M7 at T7 bM7
 have bg7 := Hd (bg6.out.trans (Bag.of hb7))
 have ps7 := Hd (ps6.out.keep hb7)
 have L7 := Hd (L6.out.keep hb7)
 have sz7 := Hd (Nat.le_trans sz6.out hb7.size)
 clear hb7
 have K7 := Hd T7
 obtain ⟨q0, ⟨q1, q2, q3, q4, q5, q6⟩, -⟩ := T7
 simp only at q1 q2 q3 q4 q5 q6
 go_upto_region 17 with (go_at_call 74; (with_reducible refine Calls.mono (CW.out _) ?_); rintro ee V8 ⟨rfl, hb8⟩; have bg8 := Hd (bg7.out.trans (Bag.of hb8)); have ps8 := Hd (ps7.out.keep hb8); have L8 := Hd (L7.out.keep hb8); clear hb8)
 clear q0 q1 q2 q3 q4 q5 q6
 have CF := Hd (Qbu ts V8 b A c i en wo 5 p d (KC.out.bag bg8.out) ps8.out hi)
 go_wp2_with (go_at_call 63; (with_reducible refine Calls.mono CF.out ?_); rintro ee V9 ⟨rfl, hb9, hr9⟩; have hq9 := Hd (bg8.out.trans hb9); have hr9' := Hd hr9; obtain ⟨sz, ⟨s0, s1, s2, s3, s4, s5, s6, s7⟩, ⟨sf0, sf1, sf2, sf3, sf4, sf5, sf6, sf7⟩⟩ := L8.out.bag hb9 nb; simp only [zv, Nat.zero_add] at s0 s1 s2 s3 s4 s5 s6 s7; clear hb9 hr9)
 refine pR (v := .tuple #[exV 0 zv ⟨#[]⟩ none 0 0, .bool false]) (by simp [results, Tryz.results177, go_sem, zv, sz, s0, s1, s2, s3, s4, s5, s6, s7]) rfl (Qaq (j := i) (wr' := plcT en (ts.drop i)) (e' := 5) (p' := p) (d' := d) ?_ ?_ hi rfl ?_)
 ·repeat (first | with_reducible exact hq9.out | refine Bag.new ?_ NW.out _)
 ·repeat (first | with_reducible exact hr9'.out | refine Psr.far ?_ xN _)
 exact fun _ => ⟨rfl, rfl, rfl⟩
theorem Qhx (n : Nat) (IH : XEnc n) (P : Nat -> Prop) (ts : List Tok) (w : World) (b : Nat) (A : Option Addr) (c i : Nat) (en wo : Int) (p d : Nat) (hC : Cx ts A b w) (hr : Psr w b A ts.length c i en wo 0 p d) (hi : i <= ts.length) (hP : ¬ P b) (hPw : ∀ k, w.heap.size <= k -> P k) (hp : p <= 4096) (hd : d <= 64) (hfine : (parX (n + 1) .operand d p (ts.drop i)).fine) (h1 : isS [40] (ts.drop i) = false) (h2 : isK 4 wNOT (ts.drop i) = false) (hv : valT (pekT (ts.drop i)) = none) (hk0 : (pekT (ts.drop i)).kind = 4) (hw : wordB (Qaa (pekT (ts.drop i)).text) = true) (htx : (pekT (ts.drop i)).text.length <= 1000000) :
  Calls Tryz.prog 177 #[.pointer (some ⟨b, 0, none⟩)] w (XOut P ts b A c en wo d (parX (n + 1) .operand d p (ts.drop i)) w) := by
 have hbw := hr.1.1
 have KR := Hd hr
 have KC := Hd hC
 have KPw := Hd hPw
 have he : parX (n + 1) .operand d p (ts.drop i) = if isS [40] (ts.drop i) = true then encX (parX n .inner d p (ts.drop i).tail) else if isK 4 wNOT (ts.drop i) = true then (if isS [40] (ts.drop i).tail = true then bndX (encX (parX n .inner d p (ts.drop i).tail.tail)) fun x r1 => cmpX (.mk 16 zv [] [x.1]) x.2 r1 else .bad (ts.drop i).tail 5) else litX p (ts.drop i) := by rw [parX.eq_def]
 rw [he] at hfine ⊢
 clear he hC hr hPw
 rw [iN (by rw [h1]; decide), iN (by rw [h2]; decide)] at hfine ⊢
 have h1h := Hd (show isK 5 [40] (ts.drop i) = false from h1)
 have h2h := Hd (show isK 4 [110, 111, 116] (ts.drop i) = false from h2)
 clear hfine hd h1 h2
 have CA := fun X (hX : Bag b w X) (hR : Psr X b A ts.length c i en wo 0 p d) => Qbd ts [40] X b A c i i en wo 0 (KC.out.bag hX).toks hR.1 hi KC.out.2.1 (by rw [iN (by rw [h1h.out]; decide)])
 rw [show isK 5 [40] (ts.drop i) = false from h1h.out, show Qaa [40] = (⟨#[40]⟩ : ByteArray) from rfl] at CA
 replace CA := Hd CA
 have CB := fun X (hX : Bag b w X) (hR : Psr X b A ts.length c i en wo 0 p d) => Qbe ts [110, 111, 116] X b A c i i en wo 0 (KC.out.bag hX).toks hR.1 hi KC.out.2.1 (by rw [iN (by rw [h2h.out]; decide)])
 rw [show isK 4 [110, 111, 116] (ts.drop i) = false from h2h.out, show Qaa [110, 111, 116] = (⟨#[110, 111, 116]⟩ : ByteArray) from rfl] at CB
 replace CB := Hd CB
 rw [Qq0 hv hk0 hw, List.tail_drop]
 have hil : i < ts.length := by
  rcases Nat.lt_or_ge i ts.length with h2 | h2
  ·exact h2
  rw [List.drop_eq_nil_of_le h2] at hk0
  exact absurd hk0 (by decide)
 have CV := Hd fun X (hX : Bag b w X) (hR : Psr X b A ts.length c i en wo 0 p d) => Qen ts X b A c i en wo 0 (KC.out.bag hX).toks hR.1 hi KC.out.2.1 hv
 have CK := Hd fun X (hX : Bag b w X) (hR : Psr X b A ts.length c i en wo 0 p d) => Qda ts X b A c i en wo 0 (KC.out.bag hX).toks hR.1 hi KC.out.2.1
 have CS := Hd fun X (hX : Bag b w X) (hR : Psr X b A ts.length c i en wo 0 p d) => Qqx ts X b A ts.length c i en wo 0 hR.1 (by have := KC.out.2.1; omega)
 generalize hpk : pekT (ts.drop i) = t at CK hk0 hw htx ⊢
 obtain ⟨tk, tp, tx, ta, tb, td⟩ := t
 simp only at hk0 hw htx ⊢
 subst hk0
 have CC := Hd fun (Q : Nat -> Prop) (hQ : ¬ Q b) X (hX : Bag b w X) (hR : Psr X b A ts.length c (i + 1) en wo 0 p d) => (show Calls Tryz.prog 142 #[.pointer (some ⟨b, 0, none⟩), .agg #[.int .i64 2, .int .i64 0, .int .i64 0, .int .i64 0, .string ⟨#[]⟩, .int .i64 0, .string (Qaa tx), .slice none 0 0]] X (XOut Q ts b A c en wo d (cmpX (.mk 2 zv tx []) p (ts.drop (i + 1))) X) from Qcw Q (.mk 2 zv tx []) none 0 ts X b A c (i + 1) en wo p d (KC.out.bag hX) hR hil (Lie.nil _ _ _) hQ hp)
 generalize hq : cmpX (.mk 2 zv tx []) p (ts.drop (i + 1)) = q at CC ⊢
 have CW := Hd fun X => Qfl (Qaa tx) (by rw [Qae]; exact Nat.le_trans htx (by decide)) X
 rw [hw] at CW
 clear hpk hv hw htx hq
 go_enter Tryz.func177, Tryz.ntmps177
 go_upto_region 1 with fail
 refine uN ((Bel.refl w).alloc _) fun W hcc hf hz hb => ?_
 have T1 : Qab W w.heap.size 0 zv ⟨#[]⟩ none 0 0 := by simp [Qab, Qap, zv, hcc, hf, hz, go_sem]
 clear hcc hf hz
 have hwW : w.heap.size < W.heap.size := T1.1
 generalize hN : w.heap.size = N at T1 hwW ⊢
 have NW := Hd (show w.heap.size <= N from by omega)
 have nb : N ≠ b := by omega
 clear hN
 have xN : ¬ b = N := fun e => nb e.symm
 have K1 := Hd T1
 clear T1
 have KP := Hd (KR.out.keep hb)
 have B1 := Hd (Bag.of (b := b) hb)
 have hPN : ¬ (fun k => P k /\ k ≠ N) b := fun h => hP h.1
 have hPNN : ¬ (fun k => P k /\ k ≠ N) N := fun h => h.2 rfl
 have hPNw := Hd (show ∀ k, W.heap.size <= k -> (fun k => P k /\ k ≠ N) k from fun k hk => ⟨KPw.out k (by have := NW.out; omega), by omega⟩)
 go_upto_region 3 with (go_at_call 176; (with_reducible refine Calls.mono (CA.out _ B1.out KP.out) ?_); rintro ee V2 ⟨rfl, hbV2, hrV2⟩; have bg2 := Hd (B1.out.trans hbV2.bag); have ps2 := Hd (KP.out.but hbV2 hrV2); have L2 := Hd (K1.out.bag hbV2.bag nb); have sz2 := Hd hbV2.size; clear hbV2 hrV2)
 go_upto_region 10 with (go_at_call 90; (with_reducible refine Calls.mono (CB.out _ bg2.out ps2.out) ?_); rintro ee V3 ⟨rfl, hbV3, hrV3⟩; have bg3 := Hd (bg2.out.trans hbV3.bag); have ps3 := Hd (ps2.out.but hbV3 hrV3); have L3 := Hd (L2.out.bag hbV3.bag nb); have sz3 := Hd hbV3.size; clear hbV3 hrV3)
 go_upto_region 13 with (go_at_call 195; (with_reducible refine Calls.mono (CV.out _ bg3.out ps3.out) ?_); rintro ee V4 ⟨rfl, hb4, hr4⟩; have bg4 := Hd (bg3.out.trans hb4.bag); have ps4 := Hd (ps3.out.but hb4 hr4); have L4 := Hd (L3.out.bag hb4.bag nb); have sz4 := Hd (Nat.le_trans (Nat.le_trans sz2.out sz3.out) hb4.size); clear hb4 hr4)
 refine uN (w0 := V4) (by exact Bel.y) fun W5 hcc hf hz hb5 => ?_
 have T5 : VSlot W5 V4.heap.size zv := by simp [VSlot, zv, hcc, hf, hz, go_sem]
 clear hcc hf hz
 have nM5 : N < V4.heap.size := L4.out.1
 have bM5 : b < V4.heap.size := ps4.out.1.1
 generalize V4.heap.size = M at T5 nM5 bM5
 have bg5 := Hd (bg4.out.trans (Bag.of hb5))
 have ps5 := Hd (ps4.out.keep hb5)
 have L5 := Hd (L4.out.keep hb5)
 have sz5 := Hd (Nat.le_trans sz4.out hb5.size)
 clear hb5
 obtain ⟨y0, ⟨y1, y2, y3, y4, y5⟩, -⟩ := T5
 simp only [zv] at y1 y2 y3 y4 y5
 go_upto_region 14 with (go_at_call 175; (with_reducible refine Calls.mono (CK.out _ bg5.out ps5.out) ?_); rintro ee V6 ⟨rfl, hb6⟩; have bg6 := Hd (bg5.out.trans (Bag.of hb6)); have ps6 := Hd (ps5.out.keep hb6); have L6 := Hd (L5.out.keep hb6); have sz6 := Hd (Nat.le_trans sz5.out hb6.size); clear hb6 y0 y1 y2 y3 y4 y5)
 refine uN (w0 := V6) (by exact Bel.y) fun W7 hcc hf hz hb7 => ?_
 have T7 : Qan W7 V6.heap.size ⟨4, tp, tx, ta, tb, td⟩ := by simp [Qan, hcc, hf, hz, go_sem]
 clear hcc hf hz
 have bM7 : b < V6.heap.size := ps6.out.1.1
 generalize V6.heap.size = M7 at T7 bM7
 have bg7 := Hd (bg6.out.trans (Bag.of hb7))
 have ps7 := Hd (ps6.out.keep hb7)
 have L7 := Hd (L6.out.keep hb7)
 have sz7 := Hd (Nat.le_trans sz6.out hb7.size)
 clear hb7
 have K7 := Hd T7
 obtain ⟨q0, ⟨q1, q2, q3, q4, q5, q6⟩, -⟩ := T7
 simp only at q1 q2 q3 q4 q5 q6
 go_upto_region 15 with (go_at_call 74; (with_reducible refine Calls.mono (CW.out _) ?_); rintro ee V8 ⟨rfl, hb8⟩; have bg8 := Hd (bg7.out.trans (Bag.of hb8)); have ps8 := Hd (ps7.out.keep hb8); have L8 := Hd (L7.out.keep hb8); have K8 := Hd (K7.out.keep hb8); clear hb8)
 clear q0 q1 q2 q3 q4 q5 q6
 go_upto_region 16 with (go_at_call 196; (with_reducible refine Calls.mono (CS.out _ bg8.out ps8.out) ?_); rintro ee V9 ⟨rfl, hb9, hr9⟩; have bg9 := Hd (bg8.out.trans hb9.bag); have ps9 := Hd (ps8.out.but hb9 hr9); have L9 := Hd (L8.out.bag hb9.bag nb); have hM9 := Hd (hb9.cell (p := ⟨M7, 2, none⟩) K8.out.1 (by show M7 ≠ b; omega)); clear hb9 hr9)
 have q2 : V9.cell? ⟨M7, 2, none⟩ = some (.string (Qaa tx)) := by rw [hM9.out]; exact K8.out.2.1.2.2.1
 have CC2 := Hd (CC.out (fun k => P k /\ k ≠ N) hPN)
 go_wp2_with (go_at_call 142; (with_reducible refine Calls.mono (CC2.out _ bg9.out ps9.out) ?_); rintro ee V7 ⟨j3, wr3, e3, p3, d3, o3, v3, nm3, A3, n3, c3, ok3, hb7, hr7, hj3, rfl, hx7⟩; have bg7 := Hd (bg9.out.trans hb7); have ps7 := Hd hr7; have xr7 := Hd hx7; obtain ⟨vk3, vn3, vs3, vt3, vm3⟩ := v3; obtain ⟨sz, ⟨s0, s1, s2, s3, s4, s5, s6, s7⟩, ⟨sf0, sf1, sf2, sf3, sf4, sf5, sf6, sf7⟩⟩ := L9.out.bag hb7 nb; simp only [zv, Nat.zero_add] at s0 s1 s2 s3 s4 s5 s6 s7; clear hb7 hr7 hx7)
 refine pR (v := .tuple #[exV o3 ⟨vk3, vn3, vs3, vt3, vm3⟩ nm3 A3 n3 c3, .bool ok3]) (by simp [results, Tryz.results177, go_sem, zv, sz, s0, s1, s2, s3, s4, s5, s6, s7]) rfl (Qaq (j := j3) (wr' := wr3) (e' := e3) (p' := p3) (d' := d3) ?_ ?_ hj3 rfl ?_)
 ·repeat (first | with_reducible exact bg7.out | refine Bag.new ?_ NW.out _)
 ·repeat (first | with_reducible exact ps7.out | refine Psr.far ?_ xN _)
 intro _
 refine XRes.move xr7.out fun l hl => (hl.bag (b := N) ?_ hPNN).weak fun k h _ => h.1
 repeat (first | with_reducible exact Bag.refl N V7 | refine Bag.setCell (b := N) ?_ rfl _)
end Go.Proofs.YtjckpkamhdbcnaaGreatDoor
