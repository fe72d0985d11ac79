import Derived.Test.YtjckpkamhdbcnaaGreatDoorZl
import Derived.Test.YtjckpkamhdbcnaaGreatDoorZm
namespace Go.Proofs.YtjckpkamhdbcnaaGreatDoor
set_option maxRecDepth 100000
set_option maxHeartbeats 64000000
set_option linter.unusedSimpArgs false
set_option linter.unusedVariables false
section
open Go.RowKit
structure But (b : Nat) (w w' : World) : Prop where
 os : w'.os = w.os
 tape : w'.tape = w.tape
 output : w'.output = w.output
 size : w.heap.size <= w'.heap.size
 block : ∀ k, k < w.heap.size -> k ≠ b -> w'.heap[k]? = w.heap[k]?
 rest : b < w.heap.size -> ∀ o, 5 <= o -> w'.cell? ⟨b, o, none⟩ = w.cell? ⟨b, o, none⟩ /\ w'.frozen? ⟨b, o, none⟩ = w.frozen? ⟨b, o, none⟩
theorem But.of {b : Nat} {w w' : World} (h : Bel w w') : But b w w' := ⟨h.os, h.tape, h.output, h.size, fun k hk _ => h.block k hk, fun hb o _ => ⟨h.cells _ _ hb, h.frozens _ _ hb⟩⟩
theorem But.refl (b : Nat) (w : World) : But b w w := But.of (Bel.refl w)
theorem But.trans {b : Nat} {u v w : World} (h : But b u v) (k : But b v w) : But b u w :=
 ⟨k.os.trans h.os, k.tape.trans h.tape, k.output.trans h.output, Nat.le_trans h.size k.size, fun i hi hb => (k.block i (lL hi h.size) hb).trans (h.block i hi hb),
  fun hb o ho => ⟨(k.rest (lL hb h.size) o ho).1.trans (h.rest hb o ho).1, (k.rest (lL hb h.size) o ho).2.trans (h.rest hb o ho).2⟩⟩
theorem But.setCell {b : Nat} {u w : World} (h : But b u w) {i : Nat} (hi : i < 5) (x : Value) : But b u (w.setCell ⟨b, i, none⟩ x) :=
 h.trans ⟨rfl, rfl, rfl, by simp [World.setCell], fun k _ hk => Below.heap_setCell _ _ _ _ (by exact hk), fun _ o ho => by
  have hne : ¬ i = o := by omega
  refine ⟨?_, by simp [go_sem]⟩
  simp [go_sem, hne]⟩
theorem But.bel {b : Nat} {w0 w w' : World} (hb : But b w w') (h : Bel w0 w) (h0 : w0.heap.size <= b) : Bel w0 w' :=
 Below.trans h ⟨hb.os, hb.tape, hb.output, hb.size, fun k hk => hb.block k (lL hk h.size) (by omega)⟩
theorem But.cell {b : Nat} {w w' : World} (h : But b w w') {p : Addr} (hp : p.block < w.heap.size) (hb : p.block ≠ b) : w'.cell? p = w.cell? p := World.cell?_of_block (w := w) (h.block p.block hp hb)
theorem But.frozen {b : Nat} {w w' : World} (h : But b w w') {p : Addr} (hp : p.block < w.heap.size) (hb : p.block ≠ b) : w'.frozen? p = w.frozen? p := World.frozen?_of_block (w := w) (h.block p.block hp hb)
def Rdc (w : World) (b : Nat) (A : Option Addr) (n c i : Nat) (en wr e : Int) : Prop := b < w.heap.size /\
 (w.cell? ⟨b, 0, none⟩ = some (.slice A n c) /\ w.cell? ⟨b, 1, none⟩ = some (.int .i64 i) /\ w.cell? ⟨b, 2, none⟩ = some (.int .i64 en) /\ w.cell? ⟨b, 3, none⟩ = some (.int .i64 wr) /\ w.cell? ⟨b, 4, none⟩ = some (.int .i64 e)) /\
 (w.frozen? ⟨b, 0, none⟩ = false /\ w.frozen? ⟨b, 1, none⟩ = false /\ w.frozen? ⟨b, 2, none⟩ = false /\ w.frozen? ⟨b, 3, none⟩ = false /\ w.frozen? ⟨b, 4, none⟩ = false)
theorem Rdc.keep {w w' : World} {b : Nat} {A : Option Addr} {n c i : Nat} {en wr e : Int} (h : Rdc w b A n c i en wr e) (hb : Bel w w') : Rdc w' b A n c i en wr e := by
 obtain ⟨h0, ⟨a0, a1, a2, a3, a4⟩, ⟨f0, f1, f2, f3, f4⟩⟩ := h
 have c := hb.cells b
 have f := hb.frozens b
 refine ⟨lL h0 hb.size, ⟨?_, ?_, ?_, ?_, ?_⟩, ⟨?_, ?_, ?_, ?_, ?_⟩⟩
 all_goals first | (rw [c _ h0]; assumption) | (rw [f _ h0]; assumption)
theorem Rdc.next {w : World} {b : Nat} {A : Option Addr} {n c i : Nat} {en wr e : Int} (h : Rdc w b A n c i en wr e) (j : Nat) : Rdc (w.setCell ⟨b, 1, none⟩ (.int .i64 j)) b A n c j en wr e := by
 obtain ⟨h0, ⟨a0, a1, a2, a3, a4⟩, ⟨f0, f1, f2, f3, f4⟩⟩ := h
 simp [Rdc, go_sem, h0, a0, a1, a2, a3, a4, f0, f1, f2, f3, f4]
theorem Rdc.fail {w : World} {b : Nat} {A : Option Addr} {n c i : Nat} {en wr e : Int} (h : Rdc w b A n c i en wr e) (wr' e' : Int) : Rdc ((w.setCell ⟨b, 3, none⟩ (.int .i64 wr')).setCell ⟨b, 4, none⟩ (.int .i64 e')) b A n c i en wr' e' := by
 obtain ⟨h0, ⟨a0, a1, a2, a3, a4⟩, ⟨f0, f1, f2, f3, f4⟩⟩ := h
 simp [Rdc, go_sem, h0, a0, a1, a2, a3, a4, f0, f1, f2, f3, f4]
def pekT (r : List Tok) : Tok := match r with
 | [] => tokZ
 | t :: _ => t
def plcT (en : Int) (r : List Tok) : Int := match r with
 | [] => en
 | t :: _ => t.pos
abbrev tvT (t : Tok) : Value := .agg #[.int .i64 t.kind, .int .i64 t.pos, .string (Qaa t.text), .int .i64 t.dn, .int .i64 t.ds, .int .i64 t.day]
theorem Qkh {α : Type} {l : List α} {i : Nat} (h : i < l.length) : ∃ t, l[i]? = some t /\ l.drop i = t :: l.drop (i + 1) := ⟨l[i], gE h, List.drop_eq_getElem_cons h⟩
theorem Qd5 (w : World) (b : Nat) (A : Option Addr) (n c i : Nat) (en wr e : Int) (hr : Rdc w b A n c i en wr e) : Calls Tryz.prog 34 #[.pointer (some ⟨b, 0, none⟩)] w fun r w' => r = .returned (.bool (decide (i = n))) /\ Bel w w' := by
 obtain ⟨h0, ⟨a0, a1, a2, a3, a4⟩, ⟨f0, f1, f2, f3, f4⟩⟩ := hr
 go_enter Tryz.func34, Tryz.ntmps34
 by_cases hi : i = n
 ·have g : ((i : Int) == (n : Int)) = true := beq_iff_eq.2 (by omega)
  have g2 := dT hi
  go_wp2_with fail
  go_quiet (fail)
  go_wp2_with fail
  go_ret
  exact ⟨by (rw [g2]) <;> rfl, Qcs _ _⟩
 have g : ((i : Int) == (n : Int)) = false := beq_eq_false_iff_ne.2 (by omega)
 have g2 := dF hi
 go_wp2_with fail
 go_quiet (fail)
 go_wp2_with fail
 go_ret
 exact ⟨by (rw [g2]) <;> rfl, Qcs _ _⟩
theorem Qbh (w : World) (b : Nat) (A : Option Addr) (n c i : Nat) (en wr e : Int) (hr : Rdc w b A n c i en wr e) : Calls Tryz.prog 32 #[.pointer (some ⟨b, 0, none⟩)] w fun r w' => r = .returned (.tuple #[.int .i64 wr, .int .i64 e]) /\ Bel w w' := by
 obtain ⟨h0, ⟨a0, a1, a2, a3, a4⟩, ⟨f0, f1, f2, f3, f4⟩⟩ := hr
 go_enter Tryz.func32, Tryz.ntmps32
 go_wp2_with fail
 go_quiet (fail)
 go_wp2_with fail
 go_ret2
 exact ⟨rfl, Qcs _ _⟩
theorem Qnv (ts : List Tok) (w : World) (b : Nat) (A : Option Addr) (c i : Nat) (en wr e : Int) (hT : Toks w A ts) (hr : Rdc w b A ts.length c i en wr e) (hi : i <= ts.length) (hl : ts.length <= 65536) :
  Calls Tryz.prog 66 #[.pointer (some ⟨b, 0, none⟩)] w fun r w' => r = .returned (.int .i64 (plcT en (ts.drop i))) /\ Bel w w' := by
 have CD := Hd fun W (hW : Bel w W) => Qd5 W b A ts.length c i en wr e (hr.keep hW)
 by_cases hd : i = ts.length
 ·subst hd
  rw [List.drop_length]
  have g := dT (rfl : ts.length = ts.length)
  rw [g] at CD
  have KR := Hd hr
  clear hT
  go_enter Tryz.func66, Tryz.ntmps66
  go_upto_region 2 with (go_at_call 34; (with_reducible refine Calls.mono (CD.out _ (Bel.refl _)) ?_); rintro ee V1 ⟨rfl, hb1⟩)
  obtain ⟨h0, ⟨a0, a1, a2, a3, a4⟩, ⟨f0, f1, f2, f3, f4⟩⟩ := KR.out.keep hb1
  go_wp2_with fail
  go_ret
  exact ⟨rfl, hb1⟩
 obtain ⟨t, ht, hdr⟩ := Qkh (l := ts) (i := i) (by omega)
 rw [hdr]
 rw [dF hd] at CD
 have KR := Hd hr
 obtain ⟨tb, tof, hA, htb, hat⟩ := hT.at (by omega)
 subst hA
 have KA := Hd (hat i t ht)
 have l1 : (i : Int) < (ts.length : Int) := by omega
 have l0 : (0 : Int) <= (i : Int) := by omega
 clear hT hat hdr ht
 go_enter Tryz.func66, Tryz.ntmps66
 go_upto_region 3 with (go_at_call 34; (with_reducible refine Calls.mono (CD.out _ (Bel.refl _)) ?_); rintro ee V1 ⟨rfl, hb1⟩)
 obtain ⟨h0, ⟨a0, a1, a2, a3, a4⟩, ⟨f0, f1, f2, f3, f4⟩⟩ := KR.out.keep hb1
 obtain ⟨k0, k1, k2, k3, k4, k5⟩ := KA.out.keep hb1 htb
 go_quiet (fail)
 go_wp2_with fail
 go_ret
 exact ⟨rfl, hb1.trans (Qcs _ _)⟩
end
section
open Go.RowKit
theorem Qso {a b : ByteArray} (h : a ≠ b) : (a.toList == b.toList) = false := by
 rw [bN]
 exact fun e => h ((Qba a b).1 e)
theorem Qda (ts : List Tok) (w : World) (b : Nat) (A : Option Addr) (c i : Nat) (en wr e : Int) (hT : Toks w A ts) (hr : Rdc w b A ts.length c i en wr e) (hi : i <= ts.length) (hl : ts.length <= 65536) :
  Calls Tryz.prog 175 #[.pointer (some ⟨b, 0, none⟩)] w fun r w' => r = .returned (tvT (pekT (ts.drop i))) /\ Bel w w' := by
 have CD := Hd fun W (hW : Bel w W) => Qd5 W b A ts.length c i en wr e (hr.keep hW)
 by_cases hd : i = ts.length
 ·subst hd
  rw [List.drop_length]
  rw [dT (rfl : ts.length = ts.length)] at CD
  clear hT hr
  go_enter Tryz.func175, Tryz.ntmps175
  go_upto_region 1 with fail
  refine uN ((Bel.refl w).alloc _) fun W hc hf hz hb => ?_
  have T : Qan W w.heap.size tokZ := by simp [Qan, tokZ, Qaa, hc, hf, hz, go_sem]
  clear hc hf hz
  generalize hN : w.heap.size = N at T ⊢
  have BN := Hd (show w.heap.size <= N from by omega)
  clear hN
  go_wp2_with (go_at_call 34; (with_reducible refine Calls.mono (CD.out _ hb) ?_); rintro ee W1 ⟨rfl, hb1⟩; obtain ⟨t0, ⟨t1, t2, t3, t4, t5, t6⟩, ⟨g1, g2, g3, g4, g5, g6⟩⟩ := T.keep hb1; simp only [tokZ] at t1 t2 t3 t4 t5 t6)
  refine pR (v := tvT tokZ) (by simp [results, Tryz.results175, go_sem, t0, t1, t2, t3, t4, t5, t6, tokZ, Qaa]) rfl ⟨rfl, ?_⟩
  have hN := BN.out
  have hq1 := hb.trans hb1
  exact Bel.y
 obtain ⟨t, ht, hdr⟩ := Qkh (l := ts) (i := i) (by omega)
 rw [hdr]
 rw [dF hd] at CD
 have KR := Hd hr
 obtain ⟨tb, tof, hA, htb, hat⟩ := hT.at (by omega)
 subst hA
 have KA := Hd (hat i t ht)
 have l1 : (i : Int) < (ts.length : Int) := by omega
 have l0 : (0 : Int) <= (i : Int) := by omega
 show Calls _ _ _ _ (fun r w' => r = .returned (tvT t) /\ Bel w w')
 clear hT hat hdr ht hr
 go_enter Tryz.func175, Tryz.ntmps175
 go_upto_region 1 with fail
 refine uN ((Bel.refl w).alloc _) fun W hc hf hz hb => ?_
 have T : Qan W w.heap.size tokZ := by simp [Qan, tokZ, Qaa, hc, hf, hz, go_sem]
 clear hc hf hz
 generalize hN : w.heap.size = N at T ⊢
 have BN := Hd (show w.heap.size <= N from by omega)
 clear hN
 go_upto_region 3 with (go_at_call 34; (with_reducible refine Calls.mono (CD.out _ hb) ?_); rintro ee W1 ⟨rfl, hb1⟩; obtain ⟨t0, ⟨t1, t2, t3, t4, t5, t6⟩, ⟨g1, g2, g3, g4, g5, g6⟩⟩ := T.keep hb1; simp only [tokZ] at t1 t2 t3 t4 t5 t6)
 obtain ⟨h0, ⟨a0, a1, a2, a3, a4⟩, ⟨f0, f1, f2, f3, f4⟩⟩ := KR.out.keep (hb.trans hb1)
 obtain ⟨k0, k1, k2, k3, k4, k5⟩ := KA.out.keep (hb.trans hb1) htb
 go_region
 go_wp2_with fail
 refine pR (v := tvT t) (by simp [results, Tryz.results175, go_sem, t0, t1, t2, t3, t4, t5, t6]) rfl ⟨rfl, ?_⟩
 have hN := BN.out
 have hq1 := hb.trans hb1
 exact Bel.y
theorem Qlk (w : World) (b : Nat) (A : Option Addr) (n c i : Nat) (en wr e p f p' f' : Int) (hr : Rdc w b A n c i en wr e) (h1 : p' = if e = 0 then p else wr) (h2 : f' = if e = 0 then f else e) :
  Calls Tryz.prog 65 #[.pointer (some ⟨b, 0, none⟩), .int .i64 p, .int .i64 f] w fun r w' => r = .returned (.bool false) /\ But b w w' /\ Rdc w' b A n c i en p' f' := by
 have KR := Hd hr
 obtain ⟨h0, ⟨a0, a1, a2, a3, a4⟩, ⟨f0, f1, f2, f3, f4⟩⟩ := hr
 by_cases he : e = 0
 ·have g : (e == 0) = true := beq_iff_eq.2 he
  rw [iP he] at h1 h2
  subst h1 h2
  clear he
  go_enter Tryz.func65, Tryz.ntmps65
  go_wp2_with fail
  go_ret
  exact ⟨rfl, ((But.refl b w).setCell (by decide) _).setCell (by decide) _, KR.out.fail p' f'⟩
 have g : (e == 0) = false := beq_eq_false_iff_ne.2 he
 rw [iN he] at h1 h2
 subst h1 h2
 clear he
 go_enter Tryz.func65, Tryz.ntmps65
 go_wp2_with fail
 go_ret
 exact ⟨rfl, But.refl b w, KR.out⟩
theorem Qki (ts : List Tok) (w : World) (b : Nat) (A : Option Addr) (c i : Nat) (en wr e f p' f' : Int) (hT : Toks w A ts) (hr : Rdc w b A ts.length c i en wr e) (hi : i <= ts.length) (hl : ts.length <= 65536)
  (h1 : p' = if e = 0 then plcT en (ts.drop i) else wr) (h2 : f' = if e = 0 then f else e) :
  Calls Tryz.prog 35 #[.pointer (some ⟨b, 0, none⟩), .int .i64 f] w fun r w' => r = .returned (.bool false) /\ But b w w' /\ Rdc w' b A ts.length c i en p' f' := by
 have CP := Hd (Qnv ts w b A c i en wr e hT hr hi hl)
 have CF := Hd fun W p (hW : Bel w W) (h1 : p' = if e = 0 then p else wr) => Qlk W b A ts.length c i en wr e p f p' f' (hr.keep hW) h1 h2
 generalize plcT en (ts.drop i) = p at CP h1
 have CF := Hd fun W (hW : Bel w W) => CF.out W p hW h1
 clear hT hr h1 h2
 go_enter Tryz.func35, Tryz.ntmps35
 go_wp2_with (first
  | (go_at_call 66; (with_reducible refine Calls.mono CP.out ?_); rintro ee V1 ⟨rfl, hb1⟩; have hq1 := Hd hb1)
  | (go_at_call 65; (with_reducible refine Calls.mono (CF.out _ hq1.out) ?_); rintro ee V2 ⟨rfl, hb2, hr2⟩; have hq2 := Hd (And.intro hb2 hr2)))
 go_ret
 exact ⟨rfl, (But.of hq1.out).trans hq2.out.1, hq2.out.2⟩
theorem Qkj (ts : List Tok) (k : Int) (x : List UInt8) (w : World) (b : Nat) (A : Option Addr) (c i j : Nat) (en wr e : Int) (hT : Toks w A ts) (hr : Rdc w b A ts.length c i en wr e) (hi : i <= ts.length) (hl : ts.length <= 65536) (h1 : j = if isK k x (ts.drop i) = true then i + 1 else i) (hk : k ≠ 0) :
  Calls Tryz.prog 137 #[.pointer (some ⟨b, 0, none⟩), .int .i64 k, .string (Qaa x)] w fun r w' => r = .returned (.bool (isK k x (ts.drop i))) /\ But b w w' /\ Rdc w' b A ts.length c j en wr e := by
 have CP := Hd (Qda ts w b A c i en wr e hT hr hi hl)
 have KR := Hd hr
 have ha : isK k x (ts.drop i) = (decide ((pekT (ts.drop i)).kind = k) && decide ((pekT (ts.drop i)).text = x)) := by
  cases ts.drop i with
  | nil =>
   show false = (decide ((0 : Int) = k) && _)
   rw [dF (fun e => hk e.symm)]
   rfl
  | cons t r => rfl
 have hin : isK k x (ts.drop i) = true -> i < ts.length := fun h => by
  have := Qnr h
  rcases Nat.lt_or_ge i ts.length with h2 | h2
  ·exact h2
  exact absurd (List.drop_eq_nil_of_le h2) this
 rw [ha] at hin h1 ⊢
 generalize pekT (ts.drop i) = t at CP h1 hin ⊢
 obtain ⟨tk, tp, tx, ta, tb, td⟩ := t
 simp only at h1 hin ⊢
 clear hT ha
 by_cases hkk : tk = k
 ·have g1 : (tk != k) = false := by rw [bne_eq_false_iff_eq]; exact hkk
  by_cases hx : tx = x
  ·rw [dT hkk, dT hx] at h1 hin ⊢
   rw [iP (by rfl)] at h1
   subst h1
   have hij := hin rfl
   have g2 : ((Qaa tx).toList == (Qaa x).toList) = true := by rw [beq_iff_eq, hx]
   have w1 : IntKind.i64.wrap ((i : Int) + 1) = ((i + 1 : Nat) : Int) := by rw [IntKind.wrap_i64]; omega
   clear hkk hx hin hr
   go_enter Tryz.func137, Tryz.ntmps137
   go_upto_region 4 with (go_at_call 175; (with_reducible refine Calls.mono CP.out ?_); rintro ee V1 ⟨rfl, hb1⟩; have hq1 := Hd hb1; have KR1 := Hd (KR.out.keep hb1))
   refine uN ((Bel.refl V1).alloc _) fun W hc hf hz hb => ?_
   clear hc hf hz
   have KR2 := Hd (KR1.out.keep hb)
   obtain ⟨h0, ⟨a0, a1, a2, a3, a4⟩, ⟨f0, f1, f2, f3, f4⟩⟩ := KR2.out
   go_wp2_with fail
   go_ret
   have en1 : (((i + 1 : Nat)) : Int) = (i : Int) + 1 := by omega
   have KN := KR2.out.next (i + 1)
   rw [en1] at KN
   exact ⟨rfl, (But.of (hq1.out.trans hb)).setCell (i := 1) (by decide) _, KN⟩
  rw [dT hkk, dF hx] at h1 ⊢
  rw [iN (by decide)] at h1
  subst h1
  have g2 : ((Qaa tx).toList == (Qaa x).toList) = false := Qso (fun e => hx (Qcf e))
  clear hkk hx hin hr
  go_enter Tryz.func137, Tryz.ntmps137
  go_upto_region 3 with (go_at_call 175; (with_reducible refine Calls.mono CP.out ?_); rintro ee V1 ⟨rfl, hb1⟩; have hq1 := Hd hb1)
  refine uN ((Bel.refl V1).alloc _) fun W hc hf hz hb => ?_
  clear hc hf hz
  go_wp2_with fail
  go_ret
  have hq2 := hq1.out.trans hb
  exact ⟨rfl, But.of hq2, KR.out.keep hq2⟩
 have g1 : (tk != k) = true := bne_iff_ne.2 hkk
 rw [dF hkk, Bool.false_and] at h1 ⊢
 rw [iN (by decide)] at h1
 subst h1
 clear hkk hin hr
 go_enter Tryz.func137, Tryz.ntmps137
 go_upto_region 3 with (go_at_call 175; (with_reducible refine Calls.mono CP.out ?_); rintro ee V1 ⟨rfl, hb1⟩; have hq1 := Hd hb1)
 refine uN ((Bel.refl V1).alloc _) fun W hc hf hz hb => ?_
 clear hc hf hz
 go_wp2_with fail
 go_ret
 have hq2 := hq1.out.trans hb
 exact ⟨rfl, But.of hq2, KR.out.keep hq2⟩
end
section
open Go.RowKit
theorem Qbd (ts : List Tok) (x : List UInt8) (w : World) (b : Nat) (A : Option Addr) (c i j : Nat) (en wr e : Int) (hT : Toks w A ts) (hr : Rdc w b A ts.length c i en wr e) (hi : i <= ts.length) (hl : ts.length <= 65536) (h1 : j = if isK 5 x (ts.drop i) = true then i + 1 else i) :
  Calls Tryz.prog 176 #[.pointer (some ⟨b, 0, none⟩), .string (Qaa x)] w fun r w' => r = .returned (.bool (isK 5 x (ts.drop i))) /\ But b w w' /\ Rdc w' b A ts.length c j en wr e := by
 have C := Hd (Qkj ts 5 x w b A c i j en wr e hT hr hi hl h1 (by decide))
 clear hT hr h1
 generalize isK 5 x (ts.drop i) = q at C ⊢
 generalize Qaa x = z at C ⊢
 go_enter Tryz.func176, Tryz.ntmps176
 go_wp2_with (go_at_call 137; (with_reducible refine Calls.mono C.out ?_); rintro ee V1 ⟨rfl, hb1, hr1⟩)
 go_ret
 exact ⟨rfl, hb1, hr1⟩
theorem Qbe (ts : List Tok) (x : List UInt8) (w : World) (b : Nat) (A : Option Addr) (c i j : Nat) (en wr e : Int) (hT : Toks w A ts) (hr : Rdc w b A ts.length c i en wr e) (hi : i <= ts.length) (hl : ts.length <= 65536) (h1 : j = if isK 4 x (ts.drop i) = true then i + 1 else i) :
  Calls Tryz.prog 90 #[.pointer (some ⟨b, 0, none⟩), .string (Qaa x)] w fun r w' => r = .returned (.bool (isK 4 x (ts.drop i))) /\ But b w w' /\ Rdc w' b A ts.length c j en wr e := by
 have C := Hd (Qkj ts 4 x w b A c i j en wr e hT hr hi hl h1 (by decide))
 clear hT hr h1
 generalize isK 4 x (ts.drop i) = q at C ⊢
 generalize Qaa x = z at C ⊢
 go_enter Tryz.func90, Tryz.ntmps90
 go_wp2_with (go_at_call 137; (with_reducible refine Calls.mono C.out ?_); rintro ee V1 ⟨rfl, hb1, hr1⟩)
 go_ret
 exact ⟨rfl, hb1, hr1⟩
def vofV (t : Tok) : Value := match valT t with
 | some v => .tuple #[.agg #[.int .i64 v.kind, .int .i64 v.n, .int .i64 v.scale, .string v.text, .int .i64 v.num], .bool true]
 | none => .tuple #[.agg #[.int .i64 0, .int .i64 0, .int .i64 0, .string ⟨#[]⟩, .int .i64 0], .bool false]
theorem vof4 (p : Int) (x : List UInt8) (a s d : Int) : vofV ⟨4, p, x, a, s, d⟩ = if x = [110, 117, 108, 108] then .tuple #[.agg #[.int .i64 0, .int .i64 0, .int .i64 0, .string ⟨#[]⟩, .int .i64 0], .bool true] else if x = [116, 114, 117, 101] then .tuple #[.agg #[.int .i64 3, .int .i64 0, .int .i64 0, .string ⟨#[]⟩, .int .i64 1], .bool true] else if x = [102, 97, 108, 115, 101] then .tuple #[.agg #[.int .i64 3, .int .i64 0, .int .i64 0, .string ⟨#[]⟩, .int .i64 0], .bool true] else .tuple #[.agg #[.int .i64 0, .int .i64 0, .int .i64 0, .string ⟨#[]⟩, .int .i64 0], .bool false] := by
 unfold vofV valT
 rw [iN (show ¬ (4 : Int) = 1 by decide), iN (show ¬ (4 : Int) = 2 by decide), iN (show ¬ (4 : Int) = 3 by decide), iP (show (4 : Int) = 4 from rfl)]
 simp only
 by_cases h0 : x = [110, 117, 108, 108]
 ·rw [iP h0, iP h0]
 rw [iN h0, iN h0]
 by_cases h1 : x = [116, 114, 117, 101]
 ·rw [iP h1, iP h1]
 rw [iN h1, iN h1]
 by_cases h2 : x = [102, 97, 108, 115, 101]
 ·rw [iP h2, iP h2]
 rw [iN h2, iN h2]
theorem Qt7 (k : Int) : k = 1 \/ k = 2 \/ k = 3 \/ k = 4 \/ (k ≠ 1 /\ k ≠ 2 /\ k ≠ 3 /\ k ≠ 4) := by omega
theorem Qfo (t : Tok) (w : World) : Calls Tryz.prog 209 #[tvT t] w fun r w' => r = .returned (vofV t) /\ Bel w w' := by
 obtain ⟨k, p, x, a, s, d⟩ := t
 rcases Qt7 k with rfl | rfl | rfl | rfl | ⟨n1, n2, n3, n4⟩
 ·have V := Hd (show vofV ⟨1, p, x, a, s, d⟩ = .tuple #[.agg #[.int .i64 1, .int .i64 a, .int .i64 s, .string ⟨#[]⟩, .int .i64 0], .bool true] from rfl)
  go_enter Tryz.func209, Tryz.ntmps209
  go_wp2_with fail
  refine pR (v := .tuple #[.agg #[.int .i64 1, .int .i64 a, .int .i64 s, .string ⟨#[]⟩, .int .i64 0], .bool true]) (by simp [results, Tryz.results209, go_sem]) rfl ⟨by (rw [V.out]) <;> rfl, ((Bel.refl w).alloc _).alloc _⟩
 ·have V := Hd (show vofV ⟨2, p, x, a, s, d⟩ = .tuple #[.agg #[.int .i64 2, .int .i64 0, .int .i64 0, .string (Qaa x), .int .i64 0], .bool true] from rfl)
  go_enter Tryz.func209, Tryz.ntmps209
  go_wp2_with fail
  refine pR (v := .tuple #[.agg #[.int .i64 2, .int .i64 0, .int .i64 0, .string (Qaa x), .int .i64 0], .bool true]) (by simp [results, Tryz.results209, go_sem]) rfl ⟨by (rw [V.out]) <;> rfl, ((Bel.refl w).alloc _).alloc _⟩
 ·have V := Hd (show vofV ⟨3, p, x, a, s, d⟩ = .tuple #[.agg #[.int .i64 4, .int .i64 0, .int .i64 0, .string ⟨#[]⟩, .int .i64 d], .bool true] from rfl)
  go_enter Tryz.func209, Tryz.ntmps209
  go_wp2_with fail
  refine pR (v := .tuple #[.agg #[.int .i64 4, .int .i64 0, .int .i64 0, .string ⟨#[]⟩, .int .i64 d], .bool true]) (by simp [results, Tryz.results209, go_sem]) rfl ⟨by (rw [V.out]) <;> rfl, ((Bel.refl w).alloc _).alloc _⟩
 ·have VX := vof4 p x a s d
  have L := Hd (fun (l : List UInt8) (h : x = l) => (show ((Qaa x).toList == (Qaa l).toList) = true from by rw [h]; exact beq_iff_eq.2 rfl))
  have N := Hd (fun (l : List UInt8) (h : x ≠ l) => (show ((Qaa x).toList == (Qaa l).toList) = false from Qso fun e => h (Qcf e)))
  by_cases h0 : x = [110, 117, 108, 108]
  ·have c0 : ((Qaa x).toList == [110, 117, 108, 108]) = true := by
    have t := L.out [110, 117, 108, 108] h0
    rwa [show (Qaa [110, 117, 108, 108]).toList = [110, 117, 108, 108] from by decide +kernel] at t
   have V := Hd (show vofV ⟨4, p, x, a, s, d⟩ = .tuple #[.agg #[.int .i64 0, .int .i64 0, .int .i64 0, .string ⟨#[]⟩, .int .i64 0], .bool true] from by rw [VX, iP h0])
   generalize vofV ⟨4, p, x, a, s, d⟩ = F at V ⊢
   clear VX L N h0
   go_enter Tryz.func209, Tryz.ntmps209
   go_wp2_with fail
   refine pR (v := .tuple #[.agg #[.int .i64 0, .int .i64 0, .int .i64 0, .string ⟨#[]⟩, .int .i64 0], .bool true]) (by simp [results, Tryz.results209, go_sem]) rfl ⟨by (rw [V.out]) <;> rfl, ((Bel.refl w).alloc _).alloc _⟩
  have c0 : ((Qaa x).toList == [110, 117, 108, 108]) = false := by
   have t := N.out [110, 117, 108, 108] h0
   rwa [show (Qaa [110, 117, 108, 108]).toList = [110, 117, 108, 108] from by decide +kernel] at t
  by_cases h1 : x = [116, 114, 117, 101]
  ·have c1 : ((Qaa x).toList == [116, 114, 117, 101]) = true := by
    have t := L.out [116, 114, 117, 101] h1
    rwa [show (Qaa [116, 114, 117, 101]).toList = [116, 114, 117, 101] from by decide +kernel] at t
   have V := Hd (show vofV ⟨4, p, x, a, s, d⟩ = .tuple #[.agg #[.int .i64 3, .int .i64 0, .int .i64 0, .string ⟨#[]⟩, .int .i64 1], .bool true] from by rw [VX, iN h0, iP h1])
   generalize vofV ⟨4, p, x, a, s, d⟩ = F at V ⊢
   clear VX L N h0 h1
   go_enter Tryz.func209, Tryz.ntmps209
   go_wp2_with fail
   refine pR (v := .tuple #[.agg #[.int .i64 3, .int .i64 0, .int .i64 0, .string ⟨#[]⟩, .int .i64 1], .bool true]) (by simp [results, Tryz.results209, go_sem]) rfl ⟨by (rw [V.out]) <;> rfl, ((Bel.refl w).alloc _).alloc _⟩
  have c1 : ((Qaa x).toList == [116, 114, 117, 101]) = false := by
   have t := N.out [116, 114, 117, 101] h1
   rwa [show (Qaa [116, 114, 117, 101]).toList = [116, 114, 117, 101] from by decide +kernel] at t
  by_cases h2 : x = [102, 97, 108, 115, 101]
  ·have c2 : ((Qaa x).toList == [102, 97, 108, 115, 101]) = true := by
    have t := L.out [102, 97, 108, 115, 101] h2
    rwa [show (Qaa [102, 97, 108, 115, 101]).toList = [102, 97, 108, 115, 101] from by decide +kernel] at t
   have V := Hd (show vofV ⟨4, p, x, a, s, d⟩ = .tuple #[.agg #[.int .i64 3, .int .i64 0, .int .i64 0, .string ⟨#[]⟩, .int .i64 0], .bool true] from by rw [VX, iN h0, iN h1, iP h2])
   generalize vofV ⟨4, p, x, a, s, d⟩ = F at V ⊢
   clear VX L N h0 h1 h2
   go_enter Tryz.func209, Tryz.ntmps209
   go_wp2_with fail
   refine pR (v := .tuple #[.agg #[.int .i64 3, .int .i64 0, .int .i64 0, .string ⟨#[]⟩, .int .i64 0], .bool true]) (by simp [results, Tryz.results209, go_sem]) rfl ⟨by (rw [V.out]) <;> rfl, ((Bel.refl w).alloc _).alloc _⟩
  have c2 : ((Qaa x).toList == [102, 97, 108, 115, 101]) = false := by
   have t := N.out [102, 97, 108, 115, 101] h2
   rwa [show (Qaa [102, 97, 108, 115, 101]).toList = [102, 97, 108, 115, 101] from by decide +kernel] at t
  have V := Hd (show vofV ⟨4, p, x, a, s, d⟩ = .tuple #[.agg #[.int .i64 0, .int .i64 0, .int .i64 0, .string ⟨#[]⟩, .int .i64 0], .bool false] from by rw [VX, iN h0, iN h1, iN h2])
  generalize vofV ⟨4, p, x, a, s, d⟩ = F at V ⊢
  clear VX L N h0 h1 h2
  go_enter Tryz.func209, Tryz.ntmps209
  go_wp2_with fail
  refine pR (v := .tuple #[.agg #[.int .i64 0, .int .i64 0, .int .i64 0, .string ⟨#[]⟩, .int .i64 0], .bool false]) (by simp [results, Tryz.results209, go_sem]) rfl ⟨by (rw [V.out]) <;> rfl, ((Bel.refl w).alloc _).alloc _⟩
 have g1 : (k == 1) = false := beq_eq_false_iff_ne.2 n1
 have g2 : (k == 2) = false := beq_eq_false_iff_ne.2 n2
 have g3 : (k == 3) = false := beq_eq_false_iff_ne.2 n3
 have g4 : (k == 4) = false := beq_eq_false_iff_ne.2 n4
 have V := Hd (show vofV ⟨k, p, x, a, s, d⟩ = .tuple #[.agg #[.int .i64 0, .int .i64 0, .int .i64 0, .string ⟨#[]⟩, .int .i64 0], .bool false] from by unfold vofV valT; rw [iN n1, iN n2, iN n3, iN n4])
 generalize vofV ⟨k, p, x, a, s, d⟩ = F at V ⊢
 clear n1 n2 n3 n4
 go_enter Tryz.func209, Tryz.ntmps209
 go_wp2_with fail
 refine pR (v := .tuple #[.agg #[.int .i64 0, .int .i64 0, .int .i64 0, .string ⟨#[]⟩, .int .i64 0], .bool false]) (by simp [results, Tryz.results209, go_sem]) rfl ⟨by (rw [V.out]) <;> rfl, ((Bel.refl w).alloc _).alloc _⟩
end
section
open Go.RowKit
theorem But.new {b : Nat} {u w : World} (h : But b u w) {p : Addr} (hp : u.heap.size <= p.block) (x : Value) : But b u (w.setCell p x) :=
 ⟨h.os, h.tape, h.output, by simpa [World.setCell] using h.size, fun k hk hb => (Below.heap_setCell _ _ _ _ (by omega)).trans (h.block k hk hb), fun hb o ho => by
  have hr := h.rest hb o ho
  refine ⟨?_, ?_⟩
  ·rw [World.cell?_setCell_far w p ⟨b, o, none⟩ x (by show p.block ≠ b; omega)]
   exact hr.1
  rw [← hr.2]
  simp [go_sem]⟩
theorem But.alloc {b : Nat} {u w : World} (h : But b u w) (o : Obj) : But b u (w.alloc o) := h.trans (But.of ((Bel.refl w).alloc o))
theorem Rdc.far {w : World} {b : Nat} {A : Option Addr} {n c i : Nat} {en wr e : Int} (h : Rdc w b A n c i en wr e) {p : Addr} (hp : b ≠ p.block) (x : Value) : Rdc (w.setCell p x) b A n c i en wr e := by
 have hb : Below (b + 1) (w.setCell p x) (w.setCell p x) := Below.refl _ _
 obtain ⟨h0, ⟨a0, a1, a2, a3, a4⟩, ⟨f0, f1, f2, f3, f4⟩⟩ := h
 have hc : ∀ o, (w.setCell p x).cell? ⟨b, o, none⟩ = w.cell? ⟨b, o, none⟩ := fun o => World.cell?_setCell_far w p ⟨b, o, none⟩ x (fun e => hp e.symm)
 have hf : ∀ o, (w.setCell p x).frozen? ⟨b, o, none⟩ = w.frozen? ⟨b, o, none⟩ := fun o => by simp [go_sem]
 refine ⟨by simpa [World.setCell] using h0, ⟨?_, ?_, ?_, ?_, ?_⟩, ⟨?_, ?_, ?_, ?_, ?_⟩⟩
 all_goals first | (rw [hc]; assumption) | (rw [hf]; assumption)
def VSlot (w : World) (b : Nat) (v : Val) : Prop := b < w.heap.size /\
 (w.cell? ⟨b, 0, none⟩ = some (.int .i64 v.kind) /\ w.cell? ⟨b, 1, none⟩ = some (.int .i64 v.n) /\ w.cell? ⟨b, 2, none⟩ = some (.int .i64 v.scale) /\ w.cell? ⟨b, 3, none⟩ = some (.string v.text) /\ w.cell? ⟨b, 4, none⟩ = some (.int .i64 v.num)) /\
 (w.frozen? ⟨b, 0, none⟩ = false /\ w.frozen? ⟨b, 1, none⟩ = false /\ w.frozen? ⟨b, 2, none⟩ = false /\ w.frozen? ⟨b, 3, none⟩ = false /\ w.frozen? ⟨b, 4, none⟩ = false)
theorem VSlot.keep {w w' : World} {b : Nat} {v : Val} (h : VSlot w b v) (hb : Bel w w') : VSlot w' b v := by
 obtain ⟨h0, ⟨a0, a1, a2, a3, a4⟩, ⟨f0, f1, f2, f3, f4⟩⟩ := h
 have c := hb.cells b
 have f := hb.frozens b
 refine ⟨lL h0 hb.size, ⟨?_, ?_, ?_, ?_, ?_⟩, ⟨?_, ?_, ?_, ?_, ?_⟩⟩
 all_goals first | (rw [c _ h0]; assumption) | (rw [f _ h0]; assumption)
theorem Qll (ts : List Tok) (v : Val) (w : World) (b : Nat) (A : Option Addr) (c i : Nat) (en wr e : Int) (hT : Toks w A ts) (hr : Rdc w b A ts.length c i en wr e) (hi : i < ts.length) (hl : ts.length <= 65536) (hv : valT (pekT (ts.drop i)) = some v) :
  Calls Tryz.prog 195 #[.pointer (some ⟨b, 0, none⟩)] w fun r w' => r = .returned (.tuple #[.agg #[.int .i64 v.kind, .int .i64 v.n, .int .i64 v.scale, .string v.text, .int .i64 v.num], .bool true]) /\ But b w w' /\ Rdc w' b A ts.length c (i + 1) en wr e := by
 have CP := Hd fun W (hW : Bel w W) => Qda ts W b A c i en wr e (hT.keep hW) (hr.keep hW) (by omega) hl
 have CV := Hd fun W => Qfo (pekT (ts.drop i)) W
 unfold vofV at CV
 rw [hv] at CV
 simp only at CV
 generalize pekT (ts.drop i) = t at CP CV
 have KR := Hd hr
 have hbw := hr.1
 have w1 : IntKind.i64.wrap ((i : Int) + 1) = ((i + 1 : Nat) : Int) := by rw [IntKind.wrap_i64]; omega
 obtain ⟨vk, vn, vs, vt, vm⟩ := v
 simp only at CV ⊢
 clear hT hr hv
 go_enter Tryz.func195, Tryz.ntmps195
 go_upto_region 1 with fail
 refine uN ((Bel.refl w).alloc _) fun W hc hf hz hb => ?_
 have T : VSlot W w.heap.size zv := by simp [VSlot, zv, hc, hf, hz, go_sem]
 clear hc hf hz
 generalize hN : w.heap.size = N at T ⊢
 go_upto_region 2 with (first
  | (go_at_call 175; (with_reducible refine Calls.mono (CP.out _ hb) ?_); rintro ee V1 ⟨rfl, hb1⟩)
  | (go_at_call 209; (with_reducible refine Calls.mono (CV.out _) ?_); rintro ee V2 ⟨rfl, hb2⟩; have hq := Hd (hb1.trans hb2)))
 refine uN ((Bel.refl V2).alloc _) fun U hc hf hz hu => ?_
 have T2 : VSlot U V2.heap.size ⟨vk, vn, vs, vt, vm⟩ := by simp [VSlot, hc, hf, hz, go_sem]
 clear hc hf hz
 have hs2 := hq.out.size
 have T3 := Hd (T.keep (hq.out.trans hu))
 have KU := Hd (KR.out.keep (hb.trans (hq.out.trans hu)))
 have hsz := hb.size
 generalize hM : V2.heap.size = M at T2 ⊢
 have n1 : N < M := by have := T.1; omega
 have n2 : b < N := by omega
 obtain ⟨h0, ⟨a0, a1, a2, a3, a4⟩, ⟨f0, f1, f2, f3, f4⟩⟩ := KU.out
 obtain ⟨t0, ⟨t1, t2, t3, t4, t5⟩, ⟨g1, g2, g3, g4, g5⟩⟩ := T2
 obtain ⟨s0, ⟨s1, s2, s3, s4, s5⟩, ⟨e1, e2, e3, e4, e5⟩⟩ := T3.out
 simp only [zv] at s1 s2 s3 s4 s5
 have x1 : ¬ b = M := by omega
 have x2 : ¬ b = N := by omega
 have x3 : ¬ N = M := by omega
 have x4 : ¬ M = b := by omega
 have x5 : ¬ N = b := by omega
 have x6 : ¬ M = N := by omega
 have BB := Hd (But.of (b := b) (hb.trans (hq.out.trans hu)))
 have NW := Hd (show w.heap.size <= N from by omega)
 clear hN hM hs2 hsz n1 n2 T
 go_wp2_with fail
 refine pR (v := .tuple #[.agg #[.int .i64 vk, .int .i64 vn, .int .i64 vs, .string vt, .int .i64 vm], .bool true]) (by simp [results, Tryz.results195, go_sem, s0, s1, s2, s3, s4, s5, x1, x2, x3, x4, x5, x6]) rfl ⟨rfl, ?_, ?_⟩
 ·repeat (first | with_reducible refine But.new ?_ (by first | exact NW.out | (dsimp only; exact NW.out)) _ | refine But.setCell (i := 1) ?_ (by decide) _ | with_reducible exact BB.out)
 have en1 : (((i + 1 : Nat)) : Int) = (i : Int) + 1 := by omega
 have KN := KU.out.next (i + 1)
 rw [en1] at KN
 repeat (first | with_reducible exact KN | with_reducible refine Rdc.far ?_ (by first | exact x2 | (dsimp only; exact x2)) _)
theorem Qen (ts : List Tok) (w : World) (b : Nat) (A : Option Addr) (c i : Nat) (en wr e : Int) (hT : Toks w A ts) (hr : Rdc w b A ts.length c i en wr e) (hi : i <= ts.length) (hl : ts.length <= 65536) (hv : valT (pekT (ts.drop i)) = none) :
  Calls Tryz.prog 195 #[.pointer (some ⟨b, 0, none⟩)] w fun r w' => r = .returned (.tuple #[.agg #[.int .i64 0, .int .i64 0, .int .i64 0, .string ⟨#[]⟩, .int .i64 0], .bool false]) /\ But b w w' /\ Rdc w' b A ts.length c i en wr e := by
 have CP := Hd fun W (hW : Bel w W) => Qda ts W b A c i en wr e (hT.keep hW) (hr.keep hW) (by omega) hl
 have CV := Hd fun W => Qfo (pekT (ts.drop i)) W
 unfold vofV at CV
 rw [hv] at CV
 simp only at CV
 generalize pekT (ts.drop i) = t at CP CV
 have KR := Hd hr
 have hbw := hr.1
 clear hT hr hv
 go_enter Tryz.func195, Tryz.ntmps195
 go_upto_region 1 with fail
 refine uN ((Bel.refl w).alloc _) fun W hc hf hz hb => ?_
 have T : VSlot W w.heap.size zv := by simp [VSlot, zv, hc, hf, hz, go_sem]
 clear hc hf hz
 generalize hN : w.heap.size = N at T ⊢
 go_upto_region 2 with (first
  | (go_at_call 175; (with_reducible refine Calls.mono (CP.out _ hb) ?_); rintro ee V1 ⟨rfl, hb1⟩)
  | (go_at_call 209; (with_reducible refine Calls.mono (CV.out _) ?_); rintro ee V2 ⟨rfl, hb2⟩; have hq := Hd (hb1.trans hb2)))
 refine uN ((Bel.refl V2).alloc _) fun U hc hf hz hu => ?_
 have T2 : VSlot U V2.heap.size zv := by simp [VSlot, zv, hc, hf, hz, go_sem]
 clear hc hf hz
 have hs2 := hq.out.size
 have T3 := Hd (T.keep (hq.out.trans hu))
 have KU := Hd (KR.out.keep (hb.trans (hq.out.trans hu)))
 have hsz := hb.size
 generalize hM : V2.heap.size = M at T2 ⊢
 have n1 : N < M := by have := T.1; omega
 have n2 : b < N := by omega
 obtain ⟨t0, ⟨t1, t2, t3, t4, t5⟩, ⟨g1, g2, g3, g4, g5⟩⟩ := T2
 obtain ⟨s0, ⟨s1, s2, s3, s4, s5⟩, ⟨e1, e2, e3, e4, e5⟩⟩ := T3.out
 simp only [zv] at s1 s2 s3 s4 s5 t1 t2 t3 t4 t5
 have x2 : ¬ b = N := by omega
 have x3 : ¬ N = M := by omega
 have BB := Hd (But.of (b := b) (hb.trans (hq.out.trans hu)))
 have NW := Hd (show w.heap.size <= N from by omega)
 clear hN hM hs2 hsz n1 n2 T
 go_wp2_with fail
 refine pR (v := .tuple #[.agg #[.int .i64 0, .int .i64 0, .int .i64 0, .string ⟨#[]⟩, .int .i64 0], .bool false]) (by simp [results, Tryz.results195, go_sem, s0, s1, s2, s3, s4, s5, x2, x3]) rfl ⟨rfl, ?_, ?_⟩
 ·repeat (first | with_reducible refine But.new ?_ (by first | exact NW.out | (dsimp only; exact NW.out)) _ | refine But.setCell (i := 1) ?_ (by decide) _ | with_reducible exact BB.out)
 repeat (first | with_reducible exact KU.out | with_reducible refine Rdc.far ?_ (by first | exact x2 | (dsimp only; exact x2)) _)
end
section
open Go.RowKit
def RSlot (w : World) (b : Nat) (v : Value) (i en wr e : Int) : Prop := b < w.heap.size /\
 (w.cell? ⟨b, 0, none⟩ = some v /\ w.cell? ⟨b, 1, none⟩ = some (.int .i64 i) /\ w.cell? ⟨b, 2, none⟩ = some (.int .i64 en) /\ w.cell? ⟨b, 3, none⟩ = some (.int .i64 wr) /\ w.cell? ⟨b, 4, none⟩ = some (.int .i64 e)) /\
 (w.frozen? ⟨b, 0, none⟩ = false /\ w.frozen? ⟨b, 1, none⟩ = false /\ w.frozen? ⟨b, 2, none⟩ = false /\ w.frozen? ⟨b, 3, none⟩ = false /\ w.frozen? ⟨b, 4, none⟩ = false)
theorem RSlot.keep {w w' : World} {b : Nat} {v : Value} {i en wr e : Int} (h : RSlot w b v i en wr e) (hb : Bel w w') : RSlot w' b v i en wr e := by
 obtain ⟨h0, ⟨a0, a1, a2, a3, a4⟩, ⟨f0, f1, f2, f3, f4⟩⟩ := h
 have c := hb.cells b
 have f := hb.frozens b
 refine ⟨lL h0 hb.size, ⟨?_, ?_, ?_, ?_, ?_⟩, ⟨?_, ?_, ?_, ?_, ?_⟩⟩
 all_goals first | (rw [c _ h0]; assumption) | (rw [f _ h0]; assumption)
theorem Toks.but {w w' : World} {A : Option Addr} {l : List Tok} {N : Nat} (h : Toks w A l) (hb : But N w w') (hA : ∀ b o, A = some ⟨b, o, none⟩ -> b ≠ N) : Toks w' A l := fun h0 => by
 obtain ⟨b, off, e, hlt, hc⟩ := h h0
 refine ⟨b, off, e, lL hlt hb.size, fun j u hu => ?_⟩
 rw [hb.cell (p := ⟨b, off + j, none⟩) hlt (hA b off e)]
 exact hc j u hu
theorem Qqw {w : World} {B N n c : Nat} {A : Option Addr} {l : List Tok} (h : TkRows w B (.slice A n c) l) {b o : Nat} (e : A = some ⟨b, o, none⟩) (hN : N < B) : b ≠ N := by
 obtain ⟨h1, h2⟩ := h
 rcases h2 with h2 | ⟨g, cap, cur, hv, hg, _⟩
 ·subst e
  simp at h2
 subst e
 simp only [Value.slice.injEq, Option.some.injEq, Addr.mk.injEq] at hv
 omega
theorem Qfp (s : ByteArray) (hs : s.size <= 9223372036854775807) (w : World) (hm : Mx w) :
  Calls Tryz.prog 31 #[.string s] w fun r w' => ∃ A c, r = .returned (.agg #[.slice A (tokS s).1.length c, .int .i64 0, .int .i64 s.size, .int .i64 (tokS s).2.1, .int .i64 (tokS s).2.2]) /\ Toks w' A (tokS s).1 /\ Bel w w' := by
 have CT := Hd fun W (hW : Bel w W) => Qiz s hs W (hm.keep hW)
 generalize tokS s = x at CT ⊢
 have si : (s.size : Int) <= 9223372036854775807 := by omega
 clear hm hs
 go_enter Tryz.func31, Tryz.ntmps31
 go_upto_region 1 with fail
 refine uN ((Bel.refl w).alloc _) fun W hcc hf hz hb => ?_
 have T : RSlot W w.heap.size (.slice none 0 0) 0 0 0 0 := by simp [RSlot, hcc, hf, hz, go_sem]
 clear hcc hf hz
 generalize hN : w.heap.size = N at T ⊢
 have NW := Hd (show w.heap.size <= N from by omega)
 clear hN
 have KT := Hd T
 have hNW := T.1
 go_upto_region 2 with (go_at_call 62; (with_reducible refine Calls.mono (CT.out _ hb) ?_); rintro ee V1 ho; obtain ⟨A, c, hee, hrow, hbb, -, -, hown⟩ := Qtz ho; subst hee; have hq1 := Hd hbb; have hq2 := Hd hrow; have hq3 := Hd hown)
 obtain ⟨t0, ⟨t1, t2, t3, t4, t5⟩, ⟨g1, g2, g3, g4, g5⟩⟩ := KT.out.keep hq1.out
 go_wp2_with fail
 refine pR (v := .agg #[.slice A x.1.length c, .int .i64 0, .int .i64 s.size, .int .i64 x.2.1, .int .i64 x.2.2]) (by simp [results, Tryz.results31, go_sem, t0, t1, t2, t3, t4, t5]) rfl ⟨A, c, rfl, ?_, ?_⟩
 ·refine Toks.but hq2.out (N := N) (by repeat (first | with_reducible exact But.refl N V1 | refine But.setCell (b := N) ?_ (by decide) _)) ?_
  exact fun b o e => Qqw hq3.out e hNW
 have hh := hb.trans hq1.out
 repeat (first | with_reducible exact hh | refine Bel.setCell ?_ NW.out _)
end
end Go.Proofs.YtjckpkamhdbcnaaGreatDoor
