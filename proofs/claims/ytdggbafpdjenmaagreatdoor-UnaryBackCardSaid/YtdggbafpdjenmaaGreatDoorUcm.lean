
import Derived.Test.YtdggbafpdjenmaaGreatDoorUcg
import Derived.Shelf.Strings.SlTrimAscii
namespace Go.Proofs.YtdggbafpdjenmaaGreatDoor
set_option linter.unusedSimpArgs false
set_option linter.unusedVariables false
open Go.RowKit
/-! White taken off; a new reader. -/
theorem trim2_any (z : ByteArray) (hz : z.size ≤ 9223372036854775807) (w : World) : Calls Tryz.prog 15 #[.string z, .string ⟨#[9, 10, 13, 32]⟩] w fun r w' => r = .returned (.string (bytesOf (trimL z.data.toList))) ∧ Bel w w' := by
  have h := Any.strings_Trim_laid Tryz.lays160 (by kernel_rfl) z ⟨#[9, 10, 13, 32]⟩ w hz (by decide) (ascii_of_all (by decide))
  refine h.mono fun r w' ⟨hr, hb⟩ => ⟨?_, hb⟩
  rw [hr]
  have e : Lib.trimS z.data.toList (⟨#[9, 10, 13, 32]⟩ : ByteArray).data.toList = trimL z.data.toList := by
    unfold Lib.trimS Lib.trimLeftS Lib.trimRightS trimL
    have h2 : (fun c => (⟨#[9, 10, 13, 32]⟩ : ByteArray).data.toList.contains c) = wsB := ws_is
    rw [h2]
  rw [e]
  rfl
end Go.Proofs.YtdggbafpdjenmaaGreatDoor
namespace Go.Proofs.YtdggbafpdjenmaaGreatDoor
set_option linter.unusedSimpArgs false
set_option linter.unusedVariables false
open Go.RowKit
/-! A new reader. -/
/-- A block that holds a reader, free for stores: as Rdc, whatever its slice. -/
def RSlot (w : World) (b : Nat) (v : Value) (i en wr e : Int) : Prop := b < w.heap.size ∧
  (w.cell? ⟨b, 0, none⟩ = some v ∧ w.cell? ⟨b, 1, none⟩ = some (.int .i64 i) ∧ w.cell? ⟨b, 2, none⟩ = some (.int .i64 en) ∧ w.cell? ⟨b, 3, none⟩ = some (.int .i64 wr) ∧ w.cell? ⟨b, 4, none⟩ = some (.int .i64 e)) ∧
  (w.frozen? ⟨b, 0, none⟩ = false ∧ w.frozen? ⟨b, 1, none⟩ = false ∧ w.frozen? ⟨b, 2, none⟩ = false ∧ w.frozen? ⟨b, 3, none⟩ = false ∧ w.frozen? ⟨b, 4, none⟩ = false)
theorem RSlot.keep {w w' : World} {b : Nat} {v : Value} {i en wr e : Int} (h : RSlot w b v i en wr e) (hb : Bel w w') : RSlot w' b v i en wr e := by
  obtain ⟨h0, ⟨a0, a1, a2, a3, a4⟩, ⟨f0, f1, f2, f3, f4⟩⟩ := h
  have c := hb.cells b
  have f := hb.frozens b
  refine ⟨Nat.lt_of_lt_of_le h0 hb.size, ⟨?_, ?_, ?_, ?_, ?_⟩, ⟨?_, ?_, ?_, ?_, ?_⟩⟩
  all_goals first | (rw [c _ h0]; assumption) | (rw [f _ h0]; assumption)
theorem Toks.but {w w' : World} {A : Option Addr} {l : List Tok} {N : Nat} (h : Toks w A l) (hb : But N w w') (hA : ∀ b o, A = some ⟨b, o, none⟩ → b ≠ N) : Toks w' A l := fun h0 => by
  obtain ⟨b, off, e, hlt, hc⟩ := h h0
  refine ⟨b, off, e, Nat.lt_of_lt_of_le hlt hb.size, fun j u hu => ?_⟩
  rw [hb.cell (p := ⟨b, off + j, none⟩) hlt (hA b off e)]
  exact hc j u hu
theorem rows_far {w : World} {B N n c : Nat} {A : Option Addr} {l : List Tok} (h : TkRows w B (.slice A n c) l) {b o : Nat} (e : A = some ⟨b, o, none⟩) (hN : N < B) : b ≠ N := by
  obtain ⟨h1, h2⟩ := h
  rcases h2 with h2 | ⟨g, cap, cur, hv, hg, _⟩
  · subst e
    simp at h2
  · subst e
    simp only [Value.slice.injEq, Option.some.injEq, Addr.mk.injEq] at hv
    omega
set_option maxRecDepth 100000 in
set_option maxHeartbeats 4000000 in
theorem new_any (s : ByteArray) (hs : s.size ≤ 9223372036854775807) (w : World) (hm : Mx w) :
    Calls Tryz.prog 16 #[.string s] w fun r w' => ∃ A c, r = .returned (.agg #[.slice A (tokS s).1.length c, .int .i64 0, .int .i64 s.size, .int .i64 (tokS s).2.1, .int .i64 (tokS s).2.2]) ∧ Toks w' A (tokS s).1 ∧ Bel w w' := by
  have CT := Lib.hid fun W (hW : Bel w W) => xtokens_any s hs W (hm.keep hW)
  generalize tokS s = x at CT ⊢
  have si : (s.size : Int) ≤ 9223372036854775807 := by omega
  clear hm hs
  go_enter Tryz.func16, Tryz.ntmps16
  go_upto_region 1 with fail
  refine under_name ((Bel.refl w).alloc _) fun W hcc hf hz hb => ?_
  have T : RSlot W w.heap.size (.slice none 0 0) 0 0 0 0 := by simp [RSlot, hcc, hf, hz, go_sem]
  clear hcc hf hz
  generalize hN : w.heap.size = N at T ⊢
  have NW := Lib.hid (show w.heap.size ≤ N from by omega)
  clear hN
  have KT := Lib.hid T
  have hNW := T.1
  go_upto_region 2 with (go_at_call 38; (with_reducible refine Calls.mono (CT.out _ hb) ?_); rintro ee V1 ho; obtain ⟨A, c, hee, hrow, hbb, -, -, hown⟩ := tok_out ho; subst hee; have hq1 := Lib.hid hbb; have hq2 := Lib.hid hrow; have hq3 := Lib.hid hown)
  obtain ⟨t0, ⟨t1, t2, t3, t4, t5⟩, ⟨g1, g2, g3, g4, g5⟩⟩ := KT.out.keep hq1.out
  go_wp2_with fail
  refine bodyPost_ret (v := .agg #[.slice A x.1.length c, .int .i64 0, .int .i64 s.size, .int .i64 x.2.1, .int .i64 x.2.2]) (by simp [results, Tryz.results16, go_sem, t0, t1, t2, t3, t4, t5]) rfl ⟨A, c, rfl, ?_, ?_⟩
  · refine Toks.but hq2.out (N := N) (by repeat (first | with_reducible exact But.refl N V1 | refine But.setCell (b := N) ?_ rfl _)) ?_
    exact fun b o e => rows_far hq3.out e hNW
  · have hh := hb.trans hq1.out
    repeat (first | with_reducible exact hh | refine Bel.setCell ?_ NW.out _)
end Go.Proofs.YtdggbafpdjenmaaGreatDoor
namespace Go.Proofs.YtdggbafpdjenmaaGreatDoor
set_option linter.unusedSimpArgs false
set_option linter.unusedVariables false
open Go.RowKit
/-! An interval: its low end is wrong. -/
/-- A block that holds a test, free for stores. -/
def TFree (w : World) (b : Nat) (t : Tst) : Prop := b < w.heap.size ∧ TstAt w b 0 t ∧
  (w.frozen? ⟨b, 0, none⟩ = false ∧ w.frozen? ⟨b, 1, none⟩ = false ∧ w.frozen? ⟨b, 2, none⟩ = false ∧ w.frozen? ⟨b, 3, none⟩ = false ∧ w.frozen? ⟨b, 4, none⟩ = false ∧ w.frozen? ⟨b, 5, none⟩ = false ∧ w.frozen? ⟨b, 6, none⟩ = false ∧ w.frozen? ⟨b, 7, none⟩ = false ∧ w.frozen? ⟨b, 8, none⟩ = false ∧ w.frozen? ⟨b, 9, none⟩ = false ∧ w.frozen? ⟨b, 10, none⟩ = false ∧ w.frozen? ⟨b, 11, none⟩ = false ∧ w.frozen? ⟨b, 12, none⟩ = false)
theorem TFree.keep {w w' : World} {b : Nat} {t : Tst} (h : TFree w b t) (hb : Bel w w') : TFree w' b t := by
  obtain ⟨h0, h1, h2⟩ := h
  refine ⟨Nat.lt_of_lt_of_le h0 hb.size, h1.keep hb h0, ?_⟩
  simp only [hb.frozens _ _ h0]
  exact h2
theorem TFree.but {w w' : World} {b N : Nat} {t : Tst} (h : TFree w N t) (hb : But b w w') (hN : N ≠ b) : TFree w' N t := by
  obtain ⟨h0, h1, h2⟩ := h
  have c : ∀ o, w'.cell? ⟨N, o, none⟩ = w.cell? ⟨N, o, none⟩ := fun o => hb.cell (p := ⟨N, o, none⟩) h0 hN
  have f : ∀ o, w'.frozen? ⟨N, o, none⟩ = w.frozen? ⟨N, o, none⟩ := fun o => hb.frozen (p := ⟨N, o, none⟩) h0 hN
  refine ⟨Nat.lt_of_lt_of_le h0 hb.size, ?_, ?_⟩
  · simp only [TstAt, c]
    exact h1
  · simp only [f]
    exact h2
theorem ord_enters : ∀ args w, (callFunc 47 args).run Tryz.prog w = .ok (.enter 47 args) w := enters_of Tryz.func47 (by kernel_rfl) rfl
theorem any_enters : ∀ args w, (callFunc 65 args).run Tryz.prog w = .ok (.enter 65 args) w := enters_of Tryz.func65 (by kernel_rfl) rfl
theorem same_enters : ∀ args w, (callFunc 90 args).run Tryz.prog w = .ok (.enter 90 args) w := enters_of Tryz.func90 (by kernel_rfl) rfl
/-- cell.value, for what may be a bound. -/
theorem uval_ord (ts : List Tok) (w : World) (b : Nat) (A : Option Addr) (c i : Nat) (en wr : Int) (hT : Toks w A ts) (hr : Rdc w b A ts.length c i en wr 0) (hi : i ≤ ts.length) (hl : ts.length ≤ 65536) (hB : ∃ B, Toks B A ts ∧ Bel B w ∧ B.heap.size ≤ b) (hS : ∀ t ∈ ts, ksnd t = true) :
    Calls Tryz.prog 63 #[.pointer (some ⟨b, 0, none⟩), .func (.func 47) #[] #[]] w (ValOut ts b A c en wr (valP ordk (ts.drop i)) w) :=
  uval_any ts 47 #[] ordk ord_enters w b A c i en wr (fun k W _ => ordered_any k W) hT hr hi hl hB hS
/-- cell.value, for anything. -/
theorem uval_all (ts : List Tok) (w : World) (b : Nat) (A : Option Addr) (c i : Nat) (en wr : Int) (hT : Toks w A ts) (hr : Rdc w b A ts.length c i en wr 0) (hi : i ≤ ts.length) (hl : ts.length ≤ 65536) (hB : ∃ B, Toks B A ts ∧ Bel B w ∧ B.heap.size ≤ b) (hS : ∀ t ∈ ts, ksnd t = true) :
    Calls Tryz.prog 63 #[.pointer (some ⟨b, 0, none⟩), .func (.func 65) #[] #[]] w (ValOut ts b A c en wr (valP (fun _ => true) (ts.drop i)) w) :=
  uval_any ts 65 #[] (fun _ => true) any_enters w b A c i en wr (fun k W _ => any_any k W) hT hr hi hl hB hS
/-- cell.value, for what is of a test's low end's kind. -/
theorem uval_same (lk : Int) (tb : Nat) (ts : List Tok) (w : World) (b : Nat) (A : Option Addr) (c i : Nat) (en wr : Int) (hk : w.cell? ⟨tb, 1, none⟩ = some (.int .i64 lk)) (htb : tb < w.heap.size) (hne : tb ≠ b) (hT : Toks w A ts) (hr : Rdc w b A ts.length c i en wr 0) (hi : i ≤ ts.length) (hl : ts.length ≤ 65536) (hB : ∃ B, Toks B A ts ∧ Bel B w ∧ B.heap.size ≤ b) (hS : ∀ t ∈ ts, ksnd t = true) :
    Calls Tryz.prog 63 #[.pointer (some ⟨b, 0, none⟩), .func (.func 90) #[] #[.pointer (some ⟨tb, 0, none⟩)]] w (ValOut ts b A c en wr (valP (fun k => decide (k = lk)) (ts.drop i)) w) :=
  uval_any ts 90 #[.pointer (some ⟨tb, 0, none⟩)] (fun k => decide (k = lk)) same_enters w b A c i en wr (fun k W hW => samek_any k lk tb W (by rw [hW.cell (p := ⟨tb, 1, none⟩) htb hne]; exact hk)) hT hr hi hl hB hS
end Go.Proofs.YtdggbafpdjenmaaGreatDoor
namespace Go.Proofs.YtdggbafpdjenmaaGreatDoor
set_option linter.unusedSimpArgs false
set_option linter.unusedVariables false
open Go.RowKit
/-! An interval. -/
/-- What a reader of a test gives: a test and what is left, or an error's place. -/
def TstOut (ts : List Tok) (b : Nat) (A : Option Addr) (c : Nat) (en wr : Int) (q : PR Tst) (w : World) (r : Ending) (w' : World) : Prop := ∃ (j : Nat) (wr' e' : Int), But b w w' ∧ Rdc w' b A ts.length c j en wr' e' ∧ j ≤ ts.length ∧ (match q with
  | .ok x rest => r = .returned (.tuple #[x.val, .bool true]) ∧ ts.drop j = rest ∧ wr' = wr ∧ e' = 0
  | .bad rest f => (∃ x : Tst, r = .returned (.tuple #[x.val, .bool false])) ∧ wr' = plcT en rest ∧ e' = f)
set_option maxRecDepth 100000 in
set_option maxHeartbeats 8000000 in
theorem uint_low (op : Bool) (ts : List Tok) (w : World) (b : Nat) (A : Option Addr) (c i : Nat) (en wr : Int) (hT : Toks w A ts) (hr : Rdc w b A ts.length c i en wr 0) (hi : i ≤ ts.length) (hl : ts.length ≤ 65536) (hB : ∃ B, Toks B A ts ∧ Bel B w ∧ B.heap.size ≤ b) (hS : ∀ t ∈ ts, ksnd t = true) (q : List Tok) (e : Nat) (hv : valP ordk (ts.drop i) = .bad q e) :
    Calls Tryz.prog 64 #[.pointer (some ⟨b, 0, none⟩), .bool op] w (TstOut ts b A c en wr (intP op (ts.drop i)) w) := by
  have HP : intP op (ts.drop i) = .bad q e := by
    unfold intP
    rw [hv]
  rw [HP]
  have hbw := hr.1
  obtain ⟨B, hTB, hBw, hBb⟩ := hB
  have KV := Lib.hid fun W (hW : Bel w W) => uval_ord ts W b A c i en wr (hT.keep hW) (hr.keep hW) hi hl ⟨B, hTB, hBw.trans hW, hBb⟩ hS
  rw [hv] at KV
  clear hT hr hTB hS HP hv
  go_enter Tryz.func64, Tryz.ntmps64
  go_upto_region 2 with fail
  refine under_name (((Bel.refl w).alloc _).alloc _) fun W hcc hf hz hb => ?_
  have T1 : TFree W w.heap.size ⟨0, zv, zv, false, false⟩ := by simp [TFree, TstAt, zv, hcc, hf, hz, go_sem]
  have T2 : TFree W (w.heap.size + 1) ⟨6, zv, zv, op, false⟩ := by simp [TFree, TstAt, zv, hcc, hf, hz, go_sem]
  clear hcc hf hz
  generalize hN : w.heap.size = N at T1 T2 ⊢
  have nb : N ≠ b := by omega
  have mb : N + 1 ≠ b := by omega
  have NW := Lib.hid (show w.heap.size ≤ N from by omega)
  clear hN
  have nm : ¬ N = N + 1 := by omega
  have mn : ¬ N + 1 = N := by omega
  have x2 : ¬ b = N := fun e => nb e.symm
  have xm : ¬ b = N + 1 := fun e => mb e.symm
  have MW := Lib.hid (show w.heap.size ≤ N + 1 from by have := NW.out; omega)
  have K1 := Lib.hid T1
  have K2 := Lib.hid T2
  clear T1 T2
  go_upto_region 3 with fail
  go_wp2_with (go_at_call 63; (with_reducible refine Calls.mono (KV.out _ hb) ?_); rintro ee V1 ⟨j, wr', e', hb1, hr1, hj1, hee⟩; simp only at hee; obtain ⟨hee, hw', he'⟩ := hee; subst hee; have hq1 := Lib.hid hb1; have hq2 := Lib.hid hr1; have hq3 := Lib.hid (And.intro hw' he'); obtain ⟨sz, ⟨s0, s1, s2, s3, s4, s5, s6, s7, s8, s9, s10, s11, s12⟩, ⟨f0, f1, f2, f3, f4, f5, f6, f7, f8, f9, f10, f11, f12⟩⟩ := K1.out.but hb1 nb; obtain ⟨tz, ⟨t0, t1, t2, t3, t4, t5, t6, t7, t8, t9, t10, t11, t12⟩, ⟨g0, g1, g2, g3, g4, g5, g6, g7, g8, g9, g10, g11, g12⟩⟩ := K2.out.but hb1 mb; simp only [zv] at s0 s1 s2 s3 s4 s5 s6 s7 s8 s9 s10 s11 s12 t0 t1 t2 t3 t4 t5 t6 t7 t8 t9 t10 t11 t12)
  refine bodyPost_ret (v := .tuple #[(⟨6, zv, zv, op, false⟩ : Tst).val, .bool false]) (by simp [results, Tryz.results64, go_sem, zv, nm, mn, sz, tz, s0, s1, s2, s3, s4, s5, s6, s7, s8, s9, s10, s11, s12, t0, t1, t2, t3, t4, t5, t6, t7, t8, t9, t10, t11, t12]) rfl ⟨j, wr', e', ?_, ?_, hj1, ⟨_, rfl⟩, hq3.out.1, hq3.out.2⟩
  · repeat (first | with_reducible exact (But.of hb).trans hq1.out | refine But.new ?_ NW.out _ | refine But.new ?_ MW.out _)
  · repeat (first | with_reducible exact hq2.out | refine Rdc.far ?_ x2 _ | refine Rdc.far ?_ xm _)
end Go.Proofs.YtdggbafpdjenmaaGreatDoor
namespace Go.Proofs.YtdggbafpdjenmaaGreatDoor
set_option linter.unusedSimpArgs false
set_option linter.unusedVariables false
open Go.RowKit
/-! A value stored into a test. -/
def stV (w : World) (b o : Nat) (v : Val) : World := ((((w.setCell ⟨b, o, none⟩ (.int .i64 v.kind)).setCell ⟨b, o + 1, none⟩ (.int .i64 v.n)).setCell ⟨b, o + 2, none⟩ (.int .i64 v.scale)).setCell ⟨b, o + 3, none⟩ (.string v.text)).setCell ⟨b, o + 4, none⟩ (.int .i64 v.num)
theorem TFree.low {w : World} {b : Nat} {t : Tst} (h : TFree w b t) (v : Val) : TFree (stV w b 1 v) b ⟨t.kind, v, t.high, t.ol, t.oh⟩ := by
  obtain ⟨z, ⟨a0, a1, a2, a3, a4, a5, a6, a7, a8, a9, a10, a11, a12⟩, ⟨f0, f1, f2, f3, f4, f5, f6, f7, f8, f9, f10, f11, f12⟩⟩ := h
  simp only [Nat.zero_add] at a0 a1 a2 a3 a4 a5 a6 a7 a8 a9 a10 a11 a12
  simp [TFree, TstAt, stV, go_sem, z, a0, a1, a2, a3, a4, a5, a6, a7, a8, a9, a10, a11, a12, f0, f1, f2, f3, f4, f5, f6, f7, f8, f9, f10, f11, f12]
theorem TFree.high {w : World} {b : Nat} {t : Tst} (h : TFree w b t) (v : Val) : TFree (stV w b 6 v) b ⟨t.kind, t.low, v, t.ol, t.oh⟩ := by
  obtain ⟨z, ⟨a0, a1, a2, a3, a4, a5, a6, a7, a8, a9, a10, a11, a12⟩, ⟨f0, f1, f2, f3, f4, f5, f6, f7, f8, f9, f10, f11, f12⟩⟩ := h
  simp only [Nat.zero_add] at a0 a1 a2 a3 a4 a5 a6 a7 a8 a9 a10 a11 a12
  simp [TFree, TstAt, stV, go_sem, z, a0, a1, a2, a3, a4, a5, a6, a7, a8, a9, a10, a11, a12, f0, f1, f2, f3, f4, f5, f6, f7, f8, f9, f10, f11, f12]
theorem But.stV {b : Nat} {u w : World} (h : But b u w) {m o : Nat} (hm : u.heap.size ≤ m) (v : Val) : But b u (stV w m o v) := ((((h.new (p := ⟨m, _, none⟩) hm _).new (p := ⟨m, _, none⟩) hm _).new (p := ⟨m, _, none⟩) hm _).new (p := ⟨m, _, none⟩) hm _).new (p := ⟨m, _, none⟩) hm _
theorem Rdc.stV {w : World} {b : Nat} {A : Option Addr} {n c i : Nat} {en wr e : Int} (h : Rdc w b A n c i en wr e) {m o : Nat} (hm : b ≠ m) (v : Val) : Rdc (stV w m o v) b A n c i en wr e := ((((h.far (p := ⟨m, _, none⟩) hm _).far (p := ⟨m, _, none⟩) hm _).far (p := ⟨m, _, none⟩) hm _).far (p := ⟨m, _, none⟩) hm _).far (p := ⟨m, _, none⟩) hm _
theorem butm_stV {w : World} {m o : Nat} (v : Val) : But m w (stV w m o v) := (((((But.refl m w).setCell (p := ⟨m, _, none⟩) rfl _).setCell (p := ⟨m, _, none⟩) rfl _).setCell (p := ⟨m, _, none⟩) rfl _).setCell (p := ⟨m, _, none⟩) rfl _).setCell (p := ⟨m, _, none⟩) rfl _
theorem TFree.far {w : World} {b m o : Nat} {t : Tst} (h : TFree w b t) (hm : b ≠ m) (v : Val) : TFree (stV w m o v) b t := h.but (butm_stV v) hm
/-- The same world, spelt otherwise. -/
theorem at_world {P : Program} {c : Code} {Q : Exit → Act → World → Prop} {a : Act} {w : World} (w' : World) (h : w' = w) (k : c.wp P Q a w') : c.wp P Q a w := h ▸ k
end Go.Proofs.YtdggbafpdjenmaaGreatDoor
