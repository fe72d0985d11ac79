
import Derived.Test.YtdggbafpdjenmaaGreatDoorUcd
import Derived.Test.YtdggbafpdjenmaaGreatDoorUnc
namespace Go.Proofs.YtdggbafpdjenmaaGreatDoor
set_option linter.unusedSimpArgs false
set_option linter.unusedVariables false
open Go.RowKit
/-! A cell's value: with or without a minus, of a kind that may be. -/
theorem But.cell {b : Nat} {w w' : World} (h : But b w w') {p : Addr} (hp : p.block < w.heap.size) (hb : p.block ≠ b) : w'.cell? p = w.cell? p := World.cell?_of_block (w := w) (h.block p.block hp hb)
theorem But.frozen {b : Nat} {w w' : World} (h : But b w w') {p : Addr} (hp : p.block < w.heap.size) (hb : p.block ≠ b) : w'.frozen? p = w.frozen? p := World.frozen?_of_block (w := w) (h.block p.block hp hb)
theorem VSlot.but {w w' : World} {N b : Nat} {v : Val} (h : VSlot w N v) (hb : But b w w') (hN : N ≠ b) : VSlot w' N v := by
  obtain ⟨h0, ⟨a0, a1, a2, a3, a4⟩, ⟨f0, f1, f2, f3, f4⟩⟩ := h
  refine ⟨Nat.lt_of_lt_of_le h0 hb.size, ⟨?_, ?_, ?_, ?_, ?_⟩, ⟨?_, ?_, ?_, ?_, ?_⟩⟩
  all_goals first | (rw [hb.cell h0 hN]; assumption) | (rw [hb.frozen h0 hN]; assumption)
/-- What a reader of a value gives. -/
def ValOut (ts : List Tok) (b : Nat) (A : Option Addr) (c : Nat) (en wr : Int) (q : PR Val) (w : World) (r : Ending) (w' : World) : Prop := ∃ (j : Nat) (wr' e' : Int), But b w w' ∧ Rdc w' b A ts.length c j en wr' e' ∧ j ≤ ts.length ∧ (match q with
  | .ok v rest => r = .returned (.tuple #[.agg #[.int .i64 v.kind, .int .i64 v.n, .int .i64 v.scale, .string v.text, .int .i64 v.num], .bool true]) ∧ ts.drop j = rest ∧ wr' = wr ∧ e' = 0
  | .bad rest f => r = .returned (.tuple #[.agg #[.int .i64 0, .int .i64 0, .int .i64 0, .string ⟨#[]⟩, .int .i64 0], .bool false]) ∧ wr' = plcT en rest ∧ e' = f)
set_option maxRecDepth 100000 in
set_option maxHeartbeats 8000000 in
theorem uval_none (ts : List Tok) (F : Nat) (caps : Array Value) (q : Int → Bool) (eg : ∀ args w, (callFunc F args).run Tryz.prog w = .ok (.enter F args) w) (w : World) (b : Nat) (A : Option Addr) (c i : Nat) (en wr : Int) (hc : ∀ k W, But b w W → Calls Tryz.prog F (#[.int .i64 k] ++ caps) W fun e w' => e = .returned (.bool (q k)) ∧ Bel W w') (hT : Toks w A ts) (hr : Rdc w b A ts.length c i en wr 0) (hi : i ≤ ts.length) (hl : ts.length ≤ 65536) (hB : ∃ B, Toks B A ts ∧ Bel B w ∧ B.heap.size ≤ b) (hs : isS [45] (ts.drop i) = false) (hv : valT (pekT (ts.drop i)) = none) :
    Calls Tryz.prog 63 #[.pointer (some ⟨b, 0, none⟩), .func (.func F) #[] caps] w (ValOut ts b A c en wr (valP q (ts.drop i)) w) := by
  have HP := Lib.hid (show valP q (ts.drop i) = .bad (ts.drop i) 5 from by
    unfold valP
    rw [if_neg (by rw [hs]; decide)]
    cases hd : ts.drop i with
    | nil => rfl
    | cons t r => rw [hd] at hv; simp only; rw [show valT t = none from hv])
  rw [HP.out]
  have HSG := Lib.hid (show isK 5 [45] (ts.drop i) = false from hs)
  have HV := Lib.hid hv
  have HJ := Lib.hid (show i = if isK 5 [45] (ts.drop i) = true then i + 1 else i from by rw [if_neg (by rw [show isK 5 [45] (ts.drop i) = false from hs]; decide)])
  clear hs hv HP
  have hbw := hr.1
  obtain ⟨B, hTB, hBw, hBb⟩ := hB
  have KT := Lib.hid fun W (hW : But b w W) => hTB.keep (hW.bel hBw hBb)
  have KR := Lib.hid hr
  have HC := Lib.hid hc
  clear hc hT hr hTB
  go_enter Tryz.func63, Tryz.ntmps63
  go_upto_region 1 with fail
  refine under_name ((Bel.refl w).alloc _) fun W hcc hf hz hb => ?_
  have T : VSlot W w.heap.size zv := by simp [VSlot, zv, hcc, hf, hz, go_sem]
  clear hcc hf hz
  have hs1 := hb.size
  generalize hN : w.heap.size = N at T ⊢
  have nb : N ≠ b := by omega
  have x2 : ¬ b = N := by omega
  have x5 : ¬ N = b := by omega
  have NW := Lib.hid (show w.heap.size ≤ N from by omega)
  have T := Lib.hid T
  have KW := Lib.hid (KR.out.keep hb)
  have CPl := Lib.hid (place_any ts W b A c i en wr 0 (KT.out W (But.of hb)) KW.out hi hl)
  have CS := Lib.hid fun V (hV : Bel W V) => sign_any ts [45] V b A c i i en wr 0 (KT.out V (But.of (hb.trans hV))) (KW.out.keep hV) hi hl HJ.out
  rw [HSG.out, show bytesOf [45] = (⟨#[45]⟩ : ByteArray) from rfl] at CS
  generalize hpl : plcT en (ts.drop i) = pl at CPl
  go_upto_region 3 with (first
    | (go_at_call 62; (with_reducible refine Calls.mono CPl.out ?_); rintro ee V1 ⟨rfl, hv1⟩; have hv1 := Lib.hid hv1)
    | (go_at_call 40; (with_reducible refine Calls.mono (CS.out V1 hv1.out) ?_); rintro ee V2 ⟨rfl, hv2, hr2⟩; have hv2 := Lib.hid hv2; have hr2 := Lib.hid hr2))
  have B2 := Lib.hid ((But.of (b := b) (hb.trans hv1.out)).trans hv2.out)
  have T2 := Lib.hid ((T.out.keep hv1.out).but hv2.out nb)
  clear CPl CS KW
  have CV := Lib.hid (value_none ts V2 b A c i en wr 0 (KT.out V2 B2.out) hr2.out hi hl HV.out)
  go_upto_region 6 with (go_at_call 88; (with_reducible refine Calls.mono CV.out ?_); rintro ee V3 ⟨rfl, hv3, hr3⟩; have hv3 := Lib.hid hv3; have hr3 := Lib.hid hr3)
  refine under_name ((Bel.refl V3).alloc _) fun U hcc hf hz hu => ?_
  have TM : VSlot U V3.heap.size zv := by simp [VSlot, zv, hcc, hf, hz, go_sem]
  clear hcc hf hz
  have B3 := Lib.hid ((B2.out.trans hv3.out).trans (But.of hu))
  have T3 := Lib.hid ((T2.out.but hv3.out nb).keep hu)
  have KU := Lib.hid (hr3.out.keep hu)
  have hlt := T2.out.1
  have hs3 := hv3.out.size
  generalize hM : V3.heap.size = M at TM ⊢
  have mb : M ≠ b := by have := (KR.out).1; have := hv1.out.size; have := hv2.out.size; omega
  have nm : ¬ N = M := by omega
  have mn : ¬ M = N := by omega
  have TM := Lib.hid TM
  clear CV
  have CF := Lib.hid (fail_any ts U b A c i en wr 0 5 pl 5 (KT.out U B3.out) KU.out hi hl (by rw [if_pos rfl]; exact hpl.symm) (by rw [if_pos rfl]))
  go_upto_region 7 with fail
  go_wp2_with (go_at_call 41; (with_reducible refine Calls.mono CF.out ?_); rintro ee U2 ⟨rfl, hf1, hr4⟩; have hf1 := Lib.hid hf1; have hr4 := Lib.hid hr4; obtain ⟨s0, ⟨s1, s2, s3, s4, s5⟩, ⟨e1, e2, e3, e4, e5⟩⟩ := T3.out.but hf1.out nb; simp only [zv] at s1 s2 s3 s4 s5)
  refine bodyPost_ret (v := .tuple #[.agg #[.int .i64 0, .int .i64 0, .int .i64 0, .string ⟨#[]⟩, .int .i64 0], .bool false]) (by simp [results, Tryz.results63, go_sem, s0, s1, s2, s3, s4, s5, x2, x5]) rfl ⟨i, pl, 5, ?_, ?_, hi, rfl, ?_, rfl⟩
  · repeat (first | with_reducible refine But.new ?_ (by first | exact NW.out | (dsimp only; exact NW.out)) _ | refine But.setCell (p := ⟨b, 1, none⟩) ?_ rfl _ | with_reducible exact B3.out.trans hf1.out)
  · repeat (first | with_reducible exact hr4.out | with_reducible refine Rdc.far ?_ (by first | exact x2 | (dsimp only; exact x2)) _)
  · exact hpl.symm
set_option maxRecDepth 100000 in
set_option maxHeartbeats 8000000 in
theorem uval_not (ts : List Tok) (F : Nat) (caps : Array Value) (q : Int → Bool) (eg : ∀ args w, (callFunc F args).run Tryz.prog w = .ok (.enter F args) w) (w : World) (b : Nat) (A : Option Addr) (c i : Nat) (en wr : Int) (hc : ∀ k W, But b w W → Calls Tryz.prog F (#[.int .i64 k] ++ caps) W fun e w' => e = .returned (.bool (q k)) ∧ Bel W w') (hT : Toks w A ts) (hr : Rdc w b A ts.length c i en wr 0) (hi : i ≤ ts.length) (hl : ts.length ≤ 65536) (hB : ∃ B, Toks B A ts ∧ Bel B w ∧ B.heap.size ≤ b) (v : Val) (hs : isS [45] (ts.drop i) = false) (hin : i < ts.length) (hv : valT (pekT (ts.drop i)) = some v) (hm : q v.kind = false) :
    Calls Tryz.prog 63 #[.pointer (some ⟨b, 0, none⟩), .func (.func F) #[] caps] w (ValOut ts b A c en wr (valP q (ts.drop i)) w) := by
  have HP := Lib.hid (show valP q (ts.drop i) = .bad (ts.drop i) 5 from by
    unfold valP
    rw [if_neg (by rw [hs]; decide)]
    cases hd : ts.drop i with
    | nil => have h9 := List.drop_eq_nil_iff.1 hd; omega
    | cons t r =>
      rw [hd] at hv
      simp only
      rw [show valT t = some v from hv]
      simp only
      rw [if_neg (by rw [hm]; decide)])
  rw [HP.out]
  have HV := Lib.hid hv
  have HSG := Lib.hid (show isK 5 [45] (ts.drop i) = false from hs)
  have HJ := Lib.hid (show i = if isK 5 [45] (ts.drop i) = true then i + 1 else i from by rw [if_neg (by rw [show isK 5 [45] (ts.drop i) = false from hs]; decide)])
  have HM := Lib.hid hm
  obtain ⟨vk, vn, vs, vt, vm⟩ := v
  simp only at HM HV ⊢
  clear hs hv HP hm
  have hbw := hr.1
  obtain ⟨B, hTB, hBw, hBb⟩ := hB
  have KT := Lib.hid fun W (hW : But b w W) => hTB.keep (hW.bel hBw hBb)
  have KR := Lib.hid hr
  have HC := Lib.hid hc
  clear hc hT hr hTB
  go_enter Tryz.func63, Tryz.ntmps63
  go_upto_region 1 with fail
  refine under_name ((Bel.refl w).alloc _) fun W hcc hf hz hb => ?_
  have T : VSlot W w.heap.size zv := by simp [VSlot, zv, hcc, hf, hz, go_sem]
  clear hcc hf hz
  have hs1 := hb.size
  generalize hN : w.heap.size = N at T ⊢
  have nb : N ≠ b := by omega
  have x2 : ¬ b = N := by omega
  have x5 : ¬ N = b := by omega
  have NW := Lib.hid (show w.heap.size ≤ N from by omega)
  have T := Lib.hid T
  have KW := Lib.hid (KR.out.keep hb)
  have CPl := Lib.hid (place_any ts W b A c i en wr 0 (KT.out W (But.of hb)) KW.out hi hl)
  have CS := Lib.hid fun V (hV : Bel W V) => sign_any ts [45] V b A c i i en wr 0 (KT.out V (But.of (hb.trans hV))) (KW.out.keep hV) hi hl HJ.out
  rw [HSG.out, show bytesOf [45] = (⟨#[45]⟩ : ByteArray) from rfl] at CS
  generalize hpl : plcT en (ts.drop i) = pl at CPl
  go_upto_region 3 with (first
    | (go_at_call 62; (with_reducible refine Calls.mono CPl.out ?_); rintro ee V1 ⟨rfl, hv1⟩; have hv1 := Lib.hid hv1)
    | (go_at_call 40; (with_reducible refine Calls.mono (CS.out V1 hv1.out) ?_); rintro ee V2 ⟨rfl, hv2, hr2⟩; have hv2 := Lib.hid hv2; have hr2 := Lib.hid hr2))
  have B2 := Lib.hid ((But.of (b := b) (hb.trans hv1.out)).trans hv2.out)
  have T2 := Lib.hid ((T.out.keep hv1.out).but hv2.out nb)
  clear CPl CS KW
  have CV := Lib.hid (value_some ts ⟨vk, vn, vs, vt, vm⟩ V2 b A c i en wr 0 (KT.out V2 B2.out) hr2.out hin hl HV.out)
  go_upto_region 6 with (go_at_call 88; (with_reducible refine Calls.mono CV.out ?_); rintro ee V3 ⟨rfl, hv3, hr3⟩; have hv3 := Lib.hid hv3; have hr3 := Lib.hid hr3)
  refine under_name ((Bel.refl V3).alloc _) fun U hcc hf hz hu => ?_
  have TM : VSlot U V3.heap.size ⟨vk, vn, vs, vt, vm⟩ := by simp [VSlot, zv, hcc, hf, hz, go_sem]
  clear hcc hf hz
  have B3 := Lib.hid ((B2.out.trans hv3.out).trans (But.of hu))
  have T3 := Lib.hid ((T2.out.but hv3.out nb).keep hu)
  have KU := Lib.hid (hr3.out.keep hu)
  have hlt := T2.out.1
  have hs3 := hv3.out.size
  generalize hM : V3.heap.size = M at TM ⊢
  have mb : M ≠ b := by have := (KR.out).1; have := hv1.out.size; have := hv2.out.size; omega
  have nm : ¬ N = M := by omega
  have mn : ¬ M = N := by omega
  have TM := Lib.hid TM
  clear CV
  have CM := Lib.hid (HC.out vk U B3.out)
  rw [HM.out] at CM
  obtain ⟨t0, ⟨t1, t2, t3, t4, t5⟩, ⟨g1, g2, g3, g4, g5⟩⟩ := TM.out
  simp only at t1 t2 t3 t4 t5
  go_upto_region 9 with ((with_reducible refine Calls.mono CM.out ?_); rintro ee U1 ⟨rfl, hm1⟩; have hm1 := Lib.hid hm1)
  clear t0 t1 t2 t3 t4 t5 g1 g2 g3 g4 g5
  have B4 := Lib.hid (B3.out.trans (But.of hm1.out))
  have K4 := Lib.hid (KU.out.keep hm1.out)
  have T4 := Lib.hid (T3.out.keep hm1.out)
  have CF := Lib.hid (failAt_any U1 b A ts.length c (i + 1) en wr 0 pl 5 pl 5 K4.out (by rw [if_pos rfl]) (by rw [if_pos rfl]))
  go_wp2_with (go_at_call 61; (with_reducible refine Calls.mono CF.out ?_); rintro ee U2 ⟨rfl, hf1, hr4⟩; have hf1 := Lib.hid hf1; have hr4 := Lib.hid hr4; obtain ⟨s0, ⟨s1, s2, s3, s4, s5⟩, ⟨e1, e2, e3, e4, e5⟩⟩ := T4.out.but hf1.out nb; simp only [zv] at s1 s2 s3 s4 s5)
  refine bodyPost_ret (v := .tuple #[.agg #[.int .i64 0, .int .i64 0, .int .i64 0, .string ⟨#[]⟩, .int .i64 0], .bool false]) (by simp [results, Tryz.results63, go_sem, s0, s1, s2, s3, s4, s5, x2, x5]) rfl ⟨i + 1, pl, 5, ?_, ?_, (by omega), rfl, ?_, rfl⟩
  · repeat (first | with_reducible refine But.new ?_ (by first | exact NW.out | (dsimp only; exact NW.out)) _ | refine But.setCell (p := ⟨b, 1, none⟩) ?_ rfl _ | with_reducible exact B4.out.trans hf1.out)
  · repeat (first | with_reducible exact hr4.out | with_reducible refine Rdc.far ?_ (by first | exact x2 | (dsimp only; exact x2)) _)
  · exact hpl.symm
set_option maxRecDepth 100000 in
set_option maxHeartbeats 8000000 in
theorem uval_some (ts : List Tok) (F : Nat) (caps : Array Value) (q : Int → Bool) (eg : ∀ args w, (callFunc F args).run Tryz.prog w = .ok (.enter F args) w) (w : World) (b : Nat) (A : Option Addr) (c i : Nat) (en wr : Int) (hc : ∀ k W, But b w W → Calls Tryz.prog F (#[.int .i64 k] ++ caps) W fun e w' => e = .returned (.bool (q k)) ∧ Bel W w') (hT : Toks w A ts) (hr : Rdc w b A ts.length c i en wr 0) (hi : i ≤ ts.length) (hl : ts.length ≤ 65536) (hB : ∃ B, Toks B A ts ∧ Bel B w ∧ B.heap.size ≤ b) (v : Val) (hs : isS [45] (ts.drop i) = false) (hin : i < ts.length) (hv : valT (pekT (ts.drop i)) = some v) (hm : q v.kind = true) :
    Calls Tryz.prog 63 #[.pointer (some ⟨b, 0, none⟩), .func (.func F) #[] caps] w (ValOut ts b A c en wr (valP q (ts.drop i)) w) := by
  have HP := Lib.hid (show valP q (ts.drop i) = .ok v (ts.drop (i + 1)) from by
    unfold valP
    rw [if_neg (by rw [hs]; decide)]
    cases hd : ts.drop i with
    | nil => have h9 := List.drop_eq_nil_iff.1 hd; omega
    | cons t r =>
      rw [hd] at hv
      simp only
      rw [show valT t = some v from hv]
      simp only
      rw [if_pos hm, show ts.drop (i + 1) = r from by have h9 := congrArg List.tail hd; rwa [List.tail_drop] at h9])
  rw [HP.out]
  have HV := Lib.hid hv
  have HSG := Lib.hid (show isK 5 [45] (ts.drop i) = false from hs)
  have HJ := Lib.hid (show i = if isK 5 [45] (ts.drop i) = true then i + 1 else i from by rw [if_neg (by rw [show isK 5 [45] (ts.drop i) = false from hs]; decide)])
  have HM := Lib.hid hm
  obtain ⟨vk, vn, vs, vt, vm⟩ := v
  simp only at HM HV ⊢
  clear hs hv HP hm
  have hbw := hr.1
  obtain ⟨B, hTB, hBw, hBb⟩ := hB
  have KT := Lib.hid fun W (hW : But b w W) => hTB.keep (hW.bel hBw hBb)
  have KR := Lib.hid hr
  have HC := Lib.hid hc
  clear hc hT hr hTB
  go_enter Tryz.func63, Tryz.ntmps63
  go_upto_region 1 with fail
  refine under_name ((Bel.refl w).alloc _) fun W hcc hf hz hb => ?_
  have T : VSlot W w.heap.size zv := by simp [VSlot, zv, hcc, hf, hz, go_sem]
  clear hcc hf hz
  have hs1 := hb.size
  generalize hN : w.heap.size = N at T ⊢
  have nb : N ≠ b := by omega
  have x2 : ¬ b = N := by omega
  have x5 : ¬ N = b := by omega
  have NW := Lib.hid (show w.heap.size ≤ N from by omega)
  have T := Lib.hid T
  have KW := Lib.hid (KR.out.keep hb)
  have CPl := Lib.hid (place_any ts W b A c i en wr 0 (KT.out W (But.of hb)) KW.out hi hl)
  have CS := Lib.hid fun V (hV : Bel W V) => sign_any ts [45] V b A c i i en wr 0 (KT.out V (But.of (hb.trans hV))) (KW.out.keep hV) hi hl HJ.out
  rw [HSG.out, show bytesOf [45] = (⟨#[45]⟩ : ByteArray) from rfl] at CS
  generalize hpl : plcT en (ts.drop i) = pl at CPl
  go_upto_region 3 with (first
    | (go_at_call 62; (with_reducible refine Calls.mono CPl.out ?_); rintro ee V1 ⟨rfl, hv1⟩; have hv1 := Lib.hid hv1)
    | (go_at_call 40; (with_reducible refine Calls.mono (CS.out V1 hv1.out) ?_); rintro ee V2 ⟨rfl, hv2, hr2⟩; have hv2 := Lib.hid hv2; have hr2 := Lib.hid hr2))
  have B2 := Lib.hid ((But.of (b := b) (hb.trans hv1.out)).trans hv2.out)
  have T2 := Lib.hid ((T.out.keep hv1.out).but hv2.out nb)
  clear CPl CS KW
  have CV := Lib.hid (value_some ts ⟨vk, vn, vs, vt, vm⟩ V2 b A c i en wr 0 (KT.out V2 B2.out) hr2.out hin hl HV.out)
  go_upto_region 6 with (go_at_call 88; (with_reducible refine Calls.mono CV.out ?_); rintro ee V3 ⟨rfl, hv3, hr3⟩; have hv3 := Lib.hid hv3; have hr3 := Lib.hid hr3)
  refine under_name ((Bel.refl V3).alloc _) fun U hcc hf hz hu => ?_
  have TM : VSlot U V3.heap.size ⟨vk, vn, vs, vt, vm⟩ := by simp [VSlot, zv, hcc, hf, hz, go_sem]
  clear hcc hf hz
  have B3 := Lib.hid ((B2.out.trans hv3.out).trans (But.of hu))
  have T3 := Lib.hid ((T2.out.but hv3.out nb).keep hu)
  have KU := Lib.hid (hr3.out.keep hu)
  have hlt := T2.out.1
  have hs3 := hv3.out.size
  generalize hM : V3.heap.size = M at TM ⊢
  have mb : M ≠ b := by have := (KR.out).1; have := hv1.out.size; have := hv2.out.size; omega
  have nm : ¬ N = M := by omega
  have mn : ¬ M = N := by omega
  have TM := Lib.hid TM
  clear CV
  have CM := Lib.hid (HC.out vk U B3.out)
  rw [HM.out] at CM
  obtain ⟨t0, ⟨t1, t2, t3, t4, t5⟩, ⟨g1, g2, g3, g4, g5⟩⟩ := TM.out
  simp only at t1 t2 t3 t4 t5
  go_upto_region 12 with ((with_reducible refine Calls.mono CM.out ?_); rintro ee U1 ⟨rfl, hm1⟩; have hm1 := Lib.hid hm1)
  clear t0 t1 t2 t3 t4 t5 g1 g2 g3 g4 g5
  obtain ⟨t0, ⟨t1, t2, t3, t4, t5⟩, ⟨g1, g2, g3, g4, g5⟩⟩ := TM.out.keep hm1.out
  obtain ⟨s0, ⟨s1, s2, s3, s4, s5⟩, ⟨e1, e2, e3, e4, e5⟩⟩ := T3.out.keep hm1.out
  simp only [zv] at s1 s2 s3 s4 s5 t1 t2 t3 t4 t5
  have B4 := Lib.hid (B3.out.trans (But.of hm1.out))
  have K4 := Lib.hid (KU.out.keep hm1.out)
  go_wp2_with fail
  refine bodyPost_ret (v := .tuple #[.agg #[.int .i64 vk, .int .i64 vn, .int .i64 vs, .string vt, .int .i64 vm], .bool true]) (by simp [results, Tryz.results63, go_sem, s0, s1, s2, s3, s4, s5, x2, x5, nm, mn]) rfl ⟨i + 1, wr, 0, ?_, ?_, by omega, rfl, rfl, rfl, rfl⟩
  · repeat (first | with_reducible refine But.new ?_ (by first | exact NW.out | (dsimp only; exact NW.out)) _ | refine But.setCell (p := ⟨b, 1, none⟩) ?_ rfl _ | with_reducible exact B4.out)
  · repeat (first | with_reducible exact K4.out | with_reducible refine Rdc.far ?_ (by first | exact x2 | (dsimp only; exact x2)) _)
end Go.Proofs.YtdggbafpdjenmaaGreatDoor
namespace Go.Proofs.YtdggbafpdjenmaaGreatDoor
set_option linter.unusedSimpArgs false
set_option linter.unusedVariables false
open Go.RowKit
/-! A cell's value behind a minus. -/
theorem tail_at {ts : List Tok} {i : Nat} {x : List UInt8} (h : isS x (ts.drop i) = true) : i < ts.length ∧ ∃ t, ts.drop i = t :: ts.drop (i + 1) := by
  have hne := isK_ne h
  have hi : i < ts.length := by
    rcases Nat.lt_or_ge i ts.length with h2 | h2
    · exact h2
    · exact absurd (List.drop_eq_nil_of_le h2) hne
  obtain ⟨t, _, ht⟩ := drop_tok hi
  exact ⟨hi, t, ht⟩
theorem field_tok (a p d e f : Int) (x : ByteArray) (w : World) : (Instr.field 85 (.agg #[.int .i64 a, .int .i64 p, .string x, .int .i64 d, .int .i64 e, .int .i64 f]) 0).run Tryz.prog w = .ok (.int .i64 a) w := by kernel_rfl
attribute [local go_sem ↓] field_tok
theorem decA_is (n s : Int) : decA n s = .agg #[.int .i64 n, .int .i64 s] := rfl
set_option maxRecDepth 100000 in
set_option maxHeartbeats 8000000 in
theorem uneg_none (ts : List Tok) (F : Nat) (caps : Array Value) (q : Int → Bool) (eg : ∀ args w, (callFunc F args).run Tryz.prog w = .ok (.enter F args) w) (w : World) (b : Nat) (A : Option Addr) (c i : Nat) (en wr : Int) (hc : ∀ k W, But b w W → Calls Tryz.prog F (#[.int .i64 k] ++ caps) W fun e w' => e = .returned (.bool (q k)) ∧ Bel W w') (hT : Toks w A ts) (hr : Rdc w b A ts.length c i en wr 0) (hi : i ≤ ts.length) (hl : ts.length ≤ 65536) (hB : ∃ B, Toks B A ts ∧ Bel B w ∧ B.heap.size ≤ b) (hs : isS [45] (ts.drop i) = true) (hk : (pekT (ts.drop (i + 1))).kind ≠ 1) :
    Calls Tryz.prog 63 #[.pointer (some ⟨b, 0, none⟩), .func (.func F) #[] caps] w (ValOut ts b A c en wr (valP q (ts.drop i)) w) := by
  obtain ⟨hin, t0, hd0⟩ := tail_at hs
  have HP := Lib.hid (show valP q (ts.drop i) = .bad (ts.drop (i + 1)) 5 from by
    unfold valP
    rw [if_pos hs, List.tail_drop]
    cases hd : ts.drop (i + 1) with
    | nil => rfl
    | cons t r => rw [hd] at hk; simp only; rw [if_neg (show ¬ t.kind = 1 from hk)])
  rw [HP.out]
  have HSG := Lib.hid (show isK 5 [45] (ts.drop i) = true from hs)
  have HJ := Lib.hid (show i + 1 = if isK 5 [45] (ts.drop i) = true then i + 1 else i from by rw [if_pos (show isK 5 [45] (ts.drop i) = true from hs)])
  have hij : i + 1 ≤ ts.length := by omega
  clear hs HP hd0
  have hbw := hr.1
  obtain ⟨B, hTB, hBw, hBb⟩ := hB
  have KT := Lib.hid fun W (hW : But b w W) => hTB.keep (hW.bel hBw hBb)
  have KR := Lib.hid hr
  have HC := Lib.hid hc
  clear hc hT hr hTB
  go_enter Tryz.func63, Tryz.ntmps63
  go_upto_region 1 with fail
  refine under_name ((Bel.refl w).alloc _) fun W hcc hf hz hb => ?_
  have T : VSlot W w.heap.size zv := by simp [VSlot, zv, hcc, hf, hz, go_sem]
  clear hcc hf hz
  have hs1 := hb.size
  generalize hN : w.heap.size = N at T ⊢
  have nb : N ≠ b := by omega
  have x2 : ¬ b = N := by omega
  have x5 : ¬ N = b := by omega
  have NW := Lib.hid (show w.heap.size ≤ N from by omega)
  have T := Lib.hid T
  have KW := Lib.hid (KR.out.keep hb)
  have CPl := Lib.hid (place_any ts W b A c i en wr 0 (KT.out W (But.of hb)) KW.out hi hl)
  have CS := Lib.hid fun V (hV : Bel W V) => sign_any ts [45] V b A c i (i + 1) en wr 0 (KT.out V (But.of (hb.trans hV))) (KW.out.keep hV) hi hl HJ.out
  rw [HSG.out, show bytesOf [45] = (⟨#[45]⟩ : ByteArray) from rfl] at CS
  generalize hpl : plcT en (ts.drop i) = pl at CPl
  go_upto_region 3 with (first
    | (go_at_call 62; (with_reducible refine Calls.mono CPl.out ?_); rintro ee V1 ⟨rfl, hv1⟩; have hv1 := Lib.hid hv1)
    | (go_at_call 40; (with_reducible refine Calls.mono (CS.out V1 hv1.out) ?_); rintro ee V2 ⟨rfl, hv2, hr2⟩; have hv2 := Lib.hid hv2; have hr2 := Lib.hid hr2))
  have B2 := Lib.hid ((But.of (b := b) (hb.trans hv1.out)).trans hv2.out)
  have T2 := Lib.hid ((T.out.keep hv1.out).but hv2.out nb)
  clear CPl CS KW
  have CK := Lib.hid (peek_any ts V2 b A c (i + 1) en wr 0 (KT.out V2 B2.out) hr2.out hij hl)
  generalize hpk : pekT (ts.drop (i + 1)) = t at CK hk
  obtain ⟨tk, tp, tx, ta, tb, td⟩ := t
  simp only [tvT] at CK hk
  have g1 : (tk != 1) = true := bne_iff_ne.2 hk
  clear hk hpk
  go_upto_region 4 with (go_at_call 43; (with_reducible refine Calls.mono CK.out ?_); rintro ee V3 ⟨rfl, hv3⟩; have hv3 := Lib.hid hv3)
  have B3 := Lib.hid (B2.out.trans (But.of hv3.out))
  have T3 := Lib.hid (T2.out.keep hv3.out)
  have K3 := Lib.hid (hr2.out.keep hv3.out)
  generalize hpl2 : plcT en (ts.drop (i + 1)) = pl2
  have CF := Lib.hid (fail_any ts V3 b A c (i + 1) en wr 0 5 pl2 5 (KT.out V3 B3.out) K3.out hij hl (by rw [if_pos rfl]; exact hpl2.symm) (by rw [if_pos rfl]))
  go_wp2_with (go_at_call 41; (with_reducible refine Calls.mono CF.out ?_); rintro ee U2 ⟨rfl, hf1, hr4⟩; have hf1 := Lib.hid hf1; have hr4 := Lib.hid hr4; obtain ⟨s0, ⟨s1, s2, s3, s4, s5⟩, ⟨e1, e2, e3, e4, e5⟩⟩ := T3.out.but hf1.out nb; simp only [zv] at s1 s2 s3 s4 s5)
  refine bodyPost_ret (v := .tuple #[.agg #[.int .i64 0, .int .i64 0, .int .i64 0, .string ⟨#[]⟩, .int .i64 0], .bool false]) (by simp [results, Tryz.results63, go_sem, s0, s1, s2, s3, s4, s5, x2, x5]) rfl ⟨i + 1, pl2, 5, ?_, ?_, hij, rfl, ?_, rfl⟩
  · repeat (first | with_reducible refine But.new ?_ (by first | exact NW.out | (dsimp only; exact NW.out)) _ | refine But.setCell (p := ⟨b, 1, none⟩) ?_ rfl _ | with_reducible exact B3.out.trans hf1.out)
  · repeat (first | with_reducible exact hr4.out | with_reducible refine Rdc.far ?_ (by first | exact x2 | (dsimp only; exact x2)) _)
  · exact hpl2.symm
set_option maxRecDepth 100000 in
set_option maxHeartbeats 8000000 in
theorem uneg_not (ts : List Tok) (F : Nat) (caps : Array Value) (q : Int → Bool) (eg : ∀ args w, (callFunc F args).run Tryz.prog w = .ok (.enter F args) w) (w : World) (b : Nat) (A : Option Addr) (c i : Nat) (en wr : Int) (hc : ∀ k W, But b w W → Calls Tryz.prog F (#[.int .i64 k] ++ caps) W fun e w' => e = .returned (.bool (q k)) ∧ Bel W w') (hT : Toks w A ts) (hr : Rdc w b A ts.length c i en wr 0) (hi : i ≤ ts.length) (hl : ts.length ≤ 65536) (hB : ∃ B, Toks B A ts ∧ Bel B w ∧ B.heap.size ≤ b) (dn ds : Int) (hS : SndD dn ds) (hs : isS [45] (ts.drop i) = true) (hin2 : i + 1 < ts.length) (hk : (pekT (ts.drop (i + 1))).kind = 1) (hv : valT (pekT (ts.drop (i + 1))) = some ⟨1, dn, ds, ⟨#[]⟩, 0⟩) (hm : q 1 = false) :
    Calls Tryz.prog 63 #[.pointer (some ⟨b, 0, none⟩), .func (.func F) #[] caps] w (ValOut ts b A c en wr (valP q (ts.drop i)) w) := by
  have HP := Lib.hid (show valP q (ts.drop i) = .bad (ts.drop i) 5 from by
    unfold valP
    rw [if_pos hs, List.tail_drop]
    cases hd : ts.drop (i + 1) with
    | nil => have h9 := List.drop_eq_nil_iff.1 hd; omega
    | cons t r =>
      rw [hd] at hv hk
      simp only
      rw [if_pos (show t.kind = 1 from hk), show valT t = some ⟨1, dn, ds, ⟨#[]⟩, 0⟩ from hv]
      simp only
      rw [if_neg (by rw [hm]; decide)])
  rw [HP.out]
  have HV := Lib.hid hv
  have HSG := Lib.hid (show isK 5 [45] (ts.drop i) = true from hs)
  have HJ := Lib.hid (show i + 1 = if isK 5 [45] (ts.drop i) = true then i + 1 else i from by rw [if_pos (show isK 5 [45] (ts.drop i) = true from hs)])
  have HM := Lib.hid hm
  have HSN := Lib.hid hS
  clear hs hv HP hm hS
  have hbw := hr.1
  obtain ⟨B, hTB, hBw, hBb⟩ := hB
  have KT := Lib.hid fun W (hW : But b w W) => hTB.keep (hW.bel hBw hBb)
  have KR := Lib.hid hr
  have HC := Lib.hid hc
  clear hc hT hr hTB
  go_enter Tryz.func63, Tryz.ntmps63
  go_upto_region 1 with fail
  refine under_name ((Bel.refl w).alloc _) fun W hcc hf hz hb => ?_
  have T : VSlot W w.heap.size zv := by simp [VSlot, zv, hcc, hf, hz, go_sem]
  clear hcc hf hz
  have hs1 := hb.size
  generalize hN : w.heap.size = N at T ⊢
  have nb : N ≠ b := by omega
  have x2 : ¬ b = N := by omega
  have x5 : ¬ N = b := by omega
  have NW := Lib.hid (show w.heap.size ≤ N from by omega)
  have T := Lib.hid T
  have KW := Lib.hid (KR.out.keep hb)
  have CPl := Lib.hid (place_any ts W b A c i en wr 0 (KT.out W (But.of hb)) KW.out hi hl)
  have CS := Lib.hid fun V (hV : Bel W V) => sign_any ts [45] V b A c i (i + 1) en wr 0 (KT.out V (But.of (hb.trans hV))) (KW.out.keep hV) hi hl HJ.out
  rw [HSG.out, show bytesOf [45] = (⟨#[45]⟩ : ByteArray) from rfl] at CS
  generalize hpl : plcT en (ts.drop i) = pl at CPl
  go_upto_region 3 with (first
    | (go_at_call 62; (with_reducible refine Calls.mono CPl.out ?_); rintro ee V1 ⟨rfl, hv1⟩; have hv1 := Lib.hid hv1)
    | (go_at_call 40; (with_reducible refine Calls.mono (CS.out V1 hv1.out) ?_); rintro ee V2 ⟨rfl, hv2, hr2⟩; have hv2 := Lib.hid hv2; have hr2 := Lib.hid hr2))
  have B2 := Lib.hid ((But.of (b := b) (hb.trans hv1.out)).trans hv2.out)
  have T2 := Lib.hid ((T.out.keep hv1.out).but hv2.out nb)
  clear CPl CS KW
  have CK := Lib.hid (peek_any ts V2 b A c (i + 1) en wr 0 (KT.out V2 B2.out) hr2.out (by omega) hl)
  have HV2 := Lib.hid fun V (hV : But b w V) (hR : Rdc V b A ts.length c (i + 1) en wr 0) => value_some ts ⟨1, dn, ds, ⟨#[]⟩, 0⟩ V b A c (i + 1) en wr 0 (KT.out V hV) hR hin2 hl HV.out
  generalize hpk : pekT (ts.drop (i + 1)) = t at CK hk
  obtain ⟨tk, tp, tx, ta, tb, td⟩ := t
  simp only [tvT] at CK hk
  subst hk
  clear hpk
  go_upto_region 5 with (go_at_call 43; (with_reducible refine Calls.mono CK.out ?_); rintro ee V2' ⟨rfl, hv3⟩; have hv3 := Lib.hid hv3)
  have B2 := Lib.hid (B2.out.trans (But.of hv3.out))
  have T2 := Lib.hid (T2.out.keep hv3.out)
  have hr2 := Lib.hid (hr2.out.keep hv3.out)
  have hv2 := Lib.hid (hv2.out.trans (But.of hv3.out))
  have CV := Lib.hid (HV2.out V2' B2.out hr2.out)
  go_upto_region 6 with (go_at_call 88; (with_reducible refine Calls.mono CV.out ?_); rintro ee V3 ⟨rfl, hv4, hr3⟩; have hv4 := Lib.hid hv4; have hr3 := Lib.hid hr3)
  refine under_name ((Bel.refl V3).alloc _) fun U hcc hf hz hu => ?_
  have TM : VSlot U V3.heap.size ⟨1, dn, ds, ⟨#[]⟩, 0⟩ := by simp [VSlot, zv, hcc, hf, hz, go_sem]
  clear hcc hf hz
  have B3 := Lib.hid ((B2.out.trans hv4.out).trans (But.of hu))
  have T3 := Lib.hid ((T2.out.but hv4.out nb).keep hu)
  have KU := Lib.hid (hr3.out.keep hu)
  have hlt := T2.out.1
  have hs3 := hv4.out.size
  generalize hM : V3.heap.size = M at TM ⊢
  have mb : M ≠ b := by have := (KR.out).1; have := hv1.out.size; have := hv2.out.size; omega
  have nm : ¬ N = M := by omega
  have mn : ¬ M = N := by omega
  have TM := Lib.hid TM
  clear CV
  have CM := Lib.hid (HC.out 1 U B3.out)
  rw [HM.out] at CM
  obtain ⟨t0, ⟨t1, t2, t3, t4, t5⟩, ⟨g1, g2, g3, g4, g5⟩⟩ := TM.out
  simp only at t1 t2 t3 t4 t5
  go_upto_region 9 with ((with_reducible refine Calls.mono CM.out ?_); rintro ee U1 ⟨rfl, hm1⟩; have hm1 := Lib.hid hm1)
  clear t0 t1 t2 t3 t4 t5 g1 g2 g3 g4 g5
  have B4 := Lib.hid (B3.out.trans (But.of hm1.out))
  have K4 := Lib.hid (KU.out.keep hm1.out)
  have T4 := Lib.hid (T3.out.keep hm1.out)
  have CF := Lib.hid (failAt_any U1 b A ts.length c (i + 1 + 1) en wr 0 pl 5 pl 5 K4.out (by rw [if_pos rfl]) (by rw [if_pos rfl]))
  go_wp2_with (go_at_call 61; (with_reducible refine Calls.mono CF.out ?_); rintro ee U2 ⟨rfl, hf1, hr4⟩; have hf1 := Lib.hid hf1; have hr4 := Lib.hid hr4; obtain ⟨s0, ⟨s1, s2, s3, s4, s5⟩, ⟨e1, e2, e3, e4, e5⟩⟩ := T4.out.but hf1.out nb; simp only [zv] at s1 s2 s3 s4 s5)
  refine bodyPost_ret (v := .tuple #[.agg #[.int .i64 0, .int .i64 0, .int .i64 0, .string ⟨#[]⟩, .int .i64 0], .bool false]) (by simp [results, Tryz.results63, go_sem, s0, s1, s2, s3, s4, s5, x2, x5]) rfl ⟨i + 1 + 1, pl, 5, ?_, ?_, (by omega), rfl, ?_, rfl⟩
  · repeat (first | with_reducible refine But.new ?_ (by first | exact NW.out | (dsimp only; exact NW.out)) _ | refine But.setCell (p := ⟨b, 1, none⟩) ?_ rfl _ | with_reducible exact B4.out.trans hf1.out)
  · repeat (first | with_reducible exact hr4.out | with_reducible refine Rdc.far ?_ (by first | exact x2 | (dsimp only; exact x2)) _)
  · exact hpl.symm
set_option maxRecDepth 100000 in
set_option maxHeartbeats 8000000 in
theorem uneg_some (ts : List Tok) (F : Nat) (caps : Array Value) (q : Int → Bool) (eg : ∀ args w, (callFunc F args).run Tryz.prog w = .ok (.enter F args) w) (w : World) (b : Nat) (A : Option Addr) (c i : Nat) (en wr : Int) (hc : ∀ k W, But b w W → Calls Tryz.prog F (#[.int .i64 k] ++ caps) W fun e w' => e = .returned (.bool (q k)) ∧ Bel W w') (hT : Toks w A ts) (hr : Rdc w b A ts.length c i en wr 0) (hi : i ≤ ts.length) (hl : ts.length ≤ 65536) (hB : ∃ B, Toks B A ts ∧ Bel B w ∧ B.heap.size ≤ b) (dn ds : Int) (hS : SndD dn ds) (hs : isS [45] (ts.drop i) = true) (hin2 : i + 1 < ts.length) (hk : (pekT (ts.drop (i + 1))).kind = 1) (hv : valT (pekT (ts.drop (i + 1))) = some ⟨1, dn, ds, ⟨#[]⟩, 0⟩) (hm : q 1 = true) :
    Calls Tryz.prog 63 #[.pointer (some ⟨b, 0, none⟩), .func (.func F) #[] caps] w (ValOut ts b A c en wr (valP q (ts.drop i)) w) := by
  have HP := Lib.hid (show valP q (ts.drop i) = .ok ⟨1, -dn, ds, ⟨#[]⟩, 0⟩ (ts.drop (i + 1 + 1)) from by
    unfold valP
    rw [if_pos hs, List.tail_drop]
    cases hd : ts.drop (i + 1) with
    | nil => have h9 := List.drop_eq_nil_iff.1 hd; omega
    | cons t r =>
      rw [hd] at hv hk
      simp only
      rw [if_pos (show t.kind = 1 from hk), show valT t = some ⟨1, dn, ds, ⟨#[]⟩, 0⟩ from hv]
      simp only
      rw [if_pos hm, show ts.drop (i + 1 + 1) = r from by have h9 := congrArg List.tail hd; rwa [List.tail_drop] at h9]; rfl)
  rw [HP.out]
  have HV := Lib.hid hv
  have HSG := Lib.hid (show isK 5 [45] (ts.drop i) = true from hs)
  have HJ := Lib.hid (show i + 1 = if isK 5 [45] (ts.drop i) = true then i + 1 else i from by rw [if_pos (show isK 5 [45] (ts.drop i) = true from hs)])
  have HM := Lib.hid hm
  have HSN := Lib.hid hS
  clear hs hv HP hm hS
  have hbw := hr.1
  obtain ⟨B, hTB, hBw, hBb⟩ := hB
  have KT := Lib.hid fun W (hW : But b w W) => hTB.keep (hW.bel hBw hBb)
  have KR := Lib.hid hr
  have HC := Lib.hid hc
  clear hc hT hr hTB
  go_enter Tryz.func63, Tryz.ntmps63
  go_upto_region 1 with fail
  refine under_name ((Bel.refl w).alloc _) fun W hcc hf hz hb => ?_
  have T : VSlot W w.heap.size zv := by simp [VSlot, zv, hcc, hf, hz, go_sem]
  clear hcc hf hz
  have hs1 := hb.size
  generalize hN : w.heap.size = N at T ⊢
  have nb : N ≠ b := by omega
  have x2 : ¬ b = N := by omega
  have x5 : ¬ N = b := by omega
  have NW := Lib.hid (show w.heap.size ≤ N from by omega)
  have T := Lib.hid T
  have KW := Lib.hid (KR.out.keep hb)
  have CPl := Lib.hid (place_any ts W b A c i en wr 0 (KT.out W (But.of hb)) KW.out hi hl)
  have CS := Lib.hid fun V (hV : Bel W V) => sign_any ts [45] V b A c i (i + 1) en wr 0 (KT.out V (But.of (hb.trans hV))) (KW.out.keep hV) hi hl HJ.out
  rw [HSG.out, show bytesOf [45] = (⟨#[45]⟩ : ByteArray) from rfl] at CS
  generalize hpl : plcT en (ts.drop i) = pl at CPl
  go_upto_region 3 with (first
    | (go_at_call 62; (with_reducible refine Calls.mono CPl.out ?_); rintro ee V1 ⟨rfl, hv1⟩; have hv1 := Lib.hid hv1)
    | (go_at_call 40; (with_reducible refine Calls.mono (CS.out V1 hv1.out) ?_); rintro ee V2 ⟨rfl, hv2, hr2⟩; have hv2 := Lib.hid hv2; have hr2 := Lib.hid hr2))
  have B2 := Lib.hid ((But.of (b := b) (hb.trans hv1.out)).trans hv2.out)
  have T2 := Lib.hid ((T.out.keep hv1.out).but hv2.out nb)
  clear CPl CS KW
  have CK := Lib.hid (peek_any ts V2 b A c (i + 1) en wr 0 (KT.out V2 B2.out) hr2.out (by omega) hl)
  have HV2 := Lib.hid fun V (hV : But b w V) (hR : Rdc V b A ts.length c (i + 1) en wr 0) => value_some ts ⟨1, dn, ds, ⟨#[]⟩, 0⟩ V b A c (i + 1) en wr 0 (KT.out V hV) hR hin2 hl HV.out
  generalize hpk : pekT (ts.drop (i + 1)) = t at CK hk
  obtain ⟨tk, tp, tx, ta, tb, td⟩ := t
  simp only [tvT] at CK hk
  subst hk
  clear hpk
  go_upto_region 5 with (go_at_call 43; (with_reducible refine Calls.mono CK.out ?_); rintro ee V2' ⟨rfl, hv3⟩; have hv3 := Lib.hid hv3)
  have B2 := Lib.hid (B2.out.trans (But.of hv3.out))
  have T2 := Lib.hid (T2.out.keep hv3.out)
  have hr2 := Lib.hid (hr2.out.keep hv3.out)
  have hv2 := Lib.hid (hv2.out.trans (But.of hv3.out))
  have CV := Lib.hid (HV2.out V2' B2.out hr2.out)
  go_upto_region 6 with (go_at_call 88; (with_reducible refine Calls.mono CV.out ?_); rintro ee V3 ⟨rfl, hv4, hr3⟩; have hv4 := Lib.hid hv4; have hr3 := Lib.hid hr3)
  refine under_name ((Bel.refl V3).alloc _) fun U hcc hf hz hu => ?_
  have TM : VSlot U V3.heap.size ⟨1, dn, ds, ⟨#[]⟩, 0⟩ := by simp [VSlot, zv, hcc, hf, hz, go_sem]
  clear hcc hf hz
  have B3 := Lib.hid ((B2.out.trans hv4.out).trans (But.of hu))
  have T3 := Lib.hid ((T2.out.but hv4.out nb).keep hu)
  have KU := Lib.hid (hr3.out.keep hu)
  have hlt := T2.out.1
  have hs3 := hv4.out.size
  generalize hM : V3.heap.size = M at TM ⊢
  have mb : M ≠ b := by have := (KR.out).1; have := hv1.out.size; have := hv2.out.size; omega
  have nm : ¬ N = M := by omega
  have mn : ¬ M = N := by omega
  have TM := Lib.hid TM
  clear CV
  have CM := Lib.hid (HC.out 1 U B3.out)
  rw [HM.out] at CM
  obtain ⟨t0, ⟨t1, t2, t3, t4, t5⟩, ⟨g1, g2, g3, g4, g5⟩⟩ := TM.out
  simp only at t1 t2 t3 t4 t5
  go_upto_region 11 with ((with_reducible refine Calls.mono CM.out ?_); rintro ee U1 ⟨rfl, hm1⟩; have hm1 := Lib.hid hm1)
  clear t0 t1 t2 t3 t4 t5 g1 g2 g3 g4 g5
  have B4 := Lib.hid (B3.out.trans (But.of hm1.out))
  have T4 := Lib.hid (T3.out.keep hm1.out)
  have K4 := Lib.hid (KU.out.keep hm1.out)
  have M4 := Lib.hid (TM.out.keep hm1.out)
  have CN := Lib.hid fun W => neg_any dn ds W
  unfold negV at CN
  rw [if_pos HSN.out] at CN
  simp only [decA_is] at CN
  obtain ⟨t0, ⟨t1, t2, t3, t4, t5⟩, ⟨g1, g2, g3, g4, g5⟩⟩ := M4.out
  simp only at t1 t2 t3 t4 t5
  have M5 := Lib.hid fun W (hW : Bel U1 W) => M4.out.keep hW
  go_wp2_with (go_at_call 89; (with_reducible refine Calls.mono (CN.out _) ?_); rintro ee U2 ⟨rfl, hn1⟩; have hn1 := Lib.hid hn1; clear t0 t1 t2 t3 t4 t5 g1 g2 g3 g4 g5; obtain ⟨t0, ⟨t1, t2, t3, t4, t5⟩, ⟨g1, g2, g3, g4, g5⟩⟩ := M5.out U2 hn1.out; simp only at t1 t2 t3 t4 t5; obtain ⟨s0, ⟨s1, s2, s3, s4, s5⟩, ⟨e1, e2, e3, e4, e5⟩⟩ := T4.out.keep hn1.out; simp only [zv] at s1 s2 s3 s4 s5)
  have MW := Lib.hid (show w.heap.size ≤ M from by have := NW.out; have := T3.out.1; have := B2.out.size; have := hv4.out.size; omega)
  have xm : ¬ b = M := fun e => mb e.symm
  refine bodyPost_ret (v := .tuple #[.agg #[.int .i64 1, .int .i64 (-dn), .int .i64 ds, .string ⟨#[]⟩, .int .i64 0], .bool true]) (by simp [results, Tryz.results63, go_sem, s0, s1, s2, s3, s4, s5, t0, t1, t2, t3, t4, t5, x2, x5, nm, mn]) rfl ⟨i + 1 + 1, wr, 0, ?_, ?_, by omega, rfl, rfl, rfl, rfl⟩
  · repeat (first | with_reducible refine But.new ?_ (by first | exact NW.out | exact MW.out | (dsimp only; exact NW.out) | (dsimp only; exact MW.out)) _ | with_reducible exact B4.out.trans (But.of hn1.out))
  · repeat (first | with_reducible exact K4.out.keep hn1.out | with_reducible refine Rdc.far ?_ (by first | exact x2 | exact xm | (dsimp only; exact x2) | (dsimp only; exact xm)) _)
end Go.Proofs.YtdggbafpdjenmaaGreatDoor
namespace Go.Proofs.YtdggbafpdjenmaaGreatDoor
set_option linter.unusedSimpArgs false
set_option linter.unusedVariables false
open Go.RowKit
/-! A cell's value, whatever stands there; what may be a bound; signs. -/
theorem val_tokZ : valT tokZ = none := by decide
theorem uval_any (ts : List Tok) (F : Nat) (caps : Array Value) (q : Int → Bool) (eg : ∀ args w, (callFunc F args).run Tryz.prog w = .ok (.enter F args) w) (w : World) (b : Nat) (A : Option Addr) (c i : Nat) (en wr : Int) (hc : ∀ k W, But b w W → Calls Tryz.prog F (#[.int .i64 k] ++ caps) W fun e w' => e = .returned (.bool (q k)) ∧ Bel W w') (hT : Toks w A ts) (hr : Rdc w b A ts.length c i en wr 0) (hi : i ≤ ts.length) (hl : ts.length ≤ 65536) (hB : ∃ B, Toks B A ts ∧ Bel B w ∧ B.heap.size ≤ b) (hS : ∀ t ∈ ts, ksnd t = true) :
    Calls Tryz.prog 63 #[.pointer (some ⟨b, 0, none⟩), .func (.func F) #[] caps] w (ValOut ts b A c en wr (valP q (ts.drop i)) w) := by
  have lt : ∀ j, j ≤ ts.length → pekT (ts.drop j) ≠ tokZ → j < ts.length := by
    intro j hj h
    rcases Nat.lt_or_ge j ts.length with h2 | h2
    · exact h2
    · exact absurd (by rw [List.drop_eq_nil_of_le h2]; rfl) h
  cases hs : isS [45] (ts.drop i) with
  | false =>
    cases hv : valT (pekT (ts.drop i)) with
    | none => exact uval_none ts F caps q eg w b A c i en wr hc hT hr hi hl hB hs hv
    | some v =>
      have hin := lt i hi (fun e => by rw [e, val_tokZ] at hv; cases hv)
      cases hm : q v.kind with
      | false => exact uval_not ts F caps q eg w b A c i en wr hc hT hr hi hl hB v hs hin hv hm
      | true => exact uval_some ts F caps q eg w b A c i en wr hc hT hr hi hl hB v hs hin hv hm
  | true =>
    obtain ⟨hin, t0, hd0⟩ := tail_at hs
    by_cases hk : (pekT (ts.drop (i + 1))).kind = 1
    · have hin2 := lt (i + 1) (by omega) (fun e => by rw [e] at hk; exact absurd hk (by decide))
      obtain ⟨t, ht, hd⟩ := drop_tok hin2
      have hp : pekT (ts.drop (i + 1)) = t := by rw [hd]; rfl
      have hsn := hS t (List.mem_of_getElem? ht)
      rw [hp] at hk
      rcases snd_parts hsn with ⟨h1, h2, h3, h4, h5⟩ | ⟨h1, _⟩ | ⟨h1, _⟩ | ⟨h1, _⟩ | ⟨h1, _⟩
      · have hv : valT (pekT (ts.drop (i + 1))) = some ⟨1, t.dn, t.ds, ⟨#[]⟩, 0⟩ := by
          rw [hp]
          unfold valT
          rw [if_pos hk]
        cases hm : q 1 with
        | false => exact uneg_not ts F caps q eg w b A c i en wr hc hT hr hi hl hB t.dn t.ds h4 hs hin2 (by rw [hp]; exact hk) hv hm
        | true => exact uneg_some ts F caps q eg w b A c i en wr hc hT hr hi hl hB t.dn t.ds h4 hs hin2 (by rw [hp]; exact hk) hv hm
      all_goals (rw [hk] at h1; cases h1)
    · exact uneg_none ts F caps q eg w b A c i en wr hc hT hr hi hl hB hs hk
set_option maxRecDepth 100000 in
set_option maxHeartbeats 4000000 in
theorem any_any (k : Int) (w : World) : Calls Tryz.prog 65 #[.int .i64 k] w fun e w' => e = .returned (.bool true) ∧ Bel w w' := by
  go_enter Tryz.func65, Tryz.ntmps65
  go_wp2_with fail
  go_ret
  exact ⟨rfl, Bel.refl _⟩
set_option maxRecDepth 100000 in
set_option maxHeartbeats 4000000 in
theorem samek_any (k lk : Int) (tb : Nat) (w : World) (h : w.cell? ⟨tb, 1, none⟩ = some (.int .i64 lk)) : Calls Tryz.prog 90 #[.int .i64 k, .pointer (some ⟨tb, 0, none⟩)] w fun e w' => e = .returned (.bool (decide (k = lk))) ∧ Bel w w' := by
  by_cases hk : k = lk
  · have g : (k == lk) = true := beq_iff_eq.2 hk
    rw [decide_eq_true hk]
    clear hk
    go_enter Tryz.func90, Tryz.ntmps90
    go_wp2_with fail
    go_ret
    exact ⟨rfl, Bel.refl _⟩
  · have g : (k == lk) = false := beq_eq_false_iff_ne.2 hk
    rw [decide_eq_false hk]
    clear hk
    go_enter Tryz.func90, Tryz.ntmps90
    go_wp2_with fail
    go_ret
    exact ⟨rfl, Bel.refl _⟩
set_option maxRecDepth 100000 in
set_option maxHeartbeats 4000000 in
theorem signOf_any (k : Int) (w : World) : Calls Tryz.prog 25 #[.int .i64 k] w fun e w' => e = .returned (.string (bytesOf (if k = 2 ∨ k = 3 ∨ k = 4 ∨ k = 5 then sgnO k else []))) ∧ Bel w w' := by
  have hk : k = 2 ∨ k = 3 ∨ k = 4 ∨ k = 5 ∨ (k ≠ 2 ∧ k ≠ 3 ∧ k ≠ 4 ∧ k ≠ 5) := by omega
  rcases hk with rfl | rfl | rfl | rfl | ⟨n2, n3, n4, n5⟩
  · go_enter Tryz.func25, Tryz.ntmps25
    go_wp2_with fail
    go_ret
    exact ⟨rfl, Bel.refl _⟩
  · go_enter Tryz.func25, Tryz.ntmps25
    go_wp2_with fail
    go_ret
    exact ⟨rfl, Bel.refl _⟩
  · go_enter Tryz.func25, Tryz.ntmps25
    go_wp2_with fail
    go_ret
    exact ⟨rfl, Bel.refl _⟩
  · go_enter Tryz.func25, Tryz.ntmps25
    go_wp2_with fail
    go_ret
    exact ⟨rfl, Bel.refl _⟩
  · rw [if_neg (by omega)]
    have g2 : (k == 2) = false := beq_eq_false_iff_ne.2 n2
    have g3 : (k == 3) = false := beq_eq_false_iff_ne.2 n3
    have g4 : (k == 4) = false := beq_eq_false_iff_ne.2 n4
    have g5 : (k == 5) = false := beq_eq_false_iff_ne.2 n5
    clear n2 n3 n4 n5
    go_enter Tryz.func25, Tryz.ntmps25
    go_wp2_with fail
    go_ret
    exact ⟨rfl, Bel.refl _⟩
end Go.Proofs.YtdggbafpdjenmaaGreatDoor
