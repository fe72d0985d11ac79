import Derived.Test.YtdggbafpdjenmaaGreatDoorUcr
import Derived.Deep.LoopGhost
namespace Go.Proofs.YtdggbafpdjenmaaGreatDoor
set_option linter.unusedSimpArgs false
set_option linter.unusedVariables false
open Go.RowKit
/-! A test. -/
theorem tstP_low {r : List Tok} {K : Nat} (h2 : 2 ≤ K) (h5 : K ≤ 5) (hf : ∀ j : Nat, 2 ≤ j → j < K → isS (sgnO j) r = false) (ht : isS (sgnO K) r = true) : tstP r = oneP K (valP ordk r.tail) := by
  have hk : K = 2 ∨ K = 3 ∨ K = 4 ∨ K = 5 := by omega
  have s2 : sgnO ((2 : Nat) : Int) = [60] := rfl
  have s3 : sgnO ((3 : Nat) : Int) = [60, 61] := rfl
  have s4 : sgnO ((4 : Nat) : Int) = [62] := rfl
  have s5 : sgnO ((5 : Nat) : Int) = [62, 61] := rfl
  unfold tstP
  rcases hk with rfl | rfl | rfl | rfl
  · rw [s2] at ht
    rw [if_pos ht]; rfl
  · have f2 := hf 2 (by omega) (by omega)
    rw [s2] at f2
    rw [s3] at ht
    rw [if_neg (by rw [f2]; decide), if_pos ht]; rfl
  · have f2 := hf 2 (by omega) (by omega)
    have f3 := hf 3 (by omega) (by omega)
    rw [s2] at f2
    rw [s3] at f3
    rw [s4] at ht
    rw [if_neg (by rw [f2]; decide), if_neg (by rw [f3]; decide), if_pos ht]; rfl
  · have f2 := hf 2 (by omega) (by omega)
    have f3 := hf 3 (by omega) (by omega)
    have f4 := hf 4 (by omega) (by omega)
    rw [s2] at f2
    rw [s3] at f3
    rw [s4] at f4
    rw [s5] at ht
    rw [if_neg (by rw [f2]; decide), if_neg (by rw [f3]; decide), if_neg (by rw [f4]; decide), if_pos ht]; rfl
theorem tstP_rest {r : List Tok} (hf : ∀ j : Nat, 2 ≤ j → j < 6 → isS (sgnO j) r = false) : tstP r = if isS [91] r = true then intP false r.tail else if isS [40] r = true ∨ isS [93] r = true then intP true r.tail else oneP 1 (valP (fun _ => true) r) := by
  have f2 : isS [60] r = false := hf 2 (by omega) (by omega)
  have f3 : isS [60, 61] r = false := hf 3 (by omega) (by omega)
  have f4 : isS [62] r = false := hf 4 (by omega) (by omega)
  have f5 : isS [62, 61] r = false := hf 5 (by omega) (by omega)
  unfold tstP
  rw [if_neg (by rw [f2]; decide), if_neg (by rw [f3]; decide), if_neg (by rw [f4]; decide), if_neg (by rw [f5]; decide)]
/-- What a reader of a test gives, in one form for right and wrong. -/
def POut (ts : List Tok) (en wr : Int) (q : PR Tst) (x : Tst) (o : Bool) (j : Nat) (wr' e' : Int) : Prop := match q with
  | .ok y rest => x = y ∧ o = true ∧ ts.drop j = rest ∧ wr' = wr ∧ e' = 0
  | .bad rest f => o = false ∧ wr' = plcT en rest ∧ e' = f
theorem TstOut.of {ts : List Tok} {b : Nat} {A : Option Addr} {c : Nat} {en wr : Int} {q : PR Tst} {w : World} {r : Ending} {w' : World} {j : Nat} {wr' e' : Int} {x : Tst} {o : Bool}
    (h1 : But b w w') (h2 : Rdc w' b A ts.length c j en wr' e') (h3 : j ≤ ts.length) (h4 : r = .returned (.tuple #[x.val, .bool o])) (h5 : POut ts en wr q x o j wr' e') : TstOut ts b A c en wr q w r w' := by
  refine ⟨j, wr', e', h1, h2, h3, ?_⟩
  cases q with
  | ok y rest =>
    obtain ⟨rfl, rfl, h6, h7, h8⟩ := h5
    exact ⟨h4, h6, h7, h8⟩
  | bad rest f =>
    obtain ⟨rfl, h7, h8⟩ := h5
    exact ⟨⟨x, h4⟩, h7, h8⟩
theorem TstOut.out {ts : List Tok} {b : Nat} {A : Option Addr} {c : Nat} {en wr : Int} {q : PR Tst} {w : World} {r : Ending} {w' : World} (h : TstOut ts b A c en wr q w r w') :
    ∃ (j : Nat) (wr' e' : Int) (x : Tst) (o : Bool), But b w w' ∧ Rdc w' b A ts.length c j en wr' e' ∧ j ≤ ts.length ∧ r = .returned (.tuple #[x.val, .bool o]) ∧ POut ts en wr q x o j wr' e' := by
  obtain ⟨j, wr', e', h1, h2, h3, h4⟩ := h
  cases q with
  | ok y rest => exact ⟨j, wr', e', y, true, h1, h2, h3, h4.1, rfl, rfl, h4.2⟩
  | bad rest f =>
    obtain ⟨⟨x, h5⟩, h6⟩ := h4
    exact ⟨j, wr', e', x, false, h1, h2, h3, h5, rfl, h6⟩
theorem ValOut.out {ts : List Tok} {b : Nat} {A : Option Addr} {c : Nat} {en wr : Int} {q : PR Val} {w : World} {r : Ending} {w' : World} (h : ValOut ts b A c en wr q w r w') :
    ∃ (j : Nat) (wr' e' : Int) (v : Val) (o : Bool), But b w w' ∧ Rdc w' b A ts.length c j en wr' e' ∧ j ≤ ts.length ∧ r = .returned (.tuple #[.agg #[.int .i64 v.kind, .int .i64 v.n, .int .i64 v.scale, .string v.text, .int .i64 v.num], .bool o]) ∧ ∀ K, POut ts en wr (oneP K q) ⟨K, v, zv, false, false⟩ o j wr' e' := by
  obtain ⟨j, wr', e', h1, h2, h3, h4⟩ := h
  cases q with
  | ok y rest => exact ⟨j, wr', e', y, true, h1, h2, h3, h4.1, fun K => ⟨rfl, rfl, h4.2⟩⟩
  | bad rest f => exact ⟨j, wr', e', zv, false, h1, h2, h3, h4.1, fun K => ⟨rfl, h4.2⟩⟩
set_option maxRecDepth 100000 in
set_option maxHeartbeats 8000000 in
theorem utest_low (ts : List Tok) (w : World) (b : Nat) (A : Option Addr) (c i : Nat) (en wo : Int) (hT : Toks w A ts) (hr : Rdc w b A ts.length c i en wo 0) (hi : i ≤ ts.length) (hl : ts.length ≤ 65536) (hB : ∃ B, Toks B A ts ∧ Bel B w ∧ B.heap.size ≤ b) (hS : ∀ t ∈ ts, ksnd t = true) (K : Nat) (hK2 : 2 ≤ K) (hK5 : K ≤ 5) (hF : ∀ j : Nat, 2 ≤ j → j < K → isS (sgnO j) (ts.drop i) = false) (hs : isS (sgnO K) (ts.drop i) = true) :
    Calls Tryz.prog 42 #[.pointer (some ⟨b, 0, none⟩)] w (TstOut ts b A c en wo (tstP (ts.drop i)) w) := by
  rw [tstP_low hK2 hK5 hF hs]
  obtain ⟨hil, t9, htl⟩ := tail_at hs
  have hdt : (ts.drop i).tail = ts.drop (i + 1) := by rw [htl]; rfl
  rw [hdt]
  have hsK := Lib.hid hs
  clear hs hdt htl
  have hbw := hr.1
  obtain ⟨B, hTB, hBw, hBb⟩ := hB
  have KT := Lib.hid fun W (hW : But b w W) => hTB.keep (hW.bel hBw hBb)
  have HB0 := Lib.hid (show ∀ W, But b w W → ∃ B, Toks B A ts ∧ Bel B W ∧ B.heap.size ≤ b from fun W hW => ⟨B, hTB, hW.bel hBw hBb, hBb⟩)
  have HS0 := Lib.hid hS
  have KR := Lib.hid hr
  have HF := Lib.hid hF
  clear hT hr hTB hS hF
  go_enter Tryz.func42, Tryz.ntmps42
  go_upto_region 1 with fail
  refine under_name ((Bel.refl w).alloc _) fun W hcc hf hz hb => ?_
  have T1 : TFree W w.heap.size ⟨0, zv, zv, false, false⟩ := by simp [TFree, TstAt, zv, hcc, hf, hz, go_sem]
  clear hcc hf hz
  have hr0 := KR.out.keep hb
  generalize hN : w.heap.size = N at T1 ⊢
  have nb : N ≠ b := by omega
  have NW := Lib.hid (show w.heap.size ≤ N from by omega)
  clear hN
  have x2 : ¬ b = N := fun e => nb e.symm
  have K0 := Lib.hid (show But b w W ∧ Rdc W b A ts.length c i en wo 0 ∧ TFree W N ⟨0, zv, zv, false, false⟩ from ⟨But.of hb, hr0, T1⟩)
  clear T1 hr0
  go_wp2_with fail
  go_loopg [4] 4 (fun g kv wq => ∃ k : Nat, kv = .int .i64 k ∧ 2 ≤ k ∧ k ≤ K ∧ Hid (g = 6 - k) ∧ Hid (But b w wq ∧ Rdc wq b A ts.length c i en wo 0 ∧ TFree wq N ⟨0, zv, zv, false, false⟩))
  case atStart => exact ⟨2, rfl, by omega, by omega, Lib.hid (by omega), K0⟩
  case round =>
    obtain ⟨k, rfl, hk2, hkK, hg, hW⟩ := hrel
    by_cases hlt : k < K
    · have hsk : isK 5 (sgnO k) (ts.drop i) = false := HF.out k hk2 hlt
      have CO := Lib.hid fun X (hX : Bel wr X) => signOf_any k X
      have k5 : (k : Int) ≤ 5 := by omega
      rw [if_pos (by omega)] at CO
      have CS := Lib.hid fun X (hX : Bel wr X) => sign_any ts (sgnO k) X b A c i i en wo 0 (KT.out X (hW.out.1.trans (But.of hX))) (hW.out.2.1.keep hX) hi hl (by rw [if_neg (by rw [hsk]; decide)])
      rw [hsk] at CS
      generalize bytesOf (sgnO k) = z at CO CS
      have wk : IntKind.i64.wrap ((k : Int) + 1) = ((k + 1 : Nat) : Int) := by rw [IntKind.wrap_i64]; omega
      clear hsk
      go_upto_region 4 with fail
      go_region_with (first
        | (go_at_call 25; (with_reducible refine Calls.mono (CO.out _ (by first | exact Bel.refl _ | exact (Bel.refl _).drew | exact ((Bel.refl _).drew).drew | exact bel_drewN _ _)) ?_); rintro ee V1 ⟨rfl, hb1⟩; have hb1 : Bel wr V1 := (by first | exact hb1 | exact (Bel.refl _).drew.trans hb1 | exact ((Bel.refl _).drew).drew.trans hb1 | exact (bel_drewN _ _).trans hb1))
        | (go_at_call 40; (with_reducible refine Calls.mono (CS.out _ hb1) ?_); rintro ee V2 ⟨rfl, hb2, hr2⟩; have hq2 := Lib.hid (And.intro ((But.of hb1).trans hb2) hr2); clear hb1 hb2 hr2))
      go_wp2_with fail
      go_roundg (6 - (k + 1))
      case measure => have := hg.out; omega
      case rel => exact ⟨k + 1, rfl, by omega, by omega, Lib.hid rfl, Lib.hid ⟨hW.out.1.trans hq2.out.1, hq2.out.2, hW.out.2.2.but hq2.out.1 nb⟩⟩
    · obtain rfl : k = K := by omega
      clear hlt hk2 hkK hg
      have CO := Lib.hid fun X (hX : Bel wr X) => signOf_any k X
      have k5 : (k : Int) ≤ 5 := by omega
      rw [if_pos (by omega)] at CO
      have CS := Lib.hid fun X (hX : Bel wr X) => sign_any ts (sgnO k) X b A c i (i + 1) en wo 0 (KT.out X (hW.out.1.trans (But.of hX))) (hW.out.2.1.keep hX) hi hl (by rw [if_pos hsK.out])
      rw [show isK 5 (sgnO (k : Int)) (ts.drop i) = true from hsK.out] at CS
      have KV := Lib.hid fun X (hX : But b w X) (hR : Rdc X b A ts.length c (i + 1) en wo 0) => uval_ord ts X b A c (i + 1) en wo (KT.out X hX) hR hil hl (HB0.out X hX) HS0.out
      generalize bytesOf (sgnO k) = z at CO CS
      generalize valP ordk (ts.drop (i + 1)) = q at KV ⊢
      go_upto_region 4 with fail
      go_region_with (first
        | (go_at_call 25; (with_reducible refine Calls.mono (CO.out _ (by first | exact Bel.refl _ | exact (Bel.refl _).drew | exact ((Bel.refl _).drew).drew | exact bel_drewN _ _)) ?_); rintro ee V1 ⟨rfl, hb1⟩; have hb1 : Bel wr V1 := (by first | exact hb1 | exact (Bel.refl _).drew.trans hb1 | exact ((Bel.refl _).drew).drew.trans hb1 | exact (bel_drewN _ _).trans hb1))
        | (go_at_call 40; (with_reducible refine Calls.mono (CS.out _ hb1) ?_); rintro ee V2 ⟨rfl, hb2, hr2⟩; have hq2 := Lib.hid (And.intro ((But.of hb1).trans hb2) hr2); clear hb1 hb2 hr2))
      have hq3 := Lib.hid (And.intro (hW.out.1.trans hq2.out.1) hq2.out.2)
      have K3 := Lib.hid (hW.out.2.2.but hq2.out.1 nb)
      go_upto_region 6 with (first
        | (go_at_call 63; (with_reducible refine Calls.mono (KV.out _ hq3.out.1 hq3.out.2) ?_); rintro ee V4 ho; obtain ⟨j, wr', e', v, o, hb4, hr4, hj4, hee, hpo⟩ := ho.out; subst hee; have hq4 := Lib.hid (hq3.out.1.trans hb4); have hq5 := Lib.hid hr4; have hq6 := Lib.hid hpo; have hj5 := Lib.hid hj4; have hq7 := Lib.hid hb4; clear ho hpo hj4 hr4 hb4))
      refine under_name (w0 := V4) (by (repeat (first | with_reducible exact Bel.refl _ | with_reducible refine Bel.setCell ?_ (by first | exact Nat.le_refl _ | (dsimp only; omega)) _ | with_reducible refine Bel.alloc ?_ _ | with_reducible refine Bel.drew ?_ | with_reducible assumption | with_reducible refine Bel.trans ?_ (by assumption)))) fun W5 hc hf hz hb5 => ?_
      have T5 : VSlot W5 V4.heap.size v := by simp [VSlot, hc, hf, hz, go_sem]
      clear hc hf hz
      have hV4 : w.heap.size ≤ V4.heap.size := hq4.out.size
      have T1 := (K3.out.but hq7.out nb).keep hb5
      have hnm : N < V4.heap.size := (K3.out.but hq7.out nb).1
      generalize V4.heap.size = M at T5 hnm hV4
      have hq8 := Lib.hid (hq4.out.trans (But.of hb5))
      have hq9 := Lib.hid (hq5.out.keep hb5)
      clear hb5
      have nm : ¬ N = M := by omega
      obtain ⟨tz, ⟨t0, t1, t2, t3, t4⟩, ⟨g0, g1, g2, g3, g4⟩⟩ := T5
      obtain ⟨sz, ⟨s0, s1, s2, s3, s4, s5, s6, s7, s8, s9, s10, s11, s12⟩, ⟨f0, f1, f2, f3, f4, f5, f6, f7, f8, f9, f10, f11, f12⟩⟩ := T1; simp only [zv] at s0 s1 s2 s3 s4 s5 s6 s7 s8 s9 s10 s11 s12
      obtain ⟨vk, vn, vs, vt, vm⟩ := v
      simp only at t0 t1 t2 t3 t4
      go_wp2_with fail
      refine bodyPost_ret (v := .tuple #[(⟨k, ⟨vk, vn, vs, vt, vm⟩, zv, false, false⟩ : Tst).val, .bool o]) (by simp [results, Tryz.results42, go_sem, zv, sz, s0, s1, s2, s3, s4, s5, s6, s7, s8, s9, s10, s11, s12]) rfl (TstOut.of (j := j) ?_ ?_ hj5.out rfl (hq6.out _))
      · repeat (first | with_reducible exact hq8.out | refine But.new ?_ NW.out _)
      · repeat (first | with_reducible exact hq9.out | refine Rdc.far ?_ x2 _)
set_option maxRecDepth 100000 in
set_option maxHeartbeats 8000000 in
theorem utest_sq (ts : List Tok) (w : World) (b : Nat) (A : Option Addr) (c i : Nat) (en wo : Int) (hT : Toks w A ts) (hr : Rdc w b A ts.length c i en wo 0) (hi : i ≤ ts.length) (hl : ts.length ≤ 65536) (hB : ∃ B, Toks B A ts ∧ Bel B w ∧ B.heap.size ≤ b) (hS : ∀ t ∈ ts, ksnd t = true) (hF : ∀ j : Nat, 2 ≤ j → j < 6 → isS (sgnO j) (ts.drop i) = false) (h1 : isS [91] (ts.drop i) = true) :
    Calls Tryz.prog 42 #[.pointer (some ⟨b, 0, none⟩)] w (TstOut ts b A c en wo (tstP (ts.drop i)) w) := by
  rw [tstP_rest hF, if_pos h1]
  obtain ⟨hil, t9, htl⟩ := tail_at h1
  have hdt : (ts.drop i).tail = ts.drop (i + 1) := by rw [htl]; rfl
  rw [hdt]
  clear hdt htl
  have hbw := hr.1
  obtain ⟨B, hTB, hBw, hBb⟩ := hB
  have KT := Lib.hid fun W (hW : But b w W) => hTB.keep (hW.bel hBw hBb)
  have HB0 := Lib.hid (show ∀ W, But b w W → ∃ B, Toks B A ts ∧ Bel B W ∧ B.heap.size ≤ b from fun W hW => ⟨B, hTB, hW.bel hBw hBb, hBb⟩)
  have HS0 := Lib.hid hS
  have KR := Lib.hid hr
  have HF := Lib.hid hF
  clear hT hr hTB hS hF
  go_enter Tryz.func42, Tryz.ntmps42
  go_upto_region 1 with fail
  refine under_name ((Bel.refl w).alloc _) fun W hcc hf hz hb => ?_
  have T1 : TFree W w.heap.size ⟨0, zv, zv, false, false⟩ := by simp [TFree, TstAt, zv, hcc, hf, hz, go_sem]
  clear hcc hf hz
  have hr0 := KR.out.keep hb
  generalize hN : w.heap.size = N at T1 ⊢
  have nb : N ≠ b := by omega
  have NW := Lib.hid (show w.heap.size ≤ N from by omega)
  clear hN
  have x2 : ¬ b = N := fun e => nb e.symm
  have K0 := Lib.hid (show But b w W ∧ Rdc W b A ts.length c i en wo 0 ∧ TFree W N ⟨0, zv, zv, false, false⟩ from ⟨But.of hb, hr0, T1⟩)
  clear T1 hr0
  go_wp2_with fail
  go_loopg [4] 4 (fun g kv wq => ∃ k : Nat, kv = .int .i64 k ∧ 2 ≤ k ∧ k ≤ 6 ∧ Hid (g = 6 - k) ∧ Hid (But b w wq ∧ Rdc wq b A ts.length c i en wo 0 ∧ TFree wq N ⟨0, zv, zv, false, false⟩))
  case atStart => exact ⟨2, rfl, by omega, by omega, Lib.hid (by omega), K0⟩
  case round =>
    obtain ⟨k, rfl, hk2, hkK, hg, hW⟩ := hrel
    by_cases hlt : k < 6
    · have hsk : isK 5 (sgnO k) (ts.drop i) = false := HF.out k hk2 hlt
      have CO := Lib.hid fun X (hX : Bel wr X) => signOf_any k X
      have k5 : (k : Int) ≤ 5 := by omega
      rw [if_pos (by omega)] at CO
      have CS := Lib.hid fun X (hX : Bel wr X) => sign_any ts (sgnO k) X b A c i i en wo 0 (KT.out X (hW.out.1.trans (But.of hX))) (hW.out.2.1.keep hX) hi hl (by rw [if_neg (by rw [hsk]; decide)])
      rw [hsk] at CS
      generalize bytesOf (sgnO k) = z at CO CS
      have wk : IntKind.i64.wrap ((k : Int) + 1) = ((k + 1 : Nat) : Int) := by rw [IntKind.wrap_i64]; omega
      clear hsk
      go_upto_region 4 with fail
      go_region_with (first
        | (go_at_call 25; (with_reducible refine Calls.mono (CO.out _ (by first | exact Bel.refl _ | exact (Bel.refl _).drew | exact ((Bel.refl _).drew).drew | exact bel_drewN _ _)) ?_); rintro ee V1 ⟨rfl, hb1⟩; have hb1 : Bel wr V1 := (by first | exact hb1 | exact (Bel.refl _).drew.trans hb1 | exact ((Bel.refl _).drew).drew.trans hb1 | exact (bel_drewN _ _).trans hb1))
        | (go_at_call 40; (with_reducible refine Calls.mono (CS.out _ hb1) ?_); rintro ee V2 ⟨rfl, hb2, hr2⟩; have hq2 := Lib.hid (And.intro ((But.of hb1).trans hb2) hr2); clear hb1 hb2 hr2))
      go_wp2_with fail
      go_roundg (6 - (k + 1))
      case measure => have := hg.out; omega
      case rel => exact ⟨k + 1, rfl, by omega, by omega, Lib.hid rfl, Lib.hid ⟨hW.out.1.trans hq2.out.1, hq2.out.2, hW.out.2.2.but hq2.out.1 nb⟩⟩
    · obtain rfl : k = 6 := by omega
      clear hlt hk2 hkK hg
      have hp0 := Lib.hid (show But b w wr ∧ Rdc wr b A ts.length c i en wo 0 ∧ TFree wr N ⟨0, zv, zv, false, false⟩ from hW.out)
      have h1 : isK 5 [91] (ts.drop i) = true := h1
      have CA := fun X (hX : But b w X) (hR : Rdc X b A ts.length c i en wo 0) => sign_any ts [91] X b A c i (i + 1) en wo 0 (KT.out X hX) hR hi hl (by rw [if_pos h1])
      rw [show isK 5 [91] (ts.drop i) = true from h1, show bytesOf [91] = (⟨#[91]⟩ : ByteArray) from rfl] at CA
      have CA := Lib.hid CA
      have KI := Lib.hid fun X (hX : But b w X) (hR : Rdc X b A ts.length c (i + 1) en wo 0) => uint_any false ts X b A c (i + 1) en wo (KT.out X hX) hR hil hl (HB0.out X hX) HS0.out
      clear h1
      go_upto_region 8 with (go_at_call 40; (with_reducible refine Calls.mono (CA.out _ hp0.out.1 hp0.out.2.1) ?_); rintro ee V1 ⟨rfl, hb1, hr1⟩; have hp1 := Lib.hid (And.intro (hp0.out.1.trans hb1) (And.intro hr1 (hp0.out.2.2.but hb1 nb))); clear hb1 hr1)
      go_wp2_with (first
        | (go_at_call 64; (with_reducible refine Calls.mono (KI.out _ hp1.out.1 hp1.out.2.1) ?_); rintro ee V8 ho; obtain ⟨j, wr', e', x, o, hb8, hr8, hj8, hee, hpo⟩ := ho.out; subst hee; have hq4 := Lib.hid (hp1.out.1.trans hb8); have hq5 := Lib.hid hr8; have hq6 := Lib.hid hpo; have hj5 := Lib.hid hj8; obtain ⟨sz, ⟨s0, s1, s2, s3, s4, s5, s6, s7, s8, s9, s10, s11, s12⟩, ⟨f0, f1, f2, f3, f4, f5, f6, f7, f8, f9, f10, f11, f12⟩⟩ := hp1.out.2.2.but hb8 nb; simp only [zv] at s0 s1 s2 s3 s4 s5 s6 s7 s8 s9 s10 s11 s12; obtain ⟨xk, ⟨ak, an, as_, at_, am⟩, ⟨bk, bn, bs, bt, bm⟩, xo, xh⟩ := x; clear ho hpo hj8 hr8 hb8))
      refine bodyPost_ret (v := .tuple #[(⟨xk, ⟨ak, an, as_, at_, am⟩, ⟨bk, bn, bs, bt, bm⟩, xo, xh⟩ : Tst).val, .bool o]) (by simp [results, Tryz.results42, go_sem, zv, sz, s0, s1, s2, s3, s4, s5, s6, s7, s8, s9, s10, s11, s12]) rfl (TstOut.of (j := j) ?_ ?_ hj5.out rfl hq6.out)
      · repeat (first | with_reducible exact hq4.out | refine But.new ?_ NW.out _)
      · repeat (first | with_reducible exact hq5.out | refine Rdc.far ?_ x2 _)
set_option maxRecDepth 100000 in
set_option maxHeartbeats 8000000 in
theorem utest_rd (ts : List Tok) (w : World) (b : Nat) (A : Option Addr) (c i : Nat) (en wo : Int) (hT : Toks w A ts) (hr : Rdc w b A ts.length c i en wo 0) (hi : i ≤ ts.length) (hl : ts.length ≤ 65536) (hB : ∃ B, Toks B A ts ∧ Bel B w ∧ B.heap.size ≤ b) (hS : ∀ t ∈ ts, ksnd t = true) (hF : ∀ j : Nat, 2 ≤ j → j < 6 → isS (sgnO j) (ts.drop i) = false) (h1 : isS [91] (ts.drop i) = false) (h2 : isS [40] (ts.drop i) = true) :
    Calls Tryz.prog 42 #[.pointer (some ⟨b, 0, none⟩)] w (TstOut ts b A c en wo (tstP (ts.drop i)) w) := by
  rw [tstP_rest hF, if_neg (by rw [h1]; decide), if_pos (.inl h2)]
  obtain ⟨hil, t9, htl⟩ := tail_at h2
  have hdt : (ts.drop i).tail = ts.drop (i + 1) := by rw [htl]; rfl
  rw [hdt]
  clear hdt htl
  have hbw := hr.1
  obtain ⟨B, hTB, hBw, hBb⟩ := hB
  have KT := Lib.hid fun W (hW : But b w W) => hTB.keep (hW.bel hBw hBb)
  have HB0 := Lib.hid (show ∀ W, But b w W → ∃ B, Toks B A ts ∧ Bel B W ∧ B.heap.size ≤ b from fun W hW => ⟨B, hTB, hW.bel hBw hBb, hBb⟩)
  have HS0 := Lib.hid hS
  have KR := Lib.hid hr
  have HF := Lib.hid hF
  clear hT hr hTB hS hF
  go_enter Tryz.func42, Tryz.ntmps42
  go_upto_region 1 with fail
  refine under_name ((Bel.refl w).alloc _) fun W hcc hf hz hb => ?_
  have T1 : TFree W w.heap.size ⟨0, zv, zv, false, false⟩ := by simp [TFree, TstAt, zv, hcc, hf, hz, go_sem]
  clear hcc hf hz
  have hr0 := KR.out.keep hb
  generalize hN : w.heap.size = N at T1 ⊢
  have nb : N ≠ b := by omega
  have NW := Lib.hid (show w.heap.size ≤ N from by omega)
  clear hN
  have x2 : ¬ b = N := fun e => nb e.symm
  have K0 := Lib.hid (show But b w W ∧ Rdc W b A ts.length c i en wo 0 ∧ TFree W N ⟨0, zv, zv, false, false⟩ from ⟨But.of hb, hr0, T1⟩)
  clear T1 hr0
  go_wp2_with fail
  go_loopg [4] 4 (fun g kv wq => ∃ k : Nat, kv = .int .i64 k ∧ 2 ≤ k ∧ k ≤ 6 ∧ Hid (g = 6 - k) ∧ Hid (But b w wq ∧ Rdc wq b A ts.length c i en wo 0 ∧ TFree wq N ⟨0, zv, zv, false, false⟩))
  case atStart => exact ⟨2, rfl, by omega, by omega, Lib.hid (by omega), K0⟩
  case round =>
    obtain ⟨k, rfl, hk2, hkK, hg, hW⟩ := hrel
    by_cases hlt : k < 6
    · have hsk : isK 5 (sgnO k) (ts.drop i) = false := HF.out k hk2 hlt
      have CO := Lib.hid fun X (hX : Bel wr X) => signOf_any k X
      have k5 : (k : Int) ≤ 5 := by omega
      rw [if_pos (by omega)] at CO
      have CS := Lib.hid fun X (hX : Bel wr X) => sign_any ts (sgnO k) X b A c i i en wo 0 (KT.out X (hW.out.1.trans (But.of hX))) (hW.out.2.1.keep hX) hi hl (by rw [if_neg (by rw [hsk]; decide)])
      rw [hsk] at CS
      generalize bytesOf (sgnO k) = z at CO CS
      have wk : IntKind.i64.wrap ((k : Int) + 1) = ((k + 1 : Nat) : Int) := by rw [IntKind.wrap_i64]; omega
      clear hsk
      go_upto_region 4 with fail
      go_region_with (first
        | (go_at_call 25; (with_reducible refine Calls.mono (CO.out _ (by first | exact Bel.refl _ | exact (Bel.refl _).drew | exact ((Bel.refl _).drew).drew | exact bel_drewN _ _)) ?_); rintro ee V1 ⟨rfl, hb1⟩; have hb1 : Bel wr V1 := (by first | exact hb1 | exact (Bel.refl _).drew.trans hb1 | exact ((Bel.refl _).drew).drew.trans hb1 | exact (bel_drewN _ _).trans hb1))
        | (go_at_call 40; (with_reducible refine Calls.mono (CS.out _ hb1) ?_); rintro ee V2 ⟨rfl, hb2, hr2⟩; have hq2 := Lib.hid (And.intro ((But.of hb1).trans hb2) hr2); clear hb1 hb2 hr2))
      go_wp2_with fail
      go_roundg (6 - (k + 1))
      case measure => have := hg.out; omega
      case rel => exact ⟨k + 1, rfl, by omega, by omega, Lib.hid rfl, Lib.hid ⟨hW.out.1.trans hq2.out.1, hq2.out.2, hW.out.2.2.but hq2.out.1 nb⟩⟩
    · obtain rfl : k = 6 := by omega
      clear hlt hk2 hkK hg
      have hp0 := Lib.hid (show But b w wr ∧ Rdc wr b A ts.length c i en wo 0 ∧ TFree wr N ⟨0, zv, zv, false, false⟩ from hW.out)
      have h1 : isK 5 [91] (ts.drop i) = false := h1
      have CA := fun X (hX : But b w X) (hR : Rdc X b A ts.length c i en wo 0) => sign_any ts [91] X b A c i i en wo 0 (KT.out X hX) hR hi hl (by rw [if_neg (by rw [h1]; decide)])
      rw [show isK 5 [91] (ts.drop i) = false from h1, show bytesOf [91] = (⟨#[91]⟩ : ByteArray) from rfl] at CA
      have CA := Lib.hid CA
      have h2 : isK 5 [40] (ts.drop i) = true := h2
      have CB := fun X (hX : But b w X) (hR : Rdc X b A ts.length c i en wo 0) => sign_any ts [40] X b A c i (i + 1) en wo 0 (KT.out X hX) hR hi hl (by rw [if_pos h2])
      rw [show isK 5 [40] (ts.drop i) = true from h2, show bytesOf [40] = (⟨#[40]⟩ : ByteArray) from rfl] at CB
      have CB := Lib.hid CB
      have KI := Lib.hid fun X (hX : But b w X) (hR : Rdc X b A ts.length c (i + 1) en wo 0) => uint_any true ts X b A c (i + 1) en wo (KT.out X hX) hR hil hl (HB0.out X hX) HS0.out
      clear h1 h2
      go_upto_region 9 with (go_at_call 40; (with_reducible refine Calls.mono (CA.out _ hp0.out.1 hp0.out.2.1) ?_); rintro ee V1 ⟨rfl, hb1, hr1⟩; have hp1 := Lib.hid (And.intro (hp0.out.1.trans hb1) (And.intro hr1 (hp0.out.2.2.but hb1 nb))); clear hb1 hr1)
      go_upto_region 10 with (go_at_call 40; (with_reducible refine Calls.mono (CB.out _ hp1.out.1 hp1.out.2.1) ?_); rintro ee V2 ⟨rfl, hb2, hr2⟩; have hp2 := Lib.hid (And.intro (hp1.out.1.trans hb2) (And.intro hr2 (hp1.out.2.2.but hb2 nb))); clear hb2 hr2)
      go_wp2_with (first
        | (go_at_call 64; (with_reducible refine Calls.mono (KI.out _ hp2.out.1 hp2.out.2.1) ?_); rintro ee V8 ho; obtain ⟨j, wr', e', x, o, hb8, hr8, hj8, hee, hpo⟩ := ho.out; subst hee; have hq4 := Lib.hid (hp2.out.1.trans hb8); have hq5 := Lib.hid hr8; have hq6 := Lib.hid hpo; have hj5 := Lib.hid hj8; obtain ⟨sz, ⟨s0, s1, s2, s3, s4, s5, s6, s7, s8, s9, s10, s11, s12⟩, ⟨f0, f1, f2, f3, f4, f5, f6, f7, f8, f9, f10, f11, f12⟩⟩ := hp2.out.2.2.but hb8 nb; simp only [zv] at s0 s1 s2 s3 s4 s5 s6 s7 s8 s9 s10 s11 s12; obtain ⟨xk, ⟨ak, an, as_, at_, am⟩, ⟨bk, bn, bs, bt, bm⟩, xo, xh⟩ := x; clear ho hpo hj8 hr8 hb8))
      refine bodyPost_ret (v := .tuple #[(⟨xk, ⟨ak, an, as_, at_, am⟩, ⟨bk, bn, bs, bt, bm⟩, xo, xh⟩ : Tst).val, .bool o]) (by simp [results, Tryz.results42, go_sem, zv, sz, s0, s1, s2, s3, s4, s5, s6, s7, s8, s9, s10, s11, s12]) rfl (TstOut.of (j := j) ?_ ?_ hj5.out rfl hq6.out)
      · repeat (first | with_reducible exact hq4.out | refine But.new ?_ NW.out _)
      · repeat (first | with_reducible exact hq5.out | refine Rdc.far ?_ x2 _)
set_option maxRecDepth 100000 in
set_option maxHeartbeats 8000000 in
theorem utest_cl (ts : List Tok) (w : World) (b : Nat) (A : Option Addr) (c i : Nat) (en wo : Int) (hT : Toks w A ts) (hr : Rdc w b A ts.length c i en wo 0) (hi : i ≤ ts.length) (hl : ts.length ≤ 65536) (hB : ∃ B, Toks B A ts ∧ Bel B w ∧ B.heap.size ≤ b) (hS : ∀ t ∈ ts, ksnd t = true) (hF : ∀ j : Nat, 2 ≤ j → j < 6 → isS (sgnO j) (ts.drop i) = false) (h1 : isS [91] (ts.drop i) = false) (h2 : isS [40] (ts.drop i) = false) (h3 : isS [93] (ts.drop i) = true) :
    Calls Tryz.prog 42 #[.pointer (some ⟨b, 0, none⟩)] w (TstOut ts b A c en wo (tstP (ts.drop i)) w) := by
  rw [tstP_rest hF, if_neg (by rw [h1]; decide), if_pos (.inr h3)]
  obtain ⟨hil, t9, htl⟩ := tail_at h3
  have hdt : (ts.drop i).tail = ts.drop (i + 1) := by rw [htl]; rfl
  rw [hdt]
  clear hdt htl
  have hbw := hr.1
  obtain ⟨B, hTB, hBw, hBb⟩ := hB
  have KT := Lib.hid fun W (hW : But b w W) => hTB.keep (hW.bel hBw hBb)
  have HB0 := Lib.hid (show ∀ W, But b w W → ∃ B, Toks B A ts ∧ Bel B W ∧ B.heap.size ≤ b from fun W hW => ⟨B, hTB, hW.bel hBw hBb, hBb⟩)
  have HS0 := Lib.hid hS
  have KR := Lib.hid hr
  have HF := Lib.hid hF
  clear hT hr hTB hS hF
  go_enter Tryz.func42, Tryz.ntmps42
  go_upto_region 1 with fail
  refine under_name ((Bel.refl w).alloc _) fun W hcc hf hz hb => ?_
  have T1 : TFree W w.heap.size ⟨0, zv, zv, false, false⟩ := by simp [TFree, TstAt, zv, hcc, hf, hz, go_sem]
  clear hcc hf hz
  have hr0 := KR.out.keep hb
  generalize hN : w.heap.size = N at T1 ⊢
  have nb : N ≠ b := by omega
  have NW := Lib.hid (show w.heap.size ≤ N from by omega)
  clear hN
  have x2 : ¬ b = N := fun e => nb e.symm
  have K0 := Lib.hid (show But b w W ∧ Rdc W b A ts.length c i en wo 0 ∧ TFree W N ⟨0, zv, zv, false, false⟩ from ⟨But.of hb, hr0, T1⟩)
  clear T1 hr0
  go_wp2_with fail
  go_loopg [4] 4 (fun g kv wq => ∃ k : Nat, kv = .int .i64 k ∧ 2 ≤ k ∧ k ≤ 6 ∧ Hid (g = 6 - k) ∧ Hid (But b w wq ∧ Rdc wq b A ts.length c i en wo 0 ∧ TFree wq N ⟨0, zv, zv, false, false⟩))
  case atStart => exact ⟨2, rfl, by omega, by omega, Lib.hid (by omega), K0⟩
  case round =>
    obtain ⟨k, rfl, hk2, hkK, hg, hW⟩ := hrel
    by_cases hlt : k < 6
    · have hsk : isK 5 (sgnO k) (ts.drop i) = false := HF.out k hk2 hlt
      have CO := Lib.hid fun X (hX : Bel wr X) => signOf_any k X
      have k5 : (k : Int) ≤ 5 := by omega
      rw [if_pos (by omega)] at CO
      have CS := Lib.hid fun X (hX : Bel wr X) => sign_any ts (sgnO k) X b A c i i en wo 0 (KT.out X (hW.out.1.trans (But.of hX))) (hW.out.2.1.keep hX) hi hl (by rw [if_neg (by rw [hsk]; decide)])
      rw [hsk] at CS
      generalize bytesOf (sgnO k) = z at CO CS
      have wk : IntKind.i64.wrap ((k : Int) + 1) = ((k + 1 : Nat) : Int) := by rw [IntKind.wrap_i64]; omega
      clear hsk
      go_upto_region 4 with fail
      go_region_with (first
        | (go_at_call 25; (with_reducible refine Calls.mono (CO.out _ (by first | exact Bel.refl _ | exact (Bel.refl _).drew | exact ((Bel.refl _).drew).drew | exact bel_drewN _ _)) ?_); rintro ee V1 ⟨rfl, hb1⟩; have hb1 : Bel wr V1 := (by first | exact hb1 | exact (Bel.refl _).drew.trans hb1 | exact ((Bel.refl _).drew).drew.trans hb1 | exact (bel_drewN _ _).trans hb1))
        | (go_at_call 40; (with_reducible refine Calls.mono (CS.out _ hb1) ?_); rintro ee V2 ⟨rfl, hb2, hr2⟩; have hq2 := Lib.hid (And.intro ((But.of hb1).trans hb2) hr2); clear hb1 hb2 hr2))
      go_wp2_with fail
      go_roundg (6 - (k + 1))
      case measure => have := hg.out; omega
      case rel => exact ⟨k + 1, rfl, by omega, by omega, Lib.hid rfl, Lib.hid ⟨hW.out.1.trans hq2.out.1, hq2.out.2, hW.out.2.2.but hq2.out.1 nb⟩⟩
    · obtain rfl : k = 6 := by omega
      clear hlt hk2 hkK hg
      have hp0 := Lib.hid (show But b w wr ∧ Rdc wr b A ts.length c i en wo 0 ∧ TFree wr N ⟨0, zv, zv, false, false⟩ from hW.out)
      have h1 : isK 5 [91] (ts.drop i) = false := h1
      have CA := fun X (hX : But b w X) (hR : Rdc X b A ts.length c i en wo 0) => sign_any ts [91] X b A c i i en wo 0 (KT.out X hX) hR hi hl (by rw [if_neg (by rw [h1]; decide)])
      rw [show isK 5 [91] (ts.drop i) = false from h1, show bytesOf [91] = (⟨#[91]⟩ : ByteArray) from rfl] at CA
      have CA := Lib.hid CA
      have h2 : isK 5 [40] (ts.drop i) = false := h2
      have CB := fun X (hX : But b w X) (hR : Rdc X b A ts.length c i en wo 0) => sign_any ts [40] X b A c i i en wo 0 (KT.out X hX) hR hi hl (by rw [if_neg (by rw [h2]; decide)])
      rw [show isK 5 [40] (ts.drop i) = false from h2, show bytesOf [40] = (⟨#[40]⟩ : ByteArray) from rfl] at CB
      have CB := Lib.hid CB
      have h3 : isK 5 [93] (ts.drop i) = true := h3
      have CC := fun X (hX : But b w X) (hR : Rdc X b A ts.length c i en wo 0) => sign_any ts [93] X b A c i (i + 1) en wo 0 (KT.out X hX) hR hi hl (by rw [if_pos h3])
      rw [show isK 5 [93] (ts.drop i) = true from h3, show bytesOf [93] = (⟨#[93]⟩ : ByteArray) from rfl] at CC
      have CC := Lib.hid CC
      have KI := Lib.hid fun X (hX : But b w X) (hR : Rdc X b A ts.length c (i + 1) en wo 0) => uint_any true ts X b A c (i + 1) en wo (KT.out X hX) hR hil hl (HB0.out X hX) HS0.out
      clear h1 h2 h3
      go_upto_region 9 with (go_at_call 40; (with_reducible refine Calls.mono (CA.out _ hp0.out.1 hp0.out.2.1) ?_); rintro ee V1 ⟨rfl, hb1, hr1⟩; have hp1 := Lib.hid (And.intro (hp0.out.1.trans hb1) (And.intro hr1 (hp0.out.2.2.but hb1 nb))); clear hb1 hr1)
      go_upto_region 10 with (first
        | (go_at_call 40; (with_reducible refine Calls.mono (CB.out _ hp1.out.1 hp1.out.2.1) ?_); rintro ee V2 ⟨rfl, hb2, hr2⟩; have hp2 := Lib.hid (And.intro (hp1.out.1.trans hb2) (And.intro hr2 (hp1.out.2.2.but hb2 nb))); clear hb2 hr2)
        | (go_at_call 40; (with_reducible refine Calls.mono (CC.out _ hp2.out.1 hp2.out.2.1) ?_); rintro ee V3 ⟨rfl, hb3, hr3⟩; have hp3 := Lib.hid (And.intro (hp2.out.1.trans hb3) (And.intro hr3 (hp2.out.2.2.but hb3 nb))); clear hb3 hr3))
      go_wp2_with (first
        | (go_at_call 64; (with_reducible refine Calls.mono (KI.out _ hp3.out.1 hp3.out.2.1) ?_); rintro ee V8 ho; obtain ⟨j, wr', e', x, o, hb8, hr8, hj8, hee, hpo⟩ := ho.out; subst hee; have hq4 := Lib.hid (hp3.out.1.trans hb8); have hq5 := Lib.hid hr8; have hq6 := Lib.hid hpo; have hj5 := Lib.hid hj8; obtain ⟨sz, ⟨s0, s1, s2, s3, s4, s5, s6, s7, s8, s9, s10, s11, s12⟩, ⟨f0, f1, f2, f3, f4, f5, f6, f7, f8, f9, f10, f11, f12⟩⟩ := hp3.out.2.2.but hb8 nb; simp only [zv] at s0 s1 s2 s3 s4 s5 s6 s7 s8 s9 s10 s11 s12; obtain ⟨xk, ⟨ak, an, as_, at_, am⟩, ⟨bk, bn, bs, bt, bm⟩, xo, xh⟩ := x; clear ho hpo hj8 hr8 hb8))
      refine bodyPost_ret (v := .tuple #[(⟨xk, ⟨ak, an, as_, at_, am⟩, ⟨bk, bn, bs, bt, bm⟩, xo, xh⟩ : Tst).val, .bool o]) (by simp [results, Tryz.results42, go_sem, zv, sz, s0, s1, s2, s3, s4, s5, s6, s7, s8, s9, s10, s11, s12]) rfl (TstOut.of (j := j) ?_ ?_ hj5.out rfl hq6.out)
      · repeat (first | with_reducible exact hq4.out | refine But.new ?_ NW.out _)
      · repeat (first | with_reducible exact hq5.out | refine Rdc.far ?_ x2 _)
set_option maxRecDepth 100000 in
set_option maxHeartbeats 8000000 in
theorem utest_val (ts : List Tok) (w : World) (b : Nat) (A : Option Addr) (c i : Nat) (en wo : Int) (hT : Toks w A ts) (hr : Rdc w b A ts.length c i en wo 0) (hi : i ≤ ts.length) (hl : ts.length ≤ 65536) (hB : ∃ B, Toks B A ts ∧ Bel B w ∧ B.heap.size ≤ b) (hS : ∀ t ∈ ts, ksnd t = true) (hF : ∀ j : Nat, 2 ≤ j → j < 6 → isS (sgnO j) (ts.drop i) = false) (h1 : isS [91] (ts.drop i) = false) (h2 : isS [40] (ts.drop i) = false) (h3 : isS [93] (ts.drop i) = false) :
    Calls Tryz.prog 42 #[.pointer (some ⟨b, 0, none⟩)] w (TstOut ts b A c en wo (tstP (ts.drop i)) w) := by
  rw [tstP_rest hF, if_neg (by rw [h1]; decide), if_neg (by rw [h2, h3]; decide)]
  have hbw := hr.1
  obtain ⟨B, hTB, hBw, hBb⟩ := hB
  have KT := Lib.hid fun W (hW : But b w W) => hTB.keep (hW.bel hBw hBb)
  have HB0 := Lib.hid (show ∀ W, But b w W → ∃ B, Toks B A ts ∧ Bel B W ∧ B.heap.size ≤ b from fun W hW => ⟨B, hTB, hW.bel hBw hBb, hBb⟩)
  have HS0 := Lib.hid hS
  have KR := Lib.hid hr
  have HF := Lib.hid hF
  clear hT hr hTB hS hF
  go_enter Tryz.func42, Tryz.ntmps42
  go_upto_region 1 with fail
  refine under_name ((Bel.refl w).alloc _) fun W hcc hf hz hb => ?_
  have T1 : TFree W w.heap.size ⟨0, zv, zv, false, false⟩ := by simp [TFree, TstAt, zv, hcc, hf, hz, go_sem]
  clear hcc hf hz
  have hr0 := KR.out.keep hb
  generalize hN : w.heap.size = N at T1 ⊢
  have nb : N ≠ b := by omega
  have NW := Lib.hid (show w.heap.size ≤ N from by omega)
  clear hN
  have x2 : ¬ b = N := fun e => nb e.symm
  have K0 := Lib.hid (show But b w W ∧ Rdc W b A ts.length c i en wo 0 ∧ TFree W N ⟨0, zv, zv, false, false⟩ from ⟨But.of hb, hr0, T1⟩)
  clear T1 hr0
  go_wp2_with fail
  go_loopg [4] 4 (fun g kv wq => ∃ k : Nat, kv = .int .i64 k ∧ 2 ≤ k ∧ k ≤ 6 ∧ Hid (g = 6 - k) ∧ Hid (But b w wq ∧ Rdc wq b A ts.length c i en wo 0 ∧ TFree wq N ⟨0, zv, zv, false, false⟩))
  case atStart => exact ⟨2, rfl, by omega, by omega, Lib.hid (by omega), K0⟩
  case round =>
    obtain ⟨k, rfl, hk2, hkK, hg, hW⟩ := hrel
    by_cases hlt : k < 6
    · have hsk : isK 5 (sgnO k) (ts.drop i) = false := HF.out k hk2 hlt
      have CO := Lib.hid fun X (hX : Bel wr X) => signOf_any k X
      have k5 : (k : Int) ≤ 5 := by omega
      rw [if_pos (by omega)] at CO
      have CS := Lib.hid fun X (hX : Bel wr X) => sign_any ts (sgnO k) X b A c i i en wo 0 (KT.out X (hW.out.1.trans (But.of hX))) (hW.out.2.1.keep hX) hi hl (by rw [if_neg (by rw [hsk]; decide)])
      rw [hsk] at CS
      generalize bytesOf (sgnO k) = z at CO CS
      have wk : IntKind.i64.wrap ((k : Int) + 1) = ((k + 1 : Nat) : Int) := by rw [IntKind.wrap_i64]; omega
      clear hsk
      go_upto_region 4 with fail
      go_region_with (first
        | (go_at_call 25; (with_reducible refine Calls.mono (CO.out _ (by first | exact Bel.refl _ | exact (Bel.refl _).drew | exact ((Bel.refl _).drew).drew | exact bel_drewN _ _)) ?_); rintro ee V1 ⟨rfl, hb1⟩; have hb1 : Bel wr V1 := (by first | exact hb1 | exact (Bel.refl _).drew.trans hb1 | exact ((Bel.refl _).drew).drew.trans hb1 | exact (bel_drewN _ _).trans hb1))
        | (go_at_call 40; (with_reducible refine Calls.mono (CS.out _ hb1) ?_); rintro ee V2 ⟨rfl, hb2, hr2⟩; have hq2 := Lib.hid (And.intro ((But.of hb1).trans hb2) hr2); clear hb1 hb2 hr2))
      go_wp2_with fail
      go_roundg (6 - (k + 1))
      case measure => have := hg.out; omega
      case rel => exact ⟨k + 1, rfl, by omega, by omega, Lib.hid rfl, Lib.hid ⟨hW.out.1.trans hq2.out.1, hq2.out.2, hW.out.2.2.but hq2.out.1 nb⟩⟩
    · obtain rfl : k = 6 := by omega
      clear hlt hk2 hkK hg
      have hp0 := Lib.hid (show But b w wr ∧ Rdc wr b A ts.length c i en wo 0 ∧ TFree wr N ⟨0, zv, zv, false, false⟩ from hW.out)
      have h1 : isK 5 [91] (ts.drop i) = false := h1
      have CA := fun X (hX : But b w X) (hR : Rdc X b A ts.length c i en wo 0) => sign_any ts [91] X b A c i i en wo 0 (KT.out X hX) hR hi hl (by rw [if_neg (by rw [h1]; decide)])
      rw [show isK 5 [91] (ts.drop i) = false from h1, show bytesOf [91] = (⟨#[91]⟩ : ByteArray) from rfl] at CA
      have CA := Lib.hid CA
      have h2 : isK 5 [40] (ts.drop i) = false := h2
      have CB := fun X (hX : But b w X) (hR : Rdc X b A ts.length c i en wo 0) => sign_any ts [40] X b A c i i en wo 0 (KT.out X hX) hR hi hl (by rw [if_neg (by rw [h2]; decide)])
      rw [show isK 5 [40] (ts.drop i) = false from h2, show bytesOf [40] = (⟨#[40]⟩ : ByteArray) from rfl] at CB
      have CB := Lib.hid CB
      have h3 : isK 5 [93] (ts.drop i) = false := h3
      have CC := fun X (hX : But b w X) (hR : Rdc X b A ts.length c i en wo 0) => sign_any ts [93] X b A c i i en wo 0 (KT.out X hX) hR hi hl (by rw [if_neg (by rw [h3]; decide)])
      rw [show isK 5 [93] (ts.drop i) = false from h3, show bytesOf [93] = (⟨#[93]⟩ : ByteArray) from rfl] at CC
      have CC := Lib.hid CC
      have KV := Lib.hid fun X (hX : But b w X) (hR : Rdc X b A ts.length c i en wo 0) => uval_all ts X b A c i en wo (KT.out X hX) hR hi hl (HB0.out X hX) HS0.out
      clear h1 h2 h3
      go_upto_region 9 with (go_at_call 40; (with_reducible refine Calls.mono (CA.out _ hp0.out.1 hp0.out.2.1) ?_); rintro ee V1 ⟨rfl, hb1, hr1⟩; have hp1 := Lib.hid (And.intro (hp0.out.1.trans hb1) (And.intro hr1 (hp0.out.2.2.but hb1 nb))); clear hb1 hr1)
      go_upto_region 11 with (first
        | (go_at_call 40; (with_reducible refine Calls.mono (CB.out _ hp1.out.1 hp1.out.2.1) ?_); rintro ee V2 ⟨rfl, hb2, hr2⟩; have hp2 := Lib.hid (And.intro (hp1.out.1.trans hb2) (And.intro hr2 (hp1.out.2.2.but hb2 nb))); clear hb2 hr2)
        | (go_at_call 40; (with_reducible refine Calls.mono (CC.out _ hp2.out.1 hp2.out.2.1) ?_); rintro ee V3 ⟨rfl, hb3, hr3⟩; have hp3 := Lib.hid (And.intro (hp2.out.1.trans hb3) (And.intro hr3 (hp2.out.2.2.but hb3 nb))); clear hb3 hr3))
      have hq3 := Lib.hid (And.intro hp3.out.1 hp3.out.2.1)
      have K3 := Lib.hid hp3.out.2.2
      go_upto_region 12 with (first
        | (go_at_call 63; (with_reducible refine Calls.mono (KV.out _ hq3.out.1 hq3.out.2) ?_); rintro ee V4 ho; obtain ⟨j, wr', e', v, o, hb4, hr4, hj4, hee, hpo⟩ := ho.out; subst hee; have hq4 := Lib.hid (hq3.out.1.trans hb4); have hq5 := Lib.hid hr4; have hq6 := Lib.hid hpo; have hj5 := Lib.hid hj4; have hq7 := Lib.hid hb4; clear ho hpo hj4 hr4 hb4))
      refine under_name (w0 := V4) (by (repeat (first | with_reducible exact Bel.refl _ | with_reducible refine Bel.setCell ?_ (by first | exact Nat.le_refl _ | (dsimp only; omega)) _ | with_reducible refine Bel.alloc ?_ _ | with_reducible refine Bel.drew ?_ | with_reducible assumption | with_reducible refine Bel.trans ?_ (by assumption)))) fun W5 hc hf hz hb5 => ?_
      have T5 : VSlot W5 V4.heap.size v := by simp [VSlot, hc, hf, hz, go_sem]
      clear hc hf hz
      have hV4 : w.heap.size ≤ V4.heap.size := hq4.out.size
      have T1 := (K3.out.but hq7.out nb).keep hb5
      have hnm : N < V4.heap.size := (K3.out.but hq7.out nb).1
      generalize V4.heap.size = M at T5 hnm hV4
      have hq8 := Lib.hid (hq4.out.trans (But.of hb5))
      have hq9 := Lib.hid (hq5.out.keep hb5)
      clear hb5
      have nm : ¬ N = M := by omega
      obtain ⟨tz, ⟨t0, t1, t2, t3, t4⟩, ⟨g0, g1, g2, g3, g4⟩⟩ := T5
      obtain ⟨sz, ⟨s0, s1, s2, s3, s4, s5, s6, s7, s8, s9, s10, s11, s12⟩, ⟨f0, f1, f2, f3, f4, f5, f6, f7, f8, f9, f10, f11, f12⟩⟩ := T1; simp only [zv] at s0 s1 s2 s3 s4 s5 s6 s7 s8 s9 s10 s11 s12
      obtain ⟨vk, vn, vs, vt, vm⟩ := v
      simp only at t0 t1 t2 t3 t4
      go_wp2_with fail
      refine bodyPost_ret (v := .tuple #[(⟨1, ⟨vk, vn, vs, vt, vm⟩, zv, false, false⟩ : Tst).val, .bool o]) (by simp [results, Tryz.results42, go_sem, zv, sz, s0, s1, s2, s3, s4, s5, s6, s7, s8, s9, s10, s11, s12]) rfl (TstOut.of (j := j) ?_ ?_ hj5.out rfl (hq6.out _))
      · repeat (first | with_reducible exact hq8.out | refine But.new ?_ NW.out _)
      · repeat (first | with_reducible exact hq9.out | refine Rdc.far ?_ x2 _)
theorem utest_any (ts : List Tok) (w : World) (b : Nat) (A : Option Addr) (c i : Nat) (en wr : Int) (hT : Toks w A ts) (hr : Rdc w b A ts.length c i en wr 0) (hi : i ≤ ts.length) (hl : ts.length ≤ 65536) (hB : ∃ B, Toks B A ts ∧ Bel B w ∧ B.heap.size ≤ b) (hS : ∀ t ∈ ts, ksnd t = true) :
    Calls Tryz.prog 42 #[.pointer (some ⟨b, 0, none⟩)] w (TstOut ts b A c en wr (tstP (ts.drop i)) w) := by
  by_cases hF : ∀ j : Nat, 2 ≤ j → j < 6 → isS (sgnO j) (ts.drop i) = false
  · cases h1 : isS [91] (ts.drop i) with
    | true => exact utest_sq ts w b A c i en wr hT hr hi hl hB hS hF h1
    | false =>
      cases h2 : isS [40] (ts.drop i) with
      | true => exact utest_rd ts w b A c i en wr hT hr hi hl hB hS hF h1 h2
      | false =>
        cases h3 : isS [93] (ts.drop i) with
        | true => exact utest_cl ts w b A c i en wr hT hr hi hl hB hS hF h1 h2 h3
        | false => exact utest_val ts w b A c i en wr hT hr hi hl hB hS hF h1 h2 h3
  · have hx : ∃ K : Nat, 2 ≤ K ∧ K ≤ 5 ∧ (∀ j : Nat, 2 ≤ j → j < K → isS (sgnO j) (ts.drop i) = false) ∧ isS (sgnO K) (ts.drop i) = true := by
      have nt : ∀ {q : Bool}, ¬ q = true → q = false := fun {q} h => by cases q <;> simp_all
      by_cases a2 : isS (sgnO ((2 : Nat) : Int)) (ts.drop i) = true
      · exact ⟨2, by omega, by omega, fun j h h' => absurd h' (by omega), a2⟩
      by_cases a3 : isS (sgnO ((3 : Nat) : Int)) (ts.drop i) = true
      · refine ⟨3, by omega, by omega, ?_, a3⟩
        intro j h h'
        have e : j = 2 := by omega
        subst e
        exact nt a2
      by_cases a4 : isS (sgnO ((4 : Nat) : Int)) (ts.drop i) = true
      · refine ⟨4, by omega, by omega, ?_, a4⟩
        intro j h h'
        have e : j = 2 ∨ j = 3 := by omega
        rcases e with e | e
        · subst e; exact nt a2
        · subst e; exact nt a3
      by_cases a5 : isS (sgnO ((5 : Nat) : Int)) (ts.drop i) = true
      · refine ⟨5, by omega, by omega, ?_, a5⟩
        intro j h h'
        have e : j = 2 ∨ j = 3 ∨ j = 4 := by omega
        rcases e with e | e | e
        · subst e; exact nt a2
        · subst e; exact nt a3
        · subst e; exact nt a4
      refine absurd ?_ hF
      intro j h h'
      have e : j = 2 ∨ j = 3 ∨ j = 4 ∨ j = 5 := by omega
      rcases e with e | e | e | e
      · subst e; exact nt a2
      · subst e; exact nt a3
      · subst e; exact nt a4
      · subst e; exact nt a5
    obtain ⟨K, h2, h5, h6, h7⟩ := hx
    exact utest_low ts w b A c i en wr hT hr hi hl hB hS K h2 h5 h6 h7
end Go.Proofs.YtdggbafpdjenmaaGreatDoor
