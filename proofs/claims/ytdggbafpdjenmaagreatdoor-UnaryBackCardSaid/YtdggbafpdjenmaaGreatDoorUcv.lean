import Derived.Test.YtdggbafpdjenmaaGreatDoorUct
import Derived.Test.YtdggbafpdjenmaaGreatDoorUcu
namespace Go.Proofs.YtdggbafpdjenmaaGreatDoor
set_option linter.unusedSimpArgs false
set_option linter.unusedVariables false
open Go.RowKit
/-! All tests of a cell. -/
/-- A block that holds tests, free for stores. -/
def UFree (w : World) (b : Nat) (n : Bool) (v : Value) : Prop := b < w.heap.size ∧ (w.cell? ⟨b, 0, none⟩ = some (.bool false) ∧ w.cell? ⟨b, 1, none⟩ = some (.bool n) ∧ w.cell? ⟨b, 2, none⟩ = some v) ∧
  (w.frozen? ⟨b, 0, none⟩ = false ∧ w.frozen? ⟨b, 1, none⟩ = false ∧ w.frozen? ⟨b, 2, none⟩ = false)
theorem UFree.but {w w' : World} {b N : Nat} {n : Bool} {v : Value} (h : UFree w N n v) (hb : But b w w') (hN : N ≠ b) : UFree w' N n v := by
  obtain ⟨h0, h1, h2⟩ := h
  have c : ∀ o, w'.cell? ⟨N, o, none⟩ = w.cell? ⟨N, o, none⟩ := fun o => hb.cell (p := ⟨N, o, none⟩) h0 hN
  have f : ∀ o, w'.frozen? ⟨N, o, none⟩ = w.frozen? ⟨N, o, none⟩ := fun o => hb.frozen (p := ⟨N, o, none⟩) h0 hN
  refine ⟨Nat.lt_of_lt_of_le h0 hb.size, ?_, ?_⟩
  · simp only [c]
    exact h1
  · simp only [f]
    exact h2
theorem UFree.keep {w w' : World} {N : Nat} {n : Bool} {v : Value} (h : UFree w N n v) (hb : Bel w w') : UFree w' N n v := h.but (But.of (b := N + 1) hb) (by omega)
theorem UFree.put {w : World} {b : Nat} {n : Bool} {v : Value} (h : UFree w b n v) (v' : Value) : UFree (w.setCell ⟨b, 2, none⟩ v') b n v' := by
  obtain ⟨z, ⟨a0, a1, a2⟩, ⟨f0, f1, f2⟩⟩ := h
  simp [UFree, go_sem, z, a0, a1, a2, f0, f1, f2]
theorem rows_grow {w w' : World} {B : Nat} {v : Value} {l : List Tst} (h : TsRows w B v l) (hb : BelBut w w' v.ownBlock) : ∃ g, B ≤ g ∧ But g w w' := by
  cases hv : v.ownBlock with
  | none => exact ⟨B, Nat.le_refl _, belbut_but hb (.inr hv)⟩
  | some g => exact ⟨g, (World.ownsRow.lt h g hv).1, belbut_but hb (.inl hv)⟩
theorem tsts_but {w w' : World} {B N n c : Nat} {A : Option Addr} {l : List Tst} (h : TsRows w B (.slice A n c) l) (hN : N < B) (hb : But N w w') : Tsts w' A l := by
  obtain ⟨A8, c8, e8, h8, _⟩ := TsRows.val (TsRows.but h hb hN)
  simp only [Value.slice.injEq] at e8
  rw [e8.1]
  exact h8
theorem isS_pek (x : List UInt8) (r : List Tok) : isS x r = (decide ((pekT r).kind = 5) && decide ((pekT r).text = x)) := by
  cases r with
  | nil => rfl
  | cons t r => rfl
/-- What a reader of a cell gives. -/
def WOut (en : Int) (q : PR (Bool × List Tst)) (no' : Bool) (AA : Option Addr) (n cc : Nat) (w w' : World) (wo' e' : Int) : Prop := match q with
  | .ok (no, l) _ => no' = no ∧ n = l.length ∧ (∃ B, w.heap.size ≤ B ∧ TsRows w' B (.slice AA n cc) l) ∧ e' = 0
  | .bad rest f => wo' = plcT en rest ∧ e' = f
def WhoOut (ts : List Tok) (b : Nat) (A : Option Addr) (c : Nat) (en : Int) (q : PR (Bool × List Tst)) (w : World) (r : Ending) (w' : World) : Prop :=
  ∃ (j : Nat) (wo' e' : Int) (no' : Bool) (AA : Option Addr) (n cc : Nat), But b w w' ∧ Rdc w' b A ts.length c j en wo' e' ∧ r = .returned (.agg #[.bool false, .bool no', .slice AA n cc]) ∧ WOut en q no' AA n cc w w' wo' e'
theorem field_tok2 (a p d e f : Int) (x : ByteArray) (w : World) : (Instr.field 85 (.agg #[.int .i64 a, .int .i64 p, .string x, .int .i64 d, .int .i64 e, .int .i64 f]) 2).run Tryz.prog w = .ok (.string x) w := by kernel_rfl
attribute [local go_sem ↓] field_tok
attribute [local go_sem ↓] field_tok2
theorem PR_bad {α : Type} {q : PR α} : (∃ r f, q = .bad r f) ∨ ∃ x r, q = .ok x r := by
  cases q with
  | bad r f => exact .inl ⟨r, f, rfl⟩
  | ok x r => exact .inr ⟨x, r, rfl⟩
set_option maxRecDepth 100000 in
set_option maxHeartbeats 16000000 in
theorem uwho_fail (ts : List Tok) (w : World) (b : Nat) (A : Option Addr) (c i : Nat) (en wo : Int) (hT : Toks w A ts) (hr : Rdc w b A ts.length c i en wo 0) (hi : i ≤ ts.length) (hl : ts.length ≤ 65536) (hB : ∃ B, Toks B A ts ∧ Bel B w ∧ B.heap.size ≤ b) (hS : ∀ t ∈ ts, ksnd t = true) (hw : isK 4 [110, 111, 116] (ts.drop i) = true) (hs : isS [40] (ts.drop (i + 1)) = false) :
    Calls Tryz.prog 18 #[.pointer (some ⟨b, 0, none⟩)] w (WhoOut ts b A c en (whoP (ts.drop i)) w) := by
  have hil : i < ts.length := by
    have hne := isK_ne hw
    rcases Nat.lt_or_ge i ts.length with h2 | h2
    · exact h2
    · exact absurd (List.drop_eq_nil_of_le h2) hne
  have hQ := Lib.hid (show whoP (ts.drop i) = .bad (ts.drop (i + 1)) 5 from by
    unfold whoP
    rw [if_pos hw, List.tail_drop, if_neg (by rw [hs]; decide)])
  have hs := Lib.hid (show isK 5 [40] (ts.drop (i + 1)) = false from hs)
  replace hw := Lib.hid hw
  have hbw := hr.1
  obtain ⟨B, hTB, hBw, hBb⟩ := hB
  have KT := Lib.hid fun W (hW : But b w W) => hTB.keep (hW.bel hBw hBb)
  have HB0 := Lib.hid (show ∀ W, But b w W → ∃ B, Toks B A ts ∧ Bel B W ∧ B.heap.size ≤ b from fun W hW => ⟨B, hTB, hW.bel hBw hBb, hBb⟩)
  have HS0 := Lib.hid hS
  have KR := Lib.hid hr
  clear hT hr hTB hS
  have CW := fun X (hX : But b w X) (hR : Rdc X b A ts.length c i en wo 0) => word_any ts [110, 111, 116] X b A c i (i + 1) en wo 0 (KT.out X hX) hR hi hl (by rw [if_pos hw.out])
  rw [show isK 4 [110, 111, 116] (ts.drop i) = true from hw.out, show bytesOf [110, 111, 116] = (⟨#[110, 111, 116]⟩ : ByteArray) from rfl] at CW
  have CW := Lib.hid CW
  have CP := fun X (hX : But b w X) (hR : Rdc X b A ts.length c (i + 1) en wo 0) => sign_any ts [40] X b A c (i + 1) (i + 1) en wo 0 (KT.out X hX) hR hil hl (by rw [if_neg (by rw [hs.out]; decide)])
  rw [show isK 5 [40] (ts.drop (i + 1)) = false from hs.out, show bytesOf [40] = (⟨#[40]⟩ : ByteArray) from rfl] at CP
  have CP := Lib.hid CP
  have CT := Lib.hid fun X j (hX : But b w X) (hR : Rdc X b A ts.length c j en wo 0) (hj : j ≤ ts.length) => utest_any ts X b A c j en wo (KT.out X hX) hR hj hl (HB0.out X hX) HS0.out
  go_enter Tryz.func18, Tryz.ntmps18
  go_upto_region 1 with fail
  refine under_name ((Bel.refl w).alloc _) fun W hcc hf hz hb => ?_
  have T1 : UFree W w.heap.size false (.slice none 0 0) := by simp [UFree, hcc, hf, hz, go_sem]
  clear hcc hf hz
  have hr0 := KR.out.keep hb
  generalize hN : w.heap.size = N at T1 ⊢
  have nbN : N ≠ b := by omega
  have NW := Lib.hid (show w.heap.size ≤ N from by omega)
  clear hN
  have xN : ¬ b = N := fun e => nbN e.symm
  go_upto_region 2 with (go_at_call 39; (with_reducible refine Calls.mono (CW.out _ (But.of hb) hr0) ?_); rintro ee V1 ⟨rfl, hb1, hr1⟩; have hq1 := Lib.hid (And.intro ((But.of hb).trans hb1) (And.intro hr1 (T1.but hb1 nbN))); clear hb1 hr1)
  refine under_name (w0 := V1) (by (repeat (first | with_reducible exact Bel.refl _ | with_reducible refine Bel.setCell ?_ (by first | exact Nat.le_refl _ | (dsimp only; omega)) _ | with_reducible refine Bel.alloc ?_ _ | with_reducible refine Bel.drew ?_ | with_reducible assumption | with_reducible refine Bel.trans ?_ (by assumption)))) fun W2 hc hf hz hb2 => ?_
  have T2 : UFree W2 V1.heap.size true (.slice none 0 0) := by simp [UFree, hc, hf, hz, go_sem]
  clear hc hf hz T1 hr0
  have hNM : N < V1.heap.size := hq1.out.2.2.1
  have hbM : b < V1.heap.size := hq1.out.2.1.1
  have hwM : w.heap.size ≤ V1.heap.size := hq1.out.1.size
  generalize V1.heap.size = M at T2 hNM hbM hwM
  have nbM : M ≠ b := by omega
  have nNM : ¬ N = M := by omega
  have nMN : ¬ M = N := by omega
  have lMB : M < W2.heap.size := T2.1
  have lbB : b < W2.heap.size := by omega
  have lNB : N < W2.heap.size := by omega
  have lwB : w.heap.size ≤ W2.heap.size := by omega
  obtain ⟨BB, hBB⟩ : ∃ BB, BB = W2.heap.size := ⟨_, rfl⟩
  have s0 := Lib.hid (And.intro (hq1.out.1.trans (But.of hb2)) (And.intro (hq1.out.2.1.keep hb2) (And.intro (hq1.out.2.2.keep hb2) (And.intro T2 (TsRows.nil W2 BB)))))
  rw [← hBB] at lMB lbB lNB lwB
  have lBB := Lib.hid (Nat.le_of_eq hBB)
  clear hb2 T2 hBB hb
  obtain ⟨zm, ⟨m0, m1, m2⟩, ⟨l0, l1, l2⟩⟩ := s0.out.2.2.2.1
  go_upto_region 3 with (go_at_call 40; (with_reducible refine Calls.mono (CP.out _ s0.out.1 s0.out.2.1) ?_); rintro ee V3 ⟨rfl, hbV3, hrV3⟩; have s1 := Lib.hid (And.intro (s0.out.1.trans hbV3) (And.intro hrV3 (And.intro (s0.out.2.2.1.but hbV3 nbN) (And.intro (s0.out.2.2.2.1.but hbV3 nbM) (s0.out.2.2.2.2.but hbV3 lbB))))); clear hbV3 hrV3)
  have CF := Lib.hid fun X (hX : But b w X) (hR : Rdc X b A ts.length c (i + 1) en wo 0) => fail_any ts X b A c (i + 1) en wo 0 5 (plcT en (ts.drop (i + 1))) 5 (KT.out X hX) hR hil hl (by rw [if_pos rfl]) (by rw [if_pos rfl])
  go_upto_region 4 with (go_at_call 41; (with_reducible refine Calls.mono (CF.out _ s1.out.1 s1.out.2.1) ?_); rintro ee V9 ⟨rfl, hbV9, hrV9⟩; have s9 := Lib.hid (And.intro (s1.out.1.trans hbV9) (And.intro hrV9 (And.intro (s1.out.2.2.1.but hbV9 nbN) (And.intro (s1.out.2.2.2.1.but hbV9 nbM) (s1.out.2.2.2.2.but hbV9 lbB))))); clear hbV9 hrV9)
  clear zm m0 m1 m2 l0 l1 l2
  obtain ⟨zn, ⟨n0, n1, n2⟩, ⟨k0, k1, k2⟩⟩ := s9.out.2.2.1
  obtain ⟨zm, ⟨m0, m1, m2⟩, ⟨l0, l1, l2⟩⟩ := s9.out.2.2.2.1
  go_wp2_with fail
  refine bodyPost_ret (v := .agg #[.bool false, .bool true, .slice none 0 0]) (by simp [results, Tryz.results18, go_sem, zn, zm, n0, n1, n2, m0, m1, m2, nNM, nMN]) rfl ⟨(i + 1), (plcT en (ts.drop (i + 1))), 5, true, none, 0, 0, ?_, ?_, rfl, ?_⟩
  · repeat (first | with_reducible exact s9.out.1 | refine But.new ?_ NW.out _)
  · repeat (first | with_reducible exact s9.out.2.1 | refine Rdc.far ?_ xN _)
  · rw [hQ.out]
    exact ⟨rfl, rfl⟩
set_option maxRecDepth 100000 in
set_option maxHeartbeats 16000000 in
theorem uwho_false (ts : List Tok) (w : World) (b : Nat) (A : Option Addr) (c i : Nat) (en wo : Int) (hT : Toks w A ts) (hr : Rdc w b A ts.length c i en wo 0) (hi : i ≤ ts.length) (hl : ts.length ≤ 65536) (hB : ∃ B, Toks B A ts ∧ Bel B w ∧ B.heap.size ≤ b) (hS : ∀ t ∈ ts, ksnd t = true) (hw : isK 4 [110, 111, 116] (ts.drop i) = false) :
    Calls Tryz.prog 18 #[.pointer (some ⟨b, 0, none⟩)] w (WhoOut ts b A c en (whoP (ts.drop i)) w) := by
  have hQ := Lib.hid (show whoP (ts.drop i) = endP false (lstP 8 [] (ts.drop i)) from by
    unfold whoP
    rw [if_neg (by rw [hw]; decide)])
  replace hw := Lib.hid hw
  have hbw := hr.1
  obtain ⟨B, hTB, hBw, hBb⟩ := hB
  have KT := Lib.hid fun W (hW : But b w W) => hTB.keep (hW.bel hBw hBb)
  have HB0 := Lib.hid (show ∀ W, But b w W → ∃ B, Toks B A ts ∧ Bel B W ∧ B.heap.size ≤ b from fun W hW => ⟨B, hTB, hW.bel hBw hBb, hBb⟩)
  have HS0 := Lib.hid hS
  have KR := Lib.hid hr
  clear hT hr hTB hS
  have CW := fun X (hX : But b w X) (hR : Rdc X b A ts.length c i en wo 0) => word_any ts [110, 111, 116] X b A c i i en wo 0 (KT.out X hX) hR hi hl (by rw [if_neg (by rw [hw.out]; decide)])
  rw [show isK 4 [110, 111, 116] (ts.drop i) = false from hw.out, show bytesOf [110, 111, 116] = (⟨#[110, 111, 116]⟩ : ByteArray) from rfl] at CW
  have CW := Lib.hid CW
  have CT := Lib.hid fun X j (hX : But b w X) (hR : Rdc X b A ts.length c j en wo 0) (hj : j ≤ ts.length) => utest_any ts X b A c j en wo (KT.out X hX) hR hj hl (HB0.out X hX) HS0.out
  go_enter Tryz.func18, Tryz.ntmps18
  go_upto_region 1 with fail
  refine under_name ((Bel.refl w).alloc _) fun W hcc hf hz hb => ?_
  have T1 : UFree W w.heap.size false (.slice none 0 0) := by simp [UFree, hcc, hf, hz, go_sem]
  clear hcc hf hz
  have hr0 := KR.out.keep hb
  generalize hN : w.heap.size = N at T1 ⊢
  have nbN : N ≠ b := by omega
  have NW := Lib.hid (show w.heap.size ≤ N from by omega)
  clear hN
  have xN : ¬ b = N := fun e => nbN e.symm
  go_upto_region 2 with (go_at_call 39; (with_reducible refine Calls.mono (CW.out _ (But.of hb) hr0) ?_); rintro ee V1 ⟨rfl, hb1, hr1⟩; have hq1 := Lib.hid (And.intro ((But.of hb).trans hb1) (And.intro hr1 (T1.but hb1 nbN))); clear hb1 hr1)
  refine under_name (w0 := V1) (by (repeat (first | with_reducible exact Bel.refl _ | with_reducible refine Bel.setCell ?_ (by first | exact Nat.le_refl _ | (dsimp only; omega)) _ | with_reducible refine Bel.alloc ?_ _ | with_reducible refine Bel.drew ?_ | with_reducible assumption | with_reducible refine Bel.trans ?_ (by assumption)))) fun W2 hc hf hz hb2 => ?_
  have T2 : UFree W2 V1.heap.size false (.slice none 0 0) := by simp [UFree, hc, hf, hz, go_sem]
  clear hc hf hz T1 hr0
  have hNM : N < V1.heap.size := hq1.out.2.2.1
  have hbM : b < V1.heap.size := hq1.out.2.1.1
  have hwM : w.heap.size ≤ V1.heap.size := hq1.out.1.size
  generalize V1.heap.size = M at T2 hNM hbM hwM
  have nbM : M ≠ b := by omega
  have nNM : ¬ N = M := by omega
  have nMN : ¬ M = N := by omega
  have lMB : M < W2.heap.size := T2.1
  have lbB : b < W2.heap.size := by omega
  have lNB : N < W2.heap.size := by omega
  have lwB : w.heap.size ≤ W2.heap.size := by omega
  obtain ⟨BB, hBB⟩ : ∃ BB, BB = W2.heap.size := ⟨_, rfl⟩
  have s0 := Lib.hid (And.intro (hq1.out.1.trans (But.of hb2)) (And.intro (hq1.out.2.1.keep hb2) (And.intro (hq1.out.2.2.keep hb2) (And.intro T2 (TsRows.nil W2 BB)))))
  rw [← hBB] at lMB lbB lNB lwB
  have lBB := Lib.hid (Nat.le_of_eq hBB)
  clear hb2 T2 hBB hb
  obtain ⟨zm, ⟨m0, m1, m2⟩, ⟨l0, l1, l2⟩⟩ := s0.out.2.2.2.1
  go_wp2_with fail
  clear zm m0 m1 m2 l0 l1 l2
  go_loopg [] 8 (fun g wq => ∃ (j : Nat) (acc : List Tst) (A9 : Option Addr) (c9 : Nat), Hid (acc.length ≤ 7 ∧ g = 8 - acc.length) ∧ j ≤ ts.length ∧ Hid (lstP 8 [] (ts.drop i) = lstP (8 - acc.length) acc (ts.drop j)) ∧ Hid (BB ≤ wq.heap.size) ∧ Hid (But b w wq ∧ Rdc wq b A ts.length c j en wo 0 ∧ UFree wq N false (.slice none 0 0) ∧ UFree wq M false (.slice A9 acc.length c9) ∧ TsRows wq BB (.slice A9 acc.length c9) acc))
  case atStart => exact ⟨i, [], none, 0, Lib.hid ⟨by decide, rfl⟩, hi, Lib.hid rfl, lBB, s0⟩
  case round =>
    obtain ⟨j, acc, A0, c0, hn, hj, hlp0, hsz, s2⟩ := hrel
    have hnm := Lib.hid hn.out.2
    have CT2 := Lib.hid fun X (hX : But b w X) (hR : Rdc X b A ts.length c j en wo 0) => CT.out X j hX hR hj
    cases hq : tstP (ts.drop j) with
    | bad q f =>
      rw [hq] at CT2
      have hfin := Lib.hid (show lstP (8 - acc.length) acc (ts.drop j) = .bad q f from by
        rw [show 8 - acc.length = (7 - acc.length) + 1 by have := hn.out.1; omega]
        unfold lstP
        rw [hq])
      clear hq
      go_upto_region 6 with (go_at_call 42; (with_reducible refine Calls.mono (CT2.out _ s2.out.1 s2.out.2.1) ?_); rintro ee V4 ⟨j4, wo4, e4, hb4, hr4, hj4, hee⟩; simp only at hee; obtain ⟨⟨x, hee⟩, hw4, he4⟩ := hee; subst hee; have hq4 := Lib.hid (And.intro hw4 he4); have s3 := Lib.hid (And.intro (s2.out.1.trans hb4) (And.intro hr4 (And.intro (s2.out.2.2.1.but hb4 nbN) (And.intro (s2.out.2.2.2.1.but hb4 nbM) (s2.out.2.2.2.2.but hb4 lbB))))); clear hb4 hr4 hw4 he4)
      refine under_name (w0 := V4) (by (repeat (first | with_reducible exact Bel.refl _ | with_reducible refine Bel.setCell ?_ (by first | exact Nat.le_refl _ | (dsimp only; omega)) _ | with_reducible refine Bel.alloc ?_ _ | with_reducible refine Bel.drew ?_ | with_reducible assumption | with_reducible refine Bel.trans ?_ (by assumption)))) fun W5 hc hf hz hb5 => ?_
      clear hc hf hz
      have s4 := Lib.hid (And.intro (s3.out.1.trans (But.of hb5)) (And.intro (s3.out.2.1.keep hb5) (And.intro (s3.out.2.2.1.keep hb5) (And.intro (s3.out.2.2.2.1.keep hb5) (s3.out.2.2.2.2.keep hb5)))))
      clear hb5
      obtain ⟨zn, ⟨n0, n1, n2⟩, ⟨k0, k1, k2⟩⟩ := s4.out.2.2.1
      obtain ⟨zm, ⟨m0, m1, m2⟩, ⟨l0, l1, l2⟩⟩ := s4.out.2.2.2.1
      go_wp2_with fail
      refine bodyPost_ret (v := .agg #[.bool false, .bool false, .slice A0 acc.length c0]) (by simp [results, Tryz.results18, go_sem, zn, zm, n0, n1, n2, m0, m1, m2, nNM, nMN]) rfl ⟨j4, wo4, e4, false, A0, acc.length, c0, ?_, ?_, rfl, ?_⟩
      · repeat (first | with_reducible exact s4.out.1 | refine But.new ?_ NW.out _)
      · repeat (first | with_reducible exact s4.out.2.1 | refine Rdc.far ?_ xN _)
      · rw [hQ.out, hlp0.out, hfin.out]
        exact hq4.out
    | ok x r2 =>
      rw [hq] at CT2
      have hfin := Lib.hid (show lstP (8 - acc.length) acc (ts.drop j) = if isS [44] r2 = true then (if 7 - acc.length = 0 then .bad r2 10 else lstP (7 - acc.length) (acc ++ [x]) r2.tail) else .ok (acc ++ [x]) r2 from by
        rw [show 8 - acc.length = (7 - acc.length) + 1 by have := hn.out.1; omega]
        conv => lhs; unfold lstP
        rw [hq])
      clear hq
      go_upto_region 6 with (go_at_call 42; (with_reducible refine Calls.mono (CT2.out _ s2.out.1 s2.out.2.1) ?_); rintro ee V4 ⟨j1, wo4, e4, hb4, hr4, hj1, hee⟩; simp only at hee; obtain ⟨hee, hd4, hw4, he4⟩ := hee; have hw4 := hw4.symm; subst hee hw4 he4; have hd1 := Lib.hid hd4; have s3 := Lib.hid (And.intro (s2.out.1.trans hb4) (And.intro hr4 (And.intro (s2.out.2.2.1.but hb4 nbN) (And.intro (s2.out.2.2.2.1.but hb4 nbM) (s2.out.2.2.2.2.but hb4 lbB))))); have hsz4 := Lib.hid (Nat.le_trans hsz.out hb4.size); clear hb4 hr4 hd4)
      obtain ⟨xk, ⟨ak, an, as_, at_, am⟩, ⟨bk, bn, bs, bt, bm⟩, xo, xh⟩ := x
      refine under_name (w0 := V4) (by (repeat (first | with_reducible exact Bel.refl _ | with_reducible refine Bel.setCell ?_ (by first | exact Nat.le_refl _ | (dsimp only; omega)) _ | with_reducible refine Bel.alloc ?_ _ | with_reducible refine Bel.drew ?_ | with_reducible assumption | with_reducible refine Bel.trans ?_ (by assumption)))) fun W5 hc hf hz hb5 => ?_
      have T5 : TFree W5 V4.heap.size ⟨xk, ⟨ak, an, as_, at_, am⟩, ⟨bk, bn, bs, bt, bm⟩, xo, xh⟩ := by simp [TFree, TstAt, hc, hf, hz, go_sem]
      clear hc hf hz
      have s4 := Lib.hid (And.intro (s3.out.1.trans (But.of hb5)) (And.intro (s3.out.2.1.keep hb5) (And.intro (s3.out.2.2.1.keep hb5) (And.intro (s3.out.2.2.2.1.keep hb5) (s3.out.2.2.2.2.keep hb5)))))
      have hsz5 := Lib.hid (Nat.le_trans hsz4.out hb5.size)
      clear hb5
      generalize V4.heap.size = P at T5
      generalize hx : (⟨xk, ⟨ak, an, as_, at_, am⟩, ⟨bk, bn, bs, bt, bm⟩, xo, xh⟩ : Tst) = x at hfin
      replace hx := Lib.hid hx
      have AP := fun X (hX : Bel W5 X) ty => app_tst (s4.out.2.2.2.2.keep hX) (Nat.le_trans hsz5.out hX.size) (by have := hn.out.1; omega) ⟨xk, ⟨ak, an, as_, at_, am⟩, ⟨bk, bn, bs, bt, bm⟩, xo, xh⟩ ty
      replace AP := Lib.hid AP
      obtain ⟨sz, ⟨s0', s1', s2', s3', s4', s5', s6', s7', s8', s9', s10', s11', s12'⟩, -⟩ := T5
      simp only [Nat.zero_add] at s0' s1' s2' s3' s4' s5' s6' s7' s8' s9' s10' s11' s12'
      obtain ⟨zm, ⟨m0, m1, m2⟩, ⟨l0, l1, l2⟩⟩ := s4.out.2.2.2.1
      go_upto_region 8 with fail
      go_upto_region 9 with (at_builtin; refine wpList_app rfl (.tmp 34) (.tmp 36) _ rfl (AP.out _ (Bel.refl _) _) ?_; rintro v6 w6 ⟨M6, B6⟩; obtain ⟨A9, c9, rfl, _, _⟩ := M6.val; obtain ⟨g6, hg6, hbg⟩ := rows_grow s4.out.2.2.2.2 B6; have hbb6 := but_belB s4.out.1 s4.out.2.2.2.2 lwB B6; have s5 := Lib.hid (And.intro hbb6 (And.intro (s4.out.2.1.apart hbg (by omega)) (And.intro (s4.out.2.2.1.but hbg (by omega)) (And.intro (s4.out.2.2.2.1.but hbg (by omega)) M6)))); have hsz6 := Lib.hid (Nat.le_trans hsz5.out hbg.size); clear B6 hbg hbb6 M6 zm m0 m1 m2 l0 l1 l2; obtain ⟨zm, ⟨m0, m1, m2⟩, ⟨l0, l1, l2⟩⟩ := s5.out.2.2.2.1)
      have hU7 := s5.out.2.2.2.1.put (.slice A9 (acc ++ [(⟨xk, ⟨ak, an, as_, at_, am⟩, ⟨bk, bn, bs, bt, bm⟩, xo, xh⟩ : Tst)]).length c9)
      have hM7 : But M w6 (w6.setCell ⟨M, 2, none⟩ (.slice A9 (acc ++ [(⟨xk, ⟨ak, an, as_, at_, am⟩, ⟨bk, bn, bs, bt, bm⟩, xo, xh⟩ : Tst)]).length c9)) := (But.refl M w6).setCell (p := ⟨M, 2, none⟩) rfl _
      refine at_world (w6.setCell ⟨M, 2, none⟩ (.slice A9 (acc ++ [(⟨xk, ⟨ak, an, as_, at_, am⟩, ⟨bk, bn, bs, bt, bm⟩, xo, xh⟩ : Tst)]).length c9)) (by first | rfl | simp) ?_
      have s6 := Lib.hid (And.intro (s5.out.1.new (p := ⟨M, 2, none⟩) hwM (.slice A9 (acc ++ [(⟨xk, ⟨ak, an, as_, at_, am⟩, ⟨bk, bn, bs, bt, bm⟩, xo, xh⟩ : Tst)]).length c9)) (And.intro (s5.out.2.1.apart hM7 (by omega)) (And.intro (s5.out.2.2.1.but hM7 nNM) (And.intro hU7 (s5.out.2.2.2.2.but hM7 lMB)))))
      have hsz7 := Lib.hid (Nat.le_trans hsz6.out hM7.size)
      generalize w6.setCell ⟨M, 2, none⟩ (.slice A9 (acc ++ [(⟨xk, ⟨ak, an, as_, at_, am⟩, ⟨bk, bn, bs, bt, bm⟩, xo, xh⟩ : Tst)]).length c9) = W7 at s6 hsz7 ⊢
      rw [hx.out] at s6
      clear hU7 hM7 AP zm m0 m1 m2 l0 l1 l2 s0' s1' s2' s3' s4' s5' s6' s7' s8' s9' s10' s11' s12' sz
      obtain ⟨cnt, hn1e⟩ : ∃ cnt, cnt = (acc ++ [x]).length := ⟨_, rfl⟩
      rw [← hn1e] at s6
      have hk1 := Lib.hid (show cnt = acc.length + 1 from by rw [hn1e]; simp)
      have hn1 := Lib.hid hn1e
      clear hn1e
      have hlp := Lib.hid (hlp0.out.trans hfin.out)
      have hle := Lib.hid hn.out.1
      have CPK := Lib.hid fun X (hX : But b w X) (hR : Rdc X b A ts.length c j1 en wo 0) => peek_any ts X b A c j1 en wo 0 (KT.out X hX) hR hj1 hl
      clear hn hfin
      obtain ⟨zm, ⟨m0, m1, m2⟩, ⟨l0, l1, l2⟩⟩ := s6.out.2.2.2.1
      have n0 : (0 : Int) ≤ (cnt : Int) := by omega
      have n9 : (cnt : Int) ≤ 8 := by have := hle.out; have := hk1.out; omega
      cases hcm : isS [44] r2 with
      | true =>
        have hcj := Lib.hid (show isK 5 [44] (ts.drop j1) = true from by rw [hd1.out]; exact hcm)
        have hjl : j1 < ts.length := (tail_at hcj.out).1
        by_cases h8 : cnt = 8
        · have hlq := Lib.hid (show lstP 8 [] (ts.drop i) = .bad r2 10 from by
            rw [hlp.out, if_pos hcm, if_pos (by have := hk1.out; omega)])
          have hp := hcj.out
          rw [show isK 5 [44] (ts.drop j1) = _ from isS_pek [44] (ts.drop j1)] at hp
          replace hcm := Lib.hid hcm
          generalize pekT (ts.drop j1) = t at CPK hp
          obtain ⟨tk, tp, tx, ta, tb, td⟩ := t
          simp only [Bool.and_eq_true, decide_eq_true_eq] at hp
          obtain ⟨rfl, hx1⟩ := hp
          have c0 : ((bytesOf tx).toList == [44]) = true := by
            rw [hx1]
            decide +kernel
          clear hx1
          have g8 : ((cnt : Int) == 8) = true := beq_iff_eq.2 (by omega)
          clear h8 n0 n9
          go_upto_region 10 with (first
            | (go_at_call 43; (with_reducible refine Calls.mono (CPK.out _ s6.out.1 s6.out.2.1) ?_); rintro ee U1 ⟨rfl, hbU1⟩; have t1 := Lib.hid (And.intro (s6.out.1.trans (But.of hbU1)) (And.intro (s6.out.2.1.keep hbU1) (And.intro (s6.out.2.2.1.keep hbU1) (And.intro (s6.out.2.2.2.1.keep hbU1) (s6.out.2.2.2.2.keep hbU1))))); clear hbU1)
            | (go_at_call 43; (with_reducible refine Calls.mono (CPK.out _ t1.out.1 t1.out.2.1) ?_); rintro ee U2 ⟨rfl, hbU2⟩; have t2 := Lib.hid (And.intro (t1.out.1.trans (But.of hbU2)) (And.intro (t1.out.2.1.keep hbU2) (And.intro (t1.out.2.2.1.keep hbU2) (And.intro (t1.out.2.2.2.1.keep hbU2) (t1.out.2.2.2.2.keep hbU2))))); clear hbU2))
          have CF := Lib.hid fun X (hX : But b w X) (hR : Rdc X b A ts.length c j1 en wo 0) => fail_any ts X b A c j1 en wo 0 10 (plcT en (ts.drop j1)) 10 (KT.out X hX) hR hj1 hl (by rw [if_pos rfl]) (by rw [if_pos rfl])
          go_upto_region 11 with (go_at_call 41; (with_reducible refine Calls.mono (CF.out _ t2.out.1 t2.out.2.1) ?_); rintro ee V9 ⟨rfl, hbV9, hrV9⟩; have s9 := Lib.hid (And.intro (t2.out.1.trans hbV9) (And.intro hrV9 (And.intro (t2.out.2.2.1.but hbV9 nbN) (And.intro (t2.out.2.2.2.1.but hbV9 nbM) (t2.out.2.2.2.2.but hbV9 lbB))))); clear hbV9 hrV9)
          clear zm m0 m1 m2 l0 l1 l2
          obtain ⟨zn, ⟨n0, n1, n2⟩, ⟨k0, k1, k2⟩⟩ := s9.out.2.2.1
          obtain ⟨zm, ⟨m0, m1, m2⟩, ⟨l0, l1, l2⟩⟩ := s9.out.2.2.2.1
          go_wp2_with fail
          refine bodyPost_ret (v := .agg #[.bool false, .bool false, .slice A9 cnt c9]) (by simp [results, Tryz.results18, go_sem, zn, zm, n0, n1, n2, m0, m1, m2, nNM, nMN]) rfl ⟨j1, (plcT en (ts.drop j1)), 10, false, A9, cnt, c9, ?_, ?_, rfl, ?_⟩
          · repeat (first | with_reducible exact s9.out.1 | refine But.new ?_ NW.out _)
          · repeat (first | with_reducible exact s9.out.2.1 | refine Rdc.far ?_ xN _)
          · rw [hQ.out, hlq.out]
            exact ⟨by rw [hd1.out], rfl⟩
        · have g8 : ((cnt : Int) == 8) = false := beq_eq_false_iff_ne.2 (by omega)
          have hlq := Lib.hid (show lstP 8 [] (ts.drop i) = lstP (7 - acc.length) (acc ++ [x]) r2.tail from by
            rw [hlp.out, if_pos hcm, if_neg (by have := hle.out; have := hk1.out; omega)])
          replace hcm := Lib.hid hcm
          have CSG := fun X (hX : But b w X) (hR : Rdc X b A ts.length c j1 en wo 0) => sign_any ts [44] X b A c j1 (j1 + 1) en wo 0 (KT.out X hX) hR hj1 hl (by rw [if_pos hcj.out])
          rw [show isK 5 [44] (ts.drop j1) = true from hcj.out, show bytesOf [44] = (⟨#[44]⟩ : ByteArray) from rfl] at CSG
          have CSG := Lib.hid CSG
          have hd2 := Lib.hid (show ts.drop (j1 + 1) = r2.tail from by rw [← hd1.out, List.tail_drop])
          have h7 := Lib.hid (show acc.length ≤ 6 from by have := hle.out; have := hk1.out; omega)
          clear h8 n0 n9
          go_wp2_with (go_at_call 40; (with_reducible refine Calls.mono (CSG.out _ s6.out.1 s6.out.2.1) ?_); rintro ee V7 ⟨rfl, hbV7, hrV7⟩; have s7 := Lib.hid (And.intro (s6.out.1.trans hbV7) (And.intro hrV7 (And.intro (s6.out.2.2.1.but hbV7 nbN) (And.intro (s6.out.2.2.2.1.but hbV7 nbM) (s6.out.2.2.2.2.but hbV7 lbB))))); have hszs := Lib.hid (Nat.le_trans hsz7.out hbV7.size); clear hbV7 hrV7)
          go_roundg (8 - cnt)
          case measure => have := hnm.out; have := h7.out; have := hk1.out; omega
          case rel => exact ⟨j1 + 1, acc ++ [x], A9, c9, Lib.hid ⟨by rw [← hn1.out]; have := h7.out; have := hk1.out; omega, by rw [← hn1.out]⟩, hjl, Lib.hid (by rw [hlq.out, hd2.out, ← hn1.out, hk1.out, show 8 - (acc.length + 1) = 7 - acc.length by omega]), hszs, by rw [← hn1.out]; exact s7⟩
      | false =>
        have hlq := Lib.hid (show lstP 8 [] (ts.drop i) = .ok (acc ++ [x]) r2 from by
          rw [hlp.out, if_neg (by rw [hcm]; decide)])
        have hcj := Lib.hid (show isK 5 [44] (ts.drop j1) = false from by rw [hd1.out]; exact hcm)
        clear hcm
        have CSG := fun X (hX : But b w X) (hR : Rdc X b A ts.length c j1 en wo 0) => sign_any ts [44] X b A c j1 j1 en wo 0 (KT.out X hX) hR hj1 hl (by rw [if_neg (by rw [hcj.out]; decide)])
        rw [show isK 5 [44] (ts.drop j1) = false from hcj.out, show bytesOf [44] = (⟨#[44]⟩ : ByteArray) from rfl] at CSG
        have CSG := Lib.hid CSG
        by_cases h8 : cnt = 8
        · have g8 : ((cnt : Int) == 8) = true := beq_iff_eq.2 (by omega)
          have hp := hcj.out
          rw [show isK 5 [44] (ts.drop j1) = _ from isS_pek [44] (ts.drop j1)] at hp
          generalize pekT (ts.drop j1) = t at CPK hp
          obtain ⟨tk, tp, tx, ta, tb, td⟩ := t
          simp only at hp
          by_cases hx1 : tx = [44]
          · have hk5 : tk ≠ 5 := by rintro rfl; simp [hx1] at hp
            have c0 : ((bytesOf tx).toList == [44]) = true := by
              rw [hx1]
              decide +kernel
            clear hx1
            have gk : (tk == 5) = false := beq_eq_false_iff_ne.2 hk5
            clear h8 n0 n9 hp hk5
            go_upto_region 12 with (first
              | (go_at_call 43; (with_reducible refine Calls.mono (CPK.out _ s6.out.1 s6.out.2.1) ?_); rintro ee U1 ⟨rfl, hbU1⟩; have t1 := Lib.hid (And.intro (s6.out.1.trans (But.of hbU1)) (And.intro (s6.out.2.1.keep hbU1) (And.intro (s6.out.2.2.1.keep hbU1) (And.intro (s6.out.2.2.2.1.keep hbU1) (s6.out.2.2.2.2.keep hbU1))))); clear hbU1)
              | (go_at_call 43; (with_reducible refine Calls.mono (CPK.out _ t1.out.1 t1.out.2.1) ?_); rintro ee U2 ⟨rfl, hbU2⟩; have t2 := Lib.hid (And.intro (t1.out.1.trans (But.of hbU2)) (And.intro (t1.out.2.1.keep hbU2) (And.intro (t1.out.2.2.1.keep hbU2) (And.intro (t1.out.2.2.2.1.keep hbU2) (t1.out.2.2.2.2.keep hbU2))))); clear hbU2))
            go_upto_region 13 with (go_at_call 40; (with_reducible refine Calls.mono (CSG.out _ t2.out.1 t2.out.2.1) ?_); rintro ee V7a ⟨rfl, hbV7a, hrV7a⟩; have s7a := Lib.hid (And.intro (t2.out.1.trans hbV7a) (And.intro hrV7a (And.intro (t2.out.2.2.1.but hbV7a nbN) (And.intro (t2.out.2.2.2.1.but hbV7a nbM) (t2.out.2.2.2.2.but hbV7a lbB))))); clear hbV7a hrV7a)
            clear zm m0 m1 m2 l0 l1 l2
            obtain ⟨zm, ⟨m0, m1, m2⟩, ⟨l0, l1, l2⟩⟩ := s7a.out.2.2.2.1
            by_cases hz : j1 = ts.length
            · have hr2n := Lib.hid (show r2 = [] from by rw [← hd1.out, hz]; exact List.drop_length)
              have hdn : Hid (decide (j1 = ts.length) = true) := Lib.hid (decide_eq_true hz)
              have CD := fun X (hX : But b w X) (hR : Rdc X b A ts.length c j1 en wo 0) => done_any X b A ts.length c j1 en wo 0 hR
              rw [hdn.out] at CD
              replace CD := Lib.hid CD
              clear hz
              go_upto_region 15 with (go_at_call 44; (with_reducible refine Calls.mono (CD.out _ s7a.out.1 s7a.out.2.1) ?_); rintro ee V8 ⟨rfl, hbV8⟩; have s8 := Lib.hid (And.intro (s7a.out.1.trans (But.of hbV8)) (And.intro (s7a.out.2.1.keep hbV8) (And.intro (s7a.out.2.2.1.keep hbV8) (And.intro (s7a.out.2.2.2.1.keep hbV8) (s7a.out.2.2.2.2.keep hbV8))))); clear hbV8)
              clear zm m0 m1 m2 l0 l1 l2
              obtain ⟨zn, ⟨n0, n1, n2⟩, ⟨k0, k1, k2⟩⟩ := s8.out.2.2.1
              obtain ⟨zm, ⟨m0, m1, m2⟩, ⟨l0, l1, l2⟩⟩ := s8.out.2.2.2.1
              go_wp2_with fail
              refine bodyPost_ret (v := .agg #[.bool false, .bool false, .slice A9 cnt c9]) (by simp [results, Tryz.results18, go_sem, zn, zm, n0, n1, n2, m0, m1, m2, nNM, nMN]) rfl ⟨j1, wo, 0, false, A9, cnt, c9, ?_, ?_, rfl, ?_⟩
              · repeat (first | with_reducible exact s8.out.1 | refine But.new ?_ NW.out _)
              · repeat (first | with_reducible exact s8.out.2.1 | refine Rdc.far ?_ xN _)
              · rw [hQ.out, hlq.out]
                have e9 : endP false (PR.ok (acc ++ [x]) r2) = .ok (false, acc ++ [x]) [] := by
                  unfold endP
                  simp only
                  rw [if_neg (by decide), if_pos hr2n.out]
                rw [e9]
                refine ⟨rfl, hn1.out, ⟨BB, lwB, TsRows.but s8.out.2.2.2.2 (b := N) ?_ lNB⟩, rfl⟩
                repeat (first | with_reducible exact But.refl N V8 | refine But.setCell (b := N) ?_ rfl _)
            · have hr2n := Lib.hid (show ¬ r2 = [] from by rw [← hd1.out]; intro h9; have := List.drop_eq_nil_iff.1 h9; omega)
              have hdn : Hid (decide (j1 = ts.length) = false) := Lib.hid (decide_eq_false hz)
              have CD := fun X (hX : But b w X) (hR : Rdc X b A ts.length c j1 en wo 0) => done_any X b A ts.length c j1 en wo 0 hR
              rw [hdn.out] at CD
              replace CD := Lib.hid CD
              clear hz
              go_upto_region 14 with (go_at_call 44; (with_reducible refine Calls.mono (CD.out _ s7a.out.1 s7a.out.2.1) ?_); rintro ee V8 ⟨rfl, hbV8⟩; have s8 := Lib.hid (And.intro (s7a.out.1.trans (But.of hbV8)) (And.intro (s7a.out.2.1.keep hbV8) (And.intro (s7a.out.2.2.1.keep hbV8) (And.intro (s7a.out.2.2.2.1.keep hbV8) (s7a.out.2.2.2.2.keep hbV8))))); clear hbV8)
              clear zm m0 m1 m2 l0 l1 l2
              have CF := Lib.hid fun X (hX : But b w X) (hR : Rdc X b A ts.length c j1 en wo 0) => fail_any ts X b A c j1 en wo 0 5 (plcT en (ts.drop j1)) 5 (KT.out X hX) hR hj1 hl (by rw [if_pos rfl]) (by rw [if_pos rfl])
              go_upto_region 15 with (go_at_call 41; (with_reducible refine Calls.mono (CF.out _ s8.out.1 s8.out.2.1) ?_); rintro ee V9 ⟨rfl, hbV9, hrV9⟩; have s9 := Lib.hid (And.intro (s8.out.1.trans hbV9) (And.intro hrV9 (And.intro (s8.out.2.2.1.but hbV9 nbN) (And.intro (s8.out.2.2.2.1.but hbV9 nbM) (s8.out.2.2.2.2.but hbV9 lbB))))); clear hbV9 hrV9)
              obtain ⟨zn, ⟨n0, n1, n2⟩, ⟨k0, k1, k2⟩⟩ := s9.out.2.2.1
              obtain ⟨zm, ⟨m0, m1, m2⟩, ⟨l0, l1, l2⟩⟩ := s9.out.2.2.2.1
              go_wp2_with fail
              refine bodyPost_ret (v := .agg #[.bool false, .bool false, .slice A9 cnt c9]) (by simp [results, Tryz.results18, go_sem, zn, zm, n0, n1, n2, m0, m1, m2, nNM, nMN]) rfl ⟨j1, (plcT en (ts.drop j1)), 5, false, A9, cnt, c9, ?_, ?_, rfl, ?_⟩
              · repeat (first | with_reducible exact s9.out.1 | refine But.new ?_ NW.out _)
              · repeat (first | with_reducible exact s9.out.2.1 | refine Rdc.far ?_ xN _)
              · rw [hQ.out, hlq.out]
                have e9 : endP false (PR.ok (acc ++ [x]) r2) = .bad r2 5 := by
                  unfold endP
                  simp only
                  rw [if_neg (by decide), if_neg hr2n.out]
                rw [e9]
                exact ⟨by rw [hd1.out], rfl⟩
          · have c0 : ((bytesOf tx).toList == [44]) = false := by
              have t := beq_ne (a := bytesOf tx) (b := bytesOf [44]) (fun e => hx1 (bytesOf_inj e))
              rwa [show (bytesOf [44]).toList = [44] from by decide +kernel] at t
            clear h8 n0 n9 hp hx1
            go_upto_region 12 with (go_at_call 43; (with_reducible refine Calls.mono (CPK.out _ s6.out.1 s6.out.2.1) ?_); rintro ee U1 ⟨rfl, hbU1⟩; have t1 := Lib.hid (And.intro (s6.out.1.trans (But.of hbU1)) (And.intro (s6.out.2.1.keep hbU1) (And.intro (s6.out.2.2.1.keep hbU1) (And.intro (s6.out.2.2.2.1.keep hbU1) (s6.out.2.2.2.2.keep hbU1))))); clear hbU1)
            go_upto_region 13 with (go_at_call 40; (with_reducible refine Calls.mono (CSG.out _ t1.out.1 t1.out.2.1) ?_); rintro ee V7a ⟨rfl, hbV7a, hrV7a⟩; have s7a := Lib.hid (And.intro (t1.out.1.trans hbV7a) (And.intro hrV7a (And.intro (t1.out.2.2.1.but hbV7a nbN) (And.intro (t1.out.2.2.2.1.but hbV7a nbM) (t1.out.2.2.2.2.but hbV7a lbB))))); clear hbV7a hrV7a)
            clear zm m0 m1 m2 l0 l1 l2
            obtain ⟨zm, ⟨m0, m1, m2⟩, ⟨l0, l1, l2⟩⟩ := s7a.out.2.2.2.1
            by_cases hz : j1 = ts.length
            · have hr2n := Lib.hid (show r2 = [] from by rw [← hd1.out, hz]; exact List.drop_length)
              have hdn : Hid (decide (j1 = ts.length) = true) := Lib.hid (decide_eq_true hz)
              have CD := fun X (hX : But b w X) (hR : Rdc X b A ts.length c j1 en wo 0) => done_any X b A ts.length c j1 en wo 0 hR
              rw [hdn.out] at CD
              replace CD := Lib.hid CD
              clear hz
              go_upto_region 15 with (go_at_call 44; (with_reducible refine Calls.mono (CD.out _ s7a.out.1 s7a.out.2.1) ?_); rintro ee V8 ⟨rfl, hbV8⟩; have s8 := Lib.hid (And.intro (s7a.out.1.trans (But.of hbV8)) (And.intro (s7a.out.2.1.keep hbV8) (And.intro (s7a.out.2.2.1.keep hbV8) (And.intro (s7a.out.2.2.2.1.keep hbV8) (s7a.out.2.2.2.2.keep hbV8))))); clear hbV8)
              clear zm m0 m1 m2 l0 l1 l2
              obtain ⟨zn, ⟨n0, n1, n2⟩, ⟨k0, k1, k2⟩⟩ := s8.out.2.2.1
              obtain ⟨zm, ⟨m0, m1, m2⟩, ⟨l0, l1, l2⟩⟩ := s8.out.2.2.2.1
              go_wp2_with fail
              refine bodyPost_ret (v := .agg #[.bool false, .bool false, .slice A9 cnt c9]) (by simp [results, Tryz.results18, go_sem, zn, zm, n0, n1, n2, m0, m1, m2, nNM, nMN]) rfl ⟨j1, wo, 0, false, A9, cnt, c9, ?_, ?_, rfl, ?_⟩
              · repeat (first | with_reducible exact s8.out.1 | refine But.new ?_ NW.out _)
              · repeat (first | with_reducible exact s8.out.2.1 | refine Rdc.far ?_ xN _)
              · rw [hQ.out, hlq.out]
                have e9 : endP false (PR.ok (acc ++ [x]) r2) = .ok (false, acc ++ [x]) [] := by
                  unfold endP
                  simp only
                  rw [if_neg (by decide), if_pos hr2n.out]
                rw [e9]
                refine ⟨rfl, hn1.out, ⟨BB, lwB, TsRows.but s8.out.2.2.2.2 (b := N) ?_ lNB⟩, rfl⟩
                repeat (first | with_reducible exact But.refl N V8 | refine But.setCell (b := N) ?_ rfl _)
            · have hr2n := Lib.hid (show ¬ r2 = [] from by rw [← hd1.out]; intro h9; have := List.drop_eq_nil_iff.1 h9; omega)
              have hdn : Hid (decide (j1 = ts.length) = false) := Lib.hid (decide_eq_false hz)
              have CD := fun X (hX : But b w X) (hR : Rdc X b A ts.length c j1 en wo 0) => done_any X b A ts.length c j1 en wo 0 hR
              rw [hdn.out] at CD
              replace CD := Lib.hid CD
              clear hz
              go_upto_region 14 with (go_at_call 44; (with_reducible refine Calls.mono (CD.out _ s7a.out.1 s7a.out.2.1) ?_); rintro ee V8 ⟨rfl, hbV8⟩; have s8 := Lib.hid (And.intro (s7a.out.1.trans (But.of hbV8)) (And.intro (s7a.out.2.1.keep hbV8) (And.intro (s7a.out.2.2.1.keep hbV8) (And.intro (s7a.out.2.2.2.1.keep hbV8) (s7a.out.2.2.2.2.keep hbV8))))); clear hbV8)
              clear zm m0 m1 m2 l0 l1 l2
              have CF := Lib.hid fun X (hX : But b w X) (hR : Rdc X b A ts.length c j1 en wo 0) => fail_any ts X b A c j1 en wo 0 5 (plcT en (ts.drop j1)) 5 (KT.out X hX) hR hj1 hl (by rw [if_pos rfl]) (by rw [if_pos rfl])
              go_upto_region 15 with (go_at_call 41; (with_reducible refine Calls.mono (CF.out _ s8.out.1 s8.out.2.1) ?_); rintro ee V9 ⟨rfl, hbV9, hrV9⟩; have s9 := Lib.hid (And.intro (s8.out.1.trans hbV9) (And.intro hrV9 (And.intro (s8.out.2.2.1.but hbV9 nbN) (And.intro (s8.out.2.2.2.1.but hbV9 nbM) (s8.out.2.2.2.2.but hbV9 lbB))))); clear hbV9 hrV9)
              obtain ⟨zn, ⟨n0, n1, n2⟩, ⟨k0, k1, k2⟩⟩ := s9.out.2.2.1
              obtain ⟨zm, ⟨m0, m1, m2⟩, ⟨l0, l1, l2⟩⟩ := s9.out.2.2.2.1
              go_wp2_with fail
              refine bodyPost_ret (v := .agg #[.bool false, .bool false, .slice A9 cnt c9]) (by simp [results, Tryz.results18, go_sem, zn, zm, n0, n1, n2, m0, m1, m2, nNM, nMN]) rfl ⟨j1, (plcT en (ts.drop j1)), 5, false, A9, cnt, c9, ?_, ?_, rfl, ?_⟩
              · repeat (first | with_reducible exact s9.out.1 | refine But.new ?_ NW.out _)
              · repeat (first | with_reducible exact s9.out.2.1 | refine Rdc.far ?_ xN _)
              · rw [hQ.out, hlq.out]
                have e9 : endP false (PR.ok (acc ++ [x]) r2) = .bad r2 5 := by
                  unfold endP
                  simp only
                  rw [if_neg (by decide), if_neg hr2n.out]
                rw [e9]
                exact ⟨by rw [hd1.out], rfl⟩
        · have g8 : ((cnt : Int) == 8) = false := beq_eq_false_iff_ne.2 (by omega)
          clear h8 n0 n9
          go_upto_region 13 with (go_at_call 40; (with_reducible refine Calls.mono (CSG.out _ s6.out.1 s6.out.2.1) ?_); rintro ee V7a ⟨rfl, hbV7a, hrV7a⟩; have s7a := Lib.hid (And.intro (s6.out.1.trans hbV7a) (And.intro hrV7a (And.intro (s6.out.2.2.1.but hbV7a nbN) (And.intro (s6.out.2.2.2.1.but hbV7a nbM) (s6.out.2.2.2.2.but hbV7a lbB))))); clear hbV7a hrV7a)
          clear zm m0 m1 m2 l0 l1 l2
          obtain ⟨zm, ⟨m0, m1, m2⟩, ⟨l0, l1, l2⟩⟩ := s7a.out.2.2.2.1
          by_cases hz : j1 = ts.length
          · have hr2n := Lib.hid (show r2 = [] from by rw [← hd1.out, hz]; exact List.drop_length)
            have hdn : Hid (decide (j1 = ts.length) = true) := Lib.hid (decide_eq_true hz)
            have CD := fun X (hX : But b w X) (hR : Rdc X b A ts.length c j1 en wo 0) => done_any X b A ts.length c j1 en wo 0 hR
            rw [hdn.out] at CD
            replace CD := Lib.hid CD
            clear hz
            go_upto_region 15 with (go_at_call 44; (with_reducible refine Calls.mono (CD.out _ s7a.out.1 s7a.out.2.1) ?_); rintro ee V8 ⟨rfl, hbV8⟩; have s8 := Lib.hid (And.intro (s7a.out.1.trans (But.of hbV8)) (And.intro (s7a.out.2.1.keep hbV8) (And.intro (s7a.out.2.2.1.keep hbV8) (And.intro (s7a.out.2.2.2.1.keep hbV8) (s7a.out.2.2.2.2.keep hbV8))))); clear hbV8)
            clear zm m0 m1 m2 l0 l1 l2
            obtain ⟨zn, ⟨n0, n1, n2⟩, ⟨k0, k1, k2⟩⟩ := s8.out.2.2.1
            obtain ⟨zm, ⟨m0, m1, m2⟩, ⟨l0, l1, l2⟩⟩ := s8.out.2.2.2.1
            go_wp2_with fail
            refine bodyPost_ret (v := .agg #[.bool false, .bool false, .slice A9 cnt c9]) (by simp [results, Tryz.results18, go_sem, zn, zm, n0, n1, n2, m0, m1, m2, nNM, nMN]) rfl ⟨j1, wo, 0, false, A9, cnt, c9, ?_, ?_, rfl, ?_⟩
            · repeat (first | with_reducible exact s8.out.1 | refine But.new ?_ NW.out _)
            · repeat (first | with_reducible exact s8.out.2.1 | refine Rdc.far ?_ xN _)
            · rw [hQ.out, hlq.out]
              have e9 : endP false (PR.ok (acc ++ [x]) r2) = .ok (false, acc ++ [x]) [] := by
                unfold endP
                simp only
                rw [if_neg (by decide), if_pos hr2n.out]
              rw [e9]
              refine ⟨rfl, hn1.out, ⟨BB, lwB, TsRows.but s8.out.2.2.2.2 (b := N) ?_ lNB⟩, rfl⟩
              repeat (first | with_reducible exact But.refl N V8 | refine But.setCell (b := N) ?_ rfl _)
          · have hr2n := Lib.hid (show ¬ r2 = [] from by rw [← hd1.out]; intro h9; have := List.drop_eq_nil_iff.1 h9; omega)
            have hdn : Hid (decide (j1 = ts.length) = false) := Lib.hid (decide_eq_false hz)
            have CD := fun X (hX : But b w X) (hR : Rdc X b A ts.length c j1 en wo 0) => done_any X b A ts.length c j1 en wo 0 hR
            rw [hdn.out] at CD
            replace CD := Lib.hid CD
            clear hz
            go_upto_region 14 with (go_at_call 44; (with_reducible refine Calls.mono (CD.out _ s7a.out.1 s7a.out.2.1) ?_); rintro ee V8 ⟨rfl, hbV8⟩; have s8 := Lib.hid (And.intro (s7a.out.1.trans (But.of hbV8)) (And.intro (s7a.out.2.1.keep hbV8) (And.intro (s7a.out.2.2.1.keep hbV8) (And.intro (s7a.out.2.2.2.1.keep hbV8) (s7a.out.2.2.2.2.keep hbV8))))); clear hbV8)
            clear zm m0 m1 m2 l0 l1 l2
            have CF := Lib.hid fun X (hX : But b w X) (hR : Rdc X b A ts.length c j1 en wo 0) => fail_any ts X b A c j1 en wo 0 5 (plcT en (ts.drop j1)) 5 (KT.out X hX) hR hj1 hl (by rw [if_pos rfl]) (by rw [if_pos rfl])
            go_upto_region 15 with (go_at_call 41; (with_reducible refine Calls.mono (CF.out _ s8.out.1 s8.out.2.1) ?_); rintro ee V9 ⟨rfl, hbV9, hrV9⟩; have s9 := Lib.hid (And.intro (s8.out.1.trans hbV9) (And.intro hrV9 (And.intro (s8.out.2.2.1.but hbV9 nbN) (And.intro (s8.out.2.2.2.1.but hbV9 nbM) (s8.out.2.2.2.2.but hbV9 lbB))))); clear hbV9 hrV9)
            obtain ⟨zn, ⟨n0, n1, n2⟩, ⟨k0, k1, k2⟩⟩ := s9.out.2.2.1
            obtain ⟨zm, ⟨m0, m1, m2⟩, ⟨l0, l1, l2⟩⟩ := s9.out.2.2.2.1
            go_wp2_with fail
            refine bodyPost_ret (v := .agg #[.bool false, .bool false, .slice A9 cnt c9]) (by simp [results, Tryz.results18, go_sem, zn, zm, n0, n1, n2, m0, m1, m2, nNM, nMN]) rfl ⟨j1, (plcT en (ts.drop j1)), 5, false, A9, cnt, c9, ?_, ?_, rfl, ?_⟩
            · repeat (first | with_reducible exact s9.out.1 | refine But.new ?_ NW.out _)
            · repeat (first | with_reducible exact s9.out.2.1 | refine Rdc.far ?_ xN _)
            · rw [hQ.out, hlq.out]
              have e9 : endP false (PR.ok (acc ++ [x]) r2) = .bad r2 5 := by
                unfold endP
                simp only
                rw [if_neg (by decide), if_neg hr2n.out]
              rw [e9]
              exact ⟨by rw [hd1.out], rfl⟩
set_option maxRecDepth 100000 in
set_option maxHeartbeats 16000000 in
theorem uwho_true (ts : List Tok) (w : World) (b : Nat) (A : Option Addr) (c i : Nat) (en wo : Int) (hT : Toks w A ts) (hr : Rdc w b A ts.length c i en wo 0) (hi : i ≤ ts.length) (hl : ts.length ≤ 65536) (hB : ∃ B, Toks B A ts ∧ Bel B w ∧ B.heap.size ≤ b) (hS : ∀ t ∈ ts, ksnd t = true) (hw : isK 4 [110, 111, 116] (ts.drop i) = true) (hs : isS [40] (ts.drop (i + 1)) = true) :
    Calls Tryz.prog 18 #[.pointer (some ⟨b, 0, none⟩)] w (WhoOut ts b A c en (whoP (ts.drop i)) w) := by
  have hil : i < ts.length := by
    have hne := isK_ne hw
    rcases Nat.lt_or_ge i ts.length with h2 | h2
    · exact h2
    · exact absurd (List.drop_eq_nil_of_le h2) hne
  have hil2 : i + 1 + 1 ≤ ts.length := (tail_at hs).1
  have hQ := Lib.hid (show whoP (ts.drop i) = endP true (lstP 8 [] (ts.drop (i + 2))) from by
    unfold whoP
    rw [if_pos hw, List.tail_drop, if_pos hs, List.tail_drop])
  have hs := Lib.hid (show isK 5 [40] (ts.drop (i + 1)) = true from hs)
  replace hw := Lib.hid hw
  have hbw := hr.1
  obtain ⟨B, hTB, hBw, hBb⟩ := hB
  have KT := Lib.hid fun W (hW : But b w W) => hTB.keep (hW.bel hBw hBb)
  have HB0 := Lib.hid (show ∀ W, But b w W → ∃ B, Toks B A ts ∧ Bel B W ∧ B.heap.size ≤ b from fun W hW => ⟨B, hTB, hW.bel hBw hBb, hBb⟩)
  have HS0 := Lib.hid hS
  have KR := Lib.hid hr
  clear hT hr hTB hS
  have CW := fun X (hX : But b w X) (hR : Rdc X b A ts.length c i en wo 0) => word_any ts [110, 111, 116] X b A c i (i + 1) en wo 0 (KT.out X hX) hR hi hl (by rw [if_pos hw.out])
  rw [show isK 4 [110, 111, 116] (ts.drop i) = true from hw.out, show bytesOf [110, 111, 116] = (⟨#[110, 111, 116]⟩ : ByteArray) from rfl] at CW
  have CW := Lib.hid CW
  have CP := fun X (hX : But b w X) (hR : Rdc X b A ts.length c (i + 1) en wo 0) => sign_any ts [40] X b A c (i + 1) (i + 2) en wo 0 (KT.out X hX) hR hil hl (by rw [if_pos hs.out])
  rw [show isK 5 [40] (ts.drop (i + 1)) = true from hs.out, show bytesOf [40] = (⟨#[40]⟩ : ByteArray) from rfl] at CP
  have CP := Lib.hid CP
  have CT := Lib.hid fun X j (hX : But b w X) (hR : Rdc X b A ts.length c j en wo 0) (hj : j ≤ ts.length) => utest_any ts X b A c j en wo (KT.out X hX) hR hj hl (HB0.out X hX) HS0.out
  go_enter Tryz.func18, Tryz.ntmps18
  go_upto_region 1 with fail
  refine under_name ((Bel.refl w).alloc _) fun W hcc hf hz hb => ?_
  have T1 : UFree W w.heap.size false (.slice none 0 0) := by simp [UFree, hcc, hf, hz, go_sem]
  clear hcc hf hz
  have hr0 := KR.out.keep hb
  generalize hN : w.heap.size = N at T1 ⊢
  have nbN : N ≠ b := by omega
  have NW := Lib.hid (show w.heap.size ≤ N from by omega)
  clear hN
  have xN : ¬ b = N := fun e => nbN e.symm
  go_upto_region 2 with (go_at_call 39; (with_reducible refine Calls.mono (CW.out _ (But.of hb) hr0) ?_); rintro ee V1 ⟨rfl, hb1, hr1⟩; have hq1 := Lib.hid (And.intro ((But.of hb).trans hb1) (And.intro hr1 (T1.but hb1 nbN))); clear hb1 hr1)
  refine under_name (w0 := V1) (by (repeat (first | with_reducible exact Bel.refl _ | with_reducible refine Bel.setCell ?_ (by first | exact Nat.le_refl _ | (dsimp only; omega)) _ | with_reducible refine Bel.alloc ?_ _ | with_reducible refine Bel.drew ?_ | with_reducible assumption | with_reducible refine Bel.trans ?_ (by assumption)))) fun W2 hc hf hz hb2 => ?_
  have T2 : UFree W2 V1.heap.size true (.slice none 0 0) := by simp [UFree, hc, hf, hz, go_sem]
  clear hc hf hz T1 hr0
  have hNM : N < V1.heap.size := hq1.out.2.2.1
  have hbM : b < V1.heap.size := hq1.out.2.1.1
  have hwM : w.heap.size ≤ V1.heap.size := hq1.out.1.size
  generalize V1.heap.size = M at T2 hNM hbM hwM
  have nbM : M ≠ b := by omega
  have nNM : ¬ N = M := by omega
  have nMN : ¬ M = N := by omega
  have lMB : M < W2.heap.size := T2.1
  have lbB : b < W2.heap.size := by omega
  have lNB : N < W2.heap.size := by omega
  have lwB : w.heap.size ≤ W2.heap.size := by omega
  obtain ⟨BB, hBB⟩ : ∃ BB, BB = W2.heap.size := ⟨_, rfl⟩
  have s0 := Lib.hid (And.intro (hq1.out.1.trans (But.of hb2)) (And.intro (hq1.out.2.1.keep hb2) (And.intro (hq1.out.2.2.keep hb2) (And.intro T2 (TsRows.nil W2 BB)))))
  rw [← hBB] at lMB lbB lNB lwB
  have lBB := Lib.hid (Nat.le_of_eq hBB)
  clear hb2 T2 hBB hb
  obtain ⟨zm, ⟨m0, m1, m2⟩, ⟨l0, l1, l2⟩⟩ := s0.out.2.2.2.1
  go_wp2_with (go_at_call 40; (with_reducible refine Calls.mono (CP.out _ s0.out.1 s0.out.2.1) ?_); rintro ee V3 ⟨rfl, hbV3, hrV3⟩; have s1 := Lib.hid (And.intro (s0.out.1.trans hbV3) (And.intro hrV3 (And.intro (s0.out.2.2.1.but hbV3 nbN) (And.intro (s0.out.2.2.2.1.but hbV3 nbM) (s0.out.2.2.2.2.but hbV3 lbB))))); have hszS := Lib.hid (Nat.le_trans lBB.out hbV3.size); clear hbV3 hrV3)
  clear zm m0 m1 m2 l0 l1 l2
  go_loopg [] 8 (fun g wq => ∃ (j : Nat) (acc : List Tst) (A9 : Option Addr) (c9 : Nat), Hid (acc.length ≤ 7 ∧ g = 8 - acc.length) ∧ j ≤ ts.length ∧ Hid (lstP 8 [] (ts.drop (i + 2)) = lstP (8 - acc.length) acc (ts.drop j)) ∧ Hid (BB ≤ wq.heap.size) ∧ Hid (But b w wq ∧ Rdc wq b A ts.length c j en wo 0 ∧ UFree wq N false (.slice none 0 0) ∧ UFree wq M true (.slice A9 acc.length c9) ∧ TsRows wq BB (.slice A9 acc.length c9) acc))
  case atStart => exact ⟨(i + 2), [], none, 0, Lib.hid ⟨by decide, rfl⟩, hil2, Lib.hid rfl, hszS, s1⟩
  case round =>
    obtain ⟨j, acc, A0, c0, hn, hj, hlp0, hsz, s2⟩ := hrel
    have hnm := Lib.hid hn.out.2
    have CT2 := Lib.hid fun X (hX : But b w X) (hR : Rdc X b A ts.length c j en wo 0) => CT.out X j hX hR hj
    cases hq : tstP (ts.drop j) with
    | bad q f =>
      rw [hq] at CT2
      have hfin := Lib.hid (show lstP (8 - acc.length) acc (ts.drop j) = .bad q f from by
        rw [show 8 - acc.length = (7 - acc.length) + 1 by have := hn.out.1; omega]
        unfold lstP
        rw [hq])
      clear hq
      go_upto_region 6 with (go_at_call 42; (with_reducible refine Calls.mono (CT2.out _ s2.out.1 s2.out.2.1) ?_); rintro ee V4 ⟨j4, wo4, e4, hb4, hr4, hj4, hee⟩; simp only at hee; obtain ⟨⟨x, hee⟩, hw4, he4⟩ := hee; subst hee; have hq4 := Lib.hid (And.intro hw4 he4); have s3 := Lib.hid (And.intro (s2.out.1.trans hb4) (And.intro hr4 (And.intro (s2.out.2.2.1.but hb4 nbN) (And.intro (s2.out.2.2.2.1.but hb4 nbM) (s2.out.2.2.2.2.but hb4 lbB))))); clear hb4 hr4 hw4 he4)
      refine under_name (w0 := V4) (by (repeat (first | with_reducible exact Bel.refl _ | with_reducible refine Bel.setCell ?_ (by first | exact Nat.le_refl _ | (dsimp only; omega)) _ | with_reducible refine Bel.alloc ?_ _ | with_reducible refine Bel.drew ?_ | with_reducible assumption | with_reducible refine Bel.trans ?_ (by assumption)))) fun W5 hc hf hz hb5 => ?_
      clear hc hf hz
      have s4 := Lib.hid (And.intro (s3.out.1.trans (But.of hb5)) (And.intro (s3.out.2.1.keep hb5) (And.intro (s3.out.2.2.1.keep hb5) (And.intro (s3.out.2.2.2.1.keep hb5) (s3.out.2.2.2.2.keep hb5)))))
      clear hb5
      obtain ⟨zn, ⟨n0, n1, n2⟩, ⟨k0, k1, k2⟩⟩ := s4.out.2.2.1
      obtain ⟨zm, ⟨m0, m1, m2⟩, ⟨l0, l1, l2⟩⟩ := s4.out.2.2.2.1
      go_wp2_with fail
      refine bodyPost_ret (v := .agg #[.bool false, .bool true, .slice A0 acc.length c0]) (by simp [results, Tryz.results18, go_sem, zn, zm, n0, n1, n2, m0, m1, m2, nNM, nMN]) rfl ⟨j4, wo4, e4, true, A0, acc.length, c0, ?_, ?_, rfl, ?_⟩
      · repeat (first | with_reducible exact s4.out.1 | refine But.new ?_ NW.out _)
      · repeat (first | with_reducible exact s4.out.2.1 | refine Rdc.far ?_ xN _)
      · rw [hQ.out, hlp0.out, hfin.out]
        exact hq4.out
    | ok x r2 =>
      rw [hq] at CT2
      have hfin := Lib.hid (show lstP (8 - acc.length) acc (ts.drop j) = if isS [44] r2 = true then (if 7 - acc.length = 0 then .bad r2 10 else lstP (7 - acc.length) (acc ++ [x]) r2.tail) else .ok (acc ++ [x]) r2 from by
        rw [show 8 - acc.length = (7 - acc.length) + 1 by have := hn.out.1; omega]
        conv => lhs; unfold lstP
        rw [hq])
      clear hq
      go_upto_region 6 with (go_at_call 42; (with_reducible refine Calls.mono (CT2.out _ s2.out.1 s2.out.2.1) ?_); rintro ee V4 ⟨j1, wo4, e4, hb4, hr4, hj1, hee⟩; simp only at hee; obtain ⟨hee, hd4, hw4, he4⟩ := hee; have hw4 := hw4.symm; subst hee hw4 he4; have hd1 := Lib.hid hd4; have s3 := Lib.hid (And.intro (s2.out.1.trans hb4) (And.intro hr4 (And.intro (s2.out.2.2.1.but hb4 nbN) (And.intro (s2.out.2.2.2.1.but hb4 nbM) (s2.out.2.2.2.2.but hb4 lbB))))); have hsz4 := Lib.hid (Nat.le_trans hsz.out hb4.size); clear hb4 hr4 hd4)
      obtain ⟨xk, ⟨ak, an, as_, at_, am⟩, ⟨bk, bn, bs, bt, bm⟩, xo, xh⟩ := x
      refine under_name (w0 := V4) (by (repeat (first | with_reducible exact Bel.refl _ | with_reducible refine Bel.setCell ?_ (by first | exact Nat.le_refl _ | (dsimp only; omega)) _ | with_reducible refine Bel.alloc ?_ _ | with_reducible refine Bel.drew ?_ | with_reducible assumption | with_reducible refine Bel.trans ?_ (by assumption)))) fun W5 hc hf hz hb5 => ?_
      have T5 : TFree W5 V4.heap.size ⟨xk, ⟨ak, an, as_, at_, am⟩, ⟨bk, bn, bs, bt, bm⟩, xo, xh⟩ := by simp [TFree, TstAt, hc, hf, hz, go_sem]
      clear hc hf hz
      have s4 := Lib.hid (And.intro (s3.out.1.trans (But.of hb5)) (And.intro (s3.out.2.1.keep hb5) (And.intro (s3.out.2.2.1.keep hb5) (And.intro (s3.out.2.2.2.1.keep hb5) (s3.out.2.2.2.2.keep hb5)))))
      have hsz5 := Lib.hid (Nat.le_trans hsz4.out hb5.size)
      clear hb5
      generalize V4.heap.size = P at T5
      generalize hx : (⟨xk, ⟨ak, an, as_, at_, am⟩, ⟨bk, bn, bs, bt, bm⟩, xo, xh⟩ : Tst) = x at hfin
      replace hx := Lib.hid hx
      have AP := fun X (hX : Bel W5 X) ty => app_tst (s4.out.2.2.2.2.keep hX) (Nat.le_trans hsz5.out hX.size) (by have := hn.out.1; omega) ⟨xk, ⟨ak, an, as_, at_, am⟩, ⟨bk, bn, bs, bt, bm⟩, xo, xh⟩ ty
      replace AP := Lib.hid AP
      obtain ⟨sz, ⟨s0', s1', s2', s3', s4', s5', s6', s7', s8', s9', s10', s11', s12'⟩, -⟩ := T5
      simp only [Nat.zero_add] at s0' s1' s2' s3' s4' s5' s6' s7' s8' s9' s10' s11' s12'
      obtain ⟨zm, ⟨m0, m1, m2⟩, ⟨l0, l1, l2⟩⟩ := s4.out.2.2.2.1
      go_upto_region 8 with fail
      go_upto_region 9 with (at_builtin; refine wpList_app rfl (.tmp 34) (.tmp 36) _ rfl (AP.out _ (Bel.refl _) _) ?_; rintro v6 w6 ⟨M6, B6⟩; obtain ⟨A9, c9, rfl, _, _⟩ := M6.val; obtain ⟨g6, hg6, hbg⟩ := rows_grow s4.out.2.2.2.2 B6; have hbb6 := but_belB s4.out.1 s4.out.2.2.2.2 lwB B6; have s5 := Lib.hid (And.intro hbb6 (And.intro (s4.out.2.1.apart hbg (by omega)) (And.intro (s4.out.2.2.1.but hbg (by omega)) (And.intro (s4.out.2.2.2.1.but hbg (by omega)) M6)))); have hsz6 := Lib.hid (Nat.le_trans hsz5.out hbg.size); clear B6 hbg hbb6 M6 zm m0 m1 m2 l0 l1 l2; obtain ⟨zm, ⟨m0, m1, m2⟩, ⟨l0, l1, l2⟩⟩ := s5.out.2.2.2.1)
      have hU7 := s5.out.2.2.2.1.put (.slice A9 (acc ++ [(⟨xk, ⟨ak, an, as_, at_, am⟩, ⟨bk, bn, bs, bt, bm⟩, xo, xh⟩ : Tst)]).length c9)
      have hM7 : But M w6 (w6.setCell ⟨M, 2, none⟩ (.slice A9 (acc ++ [(⟨xk, ⟨ak, an, as_, at_, am⟩, ⟨bk, bn, bs, bt, bm⟩, xo, xh⟩ : Tst)]).length c9)) := (But.refl M w6).setCell (p := ⟨M, 2, none⟩) rfl _
      refine at_world (w6.setCell ⟨M, 2, none⟩ (.slice A9 (acc ++ [(⟨xk, ⟨ak, an, as_, at_, am⟩, ⟨bk, bn, bs, bt, bm⟩, xo, xh⟩ : Tst)]).length c9)) (by first | rfl | simp) ?_
      have s6 := Lib.hid (And.intro (s5.out.1.new (p := ⟨M, 2, none⟩) hwM (.slice A9 (acc ++ [(⟨xk, ⟨ak, an, as_, at_, am⟩, ⟨bk, bn, bs, bt, bm⟩, xo, xh⟩ : Tst)]).length c9)) (And.intro (s5.out.2.1.apart hM7 (by omega)) (And.intro (s5.out.2.2.1.but hM7 nNM) (And.intro hU7 (s5.out.2.2.2.2.but hM7 lMB)))))
      have hsz7 := Lib.hid (Nat.le_trans hsz6.out hM7.size)
      generalize w6.setCell ⟨M, 2, none⟩ (.slice A9 (acc ++ [(⟨xk, ⟨ak, an, as_, at_, am⟩, ⟨bk, bn, bs, bt, bm⟩, xo, xh⟩ : Tst)]).length c9) = W7 at s6 hsz7 ⊢
      rw [hx.out] at s6
      clear hU7 hM7 AP zm m0 m1 m2 l0 l1 l2 s0' s1' s2' s3' s4' s5' s6' s7' s8' s9' s10' s11' s12' sz
      obtain ⟨cnt, hn1e⟩ : ∃ cnt, cnt = (acc ++ [x]).length := ⟨_, rfl⟩
      rw [← hn1e] at s6
      have hk1 := Lib.hid (show cnt = acc.length + 1 from by rw [hn1e]; simp)
      have hn1 := Lib.hid hn1e
      clear hn1e
      have hlp := Lib.hid (hlp0.out.trans hfin.out)
      have hle := Lib.hid hn.out.1
      have CPK := Lib.hid fun X (hX : But b w X) (hR : Rdc X b A ts.length c j1 en wo 0) => peek_any ts X b A c j1 en wo 0 (KT.out X hX) hR hj1 hl
      clear hn hfin
      obtain ⟨zm, ⟨m0, m1, m2⟩, ⟨l0, l1, l2⟩⟩ := s6.out.2.2.2.1
      have n0 : (0 : Int) ≤ (cnt : Int) := by omega
      have n9 : (cnt : Int) ≤ 8 := by have := hle.out; have := hk1.out; omega
      cases hcm : isS [44] r2 with
      | true =>
        have hcj := Lib.hid (show isK 5 [44] (ts.drop j1) = true from by rw [hd1.out]; exact hcm)
        have hjl : j1 < ts.length := (tail_at hcj.out).1
        by_cases h8 : cnt = 8
        · have hlq := Lib.hid (show lstP 8 [] (ts.drop (i + 2)) = .bad r2 10 from by
            rw [hlp.out, if_pos hcm, if_pos (by have := hk1.out; omega)])
          have hp := hcj.out
          rw [show isK 5 [44] (ts.drop j1) = _ from isS_pek [44] (ts.drop j1)] at hp
          replace hcm := Lib.hid hcm
          generalize pekT (ts.drop j1) = t at CPK hp
          obtain ⟨tk, tp, tx, ta, tb, td⟩ := t
          simp only [Bool.and_eq_true, decide_eq_true_eq] at hp
          obtain ⟨rfl, hx1⟩ := hp
          have c0 : ((bytesOf tx).toList == [44]) = true := by
            rw [hx1]
            decide +kernel
          clear hx1
          have g8 : ((cnt : Int) == 8) = true := beq_iff_eq.2 (by omega)
          clear h8 n0 n9
          go_upto_region 10 with (first
            | (go_at_call 43; (with_reducible refine Calls.mono (CPK.out _ s6.out.1 s6.out.2.1) ?_); rintro ee U1 ⟨rfl, hbU1⟩; have t1 := Lib.hid (And.intro (s6.out.1.trans (But.of hbU1)) (And.intro (s6.out.2.1.keep hbU1) (And.intro (s6.out.2.2.1.keep hbU1) (And.intro (s6.out.2.2.2.1.keep hbU1) (s6.out.2.2.2.2.keep hbU1))))); clear hbU1)
            | (go_at_call 43; (with_reducible refine Calls.mono (CPK.out _ t1.out.1 t1.out.2.1) ?_); rintro ee U2 ⟨rfl, hbU2⟩; have t2 := Lib.hid (And.intro (t1.out.1.trans (But.of hbU2)) (And.intro (t1.out.2.1.keep hbU2) (And.intro (t1.out.2.2.1.keep hbU2) (And.intro (t1.out.2.2.2.1.keep hbU2) (t1.out.2.2.2.2.keep hbU2))))); clear hbU2))
          have CF := Lib.hid fun X (hX : But b w X) (hR : Rdc X b A ts.length c j1 en wo 0) => fail_any ts X b A c j1 en wo 0 10 (plcT en (ts.drop j1)) 10 (KT.out X hX) hR hj1 hl (by rw [if_pos rfl]) (by rw [if_pos rfl])
          go_upto_region 11 with (go_at_call 41; (with_reducible refine Calls.mono (CF.out _ t2.out.1 t2.out.2.1) ?_); rintro ee V9 ⟨rfl, hbV9, hrV9⟩; have s9 := Lib.hid (And.intro (t2.out.1.trans hbV9) (And.intro hrV9 (And.intro (t2.out.2.2.1.but hbV9 nbN) (And.intro (t2.out.2.2.2.1.but hbV9 nbM) (t2.out.2.2.2.2.but hbV9 lbB))))); clear hbV9 hrV9)
          clear zm m0 m1 m2 l0 l1 l2
          obtain ⟨zn, ⟨n0, n1, n2⟩, ⟨k0, k1, k2⟩⟩ := s9.out.2.2.1
          obtain ⟨zm, ⟨m0, m1, m2⟩, ⟨l0, l1, l2⟩⟩ := s9.out.2.2.2.1
          go_wp2_with fail
          refine bodyPost_ret (v := .agg #[.bool false, .bool true, .slice A9 cnt c9]) (by simp [results, Tryz.results18, go_sem, zn, zm, n0, n1, n2, m0, m1, m2, nNM, nMN]) rfl ⟨j1, (plcT en (ts.drop j1)), 10, true, A9, cnt, c9, ?_, ?_, rfl, ?_⟩
          · repeat (first | with_reducible exact s9.out.1 | refine But.new ?_ NW.out _)
          · repeat (first | with_reducible exact s9.out.2.1 | refine Rdc.far ?_ xN _)
          · rw [hQ.out, hlq.out]
            exact ⟨by rw [hd1.out], rfl⟩
        · have g8 : ((cnt : Int) == 8) = false := beq_eq_false_iff_ne.2 (by omega)
          have hlq := Lib.hid (show lstP 8 [] (ts.drop (i + 2)) = lstP (7 - acc.length) (acc ++ [x]) r2.tail from by
            rw [hlp.out, if_pos hcm, if_neg (by have := hle.out; have := hk1.out; omega)])
          replace hcm := Lib.hid hcm
          have CSG := fun X (hX : But b w X) (hR : Rdc X b A ts.length c j1 en wo 0) => sign_any ts [44] X b A c j1 (j1 + 1) en wo 0 (KT.out X hX) hR hj1 hl (by rw [if_pos hcj.out])
          rw [show isK 5 [44] (ts.drop j1) = true from hcj.out, show bytesOf [44] = (⟨#[44]⟩ : ByteArray) from rfl] at CSG
          have CSG := Lib.hid CSG
          have hd2 := Lib.hid (show ts.drop (j1 + 1) = r2.tail from by rw [← hd1.out, List.tail_drop])
          have h7 := Lib.hid (show acc.length ≤ 6 from by have := hle.out; have := hk1.out; omega)
          clear h8 n0 n9
          go_wp2_with (go_at_call 40; (with_reducible refine Calls.mono (CSG.out _ s6.out.1 s6.out.2.1) ?_); rintro ee V7 ⟨rfl, hbV7, hrV7⟩; have s7 := Lib.hid (And.intro (s6.out.1.trans hbV7) (And.intro hrV7 (And.intro (s6.out.2.2.1.but hbV7 nbN) (And.intro (s6.out.2.2.2.1.but hbV7 nbM) (s6.out.2.2.2.2.but hbV7 lbB))))); have hszs := Lib.hid (Nat.le_trans hsz7.out hbV7.size); clear hbV7 hrV7)
          go_roundg (8 - cnt)
          case measure => have := hnm.out; have := h7.out; have := hk1.out; omega
          case rel => exact ⟨j1 + 1, acc ++ [x], A9, c9, Lib.hid ⟨by rw [← hn1.out]; have := h7.out; have := hk1.out; omega, by rw [← hn1.out]⟩, hjl, Lib.hid (by rw [hlq.out, hd2.out, ← hn1.out, hk1.out, show 8 - (acc.length + 1) = 7 - acc.length by omega]), hszs, by rw [← hn1.out]; exact s7⟩
      | false =>
        have hlq := Lib.hid (show lstP 8 [] (ts.drop (i + 2)) = .ok (acc ++ [x]) r2 from by
          rw [hlp.out, if_neg (by rw [hcm]; decide)])
        have hcj := Lib.hid (show isK 5 [44] (ts.drop j1) = false from by rw [hd1.out]; exact hcm)
        clear hcm
        have CSG := fun X (hX : But b w X) (hR : Rdc X b A ts.length c j1 en wo 0) => sign_any ts [44] X b A c j1 j1 en wo 0 (KT.out X hX) hR hj1 hl (by rw [if_neg (by rw [hcj.out]; decide)])
        rw [show isK 5 [44] (ts.drop j1) = false from hcj.out, show bytesOf [44] = (⟨#[44]⟩ : ByteArray) from rfl] at CSG
        have CSG := Lib.hid CSG
        by_cases h8 : cnt = 8
        · have g8 : ((cnt : Int) == 8) = true := beq_iff_eq.2 (by omega)
          have hp := hcj.out
          rw [show isK 5 [44] (ts.drop j1) = _ from isS_pek [44] (ts.drop j1)] at hp
          generalize pekT (ts.drop j1) = t at CPK hp
          obtain ⟨tk, tp, tx, ta, tb, td⟩ := t
          simp only at hp
          by_cases hx1 : tx = [44]
          · have hk5 : tk ≠ 5 := by rintro rfl; simp [hx1] at hp
            have c0 : ((bytesOf tx).toList == [44]) = true := by
              rw [hx1]
              decide +kernel
            clear hx1
            have gk : (tk == 5) = false := beq_eq_false_iff_ne.2 hk5
            clear h8 n0 n9 hp hk5
            go_upto_region 12 with (first
              | (go_at_call 43; (with_reducible refine Calls.mono (CPK.out _ s6.out.1 s6.out.2.1) ?_); rintro ee U1 ⟨rfl, hbU1⟩; have t1 := Lib.hid (And.intro (s6.out.1.trans (But.of hbU1)) (And.intro (s6.out.2.1.keep hbU1) (And.intro (s6.out.2.2.1.keep hbU1) (And.intro (s6.out.2.2.2.1.keep hbU1) (s6.out.2.2.2.2.keep hbU1))))); clear hbU1)
              | (go_at_call 43; (with_reducible refine Calls.mono (CPK.out _ t1.out.1 t1.out.2.1) ?_); rintro ee U2 ⟨rfl, hbU2⟩; have t2 := Lib.hid (And.intro (t1.out.1.trans (But.of hbU2)) (And.intro (t1.out.2.1.keep hbU2) (And.intro (t1.out.2.2.1.keep hbU2) (And.intro (t1.out.2.2.2.1.keep hbU2) (t1.out.2.2.2.2.keep hbU2))))); clear hbU2))
            go_upto_region 13 with (go_at_call 40; (with_reducible refine Calls.mono (CSG.out _ t2.out.1 t2.out.2.1) ?_); rintro ee V7a ⟨rfl, hbV7a, hrV7a⟩; have s7a := Lib.hid (And.intro (t2.out.1.trans hbV7a) (And.intro hrV7a (And.intro (t2.out.2.2.1.but hbV7a nbN) (And.intro (t2.out.2.2.2.1.but hbV7a nbM) (t2.out.2.2.2.2.but hbV7a lbB))))); clear hbV7a hrV7a)
            clear zm m0 m1 m2 l0 l1 l2
            obtain ⟨zm, ⟨m0, m1, m2⟩, ⟨l0, l1, l2⟩⟩ := s7a.out.2.2.2.1
            cases hcl : isS [41] r2 with
            | true =>
              have hcl2 := Lib.hid (show isK 5 [41] (ts.drop j1) = true from by rw [hd1.out]; exact hcl)
              have hjl : j1 < ts.length := (tail_at hcl2.out).1
              replace hcl := Lib.hid hcl
              have CX := fun X (hX : But b w X) (hR : Rdc X b A ts.length c j1 en wo 0) => sign_any ts [41] X b A c j1 (j1 + 1) en wo 0 (KT.out X hX) hR hj1 hl (by rw [if_pos hcl2.out])
              rw [show isK 5 [41] (ts.drop j1) = true from hcl2.out, show bytesOf [41] = (⟨#[41]⟩ : ByteArray) from rfl] at CX
              have CX := Lib.hid CX
              have hd2 := Lib.hid (show ts.drop (j1 + 1) = r2.tail from by rw [← hd1.out, List.tail_drop])
              by_cases hz : (j1 + 1) = ts.length
              · have hr2n := Lib.hid (show r2.tail = [] from by rw [← hd2.out, hz]; exact List.drop_length)
                have hdn : Hid (decide ((j1 + 1) = ts.length) = true) := Lib.hid (decide_eq_true hz)
                have CD := fun X (hX : But b w X) (hR : Rdc X b A ts.length c (j1 + 1) en wo 0) => done_any X b A ts.length c (j1 + 1) en wo 0 hR
                rw [hdn.out] at CD
                replace CD := Lib.hid CD
                clear hz
                go_upto_region 15 with (first
                  | (go_at_call 40; (with_reducible refine Calls.mono (CX.out _ s7a.out.1 s7a.out.2.1) ?_); rintro ee V7 ⟨rfl, hbV7, hrV7⟩; have s7 := Lib.hid (And.intro (s7a.out.1.trans hbV7) (And.intro hrV7 (And.intro (s7a.out.2.2.1.but hbV7 nbN) (And.intro (s7a.out.2.2.2.1.but hbV7 nbM) (s7a.out.2.2.2.2.but hbV7 lbB))))); clear hbV7 hrV7)
                  | (go_at_call 44; (with_reducible refine Calls.mono (CD.out _ s7.out.1 s7.out.2.1) ?_); rintro ee V8 ⟨rfl, hbV8⟩; have s8 := Lib.hid (And.intro (s7.out.1.trans (But.of hbV8)) (And.intro (s7.out.2.1.keep hbV8) (And.intro (s7.out.2.2.1.keep hbV8) (And.intro (s7.out.2.2.2.1.keep hbV8) (s7.out.2.2.2.2.keep hbV8))))); clear hbV8))
                clear zm m0 m1 m2 l0 l1 l2
                obtain ⟨zn, ⟨n0, n1, n2⟩, ⟨k0, k1, k2⟩⟩ := s8.out.2.2.1
                obtain ⟨zm, ⟨m0, m1, m2⟩, ⟨l0, l1, l2⟩⟩ := s8.out.2.2.2.1
                go_wp2_with fail
                refine bodyPost_ret (v := .agg #[.bool false, .bool true, .slice A9 cnt c9]) (by simp [results, Tryz.results18, go_sem, zn, zm, n0, n1, n2, m0, m1, m2, nNM, nMN]) rfl ⟨(j1 + 1), wo, 0, true, A9, cnt, c9, ?_, ?_, rfl, ?_⟩
                · repeat (first | with_reducible exact s8.out.1 | refine But.new ?_ NW.out _)
                · repeat (first | with_reducible exact s8.out.2.1 | refine Rdc.far ?_ xN _)
                · rw [hQ.out, hlq.out]
                  have e9 : endP true (PR.ok (acc ++ [x]) r2) = .ok (true, acc ++ [x]) [] := by
                    unfold endP
                    simp only
                    rw [if_pos trivial, if_pos hcl.out, if_pos hr2n.out]
                  rw [e9]
                  refine ⟨rfl, hn1.out, ⟨BB, lwB, TsRows.but s8.out.2.2.2.2 (b := N) ?_ lNB⟩, rfl⟩
                  repeat (first | with_reducible exact But.refl N V8 | refine But.setCell (b := N) ?_ rfl _)
              · have hr2n := Lib.hid (show ¬ r2.tail = [] from by rw [← hd2.out]; intro h9; have := List.drop_eq_nil_iff.1 h9; omega)
                have hdn : Hid (decide ((j1 + 1) = ts.length) = false) := Lib.hid (decide_eq_false hz)
                have CD := fun X (hX : But b w X) (hR : Rdc X b A ts.length c (j1 + 1) en wo 0) => done_any X b A ts.length c (j1 + 1) en wo 0 hR
                rw [hdn.out] at CD
                replace CD := Lib.hid CD
                clear hz
                go_upto_region 14 with (first
                  | (go_at_call 40; (with_reducible refine Calls.mono (CX.out _ s7a.out.1 s7a.out.2.1) ?_); rintro ee V7 ⟨rfl, hbV7, hrV7⟩; have s7 := Lib.hid (And.intro (s7a.out.1.trans hbV7) (And.intro hrV7 (And.intro (s7a.out.2.2.1.but hbV7 nbN) (And.intro (s7a.out.2.2.2.1.but hbV7 nbM) (s7a.out.2.2.2.2.but hbV7 lbB))))); clear hbV7 hrV7)
                  | (go_at_call 44; (with_reducible refine Calls.mono (CD.out _ s7.out.1 s7.out.2.1) ?_); rintro ee V8 ⟨rfl, hbV8⟩; have s8 := Lib.hid (And.intro (s7.out.1.trans (But.of hbV8)) (And.intro (s7.out.2.1.keep hbV8) (And.intro (s7.out.2.2.1.keep hbV8) (And.intro (s7.out.2.2.2.1.keep hbV8) (s7.out.2.2.2.2.keep hbV8))))); clear hbV8))
                clear zm m0 m1 m2 l0 l1 l2
                have CF := Lib.hid fun X (hX : But b w X) (hR : Rdc X b A ts.length c (j1 + 1) en wo 0) => fail_any ts X b A c (j1 + 1) en wo 0 5 (plcT en (ts.drop (j1 + 1))) 5 (KT.out X hX) hR hjl hl (by rw [if_pos rfl]) (by rw [if_pos rfl])
                go_upto_region 15 with (go_at_call 41; (with_reducible refine Calls.mono (CF.out _ s8.out.1 s8.out.2.1) ?_); rintro ee V9 ⟨rfl, hbV9, hrV9⟩; have s9 := Lib.hid (And.intro (s8.out.1.trans hbV9) (And.intro hrV9 (And.intro (s8.out.2.2.1.but hbV9 nbN) (And.intro (s8.out.2.2.2.1.but hbV9 nbM) (s8.out.2.2.2.2.but hbV9 lbB))))); clear hbV9 hrV9)
                obtain ⟨zn, ⟨n0, n1, n2⟩, ⟨k0, k1, k2⟩⟩ := s9.out.2.2.1
                obtain ⟨zm, ⟨m0, m1, m2⟩, ⟨l0, l1, l2⟩⟩ := s9.out.2.2.2.1
                go_wp2_with fail
                refine bodyPost_ret (v := .agg #[.bool false, .bool true, .slice A9 cnt c9]) (by simp [results, Tryz.results18, go_sem, zn, zm, n0, n1, n2, m0, m1, m2, nNM, nMN]) rfl ⟨(j1 + 1), (plcT en (ts.drop (j1 + 1))), 5, true, A9, cnt, c9, ?_, ?_, rfl, ?_⟩
                · repeat (first | with_reducible exact s9.out.1 | refine But.new ?_ NW.out _)
                · repeat (first | with_reducible exact s9.out.2.1 | refine Rdc.far ?_ xN _)
                · rw [hQ.out, hlq.out]
                  have e9 : endP true (PR.ok (acc ++ [x]) r2) = .bad r2.tail 5 := by
                    unfold endP
                    simp only
                    rw [if_pos trivial, if_pos hcl.out, if_neg hr2n.out]
                  rw [e9]
                  exact ⟨by rw [hd2.out], rfl⟩
            | false =>
              have hcl2 := Lib.hid (show isK 5 [41] (ts.drop j1) = false from by rw [hd1.out]; exact hcl)
              replace hcl := Lib.hid hcl
              have CX := fun X (hX : But b w X) (hR : Rdc X b A ts.length c j1 en wo 0) => sign_any ts [41] X b A c j1 j1 en wo 0 (KT.out X hX) hR hj1 hl (by rw [if_neg (by rw [hcl2.out]; decide)])
              rw [show isK 5 [41] (ts.drop j1) = false from hcl2.out, show bytesOf [41] = (⟨#[41]⟩ : ByteArray) from rfl] at CX
              have CX := Lib.hid CX
              go_upto_region 14 with (go_at_call 40; (with_reducible refine Calls.mono (CX.out _ s7a.out.1 s7a.out.2.1) ?_); rintro ee V8 ⟨rfl, hbV8, hrV8⟩; have s8 := Lib.hid (And.intro (s7a.out.1.trans hbV8) (And.intro hrV8 (And.intro (s7a.out.2.2.1.but hbV8 nbN) (And.intro (s7a.out.2.2.2.1.but hbV8 nbM) (s7a.out.2.2.2.2.but hbV8 lbB))))); clear hbV8 hrV8)
              clear zm m0 m1 m2 l0 l1 l2
              have CF := Lib.hid fun X (hX : But b w X) (hR : Rdc X b A ts.length c j1 en wo 0) => fail_any ts X b A c j1 en wo 0 5 (plcT en (ts.drop j1)) 5 (KT.out X hX) hR hj1 hl (by rw [if_pos rfl]) (by rw [if_pos rfl])
              go_upto_region 15 with (go_at_call 41; (with_reducible refine Calls.mono (CF.out _ s8.out.1 s8.out.2.1) ?_); rintro ee V9 ⟨rfl, hbV9, hrV9⟩; have s9 := Lib.hid (And.intro (s8.out.1.trans hbV9) (And.intro hrV9 (And.intro (s8.out.2.2.1.but hbV9 nbN) (And.intro (s8.out.2.2.2.1.but hbV9 nbM) (s8.out.2.2.2.2.but hbV9 lbB))))); clear hbV9 hrV9)
              obtain ⟨zn, ⟨n0, n1, n2⟩, ⟨k0, k1, k2⟩⟩ := s9.out.2.2.1
              obtain ⟨zm, ⟨m0, m1, m2⟩, ⟨l0, l1, l2⟩⟩ := s9.out.2.2.2.1
              go_wp2_with fail
              refine bodyPost_ret (v := .agg #[.bool false, .bool true, .slice A9 cnt c9]) (by simp [results, Tryz.results18, go_sem, zn, zm, n0, n1, n2, m0, m1, m2, nNM, nMN]) rfl ⟨j1, (plcT en (ts.drop j1)), 5, true, A9, cnt, c9, ?_, ?_, rfl, ?_⟩
              · repeat (first | with_reducible exact s9.out.1 | refine But.new ?_ NW.out _)
              · repeat (first | with_reducible exact s9.out.2.1 | refine Rdc.far ?_ xN _)
              · rw [hQ.out, hlq.out]
                have e9 : endP true (PR.ok (acc ++ [x]) r2) = .bad r2 5 := by
                  unfold endP
                  simp only
                  rw [if_pos trivial, if_neg (by rw [hcl.out]; decide)]
                rw [e9]
                exact ⟨by rw [hd1.out], rfl⟩
          · have c0 : ((bytesOf tx).toList == [44]) = false := by
              have t := beq_ne (a := bytesOf tx) (b := bytesOf [44]) (fun e => hx1 (bytesOf_inj e))
              rwa [show (bytesOf [44]).toList = [44] from by decide +kernel] at t
            clear h8 n0 n9 hp hx1
            go_upto_region 12 with (go_at_call 43; (with_reducible refine Calls.mono (CPK.out _ s6.out.1 s6.out.2.1) ?_); rintro ee U1 ⟨rfl, hbU1⟩; have t1 := Lib.hid (And.intro (s6.out.1.trans (But.of hbU1)) (And.intro (s6.out.2.1.keep hbU1) (And.intro (s6.out.2.2.1.keep hbU1) (And.intro (s6.out.2.2.2.1.keep hbU1) (s6.out.2.2.2.2.keep hbU1))))); clear hbU1)
            go_upto_region 13 with (go_at_call 40; (with_reducible refine Calls.mono (CSG.out _ t1.out.1 t1.out.2.1) ?_); rintro ee V7a ⟨rfl, hbV7a, hrV7a⟩; have s7a := Lib.hid (And.intro (t1.out.1.trans hbV7a) (And.intro hrV7a (And.intro (t1.out.2.2.1.but hbV7a nbN) (And.intro (t1.out.2.2.2.1.but hbV7a nbM) (t1.out.2.2.2.2.but hbV7a lbB))))); clear hbV7a hrV7a)
            clear zm m0 m1 m2 l0 l1 l2
            obtain ⟨zm, ⟨m0, m1, m2⟩, ⟨l0, l1, l2⟩⟩ := s7a.out.2.2.2.1
            cases hcl : isS [41] r2 with
            | true =>
              have hcl2 := Lib.hid (show isK 5 [41] (ts.drop j1) = true from by rw [hd1.out]; exact hcl)
              have hjl : j1 < ts.length := (tail_at hcl2.out).1
              replace hcl := Lib.hid hcl
              have CX := fun X (hX : But b w X) (hR : Rdc X b A ts.length c j1 en wo 0) => sign_any ts [41] X b A c j1 (j1 + 1) en wo 0 (KT.out X hX) hR hj1 hl (by rw [if_pos hcl2.out])
              rw [show isK 5 [41] (ts.drop j1) = true from hcl2.out, show bytesOf [41] = (⟨#[41]⟩ : ByteArray) from rfl] at CX
              have CX := Lib.hid CX
              have hd2 := Lib.hid (show ts.drop (j1 + 1) = r2.tail from by rw [← hd1.out, List.tail_drop])
              by_cases hz : (j1 + 1) = ts.length
              · have hr2n := Lib.hid (show r2.tail = [] from by rw [← hd2.out, hz]; exact List.drop_length)
                have hdn : Hid (decide ((j1 + 1) = ts.length) = true) := Lib.hid (decide_eq_true hz)
                have CD := fun X (hX : But b w X) (hR : Rdc X b A ts.length c (j1 + 1) en wo 0) => done_any X b A ts.length c (j1 + 1) en wo 0 hR
                rw [hdn.out] at CD
                replace CD := Lib.hid CD
                clear hz
                go_upto_region 15 with (first
                  | (go_at_call 40; (with_reducible refine Calls.mono (CX.out _ s7a.out.1 s7a.out.2.1) ?_); rintro ee V7 ⟨rfl, hbV7, hrV7⟩; have s7 := Lib.hid (And.intro (s7a.out.1.trans hbV7) (And.intro hrV7 (And.intro (s7a.out.2.2.1.but hbV7 nbN) (And.intro (s7a.out.2.2.2.1.but hbV7 nbM) (s7a.out.2.2.2.2.but hbV7 lbB))))); clear hbV7 hrV7)
                  | (go_at_call 44; (with_reducible refine Calls.mono (CD.out _ s7.out.1 s7.out.2.1) ?_); rintro ee V8 ⟨rfl, hbV8⟩; have s8 := Lib.hid (And.intro (s7.out.1.trans (But.of hbV8)) (And.intro (s7.out.2.1.keep hbV8) (And.intro (s7.out.2.2.1.keep hbV8) (And.intro (s7.out.2.2.2.1.keep hbV8) (s7.out.2.2.2.2.keep hbV8))))); clear hbV8))
                clear zm m0 m1 m2 l0 l1 l2
                obtain ⟨zn, ⟨n0, n1, n2⟩, ⟨k0, k1, k2⟩⟩ := s8.out.2.2.1
                obtain ⟨zm, ⟨m0, m1, m2⟩, ⟨l0, l1, l2⟩⟩ := s8.out.2.2.2.1
                go_wp2_with fail
                refine bodyPost_ret (v := .agg #[.bool false, .bool true, .slice A9 cnt c9]) (by simp [results, Tryz.results18, go_sem, zn, zm, n0, n1, n2, m0, m1, m2, nNM, nMN]) rfl ⟨(j1 + 1), wo, 0, true, A9, cnt, c9, ?_, ?_, rfl, ?_⟩
                · repeat (first | with_reducible exact s8.out.1 | refine But.new ?_ NW.out _)
                · repeat (first | with_reducible exact s8.out.2.1 | refine Rdc.far ?_ xN _)
                · rw [hQ.out, hlq.out]
                  have e9 : endP true (PR.ok (acc ++ [x]) r2) = .ok (true, acc ++ [x]) [] := by
                    unfold endP
                    simp only
                    rw [if_pos trivial, if_pos hcl.out, if_pos hr2n.out]
                  rw [e9]
                  refine ⟨rfl, hn1.out, ⟨BB, lwB, TsRows.but s8.out.2.2.2.2 (b := N) ?_ lNB⟩, rfl⟩
                  repeat (first | with_reducible exact But.refl N V8 | refine But.setCell (b := N) ?_ rfl _)
              · have hr2n := Lib.hid (show ¬ r2.tail = [] from by rw [← hd2.out]; intro h9; have := List.drop_eq_nil_iff.1 h9; omega)
                have hdn : Hid (decide ((j1 + 1) = ts.length) = false) := Lib.hid (decide_eq_false hz)
                have CD := fun X (hX : But b w X) (hR : Rdc X b A ts.length c (j1 + 1) en wo 0) => done_any X b A ts.length c (j1 + 1) en wo 0 hR
                rw [hdn.out] at CD
                replace CD := Lib.hid CD
                clear hz
                go_upto_region 14 with (first
                  | (go_at_call 40; (with_reducible refine Calls.mono (CX.out _ s7a.out.1 s7a.out.2.1) ?_); rintro ee V7 ⟨rfl, hbV7, hrV7⟩; have s7 := Lib.hid (And.intro (s7a.out.1.trans hbV7) (And.intro hrV7 (And.intro (s7a.out.2.2.1.but hbV7 nbN) (And.intro (s7a.out.2.2.2.1.but hbV7 nbM) (s7a.out.2.2.2.2.but hbV7 lbB))))); clear hbV7 hrV7)
                  | (go_at_call 44; (with_reducible refine Calls.mono (CD.out _ s7.out.1 s7.out.2.1) ?_); rintro ee V8 ⟨rfl, hbV8⟩; have s8 := Lib.hid (And.intro (s7.out.1.trans (But.of hbV8)) (And.intro (s7.out.2.1.keep hbV8) (And.intro (s7.out.2.2.1.keep hbV8) (And.intro (s7.out.2.2.2.1.keep hbV8) (s7.out.2.2.2.2.keep hbV8))))); clear hbV8))
                clear zm m0 m1 m2 l0 l1 l2
                have CF := Lib.hid fun X (hX : But b w X) (hR : Rdc X b A ts.length c (j1 + 1) en wo 0) => fail_any ts X b A c (j1 + 1) en wo 0 5 (plcT en (ts.drop (j1 + 1))) 5 (KT.out X hX) hR hjl hl (by rw [if_pos rfl]) (by rw [if_pos rfl])
                go_upto_region 15 with (go_at_call 41; (with_reducible refine Calls.mono (CF.out _ s8.out.1 s8.out.2.1) ?_); rintro ee V9 ⟨rfl, hbV9, hrV9⟩; have s9 := Lib.hid (And.intro (s8.out.1.trans hbV9) (And.intro hrV9 (And.intro (s8.out.2.2.1.but hbV9 nbN) (And.intro (s8.out.2.2.2.1.but hbV9 nbM) (s8.out.2.2.2.2.but hbV9 lbB))))); clear hbV9 hrV9)
                obtain ⟨zn, ⟨n0, n1, n2⟩, ⟨k0, k1, k2⟩⟩ := s9.out.2.2.1
                obtain ⟨zm, ⟨m0, m1, m2⟩, ⟨l0, l1, l2⟩⟩ := s9.out.2.2.2.1
                go_wp2_with fail
                refine bodyPost_ret (v := .agg #[.bool false, .bool true, .slice A9 cnt c9]) (by simp [results, Tryz.results18, go_sem, zn, zm, n0, n1, n2, m0, m1, m2, nNM, nMN]) rfl ⟨(j1 + 1), (plcT en (ts.drop (j1 + 1))), 5, true, A9, cnt, c9, ?_, ?_, rfl, ?_⟩
                · repeat (first | with_reducible exact s9.out.1 | refine But.new ?_ NW.out _)
                · repeat (first | with_reducible exact s9.out.2.1 | refine Rdc.far ?_ xN _)
                · rw [hQ.out, hlq.out]
                  have e9 : endP true (PR.ok (acc ++ [x]) r2) = .bad r2.tail 5 := by
                    unfold endP
                    simp only
                    rw [if_pos trivial, if_pos hcl.out, if_neg hr2n.out]
                  rw [e9]
                  exact ⟨by rw [hd2.out], rfl⟩
            | false =>
              have hcl2 := Lib.hid (show isK 5 [41] (ts.drop j1) = false from by rw [hd1.out]; exact hcl)
              replace hcl := Lib.hid hcl
              have CX := fun X (hX : But b w X) (hR : Rdc X b A ts.length c j1 en wo 0) => sign_any ts [41] X b A c j1 j1 en wo 0 (KT.out X hX) hR hj1 hl (by rw [if_neg (by rw [hcl2.out]; decide)])
              rw [show isK 5 [41] (ts.drop j1) = false from hcl2.out, show bytesOf [41] = (⟨#[41]⟩ : ByteArray) from rfl] at CX
              have CX := Lib.hid CX
              go_upto_region 14 with (go_at_call 40; (with_reducible refine Calls.mono (CX.out _ s7a.out.1 s7a.out.2.1) ?_); rintro ee V8 ⟨rfl, hbV8, hrV8⟩; have s8 := Lib.hid (And.intro (s7a.out.1.trans hbV8) (And.intro hrV8 (And.intro (s7a.out.2.2.1.but hbV8 nbN) (And.intro (s7a.out.2.2.2.1.but hbV8 nbM) (s7a.out.2.2.2.2.but hbV8 lbB))))); clear hbV8 hrV8)
              clear zm m0 m1 m2 l0 l1 l2
              have CF := Lib.hid fun X (hX : But b w X) (hR : Rdc X b A ts.length c j1 en wo 0) => fail_any ts X b A c j1 en wo 0 5 (plcT en (ts.drop j1)) 5 (KT.out X hX) hR hj1 hl (by rw [if_pos rfl]) (by rw [if_pos rfl])
              go_upto_region 15 with (go_at_call 41; (with_reducible refine Calls.mono (CF.out _ s8.out.1 s8.out.2.1) ?_); rintro ee V9 ⟨rfl, hbV9, hrV9⟩; have s9 := Lib.hid (And.intro (s8.out.1.trans hbV9) (And.intro hrV9 (And.intro (s8.out.2.2.1.but hbV9 nbN) (And.intro (s8.out.2.2.2.1.but hbV9 nbM) (s8.out.2.2.2.2.but hbV9 lbB))))); clear hbV9 hrV9)
              obtain ⟨zn, ⟨n0, n1, n2⟩, ⟨k0, k1, k2⟩⟩ := s9.out.2.2.1
              obtain ⟨zm, ⟨m0, m1, m2⟩, ⟨l0, l1, l2⟩⟩ := s9.out.2.2.2.1
              go_wp2_with fail
              refine bodyPost_ret (v := .agg #[.bool false, .bool true, .slice A9 cnt c9]) (by simp [results, Tryz.results18, go_sem, zn, zm, n0, n1, n2, m0, m1, m2, nNM, nMN]) rfl ⟨j1, (plcT en (ts.drop j1)), 5, true, A9, cnt, c9, ?_, ?_, rfl, ?_⟩
              · repeat (first | with_reducible exact s9.out.1 | refine But.new ?_ NW.out _)
              · repeat (first | with_reducible exact s9.out.2.1 | refine Rdc.far ?_ xN _)
              · rw [hQ.out, hlq.out]
                have e9 : endP true (PR.ok (acc ++ [x]) r2) = .bad r2 5 := by
                  unfold endP
                  simp only
                  rw [if_pos trivial, if_neg (by rw [hcl.out]; decide)]
                rw [e9]
                exact ⟨by rw [hd1.out], rfl⟩
        · have g8 : ((cnt : Int) == 8) = false := beq_eq_false_iff_ne.2 (by omega)
          clear h8 n0 n9
          go_upto_region 13 with (go_at_call 40; (with_reducible refine Calls.mono (CSG.out _ s6.out.1 s6.out.2.1) ?_); rintro ee V7a ⟨rfl, hbV7a, hrV7a⟩; have s7a := Lib.hid (And.intro (s6.out.1.trans hbV7a) (And.intro hrV7a (And.intro (s6.out.2.2.1.but hbV7a nbN) (And.intro (s6.out.2.2.2.1.but hbV7a nbM) (s6.out.2.2.2.2.but hbV7a lbB))))); clear hbV7a hrV7a)
          clear zm m0 m1 m2 l0 l1 l2
          obtain ⟨zm, ⟨m0, m1, m2⟩, ⟨l0, l1, l2⟩⟩ := s7a.out.2.2.2.1
          cases hcl : isS [41] r2 with
          | true =>
            have hcl2 := Lib.hid (show isK 5 [41] (ts.drop j1) = true from by rw [hd1.out]; exact hcl)
            have hjl : j1 < ts.length := (tail_at hcl2.out).1
            replace hcl := Lib.hid hcl
            have CX := fun X (hX : But b w X) (hR : Rdc X b A ts.length c j1 en wo 0) => sign_any ts [41] X b A c j1 (j1 + 1) en wo 0 (KT.out X hX) hR hj1 hl (by rw [if_pos hcl2.out])
            rw [show isK 5 [41] (ts.drop j1) = true from hcl2.out, show bytesOf [41] = (⟨#[41]⟩ : ByteArray) from rfl] at CX
            have CX := Lib.hid CX
            have hd2 := Lib.hid (show ts.drop (j1 + 1) = r2.tail from by rw [← hd1.out, List.tail_drop])
            by_cases hz : (j1 + 1) = ts.length
            · have hr2n := Lib.hid (show r2.tail = [] from by rw [← hd2.out, hz]; exact List.drop_length)
              have hdn : Hid (decide ((j1 + 1) = ts.length) = true) := Lib.hid (decide_eq_true hz)
              have CD := fun X (hX : But b w X) (hR : Rdc X b A ts.length c (j1 + 1) en wo 0) => done_any X b A ts.length c (j1 + 1) en wo 0 hR
              rw [hdn.out] at CD
              replace CD := Lib.hid CD
              clear hz
              go_upto_region 15 with (first
                | (go_at_call 40; (with_reducible refine Calls.mono (CX.out _ s7a.out.1 s7a.out.2.1) ?_); rintro ee V7 ⟨rfl, hbV7, hrV7⟩; have s7 := Lib.hid (And.intro (s7a.out.1.trans hbV7) (And.intro hrV7 (And.intro (s7a.out.2.2.1.but hbV7 nbN) (And.intro (s7a.out.2.2.2.1.but hbV7 nbM) (s7a.out.2.2.2.2.but hbV7 lbB))))); clear hbV7 hrV7)
                | (go_at_call 44; (with_reducible refine Calls.mono (CD.out _ s7.out.1 s7.out.2.1) ?_); rintro ee V8 ⟨rfl, hbV8⟩; have s8 := Lib.hid (And.intro (s7.out.1.trans (But.of hbV8)) (And.intro (s7.out.2.1.keep hbV8) (And.intro (s7.out.2.2.1.keep hbV8) (And.intro (s7.out.2.2.2.1.keep hbV8) (s7.out.2.2.2.2.keep hbV8))))); clear hbV8))
              clear zm m0 m1 m2 l0 l1 l2
              obtain ⟨zn, ⟨n0, n1, n2⟩, ⟨k0, k1, k2⟩⟩ := s8.out.2.2.1
              obtain ⟨zm, ⟨m0, m1, m2⟩, ⟨l0, l1, l2⟩⟩ := s8.out.2.2.2.1
              go_wp2_with fail
              refine bodyPost_ret (v := .agg #[.bool false, .bool true, .slice A9 cnt c9]) (by simp [results, Tryz.results18, go_sem, zn, zm, n0, n1, n2, m0, m1, m2, nNM, nMN]) rfl ⟨(j1 + 1), wo, 0, true, A9, cnt, c9, ?_, ?_, rfl, ?_⟩
              · repeat (first | with_reducible exact s8.out.1 | refine But.new ?_ NW.out _)
              · repeat (first | with_reducible exact s8.out.2.1 | refine Rdc.far ?_ xN _)
              · rw [hQ.out, hlq.out]
                have e9 : endP true (PR.ok (acc ++ [x]) r2) = .ok (true, acc ++ [x]) [] := by
                  unfold endP
                  simp only
                  rw [if_pos trivial, if_pos hcl.out, if_pos hr2n.out]
                rw [e9]
                refine ⟨rfl, hn1.out, ⟨BB, lwB, TsRows.but s8.out.2.2.2.2 (b := N) ?_ lNB⟩, rfl⟩
                repeat (first | with_reducible exact But.refl N V8 | refine But.setCell (b := N) ?_ rfl _)
            · have hr2n := Lib.hid (show ¬ r2.tail = [] from by rw [← hd2.out]; intro h9; have := List.drop_eq_nil_iff.1 h9; omega)
              have hdn : Hid (decide ((j1 + 1) = ts.length) = false) := Lib.hid (decide_eq_false hz)
              have CD := fun X (hX : But b w X) (hR : Rdc X b A ts.length c (j1 + 1) en wo 0) => done_any X b A ts.length c (j1 + 1) en wo 0 hR
              rw [hdn.out] at CD
              replace CD := Lib.hid CD
              clear hz
              go_upto_region 14 with (first
                | (go_at_call 40; (with_reducible refine Calls.mono (CX.out _ s7a.out.1 s7a.out.2.1) ?_); rintro ee V7 ⟨rfl, hbV7, hrV7⟩; have s7 := Lib.hid (And.intro (s7a.out.1.trans hbV7) (And.intro hrV7 (And.intro (s7a.out.2.2.1.but hbV7 nbN) (And.intro (s7a.out.2.2.2.1.but hbV7 nbM) (s7a.out.2.2.2.2.but hbV7 lbB))))); clear hbV7 hrV7)
                | (go_at_call 44; (with_reducible refine Calls.mono (CD.out _ s7.out.1 s7.out.2.1) ?_); rintro ee V8 ⟨rfl, hbV8⟩; have s8 := Lib.hid (And.intro (s7.out.1.trans (But.of hbV8)) (And.intro (s7.out.2.1.keep hbV8) (And.intro (s7.out.2.2.1.keep hbV8) (And.intro (s7.out.2.2.2.1.keep hbV8) (s7.out.2.2.2.2.keep hbV8))))); clear hbV8))
              clear zm m0 m1 m2 l0 l1 l2
              have CF := Lib.hid fun X (hX : But b w X) (hR : Rdc X b A ts.length c (j1 + 1) en wo 0) => fail_any ts X b A c (j1 + 1) en wo 0 5 (plcT en (ts.drop (j1 + 1))) 5 (KT.out X hX) hR hjl hl (by rw [if_pos rfl]) (by rw [if_pos rfl])
              go_upto_region 15 with (go_at_call 41; (with_reducible refine Calls.mono (CF.out _ s8.out.1 s8.out.2.1) ?_); rintro ee V9 ⟨rfl, hbV9, hrV9⟩; have s9 := Lib.hid (And.intro (s8.out.1.trans hbV9) (And.intro hrV9 (And.intro (s8.out.2.2.1.but hbV9 nbN) (And.intro (s8.out.2.2.2.1.but hbV9 nbM) (s8.out.2.2.2.2.but hbV9 lbB))))); clear hbV9 hrV9)
              obtain ⟨zn, ⟨n0, n1, n2⟩, ⟨k0, k1, k2⟩⟩ := s9.out.2.2.1
              obtain ⟨zm, ⟨m0, m1, m2⟩, ⟨l0, l1, l2⟩⟩ := s9.out.2.2.2.1
              go_wp2_with fail
              refine bodyPost_ret (v := .agg #[.bool false, .bool true, .slice A9 cnt c9]) (by simp [results, Tryz.results18, go_sem, zn, zm, n0, n1, n2, m0, m1, m2, nNM, nMN]) rfl ⟨(j1 + 1), (plcT en (ts.drop (j1 + 1))), 5, true, A9, cnt, c9, ?_, ?_, rfl, ?_⟩
              · repeat (first | with_reducible exact s9.out.1 | refine But.new ?_ NW.out _)
              · repeat (first | with_reducible exact s9.out.2.1 | refine Rdc.far ?_ xN _)
              · rw [hQ.out, hlq.out]
                have e9 : endP true (PR.ok (acc ++ [x]) r2) = .bad r2.tail 5 := by
                  unfold endP
                  simp only
                  rw [if_pos trivial, if_pos hcl.out, if_neg hr2n.out]
                rw [e9]
                exact ⟨by rw [hd2.out], rfl⟩
          | false =>
            have hcl2 := Lib.hid (show isK 5 [41] (ts.drop j1) = false from by rw [hd1.out]; exact hcl)
            replace hcl := Lib.hid hcl
            have CX := fun X (hX : But b w X) (hR : Rdc X b A ts.length c j1 en wo 0) => sign_any ts [41] X b A c j1 j1 en wo 0 (KT.out X hX) hR hj1 hl (by rw [if_neg (by rw [hcl2.out]; decide)])
            rw [show isK 5 [41] (ts.drop j1) = false from hcl2.out, show bytesOf [41] = (⟨#[41]⟩ : ByteArray) from rfl] at CX
            have CX := Lib.hid CX
            go_upto_region 14 with (go_at_call 40; (with_reducible refine Calls.mono (CX.out _ s7a.out.1 s7a.out.2.1) ?_); rintro ee V8 ⟨rfl, hbV8, hrV8⟩; have s8 := Lib.hid (And.intro (s7a.out.1.trans hbV8) (And.intro hrV8 (And.intro (s7a.out.2.2.1.but hbV8 nbN) (And.intro (s7a.out.2.2.2.1.but hbV8 nbM) (s7a.out.2.2.2.2.but hbV8 lbB))))); clear hbV8 hrV8)
            clear zm m0 m1 m2 l0 l1 l2
            have CF := Lib.hid fun X (hX : But b w X) (hR : Rdc X b A ts.length c j1 en wo 0) => fail_any ts X b A c j1 en wo 0 5 (plcT en (ts.drop j1)) 5 (KT.out X hX) hR hj1 hl (by rw [if_pos rfl]) (by rw [if_pos rfl])
            go_upto_region 15 with (go_at_call 41; (with_reducible refine Calls.mono (CF.out _ s8.out.1 s8.out.2.1) ?_); rintro ee V9 ⟨rfl, hbV9, hrV9⟩; have s9 := Lib.hid (And.intro (s8.out.1.trans hbV9) (And.intro hrV9 (And.intro (s8.out.2.2.1.but hbV9 nbN) (And.intro (s8.out.2.2.2.1.but hbV9 nbM) (s8.out.2.2.2.2.but hbV9 lbB))))); clear hbV9 hrV9)
            obtain ⟨zn, ⟨n0, n1, n2⟩, ⟨k0, k1, k2⟩⟩ := s9.out.2.2.1
            obtain ⟨zm, ⟨m0, m1, m2⟩, ⟨l0, l1, l2⟩⟩ := s9.out.2.2.2.1
            go_wp2_with fail
            refine bodyPost_ret (v := .agg #[.bool false, .bool true, .slice A9 cnt c9]) (by simp [results, Tryz.results18, go_sem, zn, zm, n0, n1, n2, m0, m1, m2, nNM, nMN]) rfl ⟨j1, (plcT en (ts.drop j1)), 5, true, A9, cnt, c9, ?_, ?_, rfl, ?_⟩
            · repeat (first | with_reducible exact s9.out.1 | refine But.new ?_ NW.out _)
            · repeat (first | with_reducible exact s9.out.2.1 | refine Rdc.far ?_ xN _)
            · rw [hQ.out, hlq.out]
              have e9 : endP true (PR.ok (acc ++ [x]) r2) = .bad r2 5 := by
                unfold endP
                simp only
                rw [if_pos trivial, if_neg (by rw [hcl.out]; decide)]
              rw [e9]
              exact ⟨by rw [hd1.out], rfl⟩
theorem uwho_any (ts : List Tok) (w : World) (b : Nat) (A : Option Addr) (c i : Nat) (en wo : Int) (hT : Toks w A ts) (hr : Rdc w b A ts.length c i en wo 0) (hi : i ≤ ts.length) (hl : ts.length ≤ 65536) (hB : ∃ B, Toks B A ts ∧ Bel B w ∧ B.heap.size ≤ b) (hS : ∀ t ∈ ts, ksnd t = true) :
    Calls Tryz.prog 18 #[.pointer (some ⟨b, 0, none⟩)] w (WhoOut ts b A c en (whoP (ts.drop i)) w) := by
  cases hw : isK 4 [110, 111, 116] (ts.drop i) with
  | false => exact uwho_false ts w b A c i en wo hT hr hi hl hB hS hw
  | true =>
    cases hs : isS [40] (ts.drop (i + 1)) with
    | false => exact uwho_fail ts w b A c i en wo hT hr hi hl hB hS hw hs
    | true => exact uwho_true ts w b A c i en wo hT hr hi hl hB hS hw hs
end Go.Proofs.YtdggbafpdjenmaaGreatDoor
