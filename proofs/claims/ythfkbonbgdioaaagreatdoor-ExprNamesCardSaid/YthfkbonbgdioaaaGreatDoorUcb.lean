import Derived.Test.YthfkbonbgdioaaaGreatDoorLxn
import Derived.Test.YthfkbonbgdioaaaGreatDoorExb
namespace Go.Proofs.YthfkbonbgdioaaaGreatDoor
set_option linter.unusedSimpArgs false
set_option linter.unusedVariables false
open Go.RowKit

/-! A block of one's own that turns, while all others stay. -/
structure But (b : Nat) (w w' : World) : Prop where
  os : w'.os = w.os
  tape : w'.tape = w.tape
  output : w'.output = w.output
  size : w.heap.size ≤ w'.heap.size
  block : ∀ k, k < w.heap.size → k ≠ b → w'.heap[k]? = w.heap[k]?
  rest : b < w.heap.size → ∀ o, 5 ≤ o → w'.cell? ⟨b, o, none⟩ = w.cell? ⟨b, o, none⟩ ∧ w'.frozen? ⟨b, o, none⟩ = w.frozen? ⟨b, o, none⟩
theorem But.of {b : Nat} {w w' : World} (h : Bel w w') : But b w w' := ⟨h.os, h.tape, h.output, h.size, fun k hk _ => h.block k hk, fun hb o _ => ⟨h.cells _ _ hb, h.frozens _ _ hb⟩⟩
theorem But.refl (b : Nat) (w : World) : But b w w := But.of (Bel.refl w)
theorem But.trans {b : Nat} {u v w : World} (h : But b u v) (k : But b v w) : But b u w :=
  ⟨k.os.trans h.os, k.tape.trans h.tape, k.output.trans h.output, Nat.le_trans h.size k.size, fun i hi hb => (k.block i (Nat.lt_of_lt_of_le hi h.size) hb).trans (h.block i hi hb),
    fun hb o ho => ⟨(k.rest (Nat.lt_of_lt_of_le hb h.size) o ho).1.trans (h.rest hb o ho).1, (k.rest (Nat.lt_of_lt_of_le hb h.size) o ho).2.trans (h.rest hb o ho).2⟩⟩
theorem But.setCell {b : Nat} {u w : World} (h : But b u w) {i : Nat} (hi : i < 5) (x : Value) : But b u (w.setCell ⟨b, i, none⟩ x) :=
  h.trans ⟨rfl, rfl, rfl, by simp [World.setCell], fun k _ hk => Below.heap_setCell _ _ _ _ (by exact hk), fun _ o ho => by
    have hne : ¬ i = o := by omega
    refine ⟨?_, by simp [go_sem]⟩
    simp [go_sem, hne]⟩
theorem But.bel {b : Nat} {w0 w w' : World} (hb : But b w w') (h : Bel w0 w) (h0 : w0.heap.size ≤ b) : Bel w0 w' :=
  Below.trans h ⟨hb.os, hb.tape, hb.output, hb.size, fun k hk => hb.block k (Nat.lt_of_lt_of_le hk h.size) (by omega)⟩
theorem But.cell {b : Nat} {w w' : World} (h : But b w w') {p : Addr} (hp : p.block < w.heap.size) (hb : p.block ≠ b) : w'.cell? p = w.cell? p := World.cell?_of_block (w := w) (h.block p.block hp hb)
theorem But.frozen {b : Nat} {w w' : World} (h : But b w w') {p : Addr} (hp : p.block < w.heap.size) (hb : p.block ≠ b) : w'.frozen? p = w.frozen? p := World.frozen?_of_block (w := w) (h.block p.block hp hb)
/-- What reads tokens: its five cells. -/
def Rdc (w : World) (b : Nat) (A : Option Addr) (n c i : Nat) (en wr e : Int) : Prop := b < w.heap.size ∧
  (w.cell? ⟨b, 0, none⟩ = some (.slice A n c) ∧ w.cell? ⟨b, 1, none⟩ = some (.int .i64 i) ∧ w.cell? ⟨b, 2, none⟩ = some (.int .i64 en) ∧ w.cell? ⟨b, 3, none⟩ = some (.int .i64 wr) ∧ w.cell? ⟨b, 4, none⟩ = some (.int .i64 e)) ∧
  (w.frozen? ⟨b, 0, none⟩ = false ∧ w.frozen? ⟨b, 1, none⟩ = false ∧ w.frozen? ⟨b, 2, none⟩ = false ∧ w.frozen? ⟨b, 3, none⟩ = false ∧ w.frozen? ⟨b, 4, none⟩ = false)
theorem Rdc.keep {w w' : World} {b : Nat} {A : Option Addr} {n c i : Nat} {en wr e : Int} (h : Rdc w b A n c i en wr e) (hb : Bel w w') : Rdc w' b A n c i en wr e := by
  obtain ⟨h0, ⟨a0, a1, a2, a3, a4⟩, ⟨f0, f1, f2, f3, f4⟩⟩ := h
  have c := hb.cells b
  have f := hb.frozens b
  refine ⟨Nat.lt_of_lt_of_le h0 hb.size, ⟨?_, ?_, ?_, ?_, ?_⟩, ⟨?_, ?_, ?_, ?_, ?_⟩⟩
  all_goals first | (rw [c _ h0]; assumption) | (rw [f _ h0]; assumption)
theorem Rdc.next {w : World} {b : Nat} {A : Option Addr} {n c i : Nat} {en wr e : Int} (h : Rdc w b A n c i en wr e) (j : Nat) : Rdc (w.setCell ⟨b, 1, none⟩ (.int .i64 j)) b A n c j en wr e := by
  obtain ⟨h0, ⟨a0, a1, a2, a3, a4⟩, ⟨f0, f1, f2, f3, f4⟩⟩ := h
  simp [Rdc, go_sem, h0, a0, a1, a2, a3, a4, f0, f1, f2, f3, f4]
theorem Rdc.fail {w : World} {b : Nat} {A : Option Addr} {n c i : Nat} {en wr e : Int} (h : Rdc w b A n c i en wr e) (wr' e' : Int) : Rdc ((w.setCell ⟨b, 3, none⟩ (.int .i64 wr')).setCell ⟨b, 4, none⟩ (.int .i64 e')) b A n c i en wr' e' := by
  obtain ⟨h0, ⟨a0, a1, a2, a3, a4⟩, ⟨f0, f1, f2, f3, f4⟩⟩ := h
  simp [Rdc, go_sem, h0, a0, a1, a2, a3, a4, f0, f1, f2, f3, f4]
/-- The next token; at the end one of no kind. -/
def pekT (r : List Tok) : Tok := match r with
  | [] => tokZ
  | t :: _ => t
/-- The place of what is next. -/
def plcT (en : Int) (r : List Tok) : Int := match r with
  | [] => en
  | t :: _ => t.pos
abbrev tvT (t : Tok) : Value := .agg #[.int .i64 t.kind, .int .i64 t.pos, .string (bytesOf t.text), .int .i64 t.dn, .int .i64 t.ds, .int .i64 t.day]
theorem drop_tok {α : Type} {l : List α} {i : Nat} (h : i < l.length) : ∃ t, l[i]? = some t ∧ l.drop i = t :: l.drop (i + 1) := ⟨l[i], List.getElem?_eq_getElem h, List.drop_eq_getElem_cons h⟩
set_option maxRecDepth 100000 in
set_option maxHeartbeats 4000000 in
theorem done_any (w : World) (b : Nat) (A : Option Addr) (n c i : Nat) (en wr e : Int) (hr : Rdc w b A n c i en wr e) : Calls Tryz.prog 28 #[.pointer (some ⟨b, 0, none⟩)] w fun r w' => r = .returned (.bool (decide (i = n))) ∧ Bel w w' := by
  obtain ⟨h0, ⟨a0, a1, a2, a3, a4⟩, ⟨f0, f1, f2, f3, f4⟩⟩ := hr
  go_enter Tryz.func28, Tryz.ntmps28
  by_cases hi : i = n
  · have g : ((i : Int) == (n : Int)) = true := beq_iff_eq.2 (by omega)
    have g2 := decide_eq_true hi
    go_wp2_with fail
    go_quiet (fail)
    go_wp2_with fail
    go_ret
    exact ⟨by (rw [g2]) <;> rfl, bel_drewN _ _⟩
  · have g : ((i : Int) == (n : Int)) = false := beq_eq_false_iff_ne.2 (by omega)
    have g2 := decide_eq_false hi
    go_wp2_with fail
    go_quiet (fail)
    go_wp2_with fail
    go_ret
    exact ⟨by (rw [g2]) <;> rfl, bel_drewN _ _⟩
set_option maxRecDepth 100000 in
set_option maxHeartbeats 4000000 in
theorem failed_any (w : World) (b : Nat) (A : Option Addr) (n c i : Nat) (en wr e : Int) (hr : Rdc w b A n c i en wr e) : Calls Tryz.prog 26 #[.pointer (some ⟨b, 0, none⟩)] w fun r w' => r = .returned (.tuple #[.int .i64 wr, .int .i64 e]) ∧ Bel w w' := by
  obtain ⟨h0, ⟨a0, a1, a2, a3, a4⟩, ⟨f0, f1, f2, f3, f4⟩⟩ := hr
  go_enter Tryz.func26, Tryz.ntmps26
  go_wp2_with fail
  go_quiet (fail)
  go_wp2_with fail
  go_ret2
  exact ⟨rfl, bel_drewN _ _⟩
set_option maxRecDepth 100000 in
set_option maxHeartbeats 4000000 in
theorem place_any (ts : List Tok) (w : World) (b : Nat) (A : Option Addr) (c i : Nat) (en wr e : Int) (hT : Toks w A ts) (hr : Rdc w b A ts.length c i en wr e) (hi : i ≤ ts.length) (hl : ts.length ≤ 65536) :
    Calls Tryz.prog 46 #[.pointer (some ⟨b, 0, none⟩)] w fun r w' => r = .returned (.int .i64 (plcT en (ts.drop i))) ∧ Bel w w' := by
  have CD := Lib.hid fun W (hW : Bel w W) => done_any W b A ts.length c i en wr e (hr.keep hW)
  by_cases hd : i = ts.length
  · subst hd
    rw [List.drop_length]
    have g := decide_eq_true (rfl : ts.length = ts.length)
    rw [g] at CD
    have KR := Lib.hid hr
    clear hT
    go_enter Tryz.func46, Tryz.ntmps46
    go_upto_region 2 with (go_at_call 28; (with_reducible refine Calls.mono (CD.out _ (Bel.refl _)) ?_); rintro ee V1 ⟨rfl, hb1⟩)
    obtain ⟨h0, ⟨a0, a1, a2, a3, a4⟩, ⟨f0, f1, f2, f3, f4⟩⟩ := KR.out.keep hb1
    go_wp2_with fail
    go_ret
    exact ⟨rfl, hb1⟩
  · obtain ⟨t, ht, hdr⟩ := drop_tok (l := ts) (i := i) (by omega)
    rw [hdr]
    rw [decide_eq_false hd] at CD
    have KR := Lib.hid hr
    obtain ⟨tb, tof, hA, htb, hat⟩ := hT.at (by omega)
    subst hA
    have KA := Lib.hid (hat i t ht)
    have l1 : (i : Int) < (ts.length : Int) := by omega
    have l0 : (0 : Int) ≤ (i : Int) := by omega
    clear hT hat hdr ht
    go_enter Tryz.func46, Tryz.ntmps46
    go_upto_region 3 with (go_at_call 28; (with_reducible refine Calls.mono (CD.out _ (Bel.refl _)) ?_); rintro ee V1 ⟨rfl, hb1⟩)
    obtain ⟨h0, ⟨a0, a1, a2, a3, a4⟩, ⟨f0, f1, f2, f3, f4⟩⟩ := KR.out.keep hb1
    obtain ⟨k0, k1, k2, k3, k4, k5⟩ := KA.out.keep hb1 htb
    go_quiet (fail)
    go_wp2_with fail
    go_ret
    exact ⟨rfl, hb1.trans (bel_drewN _ _)⟩
end Go.Proofs.YthfkbonbgdioaaaGreatDoor
namespace Go.Proofs.YthfkbonbgdioaaaGreatDoor
set_option linter.unusedSimpArgs false
set_option linter.unusedVariables false
open Go.RowKit
/-! The reader: what is next, and passing over it. -/
theorem beq_ne {a b : ByteArray} (h : a ≠ b) : (a.toList == b.toList) = false := by
  rw [beq_eq_false_iff_ne]
  exact fun e => h ((toList_inj a b).1 e)
set_option maxRecDepth 100000 in
set_option maxHeartbeats 4000000 in
theorem peek_any (ts : List Tok) (w : World) (b : Nat) (A : Option Addr) (c i : Nat) (en wr e : Int) (hT : Toks w A ts) (hr : Rdc w b A ts.length c i en wr e) (hi : i ≤ ts.length) (hl : ts.length ≤ 65536) :
    Calls Tryz.prog 131 #[.pointer (some ⟨b, 0, none⟩)] w fun r w' => r = .returned (tvT (pekT (ts.drop i))) ∧ Bel w w' := by
  have CD := Lib.hid fun W (hW : Bel w W) => done_any W b A ts.length c i en wr e (hr.keep hW)
  by_cases hd : i = ts.length
  · subst hd
    rw [List.drop_length]
    rw [decide_eq_true (rfl : ts.length = ts.length)] at CD
    clear hT hr
    go_enter Tryz.func131, Tryz.ntmps131
    go_upto_region 1 with fail
    refine under_name ((Bel.refl w).alloc _) fun W hc hf hz hb => ?_
    have T : TSlot W w.heap.size tokZ := by simp [TSlot, tokZ, bytesOf, hc, hf, hz, go_sem]
    clear hc hf hz
    generalize hN : w.heap.size = N at T ⊢
    have BN := Lib.hid (show w.heap.size ≤ N from by omega)
    clear hN
    go_wp2_with (go_at_call 28; (with_reducible refine Calls.mono (CD.out _ hb) ?_); rintro ee W1 ⟨rfl, hb1⟩; obtain ⟨t0, ⟨t1, t2, t3, t4, t5, t6⟩, ⟨g1, g2, g3, g4, g5, g6⟩⟩ := T.keep hb1; simp only [tokZ] at t1 t2 t3 t4 t5 t6)
    refine bodyPost_ret (v := tvT tokZ) (by simp [results, Tryz.results131, go_sem, t0, t1, t2, t3, t4, t5, t6, tokZ, bytesOf]) rfl ⟨rfl, ?_⟩
    have hN := BN.out
    have hq1 := hb.trans hb1
    (repeat (first | with_reducible exact Bel.refl _ | with_reducible refine Bel.setCell ?_ (by first | exact Nat.le_refl _ | (dsimp only; omega)) _ | with_reducible refine Bel.alloc ?_ _ | with_reducible refine Bel.drew ?_ | with_reducible assumption | with_reducible refine Bel.trans ?_ (by assumption)))
  · obtain ⟨t, ht, hdr⟩ := drop_tok (l := ts) (i := i) (by omega)
    rw [hdr]
    rw [decide_eq_false hd] at CD
    have KR := Lib.hid hr
    obtain ⟨tb, tof, hA, htb, hat⟩ := hT.at (by omega)
    subst hA
    have KA := Lib.hid (hat i t ht)
    have l1 : (i : Int) < (ts.length : Int) := by omega
    have l0 : (0 : Int) ≤ (i : Int) := by omega
    show Calls _ _ _ _ (fun r w' => r = .returned (tvT t) ∧ Bel w w')
    clear hT hat hdr ht hr
    go_enter Tryz.func131, Tryz.ntmps131
    go_upto_region 1 with fail
    refine under_name ((Bel.refl w).alloc _) fun W hc hf hz hb => ?_
    have T : TSlot W w.heap.size tokZ := by simp [TSlot, tokZ, bytesOf, hc, hf, hz, go_sem]
    clear hc hf hz
    generalize hN : w.heap.size = N at T ⊢
    have BN := Lib.hid (show w.heap.size ≤ N from by omega)
    clear hN
    go_upto_region 3 with (go_at_call 28; (with_reducible refine Calls.mono (CD.out _ hb) ?_); rintro ee W1 ⟨rfl, hb1⟩; obtain ⟨t0, ⟨t1, t2, t3, t4, t5, t6⟩, ⟨g1, g2, g3, g4, g5, g6⟩⟩ := T.keep hb1; simp only [tokZ] at t1 t2 t3 t4 t5 t6)
    obtain ⟨h0, ⟨a0, a1, a2, a3, a4⟩, ⟨f0, f1, f2, f3, f4⟩⟩ := KR.out.keep (hb.trans hb1)
    obtain ⟨k0, k1, k2, k3, k4, k5⟩ := KA.out.keep (hb.trans hb1) htb
    go_region
    go_wp2_with fail
    refine bodyPost_ret (v := tvT t) (by simp [results, Tryz.results131, go_sem, t0, t1, t2, t3, t4, t5, t6]) rfl ⟨rfl, ?_⟩
    have hN := BN.out
    have hq1 := hb.trans hb1
    (repeat (first | with_reducible exact Bel.refl _ | with_reducible refine Bel.setCell ?_ (by first | exact Nat.le_refl _ | (dsimp only; omega)) _ | with_reducible refine Bel.alloc ?_ _ | with_reducible refine Bel.drew ?_ | with_reducible assumption | with_reducible refine Bel.trans ?_ (by assumption)))
set_option maxRecDepth 100000 in
set_option maxHeartbeats 4000000 in
theorem failAt_any (w : World) (b : Nat) (A : Option Addr) (n c i : Nat) (en wr e p f p' f' : Int) (hr : Rdc w b A n c i en wr e) (h1 : p' = if e = 0 then p else wr) (h2 : f' = if e = 0 then f else e) :
    Calls Tryz.prog 45 #[.pointer (some ⟨b, 0, none⟩), .int .i64 p, .int .i64 f] w fun r w' => r = .returned (.bool false) ∧ But b w w' ∧ Rdc w' b A n c i en p' f' := by
  have KR := Lib.hid hr
  obtain ⟨h0, ⟨a0, a1, a2, a3, a4⟩, ⟨f0, f1, f2, f3, f4⟩⟩ := hr
  by_cases he : e = 0
  · have g : (e == 0) = true := beq_iff_eq.2 he
    rw [if_pos he] at h1 h2
    subst h1 h2
    clear he
    go_enter Tryz.func45, Tryz.ntmps45
    go_wp2_with fail
    go_ret
    exact ⟨rfl, ((But.refl b w).setCell (by decide) _).setCell (by decide) _, KR.out.fail p' f'⟩
  · have g : (e == 0) = false := beq_eq_false_iff_ne.2 he
    rw [if_neg he] at h1 h2
    subst h1 h2
    clear he
    go_enter Tryz.func45, Tryz.ntmps45
    go_wp2_with fail
    go_ret
    exact ⟨rfl, But.refl b w, KR.out⟩
set_option maxRecDepth 100000 in
set_option maxHeartbeats 4000000 in
theorem fail_any (ts : List Tok) (w : World) (b : Nat) (A : Option Addr) (c i : Nat) (en wr e f p' f' : Int) (hT : Toks w A ts) (hr : Rdc w b A ts.length c i en wr e) (hi : i ≤ ts.length) (hl : ts.length ≤ 65536)
    (h1 : p' = if e = 0 then plcT en (ts.drop i) else wr) (h2 : f' = if e = 0 then f else e) :
    Calls Tryz.prog 29 #[.pointer (some ⟨b, 0, none⟩), .int .i64 f] w fun r w' => r = .returned (.bool false) ∧ But b w w' ∧ Rdc w' b A ts.length c i en p' f' := by
  have CP := Lib.hid (place_any ts w b A c i en wr e hT hr hi hl)
  have CF := Lib.hid fun W p (hW : Bel w W) (h1 : p' = if e = 0 then p else wr) => failAt_any W b A ts.length c i en wr e p f p' f' (hr.keep hW) h1 h2
  generalize plcT en (ts.drop i) = p at CP h1
  have CF := Lib.hid fun W (hW : Bel w W) => CF.out W p hW h1
  clear hT hr h1 h2
  go_enter Tryz.func29, Tryz.ntmps29
  go_wp2_with (first
    | (go_at_call 46; (with_reducible refine Calls.mono CP.out ?_); rintro ee V1 ⟨rfl, hb1⟩; have hq1 := Lib.hid hb1)
    | (go_at_call 45; (with_reducible refine Calls.mono (CF.out _ hq1.out) ?_); rintro ee V2 ⟨rfl, hb2, hr2⟩; have hq2 := Lib.hid (And.intro hb2 hr2)))
  go_ret
  exact ⟨rfl, (But.of hq1.out).trans hq2.out.1, hq2.out.2⟩
set_option maxRecDepth 100000 in
set_option maxHeartbeats 4000000 in
theorem take_any (ts : List Tok) (k : Int) (x : List UInt8) (w : World) (b : Nat) (A : Option Addr) (c i j : Nat) (en wr e : Int) (hT : Toks w A ts) (hr : Rdc w b A ts.length c i en wr e) (hi : i ≤ ts.length) (hl : ts.length ≤ 65536) (h1 : j = if isK k x (ts.drop i) = true then i + 1 else i) (hk : k ≠ 0) :
    Calls Tryz.prog 97 #[.pointer (some ⟨b, 0, none⟩), .int .i64 k, .string (bytesOf x)] w fun r w' => r = .returned (.bool (isK k x (ts.drop i))) ∧ But b w w' ∧ Rdc w' b A ts.length c j en wr e := by
  have CP := Lib.hid (peek_any ts w b A c i en wr e hT hr hi hl)
  have KR := Lib.hid hr
  have ha : isK k x (ts.drop i) = (decide ((pekT (ts.drop i)).kind = k) && decide ((pekT (ts.drop i)).text = x)) := by
    cases ts.drop i with
    | nil =>
      show false = (decide ((0 : Int) = k) && _)
      rw [decide_eq_false (fun e => hk e.symm)]
      rfl
    | cons t r => rfl
  have hin : isK k x (ts.drop i) = true → i < ts.length := fun h => by
    have := isK_ne h
    rcases Nat.lt_or_ge i ts.length with h2 | h2
    · exact h2
    · exact absurd (List.drop_eq_nil_of_le h2) this
  rw [ha] at hin h1 ⊢
  generalize pekT (ts.drop i) = t at CP h1 hin ⊢
  obtain ⟨tk, tp, tx, ta, tb, td⟩ := t
  simp only at h1 hin ⊢
  clear hT ha
  by_cases hkk : tk = k
  · have g1 : (tk != k) = false := by rw [bne_eq_false_iff_eq]; exact hkk
    by_cases hx : tx = x
    · rw [decide_eq_true hkk, decide_eq_true hx] at h1 hin ⊢
      rw [if_pos (by rfl)] at h1
      subst h1
      have hij := hin rfl
      have g2 : ((bytesOf tx).toList == (bytesOf x).toList) = true := by rw [beq_iff_eq, hx]
      have w1 : IntKind.i64.wrap ((i : Int) + 1) = ((i + 1 : Nat) : Int) := by rw [IntKind.wrap_i64]; omega
      clear hkk hx hin hr
      go_enter Tryz.func97, Tryz.ntmps97
      go_upto_region 4 with (go_at_call 131; (with_reducible refine Calls.mono CP.out ?_); rintro ee V1 ⟨rfl, hb1⟩; have hq1 := Lib.hid hb1; have KR1 := Lib.hid (KR.out.keep hb1))
      refine under_name ((Bel.refl V1).alloc _) fun W hc hf hz hb => ?_
      clear hc hf hz
      have KR2 := Lib.hid (KR1.out.keep hb)
      obtain ⟨h0, ⟨a0, a1, a2, a3, a4⟩, ⟨f0, f1, f2, f3, f4⟩⟩ := KR2.out
      go_wp2_with fail
      go_ret
      have en1 : (((i + 1 : Nat)) : Int) = (i : Int) + 1 := by omega
      have KN := KR2.out.next (i + 1)
      rw [en1] at KN
      exact ⟨rfl, (But.of (hq1.out.trans hb)).setCell (i := 1) (by decide) _, KN⟩
    · rw [decide_eq_true hkk, decide_eq_false hx] at h1 ⊢
      rw [if_neg (by decide)] at h1
      subst h1
      have g2 : ((bytesOf tx).toList == (bytesOf x).toList) = false := beq_ne (fun e => hx (bytesOf_inj e))
      clear hkk hx hin hr
      go_enter Tryz.func97, Tryz.ntmps97
      go_upto_region 3 with (go_at_call 131; (with_reducible refine Calls.mono CP.out ?_); rintro ee V1 ⟨rfl, hb1⟩; have hq1 := Lib.hid hb1)
      refine under_name ((Bel.refl V1).alloc _) fun W hc hf hz hb => ?_
      clear hc hf hz
      go_wp2_with fail
      go_ret
      have hq2 := hq1.out.trans hb
      exact ⟨rfl, But.of hq2, KR.out.keep hq2⟩
  · have g1 : (tk != k) = true := bne_iff_ne.2 hkk
    rw [decide_eq_false hkk, Bool.false_and] at h1 ⊢
    rw [if_neg (by decide)] at h1
    subst h1
    clear hkk hin hr
    go_enter Tryz.func97, Tryz.ntmps97
    go_upto_region 3 with (go_at_call 131; (with_reducible refine Calls.mono CP.out ?_); rintro ee V1 ⟨rfl, hb1⟩; have hq1 := Lib.hid hb1)
    refine under_name ((Bel.refl V1).alloc _) fun W hc hf hz hb => ?_
    clear hc hf hz
    go_wp2_with fail
    go_ret
    have hq2 := hq1.out.trans hb
    exact ⟨rfl, But.of hq2, KR.out.keep hq2⟩
end Go.Proofs.YthfkbonbgdioaaaGreatDoor
