import Derived.Test.YthfkbonbgdioaaaGreatDoorUcb
namespace Go.Proofs.YthfkbonbgdioaaaGreatDoor
set_option linter.unusedSimpArgs false
set_option linter.unusedVariables false
open Go.RowKit
/-! The reader: signs, words, values. -/
set_option maxRecDepth 100000 in
set_option maxHeartbeats 4000000 in
theorem sign_any (ts : List Tok) (x : List UInt8) (w : World) (b : Nat) (A : Option Addr) (c i j : Nat) (en wr e : Int) (hT : Toks w A ts) (hr : Rdc w b A ts.length c i en wr e) (hi : i ≤ ts.length) (hl : ts.length ≤ 65536) (h1 : j = if isK 5 x (ts.drop i) = true then i + 1 else i) :
    Calls Tryz.prog 132 #[.pointer (some ⟨b, 0, none⟩), .string (bytesOf x)] w fun r w' => r = .returned (.bool (isK 5 x (ts.drop i))) ∧ But b w w' ∧ Rdc w' b A ts.length c j en wr e := by
  have C := Lib.hid (take_any ts 5 x w b A c i j en wr e hT hr hi hl h1 (by decide))
  clear hT hr h1
  generalize isK 5 x (ts.drop i) = q at C ⊢
  generalize bytesOf x = z at C ⊢
  go_enter Tryz.func132, Tryz.ntmps132
  go_wp2_with (go_at_call 97; (with_reducible refine Calls.mono C.out ?_); rintro ee V1 ⟨rfl, hb1, hr1⟩)
  go_ret
  exact ⟨rfl, hb1, hr1⟩
set_option maxRecDepth 100000 in
set_option maxHeartbeats 4000000 in
theorem word_any (ts : List Tok) (x : List UInt8) (w : World) (b : Nat) (A : Option Addr) (c i j : Nat) (en wr e : Int) (hT : Toks w A ts) (hr : Rdc w b A ts.length c i en wr e) (hi : i ≤ ts.length) (hl : ts.length ≤ 65536) (h1 : j = if isK 4 x (ts.drop i) = true then i + 1 else i) :
    Calls Tryz.prog 62 #[.pointer (some ⟨b, 0, none⟩), .string (bytesOf x)] w fun r w' => r = .returned (.bool (isK 4 x (ts.drop i))) ∧ But b w w' ∧ Rdc w' b A ts.length c j en wr e := by
  have C := Lib.hid (take_any ts 4 x w b A c i j en wr e hT hr hi hl h1 (by decide))
  clear hT hr h1
  generalize isK 4 x (ts.drop i) = q at C ⊢
  generalize bytesOf x = z at C ⊢
  go_enter Tryz.func62, Tryz.ntmps62
  go_wp2_with (go_at_call 97; (with_reducible refine Calls.mono C.out ?_); rintro ee V1 ⟨rfl, hb1, hr1⟩)
  go_ret
  exact ⟨rfl, hb1, hr1⟩
/-- The value that a token is, and whether it is one. -/
def vofV (t : Tok) : Value := match valT t with
  | some v => .tuple #[.agg #[.int .i64 v.kind, .int .i64 v.n, .int .i64 v.scale, .string v.text, .int .i64 v.num], .bool true]
  | none => .tuple #[.agg #[.int .i64 0, .int .i64 0, .int .i64 0, .string ⟨#[]⟩, .int .i64 0], .bool false]
theorem vof4 (p : Int) (x : List UInt8) (a s d : Int) : vofV ⟨4, p, x, a, s, d⟩ = if x = [110, 117, 108, 108] then .tuple #[.agg #[.int .i64 0, .int .i64 0, .int .i64 0, .string ⟨#[]⟩, .int .i64 0], .bool true] else if x = [116, 114, 117, 101] then .tuple #[.agg #[.int .i64 3, .int .i64 0, .int .i64 0, .string ⟨#[]⟩, .int .i64 1], .bool true] else if x = [102, 97, 108, 115, 101] then .tuple #[.agg #[.int .i64 3, .int .i64 0, .int .i64 0, .string ⟨#[]⟩, .int .i64 0], .bool true] else .tuple #[.agg #[.int .i64 0, .int .i64 0, .int .i64 0, .string ⟨#[]⟩, .int .i64 0], .bool false] := by
  unfold vofV valT
  rw [if_neg (show ¬ (4 : Int) = 1 by decide), if_neg (show ¬ (4 : Int) = 2 by decide), if_neg (show ¬ (4 : Int) = 3 by decide), if_pos (show (4 : Int) = 4 from rfl)]
  simp only
  by_cases h0 : x = [110, 117, 108, 108]
  · rw [if_pos h0, if_pos h0]
  · rw [if_neg h0, if_neg h0]
    by_cases h1 : x = [116, 114, 117, 101]
    · rw [if_pos h1, if_pos h1]
    · rw [if_neg h1, if_neg h1]
      by_cases h2 : x = [102, 97, 108, 115, 101]
      · rw [if_pos h2, if_pos h2]
      · rw [if_neg h2, if_neg h2]
theorem kinds_t (k : Int) : k = 1 ∨ k = 2 ∨ k = 3 ∨ k = 4 ∨ (k ≠ 1 ∧ k ≠ 2 ∧ k ≠ 3 ∧ k ≠ 4) := by omega
set_option maxRecDepth 100000 in
set_option maxHeartbeats 4000000 in
theorem valueOf_any (t : Tok) (w : World) : Calls Tryz.prog 177 #[tvT t] w fun r w' => r = .returned (vofV t) ∧ Bel w w' := by
  obtain ⟨k, p, x, a, s, d⟩ := t
  rcases kinds_t k with rfl | rfl | rfl | rfl | ⟨n1, n2, n3, n4⟩
  · have V := Lib.hid (show vofV ⟨1, p, x, a, s, d⟩ = .tuple #[.agg #[.int .i64 1, .int .i64 a, .int .i64 s, .string ⟨#[]⟩, .int .i64 0], .bool true] from rfl)
    go_enter Tryz.func177, Tryz.ntmps177
    go_wp2_with fail
    refine bodyPost_ret (v := .tuple #[.agg #[.int .i64 1, .int .i64 a, .int .i64 s, .string ⟨#[]⟩, .int .i64 0], .bool true]) (by simp [results, Tryz.results177, go_sem]) rfl ⟨by (rw [V.out]) <;> rfl, ((Bel.refl w).alloc _).alloc _⟩
  · have V := Lib.hid (show vofV ⟨2, p, x, a, s, d⟩ = .tuple #[.agg #[.int .i64 2, .int .i64 0, .int .i64 0, .string (bytesOf x), .int .i64 0], .bool true] from rfl)
    go_enter Tryz.func177, Tryz.ntmps177
    go_wp2_with fail
    refine bodyPost_ret (v := .tuple #[.agg #[.int .i64 2, .int .i64 0, .int .i64 0, .string (bytesOf x), .int .i64 0], .bool true]) (by simp [results, Tryz.results177, go_sem]) rfl ⟨by (rw [V.out]) <;> rfl, ((Bel.refl w).alloc _).alloc _⟩
  · have V := Lib.hid (show vofV ⟨3, p, x, a, s, d⟩ = .tuple #[.agg #[.int .i64 4, .int .i64 0, .int .i64 0, .string ⟨#[]⟩, .int .i64 d], .bool true] from rfl)
    go_enter Tryz.func177, Tryz.ntmps177
    go_wp2_with fail
    refine bodyPost_ret (v := .tuple #[.agg #[.int .i64 4, .int .i64 0, .int .i64 0, .string ⟨#[]⟩, .int .i64 d], .bool true]) (by simp [results, Tryz.results177, go_sem]) rfl ⟨by (rw [V.out]) <;> rfl, ((Bel.refl w).alloc _).alloc _⟩
  · have VX := vof4 p x a s d
    have L := Lib.hid (fun (l : List UInt8) (h : x = l) => (show ((bytesOf x).toList == (bytesOf l).toList) = true from by rw [h]; exact beq_iff_eq.2 rfl))
    have N := Lib.hid (fun (l : List UInt8) (h : x ≠ l) => (show ((bytesOf x).toList == (bytesOf l).toList) = false from beq_ne fun e => h (bytesOf_inj e)))
    by_cases h0 : x = [110, 117, 108, 108]
    · have c0 : ((bytesOf x).toList == [110, 117, 108, 108]) = true := by
        have t := L.out [110, 117, 108, 108] h0
        rwa [show (bytesOf [110, 117, 108, 108]).toList = [110, 117, 108, 108] from by decide +kernel] at t
      have V := Lib.hid (show vofV ⟨4, p, x, a, s, d⟩ = .tuple #[.agg #[.int .i64 0, .int .i64 0, .int .i64 0, .string ⟨#[]⟩, .int .i64 0], .bool true] from by rw [VX, if_pos h0])
      generalize vofV ⟨4, p, x, a, s, d⟩ = F at V ⊢
      clear VX L N h0
      go_enter Tryz.func177, Tryz.ntmps177
      go_wp2_with fail
      refine bodyPost_ret (v := .tuple #[.agg #[.int .i64 0, .int .i64 0, .int .i64 0, .string ⟨#[]⟩, .int .i64 0], .bool true]) (by simp [results, Tryz.results177, go_sem]) rfl ⟨by (rw [V.out]) <;> rfl, ((Bel.refl w).alloc _).alloc _⟩
    have c0 : ((bytesOf x).toList == [110, 117, 108, 108]) = false := by
      have t := N.out [110, 117, 108, 108] h0
      rwa [show (bytesOf [110, 117, 108, 108]).toList = [110, 117, 108, 108] from by decide +kernel] at t
    by_cases h1 : x = [116, 114, 117, 101]
    · have c1 : ((bytesOf x).toList == [116, 114, 117, 101]) = true := by
        have t := L.out [116, 114, 117, 101] h1
        rwa [show (bytesOf [116, 114, 117, 101]).toList = [116, 114, 117, 101] from by decide +kernel] at t
      have V := Lib.hid (show vofV ⟨4, p, x, a, s, d⟩ = .tuple #[.agg #[.int .i64 3, .int .i64 0, .int .i64 0, .string ⟨#[]⟩, .int .i64 1], .bool true] from by rw [VX, if_neg h0, if_pos h1])
      generalize vofV ⟨4, p, x, a, s, d⟩ = F at V ⊢
      clear VX L N h0 h1
      go_enter Tryz.func177, Tryz.ntmps177
      go_wp2_with fail
      refine bodyPost_ret (v := .tuple #[.agg #[.int .i64 3, .int .i64 0, .int .i64 0, .string ⟨#[]⟩, .int .i64 1], .bool true]) (by simp [results, Tryz.results177, go_sem]) rfl ⟨by (rw [V.out]) <;> rfl, ((Bel.refl w).alloc _).alloc _⟩
    have c1 : ((bytesOf x).toList == [116, 114, 117, 101]) = false := by
      have t := N.out [116, 114, 117, 101] h1
      rwa [show (bytesOf [116, 114, 117, 101]).toList = [116, 114, 117, 101] from by decide +kernel] at t
    by_cases h2 : x = [102, 97, 108, 115, 101]
    · have c2 : ((bytesOf x).toList == [102, 97, 108, 115, 101]) = true := by
        have t := L.out [102, 97, 108, 115, 101] h2
        rwa [show (bytesOf [102, 97, 108, 115, 101]).toList = [102, 97, 108, 115, 101] from by decide +kernel] at t
      have V := Lib.hid (show vofV ⟨4, p, x, a, s, d⟩ = .tuple #[.agg #[.int .i64 3, .int .i64 0, .int .i64 0, .string ⟨#[]⟩, .int .i64 0], .bool true] from by rw [VX, if_neg h0, if_neg h1, if_pos h2])
      generalize vofV ⟨4, p, x, a, s, d⟩ = F at V ⊢
      clear VX L N h0 h1 h2
      go_enter Tryz.func177, Tryz.ntmps177
      go_wp2_with fail
      refine bodyPost_ret (v := .tuple #[.agg #[.int .i64 3, .int .i64 0, .int .i64 0, .string ⟨#[]⟩, .int .i64 0], .bool true]) (by simp [results, Tryz.results177, go_sem]) rfl ⟨by (rw [V.out]) <;> rfl, ((Bel.refl w).alloc _).alloc _⟩
    have c2 : ((bytesOf x).toList == [102, 97, 108, 115, 101]) = false := by
      have t := N.out [102, 97, 108, 115, 101] h2
      rwa [show (bytesOf [102, 97, 108, 115, 101]).toList = [102, 97, 108, 115, 101] from by decide +kernel] at t
    have V := Lib.hid (show vofV ⟨4, p, x, a, s, d⟩ = .tuple #[.agg #[.int .i64 0, .int .i64 0, .int .i64 0, .string ⟨#[]⟩, .int .i64 0], .bool false] from by rw [VX, if_neg h0, if_neg h1, if_neg h2])
    generalize vofV ⟨4, p, x, a, s, d⟩ = F at V ⊢
    clear VX L N h0 h1 h2
    go_enter Tryz.func177, Tryz.ntmps177
    go_wp2_with fail
    refine bodyPost_ret (v := .tuple #[.agg #[.int .i64 0, .int .i64 0, .int .i64 0, .string ⟨#[]⟩, .int .i64 0], .bool false]) (by simp [results, Tryz.results177, go_sem]) rfl ⟨by (rw [V.out]) <;> rfl, ((Bel.refl w).alloc _).alloc _⟩
  · have g1 : (k == 1) = false := beq_eq_false_iff_ne.2 n1
    have g2 : (k == 2) = false := beq_eq_false_iff_ne.2 n2
    have g3 : (k == 3) = false := beq_eq_false_iff_ne.2 n3
    have g4 : (k == 4) = false := beq_eq_false_iff_ne.2 n4
    have V := Lib.hid (show vofV ⟨k, p, x, a, s, d⟩ = .tuple #[.agg #[.int .i64 0, .int .i64 0, .int .i64 0, .string ⟨#[]⟩, .int .i64 0], .bool false] from by unfold vofV valT; rw [if_neg n1, if_neg n2, if_neg n3, if_neg n4])
    generalize vofV ⟨k, p, x, a, s, d⟩ = F at V ⊢
    clear n1 n2 n3 n4
    go_enter Tryz.func177, Tryz.ntmps177
    go_wp2_with fail
    refine bodyPost_ret (v := .tuple #[.agg #[.int .i64 0, .int .i64 0, .int .i64 0, .string ⟨#[]⟩, .int .i64 0], .bool false]) (by simp [results, Tryz.results177, go_sem]) rfl ⟨by (rw [V.out]) <;> rfl, ((Bel.refl w).alloc _).alloc _⟩
end Go.Proofs.YthfkbonbgdioaaaGreatDoor
namespace Go.Proofs.YthfkbonbgdioaaaGreatDoor
set_option linter.unusedSimpArgs false
set_option linter.unusedVariables false
open Go.RowKit
/-! The reader: a value. -/
theorem But.new {b : Nat} {u w : World} (h : But b u w) {p : Addr} (hp : u.heap.size ≤ p.block) (x : Value) : But b u (w.setCell p x) :=
  ⟨h.os, h.tape, h.output, by simpa [World.setCell] using h.size, fun k hk hb => (Below.heap_setCell _ _ _ _ (by omega)).trans (h.block k hk hb), fun hb o ho => by
    have hr := h.rest hb o ho
    refine ⟨?_, ?_⟩
    · rw [World.cell?_setCell_far w p ⟨b, o, none⟩ x (by show p.block ≠ b; omega)]
      exact hr.1
    · rw [← hr.2]
      simp [go_sem]⟩
theorem But.alloc {b : Nat} {u w : World} (h : But b u w) (o : Obj) : But b u (w.alloc o) := h.trans (But.of ((Bel.refl w).alloc o))
theorem Rdc.far {w : World} {b : Nat} {A : Option Addr} {n c i : Nat} {en wr e : Int} (h : Rdc w b A n c i en wr e) {p : Addr} (hp : b ≠ p.block) (x : Value) : Rdc (w.setCell p x) b A n c i en wr e := by
  have hb : Below (b + 1) (w.setCell p x) (w.setCell p x) := Below.refl _ _
  obtain ⟨h0, ⟨a0, a1, a2, a3, a4⟩, ⟨f0, f1, f2, f3, f4⟩⟩ := h
  have hc : ∀ o, (w.setCell p x).cell? ⟨b, o, none⟩ = w.cell? ⟨b, o, none⟩ := fun o => World.cell?_setCell_far w p ⟨b, o, none⟩ x (fun e => hp e.symm)
  have hf : ∀ o, (w.setCell p x).frozen? ⟨b, o, none⟩ = w.frozen? ⟨b, o, none⟩ := fun o => by simp [go_sem]
  refine ⟨by simpa [World.setCell] using h0, ⟨?_, ?_, ?_, ?_, ?_⟩, ⟨?_, ?_, ?_, ?_, ?_⟩⟩
  all_goals first | (rw [hc]; assumption) | (rw [hf]; assumption)
/-- A block that holds a value, free for stores. -/
def VSlot (w : World) (b : Nat) (v : Val) : Prop := b < w.heap.size ∧
  (w.cell? ⟨b, 0, none⟩ = some (.int .i64 v.kind) ∧ w.cell? ⟨b, 1, none⟩ = some (.int .i64 v.n) ∧ w.cell? ⟨b, 2, none⟩ = some (.int .i64 v.scale) ∧ w.cell? ⟨b, 3, none⟩ = some (.string v.text) ∧ w.cell? ⟨b, 4, none⟩ = some (.int .i64 v.num)) ∧
  (w.frozen? ⟨b, 0, none⟩ = false ∧ w.frozen? ⟨b, 1, none⟩ = false ∧ w.frozen? ⟨b, 2, none⟩ = false ∧ w.frozen? ⟨b, 3, none⟩ = false ∧ w.frozen? ⟨b, 4, none⟩ = false)
theorem VSlot.keep {w w' : World} {b : Nat} {v : Val} (h : VSlot w b v) (hb : Bel w w') : VSlot w' b v := by
  obtain ⟨h0, ⟨a0, a1, a2, a3, a4⟩, ⟨f0, f1, f2, f3, f4⟩⟩ := h
  have c := hb.cells b
  have f := hb.frozens b
  refine ⟨Nat.lt_of_lt_of_le h0 hb.size, ⟨?_, ?_, ?_, ?_, ?_⟩, ⟨?_, ?_, ?_, ?_, ?_⟩⟩
  all_goals first | (rw [c _ h0]; assumption) | (rw [f _ h0]; assumption)
set_option maxRecDepth 100000 in
set_option maxHeartbeats 4000000 in
theorem value_some (ts : List Tok) (v : Val) (w : World) (b : Nat) (A : Option Addr) (c i : Nat) (en wr e : Int) (hT : Toks w A ts) (hr : Rdc w b A ts.length c i en wr e) (hi : i < ts.length) (hl : ts.length ≤ 65536) (hv : valT (pekT (ts.drop i)) = some v) :
    Calls Tryz.prog 156 #[.pointer (some ⟨b, 0, none⟩)] w fun r w' => r = .returned (.tuple #[.agg #[.int .i64 v.kind, .int .i64 v.n, .int .i64 v.scale, .string v.text, .int .i64 v.num], .bool true]) ∧ But b w w' ∧ Rdc w' b A ts.length c (i + 1) en wr e := by
  have CP := Lib.hid fun W (hW : Bel w W) => peek_any ts W b A c i en wr e (hT.keep hW) (hr.keep hW) (by omega) hl
  have CV := Lib.hid fun W => valueOf_any (pekT (ts.drop i)) W
  unfold vofV at CV
  rw [hv] at CV
  simp only at CV
  generalize pekT (ts.drop i) = t at CP CV
  have KR := Lib.hid hr
  have hbw := hr.1
  have w1 : IntKind.i64.wrap ((i : Int) + 1) = ((i + 1 : Nat) : Int) := by rw [IntKind.wrap_i64]; omega
  obtain ⟨vk, vn, vs, vt, vm⟩ := v
  simp only at CV ⊢
  clear hT hr hv
  go_enter Tryz.func156, Tryz.ntmps156
  go_upto_region 1 with fail
  refine under_name ((Bel.refl w).alloc _) fun W hc hf hz hb => ?_
  have T : VSlot W w.heap.size zv := by simp [VSlot, zv, hc, hf, hz, go_sem]
  clear hc hf hz
  generalize hN : w.heap.size = N at T ⊢
  go_upto_region 2 with (first
    | (go_at_call 131; (with_reducible refine Calls.mono (CP.out _ hb) ?_); rintro ee V1 ⟨rfl, hb1⟩)
    | (go_at_call 177; (with_reducible refine Calls.mono (CV.out _) ?_); rintro ee V2 ⟨rfl, hb2⟩; have hq := Lib.hid (hb1.trans hb2)))
  refine under_name ((Bel.refl V2).alloc _) fun U hc hf hz hu => ?_
  have T2 : VSlot U V2.heap.size ⟨vk, vn, vs, vt, vm⟩ := by simp [VSlot, hc, hf, hz, go_sem]
  clear hc hf hz
  have hs2 := hq.out.size
  have T3 := Lib.hid (T.keep (hq.out.trans hu))
  have KU := Lib.hid (KR.out.keep (hb.trans (hq.out.trans hu)))
  have hsz := hb.size
  generalize hM : V2.heap.size = M at T2 ⊢
  have n1 : N < M := by have := T.1; omega
  have n2 : b < N := by omega
  obtain ⟨h0, ⟨a0, a1, a2, a3, a4⟩, ⟨f0, f1, f2, f3, f4⟩⟩ := KU.out
  obtain ⟨t0, ⟨t1, t2, t3, t4, t5⟩, ⟨g1, g2, g3, g4, g5⟩⟩ := T2
  obtain ⟨s0, ⟨s1, s2, s3, s4, s5⟩, ⟨e1, e2, e3, e4, e5⟩⟩ := T3.out
  simp only [zv] at s1 s2 s3 s4 s5
  have x1 : ¬ b = M := by omega
  have x2 : ¬ b = N := by omega
  have x3 : ¬ N = M := by omega
  have x4 : ¬ M = b := by omega
  have x5 : ¬ N = b := by omega
  have x6 : ¬ M = N := by omega
  have BB := Lib.hid (But.of (b := b) (hb.trans (hq.out.trans hu)))
  have NW := Lib.hid (show w.heap.size ≤ N from by omega)
  clear hN hM hs2 hsz n1 n2 T
  go_wp2_with fail
  refine bodyPost_ret (v := .tuple #[.agg #[.int .i64 vk, .int .i64 vn, .int .i64 vs, .string vt, .int .i64 vm], .bool true]) (by simp [results, Tryz.results156, go_sem, s0, s1, s2, s3, s4, s5, x1, x2, x3, x4, x5, x6]) rfl ⟨rfl, ?_, ?_⟩
  · repeat (first | with_reducible refine But.new ?_ (by first | exact NW.out | (dsimp only; exact NW.out)) _ | refine But.setCell (i := 1) ?_ (by decide) _ | with_reducible exact BB.out)
  · have en1 : (((i + 1 : Nat)) : Int) = (i : Int) + 1 := by omega
    have KN := KU.out.next (i + 1)
    rw [en1] at KN
    repeat (first | with_reducible exact KN | with_reducible refine Rdc.far ?_ (by first | exact x2 | (dsimp only; exact x2)) _)
set_option maxRecDepth 100000 in
set_option maxHeartbeats 4000000 in
theorem value_none (ts : List Tok) (w : World) (b : Nat) (A : Option Addr) (c i : Nat) (en wr e : Int) (hT : Toks w A ts) (hr : Rdc w b A ts.length c i en wr e) (hi : i ≤ ts.length) (hl : ts.length ≤ 65536) (hv : valT (pekT (ts.drop i)) = none) :
    Calls Tryz.prog 156 #[.pointer (some ⟨b, 0, none⟩)] w fun r w' => r = .returned (.tuple #[.agg #[.int .i64 0, .int .i64 0, .int .i64 0, .string ⟨#[]⟩, .int .i64 0], .bool false]) ∧ But b w w' ∧ Rdc w' b A ts.length c i en wr e := by
  have CP := Lib.hid fun W (hW : Bel w W) => peek_any ts W b A c i en wr e (hT.keep hW) (hr.keep hW) (by omega) hl
  have CV := Lib.hid fun W => valueOf_any (pekT (ts.drop i)) W
  unfold vofV at CV
  rw [hv] at CV
  simp only at CV
  generalize pekT (ts.drop i) = t at CP CV
  have KR := Lib.hid hr
  have hbw := hr.1
  clear hT hr hv
  go_enter Tryz.func156, Tryz.ntmps156
  go_upto_region 1 with fail
  refine under_name ((Bel.refl w).alloc _) fun W hc hf hz hb => ?_
  have T : VSlot W w.heap.size zv := by simp [VSlot, zv, hc, hf, hz, go_sem]
  clear hc hf hz
  generalize hN : w.heap.size = N at T ⊢
  go_upto_region 2 with (first
    | (go_at_call 131; (with_reducible refine Calls.mono (CP.out _ hb) ?_); rintro ee V1 ⟨rfl, hb1⟩)
    | (go_at_call 177; (with_reducible refine Calls.mono (CV.out _) ?_); rintro ee V2 ⟨rfl, hb2⟩; have hq := Lib.hid (hb1.trans hb2)))
  refine under_name ((Bel.refl V2).alloc _) fun U hc hf hz hu => ?_
  have T2 : VSlot U V2.heap.size zv := by simp [VSlot, zv, hc, hf, hz, go_sem]
  clear hc hf hz
  have hs2 := hq.out.size
  have T3 := Lib.hid (T.keep (hq.out.trans hu))
  have KU := Lib.hid (KR.out.keep (hb.trans (hq.out.trans hu)))
  have hsz := hb.size
  generalize hM : V2.heap.size = M at T2 ⊢
  have n1 : N < M := by have := T.1; omega
  have n2 : b < N := by omega
  obtain ⟨t0, ⟨t1, t2, t3, t4, t5⟩, ⟨g1, g2, g3, g4, g5⟩⟩ := T2
  obtain ⟨s0, ⟨s1, s2, s3, s4, s5⟩, ⟨e1, e2, e3, e4, e5⟩⟩ := T3.out
  simp only [zv] at s1 s2 s3 s4 s5 t1 t2 t3 t4 t5
  have x2 : ¬ b = N := by omega
  have x3 : ¬ N = M := by omega
  have BB := Lib.hid (But.of (b := b) (hb.trans (hq.out.trans hu)))
  have NW := Lib.hid (show w.heap.size ≤ N from by omega)
  clear hN hM hs2 hsz n1 n2 T
  go_wp2_with fail
  refine bodyPost_ret (v := .tuple #[.agg #[.int .i64 0, .int .i64 0, .int .i64 0, .string ⟨#[]⟩, .int .i64 0], .bool false]) (by simp [results, Tryz.results156, go_sem, s0, s1, s2, s3, s4, s5, x2, x3]) rfl ⟨rfl, ?_, ?_⟩
  · repeat (first | with_reducible refine But.new ?_ (by first | exact NW.out | (dsimp only; exact NW.out)) _ | refine But.setCell (i := 1) ?_ (by decide) _ | with_reducible exact BB.out)
  · repeat (first | with_reducible exact KU.out | with_reducible refine Rdc.far ?_ (by first | exact x2 | (dsimp only; exact x2)) _)
end Go.Proofs.YthfkbonbgdioaaaGreatDoor
namespace Go.Proofs.YthfkbonbgdioaaaGreatDoor
set_option linter.unusedSimpArgs false
set_option linter.unusedVariables false
open Go.RowKit
/-! A new reader. -/
/-- A block that holds a reader, free for stores: as Rdc, whatever its slice. -/
def RSlot (w : World) (b : Nat) (v : Value) (i en wr e : Int) : Prop := b < w.heap.size ∧
  (w.cell? ⟨b, 0, none⟩ = some v ∧ w.cell? ⟨b, 1, none⟩ = some (.int .i64 i) ∧ w.cell? ⟨b, 2, none⟩ = some (.int .i64 en) ∧ w.cell? ⟨b, 3, none⟩ = some (.int .i64 wr) ∧ w.cell? ⟨b, 4, none⟩ = some (.int .i64 e)) ∧
  (w.frozen? ⟨b, 0, none⟩ = false ∧ w.frozen? ⟨b, 1, none⟩ = false ∧ w.frozen? ⟨b, 2, none⟩ = false ∧ w.frozen? ⟨b, 3, none⟩ = false ∧ w.frozen? ⟨b, 4, none⟩ = false)
theorem RSlot.keep {w w' : World} {b : Nat} {v : Value} {i en wr e : Int} (h : RSlot w b v i en wr e) (hb : Bel w w') : RSlot w' b v i en wr e := by
  obtain ⟨h0, ⟨a0, a1, a2, a3, a4⟩, ⟨f0, f1, f2, f3, f4⟩⟩ := h
  have c := hb.cells b
  have f := hb.frozens b
  refine ⟨Nat.lt_of_lt_of_le h0 hb.size, ⟨?_, ?_, ?_, ?_, ?_⟩, ⟨?_, ?_, ?_, ?_, ?_⟩⟩
  all_goals first | (rw [c _ h0]; assumption) | (rw [f _ h0]; assumption)
theorem Toks.but {w w' : World} {A : Option Addr} {l : List Tok} {N : Nat} (h : Toks w A l) (hb : But N w w') (hA : ∀ b o, A = some ⟨b, o, none⟩ → b ≠ N) : Toks w' A l := fun h0 => by
  obtain ⟨b, off, e, hlt, hc⟩ := h h0
  refine ⟨b, off, e, Nat.lt_of_lt_of_le hlt hb.size, fun j u hu => ?_⟩
  rw [hb.cell (p := ⟨b, off + j, none⟩) hlt (hA b off e)]
  exact hc j u hu
theorem rows_far {w : World} {B N n c : Nat} {A : Option Addr} {l : List Tok} (h : TkRows w B (.slice A n c) l) {b o : Nat} (e : A = some ⟨b, o, none⟩) (hN : N < B) : b ≠ N := by
  obtain ⟨h1, h2⟩ := h
  rcases h2 with h2 | ⟨g, cap, cur, hv, hg, _⟩
  · subst e
    simp at h2
  · subst e
    simp only [Value.slice.injEq, Option.some.injEq, Addr.mk.injEq] at hv
    omega
set_option maxRecDepth 100000 in
set_option maxHeartbeats 4000000 in
theorem new_any (s : ByteArray) (hs : s.size ≤ 9223372036854775807) (w : World) (hm : Mx w) :
    Calls Tryz.prog 25 #[.string s] w fun r w' => ∃ A c, r = .returned (.agg #[.slice A (tokS s).1.length c, .int .i64 0, .int .i64 s.size, .int .i64 (tokS s).2.1, .int .i64 (tokS s).2.2]) ∧ Toks w' A (tokS s).1 ∧ Bel w w' := by
  have CT := Lib.hid fun W (hW : Bel w W) => xtokens_any s hs W (hm.keep hW)
  generalize tokS s = x at CT ⊢
  have si : (s.size : Int) ≤ 9223372036854775807 := by omega
  clear hm hs
  go_enter Tryz.func25, Tryz.ntmps25
  go_upto_region 1 with fail
  refine under_name ((Bel.refl w).alloc _) fun W hcc hf hz hb => ?_
  have T : RSlot W w.heap.size (.slice none 0 0) 0 0 0 0 := by simp [RSlot, hcc, hf, hz, go_sem]
  clear hcc hf hz
  generalize hN : w.heap.size = N at T ⊢
  have NW := Lib.hid (show w.heap.size ≤ N from by omega)
  clear hN
  have KT := Lib.hid T
  have hNW := T.1
  go_upto_region 2 with (go_at_call 42; (with_reducible refine Calls.mono (CT.out _ hb) ?_); rintro ee V1 ho; obtain ⟨A, c, hee, hrow, hbb, -, -, hown⟩ := tok_out ho; subst hee; have hq1 := Lib.hid hbb; have hq2 := Lib.hid hrow; have hq3 := Lib.hid hown)
  obtain ⟨t0, ⟨t1, t2, t3, t4, t5⟩, ⟨g1, g2, g3, g4, g5⟩⟩ := KT.out.keep hq1.out
  go_wp2_with fail
  refine bodyPost_ret (v := .agg #[.slice A x.1.length c, .int .i64 0, .int .i64 s.size, .int .i64 x.2.1, .int .i64 x.2.2]) (by simp [results, Tryz.results25, go_sem, t0, t1, t2, t3, t4, t5]) rfl ⟨A, c, rfl, ?_, ?_⟩
  · refine Toks.but hq2.out (N := N) (by repeat (first | with_reducible exact But.refl N V1 | refine But.setCell (b := N) ?_ (by decide) _)) ?_
    exact fun b o e => rows_far hq3.out e hNW
  · have hh := hb.trans hq1.out
    repeat (first | with_reducible exact hh | refine Bel.setCell ?_ NW.out _)
end Go.Proofs.YthfkbonbgdioaaaGreatDoor
