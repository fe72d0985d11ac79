import Derived.Test.YthfkbonbgdioaaaGreatDoorExi
namespace Go.Proofs.YthfkbonbgdioaaaGreatDoor
set_option linter.unusedSimpArgs false
set_option linter.unusedVariables false
open Go.RowKit
/-! The parser: takes. -/
def opKd (o : Int) : Int := if o = 14 ∨ o = 15 then 4 else 5
set_option maxRecDepth 100000 in
set_option maxHeartbeats 8000000 in
theorem takes_sign (o : Int) (l : List UInt8) (h1 : ¬ o = 14) (h2 : ¬ o = 15) (ts : List Tok) (w : World) (b : Nat) (A : Option Addr) (c i : Nat) (en wr p d : Int) (hC : Cx ts A b w) (hr : Psr w b A ts.length c i en wr 0 p d) (hi : i ≤ ts.length) :
    Calls Tryz.prog 100 #[.pointer (some ⟨b, 0, none⟩), .agg #[.int .i64 o, .string (bytesOf l)]] w fun r w' => r = .returned (.bool (isK 5 l (ts.drop i))) ∧ But b w w' ∧ Psr w' b A ts.length c (if isK 5 l (ts.drop i) = true then i + 1 else i) en wr 0 p d := by
  have hbw := hr.1.1
  obtain ⟨j, hj⟩ : ∃ j, j = if isK 5 l (ts.drop i) = true then i + 1 else i := ⟨_, rfl⟩
  rw [← hj]
  have CS := fun X (hX : Bel w X) => sign_any ts l X b A c i j en wr 0 (hC.keep hX).toks (hr.keep hX).1 hi hC.2.1 hj
  clear hj
  generalize isK 5 l (ts.drop i) = kb at CS ⊢
  replace CS := Lib.hid CS
  have KR := Lib.hid hr
  have eg : ∀ args w, (callFunc 132 args).run Tryz.prog w = .ok (.enter 132 args) w := enters_of Tryz.func132 (by kernel_rfl) rfl
  clear hr hC hi
  go_enter Tryz.func100, Tryz.ntmps100
  go_upto_region 1 with fail
  refine under_name ((Bel.refl w).alloc _) fun W hcc hf hz hb => ?_
  have c0 : W.cell? ⟨w.heap.size, 0, none⟩ = some (.int .i64 o) := by simp [hcc, go_sem]
  have c1 : W.cell? ⟨w.heap.size, 1, none⟩ = some (.string (bytesOf l)) := by simp [hcc, go_sem]
  clear hcc hf hz
  have HB := Lib.hid hb
  clear hb
  generalize w.heap.size = N at c0 c1 ⊢
  go_wp2_with (go_at_fn 132; (with_reducible refine Calls.mono (CS.out _ HB.out) ?_); rintro ee V1 ⟨rfl, hb1, hr1⟩; have hq1 := Lib.hid (And.intro hb1 hr1); clear hb1 hr1)
  · exfalso
    have h : (o == 14) = true ∨ (o == 15) = true := by assumption
    rcases h with h | h
    · exact h1 (by simpa using h)
    · exact h2 (by simpa using h)
  go_ret
  exact ⟨rfl, (But.of HB.out).trans hq1.out.1, (KR.out.keep HB.out).but hq1.out.1 hq1.out.2⟩
set_option maxRecDepth 100000 in
set_option maxHeartbeats 8000000 in
theorem takes_and (o : Int) (l : List UInt8) (h1 : o = 14) (ts : List Tok) (w : World) (b : Nat) (A : Option Addr) (c i : Nat) (en wr p d : Int) (hC : Cx ts A b w) (hr : Psr w b A ts.length c i en wr 0 p d) (hi : i ≤ ts.length) :
    Calls Tryz.prog 100 #[.pointer (some ⟨b, 0, none⟩), .agg #[.int .i64 o, .string (bytesOf l)]] w fun r w' => r = .returned (.bool (isK 4 l (ts.drop i))) ∧ But b w w' ∧ Psr w' b A ts.length c (if isK 4 l (ts.drop i) = true then i + 1 else i) en wr 0 p d := by
  have hbw := hr.1.1
  subst h1
  obtain ⟨j, hj⟩ : ∃ j, j = if isK 4 l (ts.drop i) = true then i + 1 else i := ⟨_, rfl⟩
  rw [← hj]
  have CS := fun X (hX : Bel w X) => word_any ts l X b A c i j en wr 0 (hC.keep hX).toks (hr.keep hX).1 hi hC.2.1 hj
  clear hj
  generalize isK 4 l (ts.drop i) = kb at CS ⊢
  replace CS := Lib.hid CS
  have KR := Lib.hid hr
  have eg : ∀ args w, (callFunc 62 args).run Tryz.prog w = .ok (.enter 62 args) w := enters_of Tryz.func62 (by kernel_rfl) rfl
  clear hr hC hi
  go_enter Tryz.func100, Tryz.ntmps100
  go_upto_region 1 with fail
  refine under_name ((Bel.refl w).alloc _) fun W hcc hf hz hb => ?_
  have c0 : W.cell? ⟨w.heap.size, 0, none⟩ = some (.int .i64 14) := by simp [hcc, go_sem]
  have c1 : W.cell? ⟨w.heap.size, 1, none⟩ = some (.string (bytesOf l)) := by simp [hcc, go_sem]
  clear hcc hf hz
  have HB := Lib.hid hb
  clear hb
  generalize w.heap.size = N at c0 c1 ⊢
  go_wp2_with (go_at_fn 62; (with_reducible refine Calls.mono (CS.out _ HB.out) ?_); rintro ee V1 ⟨rfl, hb1, hr1⟩; have hq1 := Lib.hid (And.intro hb1 hr1); clear hb1 hr1)
  go_ret
  exact ⟨rfl, (But.of HB.out).trans hq1.out.1, (KR.out.keep HB.out).but hq1.out.1 hq1.out.2⟩
set_option maxRecDepth 100000 in
set_option maxHeartbeats 8000000 in
theorem takes_or (o : Int) (l : List UInt8) (h1 : o = 15) (ts : List Tok) (w : World) (b : Nat) (A : Option Addr) (c i : Nat) (en wr p d : Int) (hC : Cx ts A b w) (hr : Psr w b A ts.length c i en wr 0 p d) (hi : i ≤ ts.length) :
    Calls Tryz.prog 100 #[.pointer (some ⟨b, 0, none⟩), .agg #[.int .i64 o, .string (bytesOf l)]] w fun r w' => r = .returned (.bool (isK 4 l (ts.drop i))) ∧ But b w w' ∧ Psr w' b A ts.length c (if isK 4 l (ts.drop i) = true then i + 1 else i) en wr 0 p d := by
  have hbw := hr.1.1
  subst h1
  obtain ⟨j, hj⟩ : ∃ j, j = if isK 4 l (ts.drop i) = true then i + 1 else i := ⟨_, rfl⟩
  rw [← hj]
  have CS := fun X (hX : Bel w X) => word_any ts l X b A c i j en wr 0 (hC.keep hX).toks (hr.keep hX).1 hi hC.2.1 hj
  clear hj
  generalize isK 4 l (ts.drop i) = kb at CS ⊢
  replace CS := Lib.hid CS
  have KR := Lib.hid hr
  have eg : ∀ args w, (callFunc 62 args).run Tryz.prog w = .ok (.enter 62 args) w := enters_of Tryz.func62 (by kernel_rfl) rfl
  clear hr hC hi
  go_enter Tryz.func100, Tryz.ntmps100
  go_upto_region 1 with fail
  refine under_name ((Bel.refl w).alloc _) fun W hcc hf hz hb => ?_
  have c0 : W.cell? ⟨w.heap.size, 0, none⟩ = some (.int .i64 15) := by simp [hcc, go_sem]
  have c1 : W.cell? ⟨w.heap.size, 1, none⟩ = some (.string (bytesOf l)) := by simp [hcc, go_sem]
  clear hcc hf hz
  have HB := Lib.hid hb
  clear hb
  generalize w.heap.size = N at c0 c1 ⊢
  go_wp2_with (go_at_fn 62; (with_reducible refine Calls.mono (CS.out _ HB.out) ?_); rintro ee V1 ⟨rfl, hb1, hr1⟩; have hq1 := Lib.hid (And.intro hb1 hr1); clear hb1 hr1)
  go_ret
  exact ⟨rfl, (But.of HB.out).trans hq1.out.1, (KR.out.keep HB.out).but hq1.out.1 hq1.out.2⟩
theorem takes_any (o : Int) (l : List UInt8) (ts : List Tok) (w : World) (b : Nat) (A : Option Addr) (c i : Nat) (en wr p d : Int) (hC : Cx ts A b w) (hr : Psr w b A ts.length c i en wr 0 p d) (hi : i ≤ ts.length) :
    Calls Tryz.prog 100 #[.pointer (some ⟨b, 0, none⟩), .agg #[.int .i64 o, .string (bytesOf l)]] w fun r w' => r = .returned (.bool (isK (opKd o) l (ts.drop i))) ∧ But b w w' ∧ Psr w' b A ts.length c (if isK (opKd o) l (ts.drop i) = true then i + 1 else i) en wr 0 p d := by
  by_cases h1 : o = 14
  · rw [show opKd o = 4 from if_pos (.inl h1)]
    exact takes_and o l h1 ts w b A c i en wr p d hC hr hi
  · by_cases h2 : o = 15
    · rw [show opKd o = 4 from if_pos (.inr h2)]
      exact takes_or o l h2 ts w b A c i en wr p d hC hr hi
    · rw [show opKd o = 5 from if_neg (by rintro (h | h) <;> contradiction)]
      exact takes_sign o l h1 h2 ts w b A c i en wr p d hC hr hi
end Go.Proofs.YthfkbonbgdioaaaGreatDoor
namespace Go.Proofs.YthfkbonbgdioaaaGreatDoor
set_option linter.unusedSimpArgs false
set_option linter.unusedVariables false
open Go.RowKit
/-! The parser: operators, the first of them that is next. -/
/-- The operators of a strength. -/
def opL (k : Nat) : List (Int × List UInt8) :=
  if k = 1 then [(15, [111, 114])] else if k = 2 then [(14, [97, 110, 100])]
  else if k = 3 then [(8, [61]), (9, [33, 61]), (10, [60]), (11, [60, 61]), (12, [62]), (13, [62, 61])]
  else if k = 4 then [(4, [43]), (5, [45])] else if k = 5 then [(6, [42]), (7, [47])] else []
/-- They lie in a block. -/
def OpAt (w : World) (B : Nat) : Nat → List (Int × List UInt8) → Prop
  | _, [] => True
  | o, x :: t => w.cell? ⟨B, o, none⟩ = some (.int .i64 x.1) ∧ w.cell? ⟨B, o + 1, none⟩ = some (.string (bytesOf x.2)) ∧ OpAt w B (o + 2) t
theorem OpAt.same {w w' : World} {B : Nat} (hc : ∀ o, w'.cell? ⟨B, o, none⟩ = w.cell? ⟨B, o, none⟩) : ∀ {o : Nat} {l : List (Int × List UInt8)}, OpAt w B o l → OpAt w' B o l
  | o, [], h => trivial
  | o, x :: t, h => ⟨by rw [hc]; exact h.1, by rw [hc]; exact h.2.1, OpAt.same hc h.2.2⟩
theorem OpAt.get {w : World} {B : Nat} : ∀ {o : Nat} {l : List (Int × List UInt8)} {j : Nat} {x : Int × List UInt8}, OpAt w B o l → l[j]? = some x → w.cell? ⟨B, o + j * 2, none⟩ = some (.int .i64 x.1) ∧ w.cell? ⟨B, o + j * 2 + 1, none⟩ = some (.string (bytesOf x.2))
  | o, [], j, x, h, hx => by simp at hx
  | o, y :: t, 0, x, h, hx => by
    obtain rfl : y = x := by simpa using hx
    exact ⟨by simpa using h.1, by simpa using h.2.1⟩
  | o, y :: t, j + 1, x, h, hx => by
    have := OpAt.get (j := j) (x := x) h.2.2 (by simpa using hx)
    rw [show o + (j + 1) * 2 = o + 2 + j * 2 by omega]
    exact this
/-- The first that is next. -/
def fsO : List (Int × List UInt8) → List Tok → Nat → Option (Nat × Int)
  | [], _, _ => none
  | x :: t, r, j => if isK (opKd x.1) x.2 r = true then some (j, x.1) else fsO t r (j + 1)
theorem fsO_get : ∀ (l : List (Int × List UInt8)) (r : List Tok) (j : Nat) {q : Nat × Int}, fsO l r j = some q → ∃ x, l[q.1 - j]? = some x ∧ x.1 = q.2 ∧ j ≤ q.1 ∧ isK (opKd x.1) x.2 r = true
  | [], r, j, q, h => by cases h
  | y :: t, r, j, q, h => by
    rw [fsO] at h
    by_cases h1 : isK (opKd y.1) y.2 r = true
    · rw [if_pos h1] at h
      obtain rfl := Option.some.inj h
      exact ⟨y, by simp, rfl, Nat.le_refl _, h1⟩
    · rw [if_neg h1] at h
      obtain ⟨x, hx, h2, h3, h4⟩ := fsO_get t r (j + 1) h
      refine ⟨x, ?_, h2, by omega, h4⟩
      rw [show q.1 - j = (q.1 - (j + 1)) + 1 by omega]
      simpa using hx
theorem fsO_opR (k : Nat) (r : List Tok) (h1 : 1 ≤ k) (h5 : k ≤ 5) : (fsO (opL k) r 0).map (·.2) = opR k r := by
  rcases (show k = 1 ∨ k = 2 ∨ k = 3 ∨ k = 4 ∨ k = 5 from by omega) with rfl | rfl | rfl | rfl | rfl <;>
    simp only [opL, opR, fsO, opKd, isS] <;> simp only [fsO, opKd, reduceIte, Nat.reduceEqDiff, Int.reduceEq, or_true, true_or, or_self, or_false, false_or] <;> (repeat' split) <;> first | rfl | contradiction | (simp_all; done)
set_option maxRecDepth 100000 in
set_option maxHeartbeats 8000000 in
theorem operators_1 (w : World) : Calls Tryz.prog 59 #[.int .i64 1] w fun r w' => ∃ B, r = .returned (.slice (some ⟨B, 0, none⟩) 1 1) ∧ Bel w w' ∧ w.heap.size ≤ B ∧ B < w'.heap.size ∧ OpAt w' B 0 (opL 1) := by
  go_enter Tryz.func59, Tryz.ntmps59
  go_wp2_with fail
  go_ret
  exact ⟨w.heap.size, rfl, (Bel.refl w).alloc _, Nat.le_refl _, by simp, by simp [OpAt, opL, bytesOf, go_sem]⟩
set_option maxRecDepth 100000 in
set_option maxHeartbeats 8000000 in
theorem operators_2 (w : World) : Calls Tryz.prog 59 #[.int .i64 2] w fun r w' => ∃ B, r = .returned (.slice (some ⟨B, 0, none⟩) 1 1) ∧ Bel w w' ∧ w.heap.size ≤ B ∧ B < w'.heap.size ∧ OpAt w' B 0 (opL 2) := by
  go_enter Tryz.func59, Tryz.ntmps59
  go_wp2_with fail
  go_ret
  exact ⟨w.heap.size, rfl, (Bel.refl w).alloc _, Nat.le_refl _, by simp, by simp [OpAt, opL, bytesOf, go_sem]⟩
set_option maxRecDepth 100000 in
set_option maxHeartbeats 8000000 in
theorem operators_3 (w : World) : Calls Tryz.prog 59 #[.int .i64 3] w fun r w' => ∃ B, r = .returned (.slice (some ⟨B, 0, none⟩) 6 6) ∧ Bel w w' ∧ w.heap.size ≤ B ∧ B < w'.heap.size ∧ OpAt w' B 0 (opL 3) := by
  go_enter Tryz.func59, Tryz.ntmps59
  go_wp2_with fail
  go_ret
  exact ⟨w.heap.size, rfl, (Bel.refl w).alloc _, Nat.le_refl _, by simp, by simp [OpAt, opL, bytesOf, go_sem]⟩
set_option maxRecDepth 100000 in
set_option maxHeartbeats 8000000 in
theorem operators_4 (w : World) : Calls Tryz.prog 59 #[.int .i64 4] w fun r w' => ∃ B, r = .returned (.slice (some ⟨B, 0, none⟩) 2 2) ∧ Bel w w' ∧ w.heap.size ≤ B ∧ B < w'.heap.size ∧ OpAt w' B 0 (opL 4) := by
  go_enter Tryz.func59, Tryz.ntmps59
  go_wp2_with fail
  go_ret
  exact ⟨w.heap.size, rfl, (Bel.refl w).alloc _, Nat.le_refl _, by simp, by simp [OpAt, opL, bytesOf, go_sem]⟩
set_option maxRecDepth 100000 in
set_option maxHeartbeats 8000000 in
theorem operators_5 (w : World) : Calls Tryz.prog 59 #[.int .i64 5] w fun r w' => ∃ B, r = .returned (.slice (some ⟨B, 0, none⟩) 2 2) ∧ Bel w w' ∧ w.heap.size ≤ B ∧ B < w'.heap.size ∧ OpAt w' B 0 (opL 5) := by
  go_enter Tryz.func59, Tryz.ntmps59
  go_wp2_with fail
  go_ret
  exact ⟨w.heap.size, rfl, (Bel.refl w).alloc _, Nat.le_refl _, by simp, by simp [OpAt, opL, bytesOf, go_sem]⟩
theorem operators_any (k : Nat) (h1 : 1 ≤ k) (h5 : k ≤ 5) (w : World) : Calls Tryz.prog 59 #[.int .i64 k] w fun r w' => ∃ B, r = .returned (.slice (some ⟨B, 0, none⟩) (opL k).length (opL k).length) ∧ Bel w w' ∧ w.heap.size ≤ B ∧ B < w'.heap.size ∧ OpAt w' B 0 (opL k) := by
  rcases (show k = 1 ∨ k = 2 ∨ k = 3 ∨ k = 4 ∨ k = 5 from by omega) with rfl | rfl | rfl | rfl | rfl
  · exact operators_1 w
  · exact operators_2 w
  · exact operators_3 w
  · exact operators_4 w
  · exact operators_5 w
end Go.Proofs.YthfkbonbgdioaaaGreatDoor
namespace Go.Proofs.YthfkbonbgdioaaaGreatDoor
set_option linter.unusedSimpArgs false
set_option linter.unusedVariables false
open Go.RowKit
/-! The parser: which operator is next. -/
def idxI (q : Option (Nat × Int)) : Int := match q with
  | some q => q.1
  | none => -1
def idxJ (q : Option (Nat × Int)) (i : Nat) : Nat := match q with
  | some _ => i + 1
  | none => i
theorem takes_enters : ∀ args w, (callFunc 100 args).run Tryz.prog w = .ok (.enter 100 args) w := enters_of Tryz.func100 (by kernel_rfl) rfl
theorem fsO_hit {l : List (Int × List UInt8)} {r : List Tok} {j : Nat} {x : Int × List UInt8} {t : List (Int × List UInt8)} (hl : l.drop j = x :: t) (h : isK (opKd x.1) x.2 r = true) (hf : fsO l r 0 = fsO (l.drop j) r j) : fsO l r 0 = some (j, x.1) := by
  rw [hf, hl, fsO, if_pos h]
theorem fsO_miss {l : List (Int × List UInt8)} {r : List Tok} {j : Nat} {x : Int × List UInt8} {t : List (Int × List UInt8)} (hl : l.drop j = x :: t) (h : isK (opKd x.1) x.2 r = false) (hf : fsO l r 0 = fsO (l.drop j) r j) : fsO l r 0 = fsO (l.drop (j + 1)) r (j + 1) := by
  rw [hf, ← List.tail_drop, hl, fsO, if_neg (by rw [h]; decide), List.tail_cons]
set_option maxRecDepth 100000 in
set_option maxHeartbeats 8000000 in
theorem indexO_any (l : List (Int × List UInt8)) (hll : l.length ≤ 100) (ts : List Tok) (w : World) (b : Nat) (A : Option Addr) (c i : Nat) (en wr0 p d : Int) (B : Nat) (hC : Cx ts A b w) (hr : Psr w b A ts.length c i en wr0 0 p d) (hi : i ≤ ts.length) (hB : B < w.heap.size) (hne : B ≠ b) (hO : OpAt w B 0 l) :
    Calls Tryz.prog 99 #[.slice (some ⟨B, 0, none⟩) l.length l.length, .func (.func 100) #[.pointer (some ⟨b, 0, none⟩)] #[]] w fun r w' => r = .returned (.int .i64 (idxI (fsO l (ts.drop i) 0))) ∧ But b w w' ∧ Psr w' b A ts.length c (idxJ (fsO l (ts.drop i) 0) i) en wr0 0 p d := by
  have hbw := hr.1.1
  have eg := takes_enters
  have KC := Lib.hid hC
  have KO := Lib.hid hO
  have K0 := Lib.hid (And.intro (But.refl b w) hr)
  obtain ⟨q, hq⟩ : ∃ q, fsO l (ts.drop i) 0 = q := ⟨_, rfl⟩
  rw [hq]
  have HQ := Lib.hid (show fsO (l.drop 0) (ts.drop i) 0 = q from hq)
  have HP := Lib.hid hq
  clear hC hr hO hq
  generalize hn : l.length = n
  have hn' : l.length = n := hn
  rw [hn] at hll
  go_enter Tryz.func99, Tryz.ntmps99
  go_wp2_with fail
  go_loopg [5, 8] n (fun g _ s8 wr => ∃ kk : Nat, kk ≤ n ∧ Hid (g = n - kk) ∧ s8 = .int .i64 kk ∧ Hid (fsO (l.drop kk) (ts.drop i) kk = q) ∧ Hid (But b w wr ∧ Psr wr b A ts.length c i en wr0 0 p d))
  case atStart => exact ⟨0, Nat.zero_le _, Lib.hid rfl, rfl, HQ, K0⟩
  case round =>
    obtain ⟨kk, hkk, hg, rfl, hF, hW⟩ := hrel
    have hnn : (n : Int) ≤ 100 := by omega
    rcases Nat.lt_or_ge kk n with hlt | hge
    · have hlti : (kk : Int) < (n : Int) := by omega
      have hlk : kk < l.length := by omega
      have hld : l.drop kk = l[kk] :: l.drop (kk + 1) := List.drop_eq_getElem_cons hlk
      have hgt : l[kk]? = some l[kk] := List.getElem?_eq_getElem hlk
      have wk : IntKind.i64.wrap ((kk : Int) + 1) = ((kk + 1 : Nat) : Int) := by rw [IntKind.wrap_i64]; omega
      generalize l[kk] = x at hld hgt
      obtain ⟨c0, c1⟩ := (KO.out.same fun o => hW.out.1.cell (p := ⟨B, o, none⟩) hB hne).get hgt
      simp only [Nat.zero_add] at c0 c1
      have CT := takes_any x.1 x.2 ts wr b A c i en wr0 p d (KC.out.bag hW.out.1.bag) hW.out.2 hi
      cases hx : isK (opKd x.1) x.2 (ts.drop i) with
      | true =>
        have hq2 := Lib.hid (show q = some (kk, x.1) from by rw [← HP.out]; exact fsO_hit hld hx (by rw [HP.out, hF.out]))
        rw [hx, if_pos rfl] at CT
        replace CT := Lib.hid CT
        clear hld hgt hx
        go_wp2_with (go_at_fn 100; (with_reducible refine Calls.mono CT.out ?_); rintro ee V1 ⟨rfl, hb1, hr1⟩; have hq1 := Lib.hid (And.intro (hW.out.1.trans hb1) hr1); clear hb1 hr1)
        go_ret
        rw [hq2.out]
        exact ⟨rfl, hq1.out⟩
      | false =>
        have hF2 := Lib.hid (show fsO (l.drop (kk + 1)) (ts.drop i) (kk + 1) = q from by rw [← fsO_miss hld hx (by rw [HP.out, hF.out]), HP.out])
        rw [hx, if_neg (by decide)] at CT
        replace CT := Lib.hid CT
        clear hld hgt hx
        go_wp2_with (go_at_fn 100; (with_reducible refine Calls.mono CT.out ?_); rintro ee V1 ⟨rfl, hb1, hr1⟩; have hq1 := Lib.hid (And.intro (hW.out.1.trans hb1) hr1); clear hb1 hr1)
        go_roundg (n - (kk + 1))
        case measure => have := hg.out; omega
        case rel => exact ⟨kk + 1, by omega, Lib.hid rfl, rfl, hF2, hq1⟩
    · obtain rfl : kk = n := by omega
      have hq2 := Lib.hid (show q = none from by rw [← hF.out, List.drop_eq_nil_of_le (by omega)]; rfl)
      go_wp2_with fail
      go_ret
      rw [hq2.out]
      exact ⟨rfl, hW.out⟩
end Go.Proofs.YthfkbonbgdioaaaGreatDoor
