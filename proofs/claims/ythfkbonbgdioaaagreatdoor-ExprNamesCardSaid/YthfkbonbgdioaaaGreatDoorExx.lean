import Derived.Test.YthfkbonbgdioaaaGreatDoorExu
namespace Go.Proofs.YthfkbonbgdioaaaGreatDoor
set_option linter.unusedSimpArgs false
set_option linter.unusedVariables false
open Go.RowKit
/-! The sign of an operator. -/
theorem opL_sg (k : Nat) (x : Int × List UInt8) (h : x ∈ opL k) : x.2 = sgX x.1 := by
  unfold opL at h
  repeat' split at h
  all_goals (try simp only [List.mem_cons, List.not_mem_nil, or_false] at h)
  · subst h; decide
  · subst h; decide
  · rcases h with rfl | rfl | rfl | rfl | rfl | rfl <;> decide
  · rcases h with rfl | rfl <;> decide
  · rcases h with rfl | rfl <;> decide
theorem opL_has (o : Int) (h1 : 4 ≤ o) (h2 : o ≤ 15) : ∃ k x, 1 ≤ k ∧ k < 6 ∧ x ∈ opL k ∧ x.1 = o := by
  rcases (show o = 4 ∨ o = 5 ∨ o = 6 ∨ o = 7 ∨ o = 8 ∨ o = 9 ∨ o = 10 ∨ o = 11 ∨ o = 12 ∨ o = 13 ∨ o = 14 ∨ o = 15 from by omega) with rfl | rfl | rfl | rfl | rfl | rfl | rfl | rfl | rfl | rfl | rfl | rfl
  · exact ⟨4, (4, [43]), by decide, by decide, by decide, rfl⟩
  · exact ⟨4, (5, [45]), by decide, by decide, by decide, rfl⟩
  · exact ⟨5, (6, [42]), by decide, by decide, by decide, rfl⟩
  · exact ⟨5, (7, [47]), by decide, by decide, by decide, rfl⟩
  · exact ⟨3, (8, [61]), by decide, by decide, by decide, rfl⟩
  · exact ⟨3, (9, [33, 61]), by decide, by decide, by decide, rfl⟩
  · exact ⟨3, (10, [60]), by decide, by decide, by decide, rfl⟩
  · exact ⟨3, (11, [60, 61]), by decide, by decide, by decide, rfl⟩
  · exact ⟨3, (12, [62]), by decide, by decide, by decide, rfl⟩
  · exact ⟨3, (13, [62, 61]), by decide, by decide, by decide, rfl⟩
  · exact ⟨2, (14, [97, 110, 100]), by decide, by decide, by decide, rfl⟩
  · exact ⟨1, (15, [111, 114]), by decide, by decide, by decide, rfl⟩
set_option maxRecDepth 100000 in
set_option maxHeartbeats 8000000 in
theorem signOp_any (o : Int) (h1 : 4 ≤ o) (h2 : o ≤ 15) (w : World) : Calls Tryz.prog 41 #[.int .i64 o] w fun r w' => r = .returned (.string (bytesOf (sgX o))) ∧ Bel w w' := by
  have HH := Lib.hid (opL_has o h1 h2)
  clear h1 h2
  go_enter Tryz.func41, Tryz.ntmps41
  go_wp2_with fail
  go_loopg [3] 5 (fun g kv wq => ∃ k : Nat, kv = .int .i64 k ∧ 1 ≤ k ∧ k ≤ 6 ∧ Hid (g = 6 - k) ∧ Hid (∀ j x, 1 ≤ j → j < k → x ∈ opL j → x.1 ≠ o) ∧ Hid (Bel w wq))
  case atStart => exact ⟨1, rfl, by omega, by omega, Lib.hid rfl, Lib.hid (fun j x h1 h2 => by omega), Lib.hid (Bel.refl _)⟩
  case round =>
    obtain ⟨k, rfl, hk1, hk6, hg, hA, hb⟩ := hrel
    rcases Nat.lt_or_ge k 6 with hlt | hge
    · have k6 : (k : Int) < 6 := by omega
      have CO := Lib.hid (operators_any k hk1 (by omega) wr)
      have wk : IntKind.i64.wrap ((k : Int) + 1) = ((k + 1 : Nat) : Int) := by rw [IntKind.wrap_i64]; omega
      have HL := Lib.hid (opL_len k)
      have HS := Lib.hid (opL_sg k)
      have HA2 := Lib.hid (show (∀ x, x ∈ opL k → x.1 ≠ o) → ∀ j x, 1 ≤ j → j < k + 1 → x ∈ opL j → x.1 ≠ o from fun h j x h1 h2 hx => by
        rcases Nat.lt_or_ge j k with h3 | h3
        · exact hA.out j x h1 h3 hx
        · obtain rfl : j = k := by omega
          exact h x hx)
      generalize opL k = l at CO HL HS HA2
      have hll := HL.out
      clear HL
      go_wp2_with (go_at_call 59; (with_reducible refine Calls.mono CO.out ?_); rintro ee V1 ⟨B, rfl, hb1, hB1, hB2, hO⟩; have HB1 := Lib.hid (hb.out.trans hb1); have HO := Lib.hid (And.intro hB2 hO); clear hb1 hB1 hB2 hO)
      go_loopg [13] l.length (fun g sv wq => ∃ q : Nat, sv = .int .i64 q ∧ q ≤ l.length ∧ Hid (g = l.length - q) ∧ Hid (∀ (i : Nat) (x : Int × List UInt8), i < q → l[i]? = some x → x.1 ≠ o) ∧ Hid (Bel V1 wq))
      case atStart => exact ⟨0, rfl, Nat.zero_le _, Lib.hid rfl, Lib.hid (fun i x h => absurd h (Nat.not_lt_zero _)), Lib.hid (Bel.refl _)⟩
      case round =>
        obtain ⟨q, rfl, hq, hg2, hA3, hb2⟩ := hrel
        rcases Nat.lt_or_ge q l.length with hql | hqg
        · have hlti : (q : Int) < (l.length : Int) := by omega
          have wq : IntKind.i64.wrap ((q : Int) + 1) = ((q + 1 : Nat) : Int) := by rw [IntKind.wrap_i64]; omega
          obtain ⟨x, hx⟩ : ∃ x, l[q]? = some x := ⟨l[q], List.getElem?_eq_getElem hql⟩
          obtain ⟨c0, c1⟩ := (HO.out.2.same fun o => (Bag.of (b := B + 1) hb2.out).cell (p := ⟨B, o, none⟩) HO.out.1 (by show B ≠ B + 1; omega)).get hx
          simp only [Nat.zero_add] at c0 c1
          have HX := Lib.hid hx
          clear hx
          by_cases hxo : x.1 = o
          · have hz := Lib.hid (show x.2 = sgX o from by rw [← hxo]; exact HS.out x (List.mem_of_getElem? HX.out))
            go_wp2_with fail
            go_ret
            rw [hz.out]
            refine ⟨rfl, ?_⟩
            have hq2 := HB1.out.trans hb2.out
            (repeat (first | with_reducible exact Bel.refl _ | with_reducible refine Bel.setCell ?_ (by first | exact Nat.le_refl _ | (dsimp only; omega)) _ | with_reducible refine Bel.alloc ?_ _ | with_reducible refine Bel.drew ?_ | with_reducible assumption | with_reducible refine Bel.trans ?_ (by assumption)))
          · go_wp2_with fail
            go_roundg (l.length - (q + 1))
            case measure => have := hg2.out; omega
            case rel =>
              refine ⟨q + 1, rfl, hql, Lib.hid rfl, Lib.hid fun i z hi hz => ?_, Lib.hid ?_⟩
              · rcases Nat.lt_or_ge i q with h | h
                · exact hA3.out i z h hz
                · obtain rfl : i = q := by omega
                  rw [HX.out] at hz
                  obtain rfl := Option.some.inj hz
                  exact hxo
              · have hq2 := hb2.out
                refine Bel.trans hq2 ?_
                (repeat (first | with_reducible exact Bel.refl _ | with_reducible refine Bel.setCell ?_ (by first | exact Nat.le_refl _ | (dsimp only; omega)) _ | with_reducible refine Bel.alloc ?_ _ | with_reducible refine Bel.drew ?_ | with_reducible assumption | with_reducible refine Bel.trans ?_ (by assumption)))
        · obtain rfl : q = l.length := by omega
          go_wp2_with fail
          go_roundg (6 - (k + 1))
          case measure => have := hg.out; omega
          case rel =>
            refine ⟨k + 1, rfl, by omega, by omega, Lib.hid rfl, Lib.hid (HA2.out fun x hx => ?_), Lib.hid (HB1.out.trans hb2.out)⟩
            obtain ⟨i, hi, hxi⟩ := List.getElem_of_mem hx
            exact hA3.out i x hi (by rw [List.getElem?_eq_getElem hi, hxi])
    · obtain rfl : k = 6 := by omega
      exfalso
      obtain ⟨j, x, h1, h2, h3, h4⟩ := HH.out
      exact hA.out j x h1 h2 h3 h4
end Go.Proofs.YthfkbonbgdioaaaGreatDoor
namespace Go.Proofs.YthfkbonbgdioaaaGreatDoor
set_option linter.unusedSimpArgs false
set_option linter.unusedVariables false
open Go.RowKit
/-! An expression as a text: a part. -/
/-- A boxed expression. -/
def BoxAt (w : World) (N : Nat) (x : Ex) (A : Option Addr) (n c : Nat) : Prop := w.heap[N]? = some (.cells #[.int .i64 x.op, .int .i64 x.v.kind, .int .i64 x.v.n, .int .i64 x.v.scale, .string x.v.text, .int .i64 x.v.num, .string (bytesOf x.nm), .slice A n c] 28)
theorem BoxAt.oth {w w' : World} {N b : Nat} {x : Ex} {A : Option Addr} {n c : Nat} (h : BoxAt w N x A n c) (ho : Oth b w w') (hne : N ≠ b) : BoxAt w' N x A n c :=
  ho N _ h (fun e => hne (Option.some.inj e)) fun c' fz e => by
    injection e with _ h2 _
    exact absurd h2 (by decide)
theorem BoxAt.keep {w w' : World} {N : Nat} {x : Ex} {A : Option Addr} {n c : Nat} (h : BoxAt w N x A n c) (hb : Bel w w') : BoxAt w' N x A n c := heap_keep hb h
theorem BoxAt.cells {w : World} {N : Nat} {x : Ex} {A : Option Addr} {n c : Nat} (h : BoxAt w N x A n c) : ExAt w N 0 x.op x.v (bytesOf x.nm) A n c := by
  refine ⟨?_, ?_, ?_, ?_, ?_, ?_, ?_, ?_⟩ <;> (rw [Lib.cell_of_heap h]; rfl)
theorem box_new (w : World) (x : Ex) (A : Option Addr) (n c : Nat) : BoxAt (w.alloc (.cells #[.int .i64 x.op, .int .i64 x.v.kind, .int .i64 x.v.n, .int .i64 x.v.scale, .string x.v.text, .int .i64 x.v.num, .string (bytesOf x.nm), .slice A n c] 28)) w.heap.size x A n c := by
  unfold BoxAt
  show (w.heap.push _)[w.heap.size]? = _
  rw [Array.getElem?_push_size]
def WrT (x : Ex) : Prop := ∀ (w0 w : World) (b : Nat) (l : List UInt8) (A : Option Addr) (c : Nat), Lie (fun _ => True) w0 A x.ks → Bld w0 b l w → Bel w0 w → Tab w0 → Mx w0 → okX x = true → smX x → l.length + (txX x).length ≤ 90000000000000 →
  Calls Tryz.prog 22 #[.pointer (some ⟨b, 0, none⟩), exV x.op x.v (bytesOf x.nm) A x.ks.length c] w fun r w' => r = .returned (.tuple #[]) ∧ Bld w0 b (l ++ txX x) w' ∧ Bel w0 w' ∧ Oth b w w'
set_option maxRecDepth 100000 in
set_option maxHeartbeats 8000000 in
theorem writeKid_any (x : Ex) (H : WrT x) (w0 w : World) (b : Nat) (l : List UInt8) (A : Option Addr) (c : Nat) (hL : Lie (fun _ => True) w0 A x.ks) (hI : Bld w0 b l w) (hb : Bel w0 w) (ht : Tab w0) (hm : Mx w0) (ho : okX x = true) (hs : smX x) (hl : l.length + (brkT (decide (x.ks.length = 0), txX x)).length ≤ 90000000000000) :
    Calls Tryz.prog 40 #[.pointer (some ⟨b, 0, none⟩), exV x.op x.v (bytesOf x.nm) A x.ks.length c] w fun r w' => r = .returned (.tuple #[]) ∧ Bld w0 b (l ++ brkT (decide (x.ks.length = 0), txX x)) w' ∧ Bel w0 w' ∧ Oth b w w' := by
  have hbw := bld_lt hI
  have HW := Lib.hid fun W l (hI : Bld w0 b l W) (hb : Bel w0 W) (hl : l.length + (txX x).length ≤ 90000000000000) => H w0 W b l A c hL hI hb ht hm ho hs hl
  have HI := Lib.hid hI
  have HB := Lib.hid hb
  clear hL ht hm ho hs hI hb H
  generalize hn : x.ks.length = n at HW hl ⊢
  have hBN := box_new w x A n c
  have hbel := (Bel.refl w).alloc (.cells #[.int .i64 x.op, .int .i64 x.v.kind, .int .i64 x.v.n, .int .i64 x.v.scale, .string x.v.text, .int .i64 x.v.num, .string (bytesOf x.nm), .slice A n c] 28)
  by_cases h0 : n = 0
  · have hT := Lib.hid (show brkT (decide (n = 0), txX x) = txX x from by rw [decide_eq_true h0]; rfl)
    rw [hT.out] at hl
    clear hn
    subst h0
    go_enter Tryz.func40, Tryz.ntmps40
    go_upto_region 1 with fail
    generalize hWW : w.alloc (.cells #[.int .i64 x.op, .int .i64 x.v.kind, .int .i64 x.v.n, .int .i64 x.v.scale, .string x.v.text, .int .i64 x.v.num, .string (bytesOf x.nm), .slice A 0 c] 28) = W at hBN hbel ⊢
    generalize w.heap.size = N at hBN ⊢
    have hIW : Bld w0 b l W := bld_keep HI.out hbel
    have hbW := HB.out.trans hbel
    have HWW := Lib.hid (HW.out W l hIW hbW (by omega))
    have HO := Lib.hid (oth_bel (b := b) hbel)
    obtain ⟨k0, k1, k2, k3, k4, k5, k6, k7⟩ := hBN.cells
    simp only [Nat.zero_add] at k0 k1 k2 k3 k4 k5 k6 k7
    clear hWW
    go_wp2_with (go_at_call 22; (with_reducible refine Calls.mono HWW.out ?_); rintro ee V ⟨rfl, hq1, hq2, hq3⟩; have HQ := Lib.hid (And.intro hq1 (And.intro hq2 hq3)); clear hq1 hq2 hq3)
    refine bodyPost_ret (v := .tuple #[]) (by simp [results, Tryz.results40, go_sem]) rfl ?_
    rw [hT.out]
    exact ⟨rfl, HQ.out.1, HQ.out.2.1, HO.out.trans HQ.out.2.2⟩
  · have hT := Lib.hid (show brkT (decide (n = 0), txX x) = [40] ++ (txX x ++ [41]) from by rw [decide_eq_false h0]; rfl)
    rw [hT.out, List.length_append, List.length_append, List.length_singleton, List.length_singleton] at hl
    have h0i : ¬ (n : Int) = 0 := by omega
    clear hn
    go_enter Tryz.func40, Tryz.ntmps40
    go_upto_region 1 with fail
    generalize hWW : w.alloc (.cells #[.int .i64 x.op, .int .i64 x.v.kind, .int .i64 x.v.n, .int .i64 x.v.scale, .string x.v.text, .int .i64 x.v.num, .string (bytesOf x.nm), .slice A n c] 28) = W at hBN hbel ⊢
    generalize hN : w.heap.size = N at hBN ⊢
    have hNb : N ≠ b := by omega
    clear hN hWW
    have hIW : Bld w0 b l W := bld_keep HI.out hbel
    have hbW := HB.out.trans hbel
    have C1 := Lib.hid (wstr_any hIW hbW [40] ⟨#[40]⟩ rfl (by simp; omega))
    have HO := Lib.hid (oth_bel (b := b) hbel)
    have HBN := Lib.hid hBN
    obtain ⟨k0, k1, k2, k3, k4, k5, k6, k7⟩ := hBN.cells
    simp only [Nat.zero_add] at k0 k1 k2 k3 k4 k5 k6 k7
    clear hBN hIW hbW hbel
    go_upto_region 4 with (go_at_call 39; (with_reducible refine Calls.mono C1.out ?_); rintro ee V1 ⟨rfl, hq1, hq2, hq3⟩; have I1 := Lib.hid hq1; have B1 := Lib.hid hq2; have O1 := Lib.hid (HO.out.trans hq3); have BN1 := Lib.hid (HBN.out.oth hq3 hNb); clear hq1 hq2 hq3)
    clear k0 k1 k2 k3 k4 k5 k6 k7
    obtain ⟨k0, k1, k2, k3, k4, k5, k6, k7⟩ := BN1.out.cells
    simp only [Nat.zero_add] at k0 k1 k2 k3 k4 k5 k6 k7
    have C2 := Lib.hid (HW.out V1 (l ++ [40]) I1.out B1.out (by rw [List.length_append, List.length_singleton]; omega))
    go_upto_region 5 with (go_at_call 22; (with_reducible refine Calls.mono C2.out ?_); rintro ee V2 ⟨rfl, hq1, hq2, hq3⟩; have I2 := Lib.hid hq1; have B2 := Lib.hid hq2; have O2 := Lib.hid (O1.out.trans hq3); clear hq1 hq2 hq3)
    clear k0 k1 k2 k3 k4 k5 k6 k7
    have C3 := Lib.hid (wstr_any I2.out B2.out [41] ⟨#[41]⟩ rfl (by simp only [List.length_append, List.length_singleton]; omega))
    go_wp2_with (go_at_call 39; (with_reducible refine Calls.mono C3.out ?_); rintro ee V3 ⟨rfl, hq1, hq2, hq3⟩; have I3 := Lib.hid hq1; have B3 := Lib.hid hq2; have O3 := Lib.hid (O2.out.trans hq3); clear hq1 hq2 hq3)
    go_end0
    rw [hT.out, show l ++ ([40] ++ (txX x ++ [41])) = l ++ [40] ++ txX x ++ [41] from by simp]
    exact ⟨rfl, I3.out, B3.out, O3.out⟩
end Go.Proofs.YthfkbonbgdioaaaGreatDoor
namespace Go.Proofs.YthfkbonbgdioaaaGreatDoor
set_option linter.unusedSimpArgs false
set_option linter.unusedVariables false
open Go.RowKit
/-! An expression as a text: by its shape. -/
set_option maxRecDepth 100000 in
set_option maxHeartbeats 8000000 in
theorem write_name (x : Ex) (h2 : x.op = 2) (w0 w : World) (b : Nat) (l : List UInt8) (A : Option Addr) (c : Nat) (hL : Lie (fun _ => True) w0 A x.ks) (hI : Bld w0 b l w) (hb : Bel w0 w) (ht : Tab w0) (hm : Mx w0) (ho : okX x = true) (hs : smX x) (hl : l.length + (txX x).length ≤ 90000000000000) :
    Calls Tryz.prog 22 #[.pointer (some ⟨b, 0, none⟩), exV x.op x.v (bytesOf x.nm) A x.ks.length c] w fun r w' => r = .returned (.tuple #[]) ∧ Bld w0 b (l ++ txX x) w' ∧ Bel w0 w' ∧ Oth b w w' := by
  obtain ⟨xo, v, nm, ks⟩ := x
  obtain rfl : xo = 2 := h2
  obtain rfl : ks = [] := by
    have h := (prt_out (show prtB 2 v nm ks.length = true from by rw [okX, Bool.and_eq_true] at ho; exact ho.1)).2.2.1
    exact List.eq_nil_of_length_eq_zero h
  have hT := Lib.hid (show txX (.mk 2 v nm []) = nm from by rw [txX, txsX, shpT]; exact if_neg (by decide))
  rw [hT.out] at hl ⊢
  simp only [Ex.op, Ex.v, Ex.nm, Ex.ks, List.length_nil]
  have hbw := bld_lt hI
  have HI := Lib.hid hI
  have HB := Lib.hid hb
  have hBN : BoxAt (w.alloc (.cells #[.int .i64 2, .int .i64 v.kind, .int .i64 v.n, .int .i64 v.scale, .string v.text, .int .i64 v.num, .string (bytesOf nm), .slice A 0 c] 28)) w.heap.size (.mk 2 v nm []) A 0 c := box_new w (.mk 2 v nm []) A 0 c
  have hbel := (Bel.refl w).alloc (.cells #[.int .i64 2, .int .i64 v.kind, .int .i64 v.n, .int .i64 v.scale, .string v.text, .int .i64 v.num, .string (bytesOf nm), .slice A 0 c] 28)
  clear hL ht hm ho hs hI hb
  go_enter Tryz.func22, Tryz.ntmps22
  go_upto_region 1 with fail
  generalize hWW : w.alloc (.cells #[.int .i64 2, .int .i64 v.kind, .int .i64 v.n, .int .i64 v.scale, .string v.text, .int .i64 v.num, .string (bytesOf nm), .slice A 0 c] 28) = W at hBN hbel ⊢
  generalize hN : w.heap.size = N at hBN ⊢
  clear hN hWW
  have HO := Lib.hid (oth_bel (b := b) hbel)
  have C1 := Lib.hid (wstr_any (bld_keep HI.out hbel) (HB.out.trans hbel) nm (bytesOf nm) rfl (by omega))
  obtain ⟨k0, k1, k2, k3, k4, k5, k6, k7⟩ := hBN.cells
  simp only [Nat.zero_add, Ex.op, Ex.v, Ex.nm] at k0 k1 k2 k3 k4 k5 k6 k7
  clear hBN hbel
  go_wp2_with (go_at_call 39; (with_reducible refine Calls.mono C1.out ?_); rintro ee V1 ⟨rfl, hq1, hq2, hq3⟩; have I1 := Lib.hid hq1; have B1 := Lib.hid hq2; have O1 := Lib.hid (HO.out.trans hq3); clear hq1 hq2 hq3)
  first
    | go_end0
    | refine bodyPost_ret (v := .tuple #[]) (by simp [results, Tryz.results22, go_sem]) rfl ?_
  exact ⟨rfl, I1.out, B1.out, O1.out⟩
set_option maxRecDepth 100000 in
set_option maxHeartbeats 8000000 in
theorem write_val (x : Ex) (h1 : x.op = 1) (w0 w : World) (b : Nat) (l : List UInt8) (A : Option Addr) (c : Nat) (hL : Lie (fun _ => True) w0 A x.ks) (hI : Bld w0 b l w) (hb : Bel w0 w) (ht : Tab w0) (hm : Mx w0) (ho : okX x = true) (hs : smX x) (hl : l.length + (txX x).length ≤ 90000000000000) :
    Calls Tryz.prog 22 #[.pointer (some ⟨b, 0, none⟩), exV x.op x.v (bytesOf x.nm) A x.ks.length c] w fun r w' => r = .returned (.tuple #[]) ∧ Bld w0 b (l ++ txX x) w' ∧ Bel w0 w' ∧ Oth b w w' := by
  obtain ⟨xo, ⟨vk, vn, vs, vt, vm⟩, nm, ks⟩ := x
  obtain rfl : xo = 1 := h1
  have hpr := prt_out (show prtB 1 ⟨vk, vn, vs, vt, vm⟩ nm ks.length = true from by rw [okX, Bool.and_eq_true] at ho; exact ho.1)
  obtain rfl : ks = [] := List.eq_nil_of_length_eq_zero hpr.2.2.1
  obtain ⟨rfl, hvs, -⟩ := hpr.2.2.2.1 rfl
  have hT := Lib.hid (show txX (.mk 1 ⟨vk, vn, vs, vt, vm⟩ [] []) = vxL ⟨vk, vn, vs, vt, vm⟩ from by rw [txX, txsX, shpT]; exact if_pos rfl)
  rw [hT.out] at hl ⊢
  simp only [Ex.op, Ex.v, Ex.nm, Ex.ks, List.length_nil]
  have hbw := bld_lt hI
  have HI := Lib.hid hI
  have HB := Lib.hid hb
  have CV := Lib.hid fun W (hW : Bel w0 W) => vtext_any ⟨vk, vn, vs, vt, vm⟩ hs.1 W (ht.keep hW) (hm.keep hW)
  rw [show vtxV ⟨vk, vn, vs, vt, vm⟩ = .tuple #[.string (bytesOf (vxL ⟨vk, vn, vs, vt, vm⟩)), .int .i64 0] from if_pos hvs] at CV
  simp only [Val.val] at CV
  generalize vxL ⟨vk, vn, vs, vt, vm⟩ = z at CV hl ⊢
  have hBN : BoxAt (w.alloc (.cells #[.int .i64 1, .int .i64 vk, .int .i64 vn, .int .i64 vs, .string vt, .int .i64 vm, .string (bytesOf []), .slice A 0 c] 28)) w.heap.size (.mk 1 ⟨vk, vn, vs, vt, vm⟩ [] []) A 0 c := box_new w (.mk 1 ⟨vk, vn, vs, vt, vm⟩ [] []) A 0 c
  have hbel := (Bel.refl w).alloc (.cells #[.int .i64 1, .int .i64 vk, .int .i64 vn, .int .i64 vs, .string vt, .int .i64 vm, .string (bytesOf []), .slice A 0 c] 28)
  clear hL ht hm ho hs hI hb hpr hvs
  go_enter Tryz.func22, Tryz.ntmps22
  go_upto_region 1 with fail
  generalize hWW : w.alloc (.cells #[.int .i64 1, .int .i64 vk, .int .i64 vn, .int .i64 vs, .string vt, .int .i64 vm, .string (bytesOf []), .slice A 0 c] 28) = W at hBN hbel ⊢
  generalize hN : w.heap.size = N at hBN ⊢
  clear hN hWW
  have HO := Lib.hid (oth_bel (b := b) hbel)
  have HIW := Lib.hid (bld_keep HI.out hbel)
  have HBW := Lib.hid (HB.out.trans hbel)
  have C1 := Lib.hid fun X (hX : Bel W X) => wstr_any (bld_keep HIW.out hX) (HBW.out.trans hX) z (bytesOf z) rfl (by omega)
  obtain ⟨k0, k1, k2, k3, k4, k5, k6, k7⟩ := hBN.cells
  simp only [Nat.zero_add, Ex.op, Ex.v, Ex.nm] at k0 k1 k2 k3 k4 k5 k6 k7
  clear hBN hbel
  go_wp2_with (first
    | (go_at_call 38; (with_reducible refine Calls.mono (CV.out _ HBW.out) ?_); rintro ee V0 ⟨rfl, hb0⟩)
    | (go_at_call 39; (with_reducible refine Calls.mono (C1.out _ hb0) ?_); rintro ee V1 ⟨rfl, hq1, hq2, hq3⟩; have I1 := Lib.hid hq1; have B1 := Lib.hid hq2; have O1 := Lib.hid ((HO.out.trans (oth_bel (b := b) hb0)).trans hq3); clear hq1 hq2 hq3))
  first
    | go_end0
    | refine bodyPost_ret (v := .tuple #[]) (by simp [results, Tryz.results22, go_sem]) rfl ?_
  exact ⟨rfl, I1.out, B1.out, O1.out⟩
set_option maxRecDepth 100000 in
set_option maxHeartbeats 8000000 in
theorem write_neg (x : Ex) (h3 : x.op = 3) (IH : ∀ y ∈ x.ks, WrT y) (w0 w : World) (b : Nat) (l : List UInt8) (A : Option Addr) (c : Nat) (hL : Lie (fun _ => True) w0 A x.ks) (hI : Bld w0 b l w) (hb : Bel w0 w) (ht : Tab w0) (hm : Mx w0) (ho : okX x = true) (hs : smX x) (hl : l.length + (txX x).length ≤ 90000000000000) :
    Calls Tryz.prog 22 #[.pointer (some ⟨b, 0, none⟩), exV x.op x.v (bytesOf x.nm) A x.ks.length c] w fun r w' => r = .returned (.tuple #[]) ∧ Bld w0 b (l ++ txX x) w' ∧ Bel w0 w' ∧ Oth b w w' := by
  obtain ⟨xo, v, nm, ks⟩ := x
  obtain rfl : xo = 3 := h3
  have hpr := prt_out (show prtB 3 v nm ks.length = true from by rw [okX, Bool.and_eq_true] at ho; exact ho.1)
  obtain ⟨y, rfl⟩ : ∃ y, ks = [y] := List.length_eq_one_iff.1 hpr.2.2.1
  have hoy : okX y = true := by rw [okX, okL, Bool.and_eq_true, Bool.and_eq_true] at ho; exact ho.2.1
  have hsy : smX y := hs.2.2.1
  have hT := (show txX (.mk 3 v nm [y]) = [45] ++ brkT (decide (y.ks.length = 0), txX y) from by rw [txX, txsX, txsX, shpT]; exact if_pos rfl)
  obtain ⟨z, hz⟩ : ∃ z, brkT (decide (y.ks.length = 0), txX y) = z := ⟨_, rfl⟩
  rw [hz] at hT
  rw [hT] at hl ⊢
  rw [List.length_append, List.length_singleton] at hl
  obtain ⟨B, off, rfl, -, hBw, A', c', hE, hLy⟩ := hL.get (q := 0) (x := y) rfl
  show Calls Tryz.prog 22 #[.pointer (some ⟨b, 0, none⟩), .agg #[.int .i64 3, .int .i64 v.kind, .int .i64 v.n, .int .i64 v.scale, .string v.text, .int .i64 v.num, .string (bytesOf nm), .slice (some ⟨B, off, none⟩) 1 c]] w _
  have hbw := bld_lt hI
  have HI := Lib.hid hI
  have HB := Lib.hid hb
  have HE := Lib.hid hE
  have CK := Lib.hid fun X (hI : Bld w0 b (l ++ [45]) X) (hX : Bel w0 X) => writeKid_any y (IH y (show y ∈ [y] from by simp)) w0 X b (l ++ [45]) A' c' hLy hI hX ht hm hoy hsy (by rw [hz, List.length_append, List.length_singleton]; omega)
  rw [hz] at CK
  have hBN : BoxAt (w.alloc (.cells #[.int .i64 3, .int .i64 v.kind, .int .i64 v.n, .int .i64 v.scale, .string v.text, .int .i64 v.num, .string (bytesOf nm), .slice (some ⟨B, off, none⟩) 1 c] 28)) w.heap.size (.mk 3 v nm [y]) (some ⟨B, off, none⟩) 1 c := box_new w (.mk 3 v nm [y]) (some ⟨B, off, none⟩) 1 c
  have hbel := (Bel.refl w).alloc (.cells #[.int .i64 3, .int .i64 v.kind, .int .i64 v.n, .int .i64 v.scale, .string v.text, .int .i64 v.num, .string (bytesOf nm), .slice (some ⟨B, off, none⟩) 1 c] 28)
  have hl2 : l.length ≤ 90000000000000 := by omega
  clear hL ht hm ho hs hI hb hpr hE hLy hl hoy hsy IH hz hT
  go_enter Tryz.func22, Tryz.ntmps22
  go_upto_region 1 with fail
  generalize hWW : w.alloc (.cells #[.int .i64 3, .int .i64 v.kind, .int .i64 v.n, .int .i64 v.scale, .string v.text, .int .i64 v.num, .string (bytesOf nm), .slice (some ⟨B, off, none⟩) 1 c] 28) = W at hBN hbel ⊢
  generalize hN : w.heap.size = N at hBN ⊢
  have hNb : N ≠ b := by omega
  clear hN hWW
  have HO := Lib.hid (oth_bel (b := b) hbel)
  have C1 := Lib.hid (wstr_any (bld_keep HI.out hbel) (HB.out.trans hbel) [45] ⟨#[45]⟩ rfl (by show l.length + 1 ≤ 100000000000000; omega))
  have HBN := Lib.hid hBN
  obtain ⟨k0, k1, k2, k3, k4, k5, k6, k7⟩ := hBN.cells
  simp only [Nat.zero_add, Ex.op, Ex.v, Ex.nm] at k0 k1 k2 k3 k4 k5 k6 k7
  clear hBN hbel
  go_upto_region 12 with (go_at_call 39; (with_reducible refine Calls.mono C1.out ?_); rintro ee V1 ⟨rfl, hq1, hq2, hq3⟩; have I1 := Lib.hid hq1; have B1 := Lib.hid hq2; have O1 := Lib.hid (HO.out.trans hq3); have BN1 := Lib.hid (HBN.out.oth hq3 hNb); clear hq1 hq2 hq3)
  clear k0 k1 k2 k3 k4 k5 k6 k7
  obtain ⟨k0, k1, k2, k3, k4, k5, k6, k7⟩ := BN1.out.cells
  simp only [Nat.zero_add, Ex.op, Ex.v, Ex.nm] at k0 k1 k2 k3 k4 k5 k6 k7
  obtain ⟨e0, e1, e2, e3, e4, e5, e6, e7⟩ := HE.out.same (w' := V1) fun o => (Bag.of (b := B + 1) B1.out).cell (p := ⟨B, o, none⟩) hBw (by show B ≠ B + 1; omega)
  simp only [Nat.zero_mul, Nat.add_zero] at e0 e1 e2 e3 e4 e5 e6 e7
  have C2 := Lib.hid (CK.out V1 I1.out B1.out)
  go_wp2_with (go_at_call 40; (with_reducible refine Calls.mono C2.out ?_); rintro ee V2 ⟨rfl, hq1, hq2, hq3⟩; have I2 := Lib.hid hq1; have B2 := Lib.hid hq2; have O2 := Lib.hid (O1.out.trans hq3); clear hq1 hq2 hq3)
  first
    | go_end0
    | refine bodyPost_ret (v := .tuple #[]) (by simp [results, Tryz.results22, go_sem]) rfl ?_
  rw [show l ++ 45 :: z = l ++ [45] ++ z from by simp]
  exact ⟨rfl, I2.out, B2.out, O2.out⟩
set_option maxRecDepth 100000 in
set_option maxHeartbeats 8000000 in
theorem write_not (x : Ex) (h16 : x.op = 16) (IH : ∀ y ∈ x.ks, WrT y) (w0 w : World) (b : Nat) (l : List UInt8) (A : Option Addr) (c : Nat) (hL : Lie (fun _ => True) w0 A x.ks) (hI : Bld w0 b l w) (hb : Bel w0 w) (ht : Tab w0) (hm : Mx w0) (ho : okX x = true) (hs : smX x) (hl : l.length + (txX x).length ≤ 90000000000000) :
    Calls Tryz.prog 22 #[.pointer (some ⟨b, 0, none⟩), exV x.op x.v (bytesOf x.nm) A x.ks.length c] w fun r w' => r = .returned (.tuple #[]) ∧ Bld w0 b (l ++ txX x) w' ∧ Bel w0 w' ∧ Oth b w w' := by
  obtain ⟨xo, v, nm, ks⟩ := x
  obtain rfl : xo = 16 := h16
  have hpr := prt_out (show prtB 16 v nm ks.length = true from by rw [okX, Bool.and_eq_true] at ho; exact ho.1)
  obtain ⟨y, rfl⟩ : ∃ y, ks = [y] := List.length_eq_one_iff.1 hpr.2.2.1
  have hoy : okX y = true := by rw [okX, okL, Bool.and_eq_true, Bool.and_eq_true] at ho; exact ho.2.1
  have hsy : smX y := hs.2.2.1
  have hT := (show txX (.mk 16 v nm [y]) = wNOT ++ ([40] ++ (txX y ++ [41])) from by rw [txX, txsX, txsX, shpT]; exact if_neg (by decide))
  obtain ⟨z, hz⟩ : ∃ z, txX y = z := ⟨_, rfl⟩
  rw [hz] at hT
  rw [hT] at hl ⊢
  rw [List.length_append, List.length_append, List.length_append, List.length_singleton, List.length_singleton, show wNOT.length = 3 from rfl] at hl
  obtain ⟨B, off, rfl, -, hBw, A', c', hE, hLy⟩ := hL.get (q := 0) (x := y) rfl
  show Calls Tryz.prog 22 #[.pointer (some ⟨b, 0, none⟩), .agg #[.int .i64 16, .int .i64 v.kind, .int .i64 v.n, .int .i64 v.scale, .string v.text, .int .i64 v.num, .string (bytesOf nm), .slice (some ⟨B, off, none⟩) 1 c]] w _
  have hbw := bld_lt hI
  have HI := Lib.hid hI
  have HB := Lib.hid hb
  have HE := Lib.hid hE
  have CK := Lib.hid fun X (hI : Bld w0 b (l ++ [110, 111, 116, 40]) X) (hX : Bel w0 X) => IH y (show y ∈ [y] from by simp) w0 X b (l ++ [110, 111, 116, 40]) A' c' hLy hI hX ht hm hoy hsy (by rw [hz, List.length_append, show ([110, 111, 116, 40] : List UInt8).length = 4 from rfl]; omega)
  rw [hz] at CK
  have hBN : BoxAt (w.alloc (.cells #[.int .i64 16, .int .i64 v.kind, .int .i64 v.n, .int .i64 v.scale, .string v.text, .int .i64 v.num, .string (bytesOf nm), .slice (some ⟨B, off, none⟩) 1 c] 28)) w.heap.size (.mk 16 v nm [y]) (some ⟨B, off, none⟩) 1 c := box_new w (.mk 16 v nm [y]) (some ⟨B, off, none⟩) 1 c
  have hbel := (Bel.refl w).alloc (.cells #[.int .i64 16, .int .i64 v.kind, .int .i64 v.n, .int .i64 v.scale, .string v.text, .int .i64 v.num, .string (bytesOf nm), .slice (some ⟨B, off, none⟩) 1 c] 28)
  have hl2 : l.length + z.length + 5 ≤ 90000000000000 := by omega
  clear hL ht hm ho hs hI hb hpr hE hLy hl hoy hsy IH hz hT
  go_enter Tryz.func22, Tryz.ntmps22
  go_upto_region 1 with fail
  generalize hWW : w.alloc (.cells #[.int .i64 16, .int .i64 v.kind, .int .i64 v.n, .int .i64 v.scale, .string v.text, .int .i64 v.num, .string (bytesOf nm), .slice (some ⟨B, off, none⟩) 1 c] 28) = W at hBN hbel ⊢
  generalize hN : w.heap.size = N at hBN ⊢
  have hNb : N ≠ b := by omega
  clear hN hWW
  have HO := Lib.hid (oth_bel (b := b) hbel)
  have C1 := Lib.hid (wstr_any (bld_keep HI.out hbel) (HB.out.trans hbel) [110, 111, 116, 40] ⟨#[110, 111, 116, 40]⟩ rfl (by show l.length + 4 ≤ 100000000000000; omega))
  have HBN := Lib.hid hBN
  obtain ⟨k0, k1, k2, k3, k4, k5, k6, k7⟩ := hBN.cells
  simp only [Nat.zero_add, Ex.op, Ex.v, Ex.nm] at k0 k1 k2 k3 k4 k5 k6 k7
  clear hBN hbel
  go_upto_region 15 with (go_at_call 39; (with_reducible refine Calls.mono C1.out ?_); rintro ee V1 ⟨rfl, hq1, hq2, hq3⟩; have I1 := Lib.hid hq1; have B1 := Lib.hid hq2; have O1 := Lib.hid (HO.out.trans hq3); have BN1 := Lib.hid (HBN.out.oth hq3 hNb); clear hq1 hq2 hq3)
  clear k0 k1 k2 k3 k4 k5 k6 k7
  obtain ⟨k0, k1, k2, k3, k4, k5, k6, k7⟩ := BN1.out.cells
  simp only [Nat.zero_add, Ex.op, Ex.v, Ex.nm] at k0 k1 k2 k3 k4 k5 k6 k7
  obtain ⟨e0, e1, e2, e3, e4, e5, e6, e7⟩ := HE.out.same (w' := V1) fun o => (Bag.of (b := B + 1) B1.out).cell (p := ⟨B, o, none⟩) hBw (by show B ≠ B + 1; omega)
  simp only [Nat.zero_mul, Nat.add_zero] at e0 e1 e2 e3 e4 e5 e6 e7
  have C2 := Lib.hid (CK.out V1 I1.out B1.out)
  go_upto_region 16 with (go_at_call 22; (with_reducible refine Calls.mono C2.out ?_); rintro ee V2 ⟨rfl, hq1, hq2, hq3⟩; have I2 := Lib.hid hq1; have B2 := Lib.hid hq2; have O2 := Lib.hid (O1.out.trans hq3); clear hq1 hq2 hq3)
  have C3 := Lib.hid (wstr_any I2.out B2.out [41] ⟨#[41]⟩ rfl (by simp only [List.length_append, List.length_singleton, List.length_cons, List.length_nil]; omega))
  go_wp2_with (go_at_call 39; (with_reducible refine Calls.mono C3.out ?_); rintro ee V3 ⟨rfl, hq1, hq2, hq3⟩; have I3 := Lib.hid hq1; have B3 := Lib.hid hq2; have O3 := Lib.hid (O2.out.trans hq3); clear hq1 hq2 hq3)
  first
    | go_end0
    | refine bodyPost_ret (v := .tuple #[]) (by simp [results, Tryz.results22, go_sem]) rfl ?_
  have h3 := I3.out
  rw [show l ++ [110, 111, 116, 40] ++ z ++ [41] = l ++ (wNOT ++ ([40] ++ (z ++ [41]))) from by simp [wNOT]] at h3
  exact ⟨rfl, h3, B3.out, O3.out⟩
end Go.Proofs.YthfkbonbgdioaaaGreatDoor
