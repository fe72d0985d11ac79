import Derived.Test.YteblpdoljhmcmaaPlu
import Derived.Deep.RegionHeldLaw
namespace Go.Proofs.Yteblpdoljhmcmaa
set_option linter.unusedSimpArgs false
set_option linter.unusedVariables false
open Go.RowKit Go.Lib
attribute [local go_sem ↓] eql_val neq_val

/-! The document's answers: Outcome. -/
theorem OwnV.made {w0 w : World} (h : Bel w0 w) : OwnV (w.alloc (.cells #[] 26)) w0.heap.size (.slice (some ⟨w.heap.size, 0, none⟩) 0 0) [] :=
  World.ownsRow_made w #[] 0 h.size (by simp [maxLen]) rfl
theorem app_vals {w : World} {B : Nat} {v : Value} {xs ys : List Val} {A : Option Addr} {c : Nat} (h : OwnV w B v xs) (hy : Vals w A ys) (hA : A = none → c = 0) (hn : xs.length + ys.length ≤ 2097152) (hB : B ≤ w.heap.size) (ty : TypeId) :
    ∃ v' w', (Builtin.append_ #[22, 22] ty #[v, .slice A ys.length c]).run Try.prog w = .ok v' w' ∧ (OwnV w' B v' (xs ++ ys) ∧ BelBut w w' v.ownBlock ∧ (v'.ownBlock = v.ownBlock ∨ v'.ownBlock = some w.heap.size)) := by
  obtain ⟨i0, hi, hz0, hz1, hz2⟩ := infoV'
  obtain ⟨v', w', hr, h1, h2, h3⟩ := run_app (P := Try.prog) w B 22 ty 26 i0 _ 5 48 Try.underlying22 hi hz0 hz1 hz2 rfl (by omega) h hy.row (flat_length ys) hA (flat_one ys) (by simp only [maxLen]; omega) (by omega) hB
  exact ⟨v', w', hr, by unfold OwnV; rw [List.length_append, flat_append]; exact h1, h2, h3⟩
theorem app_step {wr w : World} {v : Value} {xs ys : List Val} {A : Option Addr} {m c : Nat} (hb : Bel wr w) (h : OwnV w wr.heap.size v xs) (hy : Vals w A ys) (hm : ys.length = m) (hA : A = none → c = 0) (hn : xs.length + ys.length ≤ 2097152) (ty : TypeId) :
    ∃ v' w', (Builtin.append_ #[22, 22] ty #[v, .slice A m c]).run Try.prog w = .ok v' w' ∧ (OwnV w' wr.heap.size v' (xs ++ ys) ∧ Bel wr w' ∧ BelBut w w' v.ownBlock) := by
  subst hm
  obtain ⟨v', w', hr, h1, h2, _⟩ := app_vals h hy hA hn hb.size ty
  exact ⟨v', w', hr, h1, h2.bel hb fun k hk => (h.lt k hk).1, h2⟩
theorem step_app {P : Program} {w : World} {ops : Array Oper} {o : Oper} {a : Act} {K : Act → World → Prop} {Q : Exit → Act → World → Prop} {E : Prop} (hgd : o.guard = none) (s x : Operand) (t : TypeId)
    (ho : o.op = .call { callee := .builtin .append, args := #[s, x], argTypes := #[t, t] }) {R : Value → World → Prop}
    (hrun : ∃ v' w', (Builtin.append_ #[t, t] o.type #[a.eval s, a.eval x]).run P w = .ok v' w' ∧ R v' w')
    (h : ∀ v' w', R v' w' → K (a.put o.dst v') w') : if Region.wanted o (yielded ops a.tmps) = true then Oper.wp P o a w K Q else E := by
  obtain ⟨v', w', hr, hR⟩ := hrun
  have hw : Region.wanted o (yielded ops a.tmps) = true := by simp [Region.wanted, hgd]
  rw [if_pos hw]
  unfold Oper.wp execOp
  simp only [ho, resolve, invoke, builtin, Sem.run_bind, Sem.run_pure, Result.andThen_ok, List.map_toArray, List.map_cons, List.map_nil, hr]
  exact h v' w' hR
theorem OwnV.made' {w0 w : World} {n : Nat} (h : Bel w0 w) (hn : n = w.heap.size) : OwnV (w.alloc (.cells #[] 26)) w0.heap.size (.slice (some ⟨n, 0, none⟩) 0 0) [] := by
  subst hn
  exact OwnV.made h
theorem OwnV.base {w : World} {B B' : Nat} {v : Value} {vs : List Val} (h : OwnV w B v vs) (hB : B' ≤ B) : OwnV w B' v vs := by
  obtain ⟨hl, h2⟩ := h
  refine ⟨hl, ?_⟩
  rcases h2 with h2 | ⟨g, cap, cur, e1, e2, h3⟩
  · exact .inl h2
  · exact .inr ⟨g, cap, cur, e1, Nat.le_trans hB e2, h3⟩
theorem Vals.but {w w' : World} {row : Option Nat} {k : Nat} {vs : List Val} (h : Vals w (some ⟨k, 0, none⟩) vs) (hb : BelBut w w' row) (hr : row ≠ some k) : Vals w' (some ⟨k, 0, none⟩) vs := fun h0 => by
  obtain ⟨b', off', e, hlt, hc⟩ := h h0
  cases e
  have hc' : ∀ o, w'.cell? ⟨k, o, none⟩ = w.cell? ⟨k, o, none⟩ := fun o => World.cell?_of_block (hb.block k hlt (fun e => hr e.symm))
  exact ⟨k, 0, rfl, Nat.lt_of_lt_of_le hlt hb.size, fun i v hv => by
    have := hc i v hv
    simp only [ValAt, hc']
    exact this⟩
theorem x5_b {wr w5 : World} {x : Val} {row : Option Nat} {o : Obj} (t : BelBut ((wr.alloc o).drew.alloc (.cells #[.int .i64 x.kind, .int .i64 x.n, .int .i64 x.scale, .string x.text, .int .i64 x.num] 26)) w5 row) (hr : row = some wr.heap.size) : Vals w5 (some ⟨wr.heap.size + 1, 0, none⟩) [x] :=
  Vals.but (vals_one ((wr.alloc o).drew) x (n := wr.heap.size + 1) (by simp [go_sem])) t (by rw [hr]; simp)
theorem x5_c {wr w5 : World} {x : Val} {row : Option Nat} {o : Obj} (t : BelBut ((wr.alloc (.cells #[.int .i64 x.kind, .int .i64 x.n, .int .i64 x.scale, .string x.text, .int .i64 x.num] 26)).alloc o) w5 row) (hr : row = some (wr.heap.size + 1)) : Vals w5 (some ⟨wr.heap.size, 0, none⟩) [x] :=
  Vals.but ((vals_one wr x rfl).keep ((Bel.refl _).alloc _)) t (by rw [hr]; simp)
theorem x5_d {wr w5 : World} {x : Val} {row : Option Nat} {o : Obj} (t : BelBut (((wr.alloc (.cells #[.int .i64 x.kind, .int .i64 x.n, .int .i64 x.scale, .string x.text, .int .i64 x.num] 26)).alloc o).drew) w5 row) (hr : row = some (wr.heap.size + 1)) : Vals w5 (some ⟨wr.heap.size, 0, none⟩) [x] :=
  Vals.but ((vals_one wr x rfl).keep ((Bel.refl _).alloc _).drew) t (by rw [hr]; simp)
theorem bel_both {wr w' : World} (h : Bel wr w') : Bel wr w' ∧ ∀ b o, b < wr.heap.size → w'.cell? ⟨b, o, none⟩ = wr.cell? ⟨b, o, none⟩ := ⟨h, h.cells⟩
theorem sl5_slot {w : World} {b : Nat} {k n s m : Int} {t : ByteArray} (h : Sl5 w b k n s t m) : Slot w b ⟨k, n, s, t, m⟩ := by
  simpa [Slot, ValAt, Sl5] using h
theorem own_nz {a b : Option Nat} {n r m : Nat} (k : a = b ∨ a = some m) (hb : b = some r) (h1 : r ≠ n) (h2 : m ≠ n) : a ≠ some n := by
  rcases k with k | k
  · rw [k, hb]; simpa using h1
  · rw [k]; simpa using h2
theorem app_step3 {wr w : World} {v : Value} {xs ys : List Val} {A : Option Addr} {m c : Nat} (hb : Bel wr w) (h : OwnV w wr.heap.size v xs) (hy : Vals w A ys) (hm : ys.length = m) (hA : A = none → c = 0) (hn : xs.length + ys.length ≤ 2097152) (ty : TypeId) :
    ∃ v' w', (Builtin.append_ #[22, 22] ty #[v, .slice A m c]).run Try.prog w = .ok v' w' ∧ (OwnV w' wr.heap.size v' (xs ++ ys) ∧ Bel wr w' ∧ BelBut w w' v.ownBlock ∧ (v'.ownBlock = v.ownBlock ∨ v'.ownBlock = some w.heap.size)) := by
  subst hm
  obtain ⟨v', w', hr, h1, h2, h3⟩ := app_vals h hy hA hn hb.size ty
  exact ⟨v', w', hr, h1, h2.bel hb fun k hk => (h.lt k hk).1, h2, h3⟩
theorem x5_a {wr w5 : World} {x : Val} {row : Option Nat} {o : Obj} (t : BelBut ((wr.alloc o).alloc (.cells #[.int .i64 x.kind, .int .i64 x.n, .int .i64 x.scale, .string x.text, .int .i64 x.num] 26)) w5 row) (hr : row = some wr.heap.size) : Vals w5 (some ⟨wr.heap.size + 1, 0, none⟩) [x] :=
  Vals.but (vals_one (wr.alloc o) x (n := wr.heap.size + 1) (by simp [go_sem])) t (by rw [hr]; simp)
theorem x5_e {wr w5 : World} {x : Val} {row : Option Nat} {o : Obj} (t : BelBut ((wr.alloc o).alloc (.cells #[.int .i64 x.kind, .int .i64 x.n, .int .i64 x.scale, .string x.text, .int .i64 x.num] 26)).drew w5 row) (hr : row = some wr.heap.size) : Vals w5 (some ⟨wr.heap.size + 1, 0, none⟩) [x] :=
  Vals.but ((vals_one (wr.alloc o) x (n := wr.heap.size + 1) (by simp [go_sem])).keep (Bel.refl _).drew) t (by rw [hr]; simp)
set_option maxRecDepth 100000 in
set_option maxHeartbeats 8000000 in
theorem rout_any (p : Int) (outs : List Val) (A : Option Addr) (c : Nat) (order : List Val) (B : Option Addr) (d : Nat) (v : Val) (fired : List Int) (F : Option Addr) (f : Nat) (w : World)
    (hA : Vals w A outs) (hB : Vals w B order) (hF : Ints w F fired) (nA : A = none → c = 0) (nB : B = none → d = 0) (lA : outs.length ≤ 1048575) (lB : order.length ≤ 1048575) (lF : fired.length ≤ 1048575)
    (tA : ∀ v ∈ outs, v.text.size ≤ 9223372036854775807) (tB : ∀ v ∈ order, v.text.size ≤ 9223372036854775807) (tv : v.text.size ≤ 9223372036854775807) (iF : ∀ i ∈ fired, -9223372036854775808 ≤ i ∧ i ≤ 9223372036854775807) :
    Calls Try.prog 10 #[.int .i64 p, .slice A outs.length c, .slice B order.length d, v.val, .slice F fired.length f] w fun e w' => e = .returned (outR p outs order v fired) ∧ Bel w w' := by
  have C1 := Lib.hid fun W => rknown_any p W
  obtain ⟨R, hR⟩ : ∃ R, R = outV p outs order v fired := ⟨_, rfl⟩
  have OR := Lib.hid (show outR p outs order v fired = .tuple #[R.1.val, .int .i64 R.2] from by rw [hR]; rfl)
  generalize outR p outs order v fired = X at OR ⊢
  have RR := Lib.hid (show R = if (known p && risF outs.length 0 fired) = false then (nul, 1)
    else if (outs.all vsnd && (order.all vsnd && vsnd v)) = false then (nul, 2)
    else if p = 35 then (⟨1, fired.length, 0, ⟨#[]⟩, 0⟩, 0)
    else if fired.length = 0 then (v, 0)
    else (outF p (picks outs fired) order, 0) from hR)
  obtain ⟨b1, hb1⟩ : ∃ b, b = known p := ⟨_, rfl⟩
  obtain ⟨b2, hb2⟩ : ∃ b, b = risF outs.length 0 fired := ⟨_, rfl⟩
  obtain ⟨b3, hb3⟩ : ∃ b, b = (outs.all vsnd && (order.all vsnd && vsnd v)) := ⟨_, rfl⟩
  rw [← hb1, ← hb2, ← hb3] at RR
  rw [← hb1] at C1
  have H1 := Lib.hid hb1
  have H2 := Lib.hid hb2
  have H3 := Lib.hid hb3
  clear hR hb1 hb2 hb3
  have HA := Lib.hid hA
  have HB := Lib.hid hB
  have HF := Lib.hid hF
  have TA := Lib.hid tA
  have TB := Lib.hid tB
  have IF := Lib.hid iF
  have NA := Lib.hid nA
  have NB := Lib.hid nB
  have TV := Lib.hid tv
  clear hA hB hF tA tB tv iF nA nB
  obtain ⟨v0, v1, v2, v3, v4⟩ := v
  simp only [Val.val] at OR RR
  go_enter Try.func10, Try.ntmps10
  go_upto_region 2 with fail
  refine under_name (w0 := w) (by (repeat (first | with_reducible exact Bel.refl _ | with_reducible refine Bel.setCell ?_ (by first | exact Nat.le_refl _ | (dsimp only; omega)) _ | with_reducible refine Bel.alloc ?_ _ | with_reducible refine Bel.drew ?_ | with_reducible assumption | with_reducible refine Bel.trans ?_ (by assumption)))) fun W hc hf hz hb => ?_
  have hD : Sl5 W w.heap.size v0 v1 v2 v3 v4 := by simp [Sl5, FreeAt, hc, hf, hz, go_sem] <;> omega
  have hR : Sl5 W (w.heap.size + 1) 0 0 0 ⟨#[]⟩ 0 := by simp [Sl5, FreeAt, hc, hf, hz, go_sem] <;> omega
  have hN : Sl5 W (w.heap.size + 2) 0 0 0 ⟨#[]⟩ 0 := by simp [Sl5, FreeAt, hc, hf, hz, go_sem] <;> omega
  clear hc hf hz
  have DS := Lib.hid (show ∀ w', Bel W w' → Sl5 w' w.heap.size v0 v1 v2 v3 v4 ∧ Sl5 w' (w.heap.size + 1) 0 0 0 ⟨#[]⟩ 0 ∧ Sl5 w' (w.heap.size + 2) 0 0 0 ⟨#[]⟩ 0 from fun w' h => ⟨hD.keep h, hR.keep h, hN.keep h⟩)
  clear hD hR hN
  generalize hBD : w.heap.size = BD at DS ⊢
  have HQ := Lib.hid (show w.heap.size ≤ BD + 1 from by omega)
  clear hBD
  have x1 : ¬ BD + 1 = BD + 2 := by omega
  have x2 : ¬ BD + 2 = BD + 1 := by omega
  have x3 : ¬ BD = BD + 1 := by omega
  have x4 : ¬ BD + 1 = BD := by omega
  have HBW := Lib.hid hb
  go_upto_if 26 with (go_at_call 13; with_reducible refine Calls.mono (C1.out _) ?_; rintro e W1 ⟨rfl, hb1⟩)
  have hbW := hb1
  replace hb := hb.trans hb1
  cases b1 with
  | false =>
    obtain rfl : R = (nul, 1) := RR.out.trans (if_pos rfl)
    obtain rfl := OR.out
    clear RR OR
    obtain ⟨hD, hR, hN⟩ := DS.out _ hbW
    go_wp2_with fail
    refine bodyPost_ret (by simp [results, Try.results10, go_sem, nul, hR]; try rfl) rfl ⟨rfl, ?_⟩
    have hq := HQ.out
    (repeat (first | with_reducible exact Bel.refl _ | with_reducible refine Bel.setCell ?_ (by first | exact Nat.le_refl _ | (dsimp only; omega)) _ | with_reducible refine Bel.alloc ?_ _ | with_reducible refine Bel.drew ?_ | with_reducible assumption | with_reducible refine Bel.trans ?_ (by assumption)))
  | true =>
    go_wp2_with fail
    go_loopg [13, 14] fired.length (fun g s13 s14 wr => ∃ (k : Nat) (ls : Int), s14 = .int .i64 k ∧ s13 = .int .i64 ls ∧ k ≤ fired.length ∧ -1 ≤ ls ∧ ls ≤ 9223372036854775806 ∧ Hid (b2 = risF outs.length (ls + 1) (fired.drop k) ∧ g = fired.length - k) ∧ Bel W1 wr)
    case atStart => exact ⟨0, -1, rfl, rfl, Nat.zero_le _, by omega, by omega, ⟨H2.out, rfl⟩, Bel.refl _⟩
    case round =>
      obtain ⟨k, ls, rfl, rfl, hk, ls1, ls2, hh, hbr⟩ := hrel
      replace hbW := hb1.trans hbr
      replace hb := hb.trans hbr
      by_cases hp : k < fired.length
      · have hln : 0 < (nums fired).length := by rw [show (nums fired).length = fired.length by simp [nums]]; omega
        obtain ⟨fb, fo, rfl, flt, fat⟩ := HF.out hln
        obtain ⟨i, hik⟩ : ∃ i, fired[k]? = some i := ⟨_, List.getElem?_eq_getElem hp⟩
        have hfa := (hb.cells _ _ flt).trans (fat k _ (show (nums fired)[k]? = some (.int .i64 i) by simp [nums, hik]))
        have lt1 := Nat.lt_of_lt_of_le flt hb.size
        have hdr : fired.drop k = i :: fired.drop (k + 1) := by rw [List.drop_eq_getElem_cons hp]; simp [List.getElem?_eq_getElem hp] at hik; rw [hik]
        have RN := Lib.hid (show b2 = (!(decide (i < ls + 1) || decide ((outs.length : Int) ≤ i)) && risF outs.length (i + 1) (fired.drop (k + 1))) from by rw [hh.out.1, hdr]; rfl)
        have hio := IF.out i (List.mem_of_getElem? hik)
        have i1 : (k : Int) < fired.length := by omega
        have i2 : (0 : Int) ≤ (k : Int) := by omega
        clear fat hik hdr
        by_cases g1 : i ≤ ls
        · obtain rfl : b2 = false := RN.out.trans (by rw [decide_eq_true (show i < ls + 1 by omega)]; rfl)
          obtain rfl : R = (nul, 1) := RR.out.trans (if_pos rfl)
          obtain rfl := OR.out
          clear RR OR RN
          obtain ⟨hD, hR, hN⟩ := DS.out _ hbW
          go_wp2_with fail
          refine bodyPost_ret (by simp [results, Try.results10, go_sem, nul, hR]; try rfl) rfl ⟨rfl, ?_⟩
          have hq := HQ.out
          (repeat (first | with_reducible exact Bel.refl _ | with_reducible refine Bel.setCell ?_ (by first | exact Nat.le_refl _ | (dsimp only; omega)) _ | with_reducible refine Bel.alloc ?_ _ | with_reducible refine Bel.drew ?_ | with_reducible assumption | with_reducible refine Bel.trans ?_ (by assumption)))
        · by_cases g2 : (outs.length : Int) ≤ i
          · obtain rfl : b2 = false := RN.out.trans (by rw [decide_eq_true g2, Bool.or_true]; rfl)
            obtain rfl : R = (nul, 1) := RR.out.trans (if_pos rfl)
            obtain rfl := OR.out
            have g3 : ¬ i < (outs.length : Int) := by omega
            clear RR OR RN
            obtain ⟨hD, hR, hN⟩ := DS.out _ hbW
            go_wp2_with fail
            refine bodyPost_ret (by simp [results, Try.results10, go_sem, nul, hR]; try rfl) rfl ⟨rfl, ?_⟩
            have hq := HQ.out
            (repeat (first | with_reducible exact Bel.refl _ | with_reducible refine Bel.setCell ?_ (by first | exact Nat.le_refl _ | (dsimp only; omega)) _ | with_reducible refine Bel.alloc ?_ _ | with_reducible refine Bel.drew ?_ | with_reducible assumption | with_reducible refine Bel.trans ?_ (by assumption)))
          · have RN := Lib.hid (show b2 = risF outs.length (i + 1) (fired.drop (k + 1)) from RN.out.trans (by rw [decide_eq_false (show ¬ i < ls + 1 by omega), decide_eq_false g2]; rfl))
            go_wp2_with fail
            go_roundg (fired.length - (k + 1))
            case measure => have := hh.out.2; omega
            case rel => exact ⟨k + 1, i, by go_num, rfl, by omega, by omega, by omega, ⟨RN.out, rfl⟩, hbr⟩
      · obtain rfl : k = fired.length := by omega
        obtain rfl : b2 = true := by
          have h := hh.out.1
          rw [List.drop_length] at h
          exact h
        have RR := Lib.hid (RR.out.trans (if_neg (by simp)))
        obtain ⟨hD, hR, hN⟩ := DS.out _ hbW
        clear hR hN
        go_upto_region 11 with fail
        go_cut [15] (fun u wx => ∃ wy, wy = wx ∧ OwnV wy wr.heap.size u (outs ++ order ++ [⟨v0, v1, v2, v3, v4⟩]) ∧ Bel wr wy)
        case first =>
          obtain ⟨D0, ⟨D1, D2, D3, D4, D5⟩, _⟩ := hD
          go_region_held_law (fun w' => Bel wr w' ∧ (∀ b o, b < wr.heap.size → w'.cell? ⟨b, o, none⟩ = wr.cell? ⟨b, o, none⟩)) ((refine bel_both ?_; (repeat (first | with_reducible exact Bel.refl _ | with_reducible refine Bel.setCell ?_ (by first | exact Nat.le_refl _ | (dsimp only; omega)) _ | with_reducible refine Bel.alloc ?_ _ | with_reducible refine Bel.drew ?_ | with_reducible assumption | with_reducible refine Bel.trans ?_ (by assumption))))) (first
            | (have _u := o6
               refine step_app rfl _ _ _ rfl (app_step (wr := wr) (xs := outs ++ order) (ys := [⟨v0, v1, v2, v3, v4⟩]) ?_ (o6.keep ?_) ?_ ?_ ?_ ?_ _) ?_
               · (repeat (first | with_reducible exact Bel.refl _ | with_reducible refine Bel.setCell ?_ (by first | exact Nat.le_refl _ | (dsimp only; omega)) _ | with_reducible refine Bel.alloc ?_ _ | with_reducible refine Bel.drew ?_ | with_reducible assumption | with_reducible refine Bel.trans ?_ (by assumption)))
               · (repeat (first | with_reducible exact Bel.refl _ | with_reducible refine Bel.setCell ?_ (by first | exact Nat.le_refl _ | (dsimp only; omega)) _ | with_reducible refine Bel.alloc ?_ _ | with_reducible refine Bel.drew ?_ | with_reducible assumption | with_reducible refine Bel.trans ?_ (by assumption)))
               · first
                   | with_reducible exact vals_one w6 ⟨v0, v1, v2, v3, v4⟩ rfl
                   | with_reducible exact vals_one w6.drew ⟨v0, v1, v2, v3, v4⟩ rfl
                   | exact Vals.but (vals_one w5 ⟨v0, v1, v2, v3, v4⟩ rfl) t6 (fun e => by have := (o5.lt _ e).2; omega)
                   | exact Vals.but (x5_a (x := ⟨v0, v1, v2, v3, v4⟩) t5 rfl) t6 (own_nz k5 (r := wr.heap.size) rfl (by omega) (by simp [World.drew, go_sem] <;> omega))
                   | exact Vals.but (x5_a (x := ⟨v0, v1, v2, v3, v4⟩) t5 rfl) t6 (own_nz k5 rfl (by omega) (by simp [World.drew, go_sem] <;> omega))
                   | exact Vals.but (x5_b (x := ⟨v0, v1, v2, v3, v4⟩) t5 rfl) t6 (own_nz k5 (r := wr.heap.size) rfl (by omega) (by simp [World.drew, go_sem] <;> omega))
                   | exact Vals.but (x5_b (x := ⟨v0, v1, v2, v3, v4⟩) t5 rfl) t6 (own_nz k5 rfl (by omega) (by simp [World.drew, go_sem] <;> omega))
                   | exact Vals.but (x5_c (x := ⟨v0, v1, v2, v3, v4⟩) t5 rfl) t6 (own_nz k5 (r := wr.heap.size + 1) rfl (by omega) (by simp [World.drew, go_sem] <;> omega))
                   | exact Vals.but (x5_c (x := ⟨v0, v1, v2, v3, v4⟩) t5 rfl) t6 (own_nz k5 rfl (by omega) (by simp [World.drew, go_sem] <;> omega))
                   | exact Vals.but (x5_d (x := ⟨v0, v1, v2, v3, v4⟩) t5 rfl) t6 (own_nz k5 (r := wr.heap.size + 1) rfl (by omega) (by simp [World.drew, go_sem] <;> omega))
                   | exact Vals.but (x5_d (x := ⟨v0, v1, v2, v3, v4⟩) t5 rfl) t6 (own_nz k5 rfl (by omega) (by simp [World.drew, go_sem] <;> omega))
                   | exact Vals.but (x5_e (x := ⟨v0, v1, v2, v3, v4⟩) t5 rfl) t6 (own_nz k5 (r := wr.heap.size) rfl (by omega) (by simp [World.drew, go_sem] <;> omega))
                   | exact Vals.but (x5_e (x := ⟨v0, v1, v2, v3, v4⟩) t5 rfl) t6 (own_nz k5 rfl (by omega) (by simp [World.drew, go_sem] <;> omega))
                   | fail
               · rfl
               · intro h; cases h
               · (try simp only [List.length_append, List.length_cons, List.length_nil]); omega
               rintro v7 w7 ⟨o7, b7, t7⟩)
            | (have _u := o5
               refine step_app rfl _ _ _ rfl (app_step (wr := wr) (xs := outs) (ys := order) ?_ (o5.keep ?_) (HB.out.keep (hb.trans ?_)) ?_ NB.out ?_ _) ?_
               · (repeat (first | with_reducible exact Bel.refl _ | with_reducible refine Bel.setCell ?_ (by first | exact Nat.le_refl _ | (dsimp only; omega)) _ | with_reducible refine Bel.alloc ?_ _ | with_reducible refine Bel.drew ?_ | with_reducible assumption | with_reducible refine Bel.trans ?_ (by assumption)))
               · (repeat (first | with_reducible exact Bel.refl _ | with_reducible refine Bel.setCell ?_ (by first | exact Nat.le_refl _ | (dsimp only; omega)) _ | with_reducible refine Bel.alloc ?_ _ | with_reducible refine Bel.drew ?_ | with_reducible assumption | with_reducible refine Bel.trans ?_ (by assumption)))
               · (repeat (first | with_reducible exact Bel.refl _ | with_reducible refine Bel.setCell ?_ (by first | exact Nat.le_refl _ | (dsimp only; omega)) _ | with_reducible refine Bel.alloc ?_ _ | with_reducible refine Bel.drew ?_ | with_reducible assumption | with_reducible refine Bel.trans ?_ (by assumption)))
               · rfl
               · (try simp only [List.length_append, List.length_cons, List.length_nil]); omega
               rintro v6 w6 ⟨o6, b6, t6⟩)
            | (fail_if_success have _u := o5
               refine step_app rfl _ _ _ rfl (app_step3 (wr := wr) (xs := []) (ys := outs) ?_ ?_ (HA.out.keep (hb.trans ?_)) ?_ NA.out ?_ _) ?_
               · (repeat (first | with_reducible exact Bel.refl _ | with_reducible refine Bel.setCell ?_ (by first | exact Nat.le_refl _ | (dsimp only; omega)) _ | with_reducible refine Bel.alloc ?_ _ | with_reducible refine Bel.drew ?_ | with_reducible assumption | with_reducible refine Bel.trans ?_ (by assumption)))
               · first
                   | exact (OwnV.made' (w := wr) (Bel.refl _) rfl).keep (by (repeat (first | with_reducible exact Bel.refl _ | with_reducible refine Bel.setCell ?_ (by first | exact Nat.le_refl _ | (dsimp only; omega)) _ | with_reducible refine Bel.alloc ?_ _ | with_reducible refine Bel.drew ?_ | with_reducible assumption | with_reducible refine Bel.trans ?_ (by assumption))))
                   | (refine OwnV.made' (w := wr.alloc _) ?_ ?_
                      · (repeat (first | with_reducible exact Bel.refl _ | with_reducible refine Bel.setCell ?_ (by first | exact Nat.le_refl _ | (dsimp only; omega)) _ | with_reducible refine Bel.alloc ?_ _ | with_reducible refine Bel.drew ?_ | with_reducible assumption | with_reducible refine Bel.trans ?_ (by assumption)))
                      · simp [go_sem])
                   | (refine OwnV.made' (w := (wr.alloc _).drew) ?_ ?_
                      · (repeat (first | with_reducible exact Bel.refl _ | with_reducible refine Bel.setCell ?_ (by first | exact Nat.le_refl _ | (dsimp only; omega)) _ | with_reducible refine Bel.alloc ?_ _ | with_reducible refine Bel.drew ?_ | with_reducible assumption | with_reducible refine Bel.trans ?_ (by assumption)))
                      · simp [go_sem])
               · (repeat (first | with_reducible exact Bel.refl _ | with_reducible refine Bel.setCell ?_ (by first | exact Nat.le_refl _ | (dsimp only; omega)) _ | with_reducible refine Bel.alloc ?_ _ | with_reducible refine Bel.drew ?_ | with_reducible assumption | with_reducible refine Bel.trans ?_ (by assumption)))
               · rfl
               · (try simp only [List.length_append, List.length_cons, List.length_nil]); omega
               rintro v5 w5 ⟨o5, b5, t5, k5⟩)
            | fail)
          all_goals
            go_wp2_with fail
            rename_i d7 h7
            obtain rfl : d7 = 61 := (Option.some.inj h7).symm
            (try simp only [List.set_cons_zero, List.set_cons_succ])
            go_meet
            exact ⟨_, rfl, o7, b7⟩
        case rest =>
          obtain ⟨wx, hE, hO, hX⟩ := hcut
          subst hE
          obtain ⟨LA, lc, rfl, hL, _, _⟩ := hO.vals
          replace hbW := hbW.trans hX
          replace hb := hb.trans hX
          have HL := Lib.hid hL
          have LE := Lib.hid (show ∃ L, L = outs ++ order ++ [(⟨v0, v1, v2, v3, v4⟩ : Val)] from ⟨_, rfl⟩)
          obtain ⟨L, hLe⟩ := LE.out
          rw [← hLe] at HL ⊢
          have LL := Lib.hid (show L.length ≤ 2097151 from by rw [hLe]; simp only [List.length_append, List.length_cons, List.length_nil]; omega)
          have LA3 := Lib.hid (show b3 = L.all vsnd from by rw [H3.out, hLe]; simp only [List.all_append, List.all_cons, List.all_nil, Bool.and_true, Bool.and_assoc])
          have TL := Lib.hid (show ∀ x ∈ L, x.text.size ≤ 9223372036854775807 from fun x hx => by
            rw [hLe] at hx
            simp only [List.mem_append, List.mem_singleton] at hx
            rcases hx with (hx | hx) | rfl
            · exact TA.out x hx
            · exact TB.out x hx
            · exact TV.out)
          clear hO hL hLe hX
          have lli : (L.length : Int) ≤ 2097151 := by have := LL.out; omega
          go_wp2_with fail
          go_loopg [16] L.length (fun g s16 w2 => ∃ k : Nat, s16 = .int .i64 k ∧ k ≤ L.length ∧ Hid ((L.take k).all vsnd = true ∧ g = L.length - k) ∧ Bel wx w2)
          case atStart => exact ⟨0, rfl, Nat.zero_le _, ⟨rfl, rfl⟩, Bel.refl _⟩
          case round =>
            obtain ⟨k, rfl, hk, hh, hb2⟩ := hrel
            by_cases hp : k < L.length
            · obtain ⟨lb, lo, rfl, llt, lat⟩ := HL.out (by omega)
              obtain ⟨x, hxk⟩ : ∃ x, L[k]? = some x := ⟨_, List.getElem?_eq_getElem hp⟩
              have hx := (lat k x hxk).keep hb2 llt
              have lt1 := Nat.lt_of_lt_of_le llt hb2.size
              have MX := Lib.hid (List.mem_of_getElem? hxk)
              have cc := fun w => rvsound_any x (TL.out x MX.out) w
              have GB := Lib.hid (show vsnd x = false → b3 = false from fun h => by
                rw [LA3.out]
                cases hq : L.all vsnd with
                | false => rfl
                | true => rw [List.all_eq_true] at hq; rw [hq x MX.out] at h; cases h)
              have GG := Lib.hid (show vsnd x = true → (L.take (k + 1)).all vsnd = true from fun h => by
                rw [List.take_add_one, hxk, List.all_append, hh.out.1]; simp [h])
              generalize vsnd x = q at cc GB GG
              have C := Lib.hid cc
              have i1 : (k : Int) < L.length := by omega
              obtain ⟨u0, u1, u2, u3, u4⟩ := x
              obtain ⟨a0, a1, a2, a3, a4⟩ := hx
              clear lat hxk cc
              cases q with
              | false =>
                obtain rfl : b3 = false := GB.out rfl
                obtain rfl : R = (nul, 2) := RR.out.trans (if_pos rfl)
                obtain rfl := OR.out
                clear RR OR
                go_wp2_with (go_at_call 21; with_reducible refine Calls.mono (C.out _) ?_; rintro e W5 ⟨rfl, hb5⟩; obtain ⟨hD, hR, hN⟩ := DS.out _ ((hbW.trans hb2).trans hb5); replace hb := (hb.trans hb2).trans hb5)
                refine bodyPost_ret (by simp [results, Try.results10, go_sem, nul, hR]; try rfl) rfl ⟨rfl, ?_⟩
                have hq := HQ.out
                (repeat (first | with_reducible exact Bel.refl _ | with_reducible refine Bel.setCell ?_ (by first | exact Nat.le_refl _ | (dsimp only; omega)) _ | with_reducible refine Bel.alloc ?_ _ | with_reducible refine Bel.drew ?_ | with_reducible assumption | with_reducible refine Bel.trans ?_ (by assumption)))
              | true =>
                go_wp2_with (go_at_call 21; with_reducible refine Calls.mono (C.out _) ?_; rintro e W5 ⟨rfl, hb5⟩)
                go_roundg (L.length - (k + 1))
                case measure => have := hh.out.2; omega
                case rel => exact ⟨k + 1, by go_num, by omega, ⟨GG.out (by trivial), rfl⟩, hb2.trans hb5⟩
            · obtain rfl : k = L.length := by omega
              obtain rfl : b3 = true := by
                have h := hh.out.1
                rw [List.take_length] at h
                rw [LA3.out, h]
              have RR := Lib.hid (RR.out.trans (if_neg (by simp)))
              replace hbW := hbW.trans hb2
              replace hb := hb.trans hb2
              obtain ⟨hD, hR, hN⟩ := DS.out _ hbW
              by_cases h35 : p = 35
              · subst h35
                obtain rfl : R = (⟨1, fired.length, 0, ⟨#[]⟩, 0⟩, 0) := RR.out.trans (if_pos rfl)
                obtain rfl := OR.out
                have cm := fun W => rmake_any fired.length 0 W
                rw [makeV_nat _ (by omega)] at cm
                have CM := Lib.hid cm
                clear RR OR cm
                go_wp2_with (go_at_call 22; with_reducible refine Calls.mono (CM.out _) ?_; rintro e W5 ⟨rfl, hb5⟩; replace hR := hR.keep hb5; replace hb := hb.trans hb5; clear hD hN; have ne5 : ¬ BD + 1 = W5.heap.size := (by have := hR.1; omega))
                have hq := HQ.out
                refine under_ret (w0 := w) ((slot_put 1 fired.length 0 ⟨#[]⟩ 0 (sl5_slot hR)).keep ((Bel.refl _).alloc (.cells #[.int .i64 fired.length, .int .i64 0] 24))) ?_ fun X SX BX => ?_
                · (repeat (first | with_reducible exact Bel.refl _ | with_reducible refine Bel.setCell ?_ (by first | exact Nat.le_refl _ | (dsimp only; omega)) _ | with_reducible refine Bel.alloc ?_ _ | with_reducible refine Bel.drew ?_ | with_reducible assumption | with_reducible refine Bel.trans ?_ (by assumption)))
                obtain ⟨_, ⟨r1, r2, r3, r4, r5⟩, _⟩ := SX
                simp only [Nat.zero_add] at r1 r2 r3 r4 r5
                exact bodyPost_ret (by simp [results, Try.results10, go_sem, r1, r2, r3, r4, r5]; try rfl) rfl ⟨rfl, BX⟩
              · have RR := Lib.hid (RR.out.trans (if_neg h35))
                have e35 : (p == 35) = false := beq_eq_false_iff_ne.2 h35
                by_cases hl0 : fired.length = 0
                · obtain rfl : R = (⟨v0, v1, v2, v3, v4⟩, 0) := RR.out.trans (if_pos hl0)
                  obtain rfl := OR.out
                  clear RR OR
                  rw [hl0]
                  go_wp2_with fail
                  refine bodyPost_ret (by simp [results, Try.results10, go_sem, nul, hR]; try rfl) rfl ⟨rfl, ?_⟩
                  have hq := HQ.out
                  (repeat (first | with_reducible exact Bel.refl _ | with_reducible refine Bel.setCell ?_ (by first | exact Nat.le_refl _ | (dsimp only; omega)) _ | with_reducible refine Bel.alloc ?_ _ | with_reducible refine Bel.drew ?_ | with_reducible assumption | with_reducible refine Bel.trans ?_ (by assumption)))
                · have el0 : ((fired.length : Int) == 0) = false := beq_eq_false_iff_ne.2 (by omega)
                  obtain rfl : R = (outF p (picks outs fired) order, 0) := RR.out.trans (if_neg hl0)
                  clear RR
                  have HRM := Lib.hid hb
                  have BWW := Lib.hid hbW
                  clear hD hR hN
                  go_wp2_with fail
                  go_loopg [19, 20] fired.length (fun g s19 s20 w3 => ∃ k : Nat, s20 = .int .i64 k ∧ k ≤ fired.length ∧ Hid (g = fired.length - k) ∧ Bel wr w3 ∧ OwnV w3 wr.heap.size s19 (picks outs (fired.take k)))
                  case atStart => exact ⟨0, rfl, Nat.zero_le _, rfl, (Bel.refl _).alloc _, OwnV.made' (Bel.refl _) rfl⟩
                  case round =>
                    obtain ⟨k, rfl, hk, hh, hb3, hown⟩ := hrel
                    have OW := Lib.hid hown
                    clear hown
                    by_cases hp : k < fired.length
                    · have hln : 0 < (nums fired).length := by rw [show (nums fired).length = fired.length by simp [nums]]; omega
                      obtain ⟨fb, fo, rfl, flt, fat⟩ := HF.out hln
                      obtain ⟨i, hik⟩ : ∃ i, fired[k]? = some i := ⟨_, List.getElem?_eq_getElem hp⟩
                      have hfa := ((hb.trans hb3).cells _ _ flt).trans (fat k _ (show (nums fired)[k]? = some (.int .i64 i) by simp [nums, hik]))
                      have him := risF_mem H2.out.symm i (List.mem_of_getElem? hik)
                      obtain ⟨m, rfl⟩ : ∃ m : Nat, i = m := ⟨i.toNat, by omega⟩
                      have hml : m < outs.length := by omega
                      obtain ⟨ab, ao, rfl, alt, aat⟩ := HA.out (by omega)
                      obtain ⟨u, huk⟩ : ∃ u, outs[m]? = some u := ⟨_, List.getElem?_eq_getElem hml⟩
                      have hua := (aat m u huk).keep (hb.trans hb3) alt
                      have lt1 := Nat.lt_of_lt_of_le flt (hb.trans hb3).size
                      have lt2 := Nat.lt_of_lt_of_le alt (hb.trans hb3).size
                      have PK := Lib.hid (show picks outs (fired.take k) ++ [u] = picks outs (fired.take (k + 1)) from by
                        unfold picks
                        rw [List.take_add_one, hik, List.map_append]
                        simp [huk])
                      have PL := Lib.hid (show (picks outs (fired.take k)).length + 1 ≤ 2097152 from by unfold picks; rw [List.length_map, List.length_take]; omega)
                      have i1 : (k : Int) < fired.length := by omega
                      have i2 : (m : Int) < outs.length := by omega
                      obtain ⟨u0, u1, u2, u3, u4⟩ := u
                      obtain ⟨a0, a1, a2, a3, a4⟩ := hua
                      clear fat aat hik huk him
                      go_wp2_with (at_builtin; refine wpList_app rfl (.tmp 96) (.tmp 104) _ rfl (app_step (ys := [⟨u0, u1, u2, u3, u4⟩]) (hb3.alloc _) (OW.out.keep ((Bel.refl _).alloc _)) (vals_one wr ⟨u0, u1, u2, u3, u4⟩ rfl) rfl (fun h => by cases h) PL.out _) ?_; rintro v' w' ⟨o', b', _⟩)
                      go_roundg (fired.length - (k + 1))
                      case measure => have := hh.out; omega
                      case rel => exact ⟨k + 1, by go_num, by omega, rfl, b', PK.out ▸ o'⟩
                    · obtain rfl : k = fired.length := by omega
                      have OW2 := OW.out
                      rw [List.take_length] at OW2
                      obtain ⟨rA, rc, rfl, hvr, _, _⟩ := OW2.vals
                      replace hb := hb.trans hb3
                      replace hbW := hbW.trans hb3
                      have RLN := Lib.hid (show (picks outs fired).length = fired.length from by unfold picks; rw [List.length_map])
                      have RT := Lib.hid (show ∀ x ∈ picks outs fired, x.text.size ≤ 9223372036854775807 from picks_mem H2.out.symm TA.out)
                      have RS := Lib.hid (show ∀ x ∈ picks outs fired, vsnd x = true from picks_mem H2.out.symm (List.all_eq_true.1 (by have := H3.out.symm; simp only [Bool.and_eq_true] at this; exact this.1)))
                      clear OW OW2
                      generalize picks outs fired = r at *
                      rw [RLN.out]
                      have h0r : 0 < r.length := by rw [RLN.out]; omega
                      obtain ⟨Y, hY⟩ : ∃ Y, Y = outF p r order := ⟨_, rfl⟩
                      rw [← hY] at OR
                      obtain ⟨y0, y1, y2, y3, y4⟩ := Y
                      obtain rfl := OR.out
                      clear OR
                      obtain ⟨hvb, hvo, rfl, hlt, ha⟩ := hd_at hvr h0r
                      obtain ⟨HV, hHV⟩ : ∃ h, h = hd r := ⟨_, rfl⟩
                      rw [← hHV] at ha
                      have HVR := Lib.hid hvr
                      have HY := Lib.hid hY
                      have HH := Lib.hid hHV
                      have i3 : (0 : Int) < fired.length := by omega
                      obtain ⟨h0, h1, h2, h3, h4⟩ := HV
                      obtain ⟨a0, a1, a2, a3, a4⟩ := ha
                      clear hvr hY hHV
                      go_upto_region 28 with fail
                      refine under_name (by (first | exact (Bel.refl wr).alloc _ | ((repeat (first | with_reducible exact Bel.refl _ | with_reducible refine Bel.setCell ?_ (by first | exact Nat.le_refl _ | (dsimp only; omega)) _ | with_reducible refine Bel.alloc ?_ _ | with_reducible refine Bel.drew ?_ | with_reducible assumption | with_reducible refine Bel.trans ?_ (by assumption)))))) fun W6 hc hf hz hb6 => ?_
                      have hT : Sl5 W6 wr.heap.size h0 h1 h2 h3 h4 := by simp [Sl5, FreeAt, hc, hf, hz, go_sem]
                      clear hc hf hz a0 a1 a2 a3 a4
                      have neT1 : ¬ BD + 1 = wr.heap.size := by have := (DS.out _ hbW).2.1.1; omega
                      have neT2 : ¬ BD + 2 = wr.heap.size := by have := (DS.out _ hbW).2.2.1; omega
                      have neT3 : ¬ wr.heap.size = BD + 1 := fun e => neT1 e.symm
                      have neT4 : ¬ wr.heap.size = BD + 2 := fun e => neT2 e.symm
                      obtain ⟨hD, hR, hN⟩ := DS.out _ (hbW.trans hb6)
                      have hbf := hb.trans hb6
                      clear hD
                      have kp : p = 85 ∨ p = 65 ∨ p = 80 ∨ p = 70 ∨ p = 43 ∨ p = 60 ∨ p = 62 := by
                        have := H1.out.symm
                        simp only [known, Bool.or_eq_true, decide_eq_true_iff] at this
                        omega
                      have htq : w.heap.size ≤ wr.heap.size := hb.size
                      have HTE := Lib.hid (show wr.heap.size ≤ wr.heap.size from Nat.le_refl _)
                      have HVW := Lib.hid (HVR.out.keep hb6)
                      have HBW6 := Lib.hid (HB.out.keep hbf)
                      obtain ⟨T, hTe⟩ : ∃ T, T = wr.heap.size := ⟨_, rfl⟩
                      rw [← hTe] at hT neT1 neT2 neT3 neT4 htq ⊢
                      replace HTE := Lib.hid (show wr.heap.size ≤ T from by omega)
                      clear e35 hTe
                      rcases kp with rfl | rfl | rfl | rfl | rfl | rfl | rfl
                      · by_cases g1 : 1 < fired.length
                        · have e := HY.out.trans (show outF 85 r order = nul from (show (if 1 < r.length then nul else hd r) = nul from if_pos (by rw [RLN.out]; exact g1)))
                          cases e
                          have g2 : (1 : Int) < fired.length := by omega
                          clear HY
                          go_wp2_with fail
                          refine bodyPost_ret (by simp [results, Try.results10, go_sem, nul, hR]; try rfl) rfl ⟨rfl, ?_⟩
                          have hq := HQ.out
                          (repeat (first | with_reducible exact Bel.refl _ | with_reducible refine Bel.setCell ?_ (by first | exact Nat.le_refl _ | (dsimp only; omega)) _ | with_reducible refine Bel.alloc ?_ _ | with_reducible refine Bel.drew ?_ | with_reducible assumption | with_reducible refine Bel.trans ?_ (by assumption)))
                        · have e := HY.out.trans ((show outF 85 r order = hd r from (show (if 1 < r.length then nul else hd r) = hd r from if_neg (by rw [RLN.out]; exact g1))).trans HH.out.symm)
                          cases e
                          have g2 : ¬ (1 : Int) < fired.length := by omega
                          clear HY
                          go_wp2_with fail
                          refine bodyPost_ret (by simp [results, Try.results10, go_sem, nul, hR]; try rfl) rfl ⟨rfl, ?_⟩
                          have hq := HQ.out
                          (repeat (first | with_reducible exact Bel.refl _ | with_reducible refine Bel.setCell ?_ (by first | exact Nat.le_refl _ | (dsimp only; omega)) _ | with_reducible refine Bel.alloc ?_ _ | with_reducible refine Bel.drew ?_ | with_reducible assumption | with_reducible refine Bel.trans ?_ (by assumption)))
                      · have CG := Lib.hid (show ∀ W, Bel W6 W → Calls Try.prog 24 #[.int .i64 65, .slice (some ⟨hvb, hvo, none⟩) fired.length rc] W fun e w' => e = .returned (.agg #[.int .i64 y0, .int .i64 y1, .int .i64 y2, .string y3, .int .i64 y4]) ∧ Bel W w' from fun W hW => by
                          have k := g65_any r _ rc W (HVW.out.keep hW) h0r (by rw [RLN.out]; omega)
                          rw [← (show (⟨y0, y1, y2, y3, y4⟩ : Val) = comm r from HY.out), RLN.out] at k
                          exact k)
                        clear HY hN
                        go_wp2_with (go_at_call 24; with_reducible refine Calls.mono (CG.out _ (Bel.refl _)) ?_; rintro e W7 ⟨rfl, hb7⟩; replace hT := hT.keep hb7; replace hR := hR.keep hb7; replace hbf := hbf.trans hb7)
                        refine bodyPost_ret (by simp [results, Try.results10, go_sem, nul, hR]; try rfl) rfl ⟨rfl, ?_⟩
                        have hq := HQ.out
                        (repeat (first | with_reducible exact Bel.refl _ | with_reducible refine Bel.setCell ?_ (by first | exact Nat.le_refl _ | (dsimp only; omega)) _ | with_reducible refine Bel.alloc ?_ _ | with_reducible refine Bel.drew ?_ | with_reducible assumption | with_reducible refine Bel.trans ?_ (by assumption)))
                      · clear hN
                        go_wp2_with fail
                        go_loopg [22] order.length (fun g s22 w4 => ∃ (j : Nat) (t0 t1 t2 : Int) (t3 : ByteArray) (t4 : Int), s22 = .int .i64 ((j : Int) - 1) ∧ j ≤ order.length ∧ Hid ((⟨t0, t1, t2, t3, t4⟩ : Val) = prio r (order.drop j) ∧ g = j) ∧ Bel wr w4 ∧ Slot w4 T ⟨t0, t1, t2, t3, t4⟩ ∧ Slot w4 (BD + 1) ⟨0, 0, 0, ⟨#[]⟩, 0⟩)
                        case atStart => exact ⟨order.length, h0, h1, h2, h3, h4, rfl, Nat.le_refl _, ⟨by rw [List.drop_length]; exact HH.out, rfl⟩, hb6, sl5_slot hT, sl5_slot hR⟩
                        case round =>
                          obtain ⟨j, t0, t1, t2, t3, t4, rfl, hj, hh4, hb4, sT, sR⟩ := hrel
                          have ST := Lib.hid sT
                          have SR := Lib.hid sR
                          have hbz := hb.trans hb4
                          clear hT hR
                          by_cases hpj : 0 < j
                          · obtain ⟨i, rfl⟩ : ∃ i, j = i + 1 := ⟨j - 1, by omega⟩
                            obtain ⟨ob, oo, rfl, olt, oat⟩ := HB.out (by omega)
                            obtain ⟨x, hxk⟩ : ∃ x, order[i]? = some x := ⟨_, List.getElem?_eq_getElem (by omega)⟩
                            have hx := (oat i x hxk).keep hbz olt
                            have olt1 := Nat.lt_of_lt_of_le olt hbz.size
                            have OX := Lib.hid hx
                            have hdr : order.drop i = x :: order.drop (i + 1) := by
                              have hi : i < order.length := by omega
                              rw [List.drop_eq_getElem_cons hi]; simp [List.getElem?_eq_getElem hi] at hxk; rw [hxk]
                            have PT := Lib.hid (show memV r x = true → x = prio r (order.drop i) from fun h => by rw [hdr]; simp [prio, h])
                            have PF := Lib.hid (show memV r x = false → (⟨t0, t1, t2, t3, t4⟩ : Val) = prio r (order.drop i) from fun h => by rw [hdr, hh4.out.1]; simp [prio, h])
                            have cc := rhas_any r (some ⟨hvb, hvo, none⟩) rc x wr (HVR.out.keep hb4) (by rw [RLN.out]; omega)
                            rw [RLN.out] at cc
                            generalize memV r x = q at cc PT PF
                            have C := Lib.hid cc
                            have em : ((i + 1 : Nat) : Int) - 1 = i := by omega
                            rw [em]
                            have o1 : (i : Int) < order.length := by omega
                            have o0 : (0 : Int) ≤ (i : Int) := by omega
                            have o2 : (i : Int) ≤ 1048575 := by omega
                            obtain ⟨u0, u1, u2, u3, u4⟩ := x
                            obtain ⟨a0, a1, a2, a3, a4⟩ := hx
                            clear oat hxk hdr cc em sT sR
                            cases q with
                            | true =>
                              go_wp2_with (go_at_call 23; with_reducible refine Calls.mono C.out ?_; rintro e W7 ⟨rfl, hb7⟩; have MT := Lib.hid (ST.out.keep hb7); have MR := Lib.hid (SR.out.keep hb7); obtain ⟨d0, d1, d2, d3, d4⟩ := OX.out.keep hb7 olt1; have olt2 := Nat.lt_of_lt_of_le olt1 hb7.size; obtain ⟨s0, ⟨s1, s2, s3, s4, s5⟩, ⟨f1, f2, f3, f4, f5⟩⟩ := MT.out; simp only [Nat.zero_add] at s1 s2 s3 s4 s5)
                              go_roundg i
                              case measure => have := hh4.out.2; omega
                              case rel =>
                                have hte := HTE.out
                                refine ⟨i, u0, u1, u2, u3, u4, by go_num, by omega, ⟨PT.out (by trivial), rfl⟩, ?_, slot_put u0 u1 u2 u3 u4 MT.out, slot_other (slot_other (slot_other (slot_other (slot_other MR.out neT1) neT1) neT1) neT1) neT1⟩
                                have hq7 := hb4.trans hb7
                                (repeat (first | with_reducible exact Bel.refl _ | with_reducible refine Bel.setCell ?_ (by first | exact Nat.le_refl _ | (dsimp only; omega)) _ | with_reducible refine Bel.alloc ?_ _ | with_reducible refine Bel.drew ?_ | with_reducible assumption | with_reducible refine Bel.trans ?_ (by assumption)))
                            | false =>
                              go_wp2_with (go_at_call 23; with_reducible refine Calls.mono C.out ?_; rintro e W7 ⟨rfl, hb7⟩; have MT := Lib.hid (ST.out.keep hb7); have MR := Lib.hid (SR.out.keep hb7))
                              go_roundg i
                              case measure => have := hh4.out.2; omega
                              case rel => exact ⟨i, t0, t1, t2, t3, t4, by go_num, by omega, ⟨PF.out (by trivial), rfl⟩, hb4.trans hb7, MT.out, MR.out⟩
                          · obtain rfl : j = 0 := by omega
                            have e := HY.out.trans ((show outF 80 r order = prio r order from rfl).trans hh4.out.1.symm)
                            cases e
                            have en : ¬ (0 : Int) ≤ ((0 : Nat) : Int) - 1 := by omega
                            obtain ⟨s0, ⟨s1, s2, s3, s4, s5⟩, ⟨f1, f2, f3, f4, f5⟩⟩ := sT
                            obtain ⟨z0, ⟨z1, z2, z3, z4, z5⟩, ⟨l1, l2, l3, l4, l5⟩⟩ := sR
                            simp only [Nat.zero_add] at s1 s2 s3 s4 s5 z1 z2 z3 z4 z5
                            clear HY
                            go_wp2_with fail
                            refine bodyPost_ret (by simp [results, Try.results10, go_sem, nul, z1, z2, z3, z4, z5]; try rfl) rfl ⟨rfl, ?_⟩
                            have hq := HQ.out
                            (repeat (first | with_reducible exact Bel.refl _ | with_reducible refine Bel.setCell ?_ (by first | exact Nat.le_refl _ | (dsimp only; omega)) _ | with_reducible refine Bel.alloc ?_ _ | with_reducible refine Bel.drew ?_ | with_reducible assumption | with_reducible refine Bel.trans ?_ (by assumption)))
                      · have e := HY.out.trans ((show outF 70 r order = hd r from rfl).trans HH.out.symm)
                        cases e
                        clear HY
                        go_wp2_with fail
                        refine bodyPost_ret (by simp [results, Try.results10, go_sem, nul, hR]; try rfl) rfl ⟨rfl, ?_⟩
                        have hq := HQ.out
                        (repeat (first | with_reducible exact Bel.refl _ | with_reducible refine Bel.setCell ?_ (by first | exact Nat.le_refl _ | (dsimp only; omega)) _ | with_reducible refine Bel.alloc ?_ _ | with_reducible refine Bel.drew ?_ | with_reducible assumption | with_reducible refine Bel.trans ?_ (by assumption)))
                      · have CG := Lib.hid (show ∀ W, Bel W6 W → Calls Try.prog 24 #[.int .i64 43, .slice (some ⟨hvb, hvo, none⟩) fired.length rc] W fun e w' => e = .returned (.agg #[.int .i64 y0, .int .i64 y1, .int .i64 y2, .string y3, .int .i64 y4]) ∧ Bel W w' from fun W hW => by
                          have k := g43_any r _ rc W (HVW.out.keep hW) h0r (by rw [RLN.out]; omega)
                          rw [← (show (⟨y0, y1, y2, y3, y4⟩ : Val) = sumF 0 0 r from HY.out), RLN.out] at k
                          exact k)
                        clear HY hN
                        go_wp2_with (go_at_call 24; with_reducible refine Calls.mono (CG.out _ (Bel.refl _)) ?_; rintro e W7 ⟨rfl, hb7⟩; replace hT := hT.keep hb7; replace hR := hR.keep hb7; replace hbf := hbf.trans hb7)
                        refine bodyPost_ret (by simp [results, Try.results10, go_sem, nul, hR]; try rfl) rfl ⟨rfl, ?_⟩
                        have hq := HQ.out
                        (repeat (first | with_reducible exact Bel.refl _ | with_reducible refine Bel.setCell ?_ (by first | exact Nat.le_refl _ | (dsimp only; omega)) _ | with_reducible refine Bel.alloc ?_ _ | with_reducible refine Bel.drew ?_ | with_reducible assumption | with_reducible refine Bel.trans ?_ (by assumption)))
                      · have CG := Lib.hid (show ∀ W, Bel W6 W → Calls Try.prog 24 #[.int .i64 60, .slice (some ⟨hvb, hvo, none⟩) fired.length rc] W fun e w' => e = .returned (.agg #[.int .i64 y0, .int .i64 y1, .int .i64 y2, .string y3, .int .i64 y4]) ∧ Bel W w' from fun W hW => by
                          have k := g60_any r _ rc W (HVW.out.keep hW) h0r (by rw [RLN.out]; omega) RT.out RS.out
                          rw [← (show (⟨y0, y1, y2, y3, y4⟩ : Val) = extF (-1) (hd r) r from HY.out), RLN.out] at k
                          exact k)
                        clear HY hN
                        go_wp2_with (go_at_call 24; with_reducible refine Calls.mono (CG.out _ (Bel.refl _)) ?_; rintro e W7 ⟨rfl, hb7⟩; replace hT := hT.keep hb7; replace hR := hR.keep hb7; replace hbf := hbf.trans hb7)
                        refine bodyPost_ret (by simp [results, Try.results10, go_sem, nul, hR]; try rfl) rfl ⟨rfl, ?_⟩
                        have hq := HQ.out
                        (repeat (first | with_reducible exact Bel.refl _ | with_reducible refine Bel.setCell ?_ (by first | exact Nat.le_refl _ | (dsimp only; omega)) _ | with_reducible refine Bel.alloc ?_ _ | with_reducible refine Bel.drew ?_ | with_reducible assumption | with_reducible refine Bel.trans ?_ (by assumption)))
                      · have CG := Lib.hid (show ∀ W, Bel W6 W → Calls Try.prog 24 #[.int .i64 62, .slice (some ⟨hvb, hvo, none⟩) fired.length rc] W fun e w' => e = .returned (.agg #[.int .i64 y0, .int .i64 y1, .int .i64 y2, .string y3, .int .i64 y4]) ∧ Bel W w' from fun W hW => by
                          have k := g62_any r _ rc W (HVW.out.keep hW) h0r (by rw [RLN.out]; omega) RT.out RS.out
                          rw [← (show (⟨y0, y1, y2, y3, y4⟩ : Val) = extF 1 (hd r) r from HY.out), RLN.out] at k
                          exact k)
                        clear HY hN
                        go_wp2_with (go_at_call 24; with_reducible refine Calls.mono (CG.out _ (Bel.refl _)) ?_; rintro e W7 ⟨rfl, hb7⟩; replace hT := hT.keep hb7; replace hR := hR.keep hb7; replace hbf := hbf.trans hb7)
                        refine bodyPost_ret (by simp [results, Try.results10, go_sem, nul, hR]; try rfl) rfl ⟨rfl, ?_⟩
                        have hq := HQ.out
                        (repeat (first | with_reducible exact Bel.refl _ | with_reducible refine Bel.setCell ?_ (by first | exact Nat.le_refl _ | (dsimp only; omega)) _ | with_reducible refine Bel.alloc ?_ _ | with_reducible refine Bel.drew ?_ | with_reducible assumption | with_reducible refine Bel.trans ?_ (by assumption)))
end Go.Proofs.Yteblpdoljhmcmaa
