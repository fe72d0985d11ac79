import Derived.Test.YtladmlnopbnlgaaGreatDoorZsj
import Derived.Deep.RegionHeldLaw
namespace Go.Proofs.YtladmlnopbnlgaaGreatDoor
set_option linter.unusedSimpArgs false
set_option linter.unusedVariables false
open Go.RowKit

/-! Values: rows of the call's own; the document's Sort where all are sound. -/
def OwnV (w : World) (B : Nat) (v : Value) (vs : List Val) : Prop := w.ownsRow B 35 5 v vs.length (flat vs)
theorem OwnV.vals {w : World} {B : Nat} {v : Value} {vs : List Val} (h : OwnV w B v vs) : ∃ A c, v = .slice A vs.length c ∧ Vals w A vs ∧ (A = none → c = 0) ∧ vs.length ≤ c := by
  obtain ⟨A, c, e, hr, hA, _⟩ := own_row h
  refine ⟨A, c, e, hr.vals, hA, ?_⟩
  rcases h.2 with ⟨e1, e2⟩ | ⟨g, cap, cur, e1, _, _, hn, _⟩
  · rw [e2]; exact Nat.zero_le _
  · rw [e] at e1
    cases e1
    exact hn
theorem OwnV.keep {w w' : World} {B : Nat} {v : Value} {vs : List Val} (h : OwnV w B v vs) (hb : Bel w w') : OwnV w' B v vs := own_keep h hb
theorem OwnV.lt {w : World} {B : Nat} {v : Value} {vs : List Val} (h : OwnV w B v vs) : ∀ k, v.ownBlock = some k → B ≤ k ∧ k < w.heap.size := World.ownsRow.lt h
theorem OwnV.made {w0 w : World} (h : Bel w0 w) : OwnV (w.alloc (.cells #[] 35)) w0.heap.size (.slice (some ⟨w.heap.size, 0, none⟩) 0 0) [] :=
  World.ownsRow_made w #[] 0 h.size (by simp [maxLen]) rfl
theorem app_vals {w : World} {B : Nat} {v : Value} {xs ys : List Val} {A : Option Addr} {c : Nat} (h : OwnV w B v xs) (hy : Vals w A ys) (hA : A = none → c = 0) (hn : xs.length + ys.length ≤ 2097152) (hB : B ≤ w.heap.size) (ty : TypeId) :
    ∃ v' w', (Builtin.append_ #[22, 22] ty #[v, .slice A ys.length c]).run Tryz.prog w = .ok v' w' ∧ (OwnV w' B v' (xs ++ ys) ∧ BelBut w w' v.ownBlock ∧ (v'.ownBlock = v.ownBlock ∨ v'.ownBlock = some w.heap.size)) := by
  obtain ⟨i0, hi, hz0, hz1, hz2⟩ := infoV'
  obtain ⟨v', w', hr, h1, h2, h3⟩ := run_app (P := Tryz.prog) w B 22 ty 35 i0 _ 5 48 Tryz.underlying22 hi hz0 hz1 hz2 rfl (by omega) h hy.row (flat_length ys) hA (flat_one ys) (by simp only [maxLen]; omega) (by omega) hB
  exact ⟨v', w', hr, by unfold OwnV; rw [List.length_append, flat_append]; exact h1, h2, h3⟩
theorem app_step {wr w : World} {v : Value} {xs ys : List Val} {A : Option Addr} {m c : Nat} (hb : Bel wr w) (h : OwnV w wr.heap.size v xs) (hy : Vals w A ys) (hm : ys.length = m) (hA : A = none → c = 0) (hn : xs.length + ys.length ≤ 2097152) (ty : TypeId) :
    ∃ v' w', (Builtin.append_ #[22, 22] ty #[v, .slice A m c]).run Tryz.prog w = .ok v' w' ∧ (OwnV w' wr.heap.size v' (xs ++ ys) ∧ Bel wr w' ∧ BelBut w w' v.ownBlock) := by
  subst hm
  obtain ⟨v', w', hr, h1, h2, _⟩ := app_vals h hy hA hn hb.size ty
  exact ⟨v', w', hr, h1, h2.bel hb fun k hk => (h.lt k hk).1, h2⟩
theorem step_app {P : Program} {w : World} {ops : Array Oper} {o : Oper} {a : Act} {K : Act → World → Prop} {Q : Exit → Act → World → Prop} {E : Prop} (hgd : o.guard = none) (s x : Operand) (t : TypeId)
    (ho : o.op = .call { callee := .builtin .append, args := #[s, x], argTypes := #[t, t] }) {R : Value → World → Prop}
    (hrun : ∃ v' w', (Builtin.append_ #[t, t] o.type #[a.eval s, a.eval x]).run P w = .ok v' w' ∧ R v' w')
    (h : ∀ v' w', R v' w' → K (a.put o.dst v') w') : if Region.wanted o (yielded ops a.tmps) = true then Oper.wp P o a w K Q else E := by
  obtain ⟨v', w', hr, hR⟩ := hrun
  have hw : Region.wanted o (yielded ops a.tmps) = true := by simp [Region.wanted, hgd]
  rw [if_pos hw]
  unfold Oper.wp execOp
  simp only [ho, resolve, invoke, builtin, Sem.run_bind, Sem.run_pure, Result.andThen_ok, List.map_toArray, List.map_cons, List.map_nil, hr]
  exact h v' w' hR
theorem OwnV.made' {w0 w : World} {n : Nat} (h : Bel w0 w) (hn : n = w.heap.size) : OwnV (w.alloc (.cells #[] 35)) w0.heap.size (.slice (some ⟨n, 0, none⟩) 0 0) [] := by
  subst hn
  exact OwnV.made h
theorem Vals.take {w : World} {A : Option Addr} {vs : List Val} (h : Vals w A vs) (n : Nat) : Vals w A (vs.take n) := fun h0 => by
  obtain ⟨b, off, e, hlt, hc⟩ := h (by rw [List.length_take] at h0; omega)
  refine ⟨b, off, e, hlt, fun i v hv => hc i v ?_⟩
  rw [List.getElem?_take] at hv
  split at hv
  · exact hv
  · cases hv
theorem Vals.drop {w : World} {b off : Nat} {vs : List Val} (h : Vals w (some ⟨b, off, none⟩) vs) (n : Nat) : Vals w (some ⟨b, off + n * 5, none⟩) (vs.drop n) := fun h0 => by
  obtain ⟨b', off', e, hlt, hc⟩ := h (by rw [List.length_drop] at h0; omega)
  cases e
  refine ⟨b, off + n * 5, rfl, hlt, fun i v hv => ?_⟩
  rw [List.getElem?_drop] at hv
  have := hc (n + i) v hv
  rwa [show off + (n + i) * 5 = off + n * 5 + i * 5 by omega] at this
theorem vals_one (w : World) (v : Val) {n : Nat} (hn : n = w.heap.size) : Vals (w.alloc (.cells #[.int .i64 v.kind, .int .i64 v.n, .int .i64 v.scale, .string v.text, .int .i64 v.num] 35)) (some ⟨n, 0, none⟩) [v] := fun _ => by
  subst hn
  refine ⟨_, 0, rfl, by simp, fun i u hu => ?_⟩
  match i, hu with
  | 0, hu =>
    simp only [List.getElem?_cons_zero, Option.some.injEq] at hu
    subst hu
    simp [ValAt, go_sem]
theorem Vals.dropIf {w : World} {g cr : Nat} {vs : List Val} (h : Vals w (some ⟨g, 0, none⟩) vs) (hc : vs.length ≤ cr) (n : Nat) : Vals w (if cr = n then some ⟨g, 0, none⟩ else some ⟨g, n * 5, none⟩) (vs.drop n) := by
  by_cases e : cr = n
  · rw [if_pos e, List.drop_eq_nil_of_le (by omega)]
    exact fun h => absurd h (by simp)
  · rw [if_neg e]
    have := h.drop n
    rwa [Nat.zero_add] at this
theorem OwnV.base {w : World} {B B' : Nat} {v : Value} {vs : List Val} (h : OwnV w B v vs) (hB : B' ≤ B) : OwnV w B' v vs := by
  obtain ⟨hl, h2⟩ := h
  refine ⟨hl, ?_⟩
  rcases h2 with h2 | ⟨g, cap, cur, e1, e2, h3⟩
  · exact .inl h2
  · exact .inr ⟨g, cap, cur, e1, Nat.le_trans hB e2, h3⟩
theorem Vals.but {w w' : World} {row : Option Nat} {k : Nat} {vs : List Val} (h : Vals w (some ⟨k, 0, none⟩) vs) (hb : BelBut w w' row) (hr : row ≠ some k) : Vals w' (some ⟨k, 0, none⟩) vs := fun h0 => by
  obtain ⟨b', off', e, hlt, hc⟩ := h h0
  cases e
  have hc' : ∀ o, w'.cell? ⟨k, o, none⟩ = w.cell? ⟨k, o, none⟩ := fun o => World.cell?_of_block (hb.block k hlt (fun e => hr e.symm))
  exact ⟨k, 0, rfl, Nat.lt_of_lt_of_le hlt hb.size, fun i v hv => by
    have := hc i v hv
    simp only [ValAt, hc']
    exact this⟩
theorem x5_b {wr w5 : World} {x : Val} {row : Option Nat} {o : Obj} (t : BelBut ((wr.alloc o).drew.alloc (.cells #[.int .i64 x.kind, .int .i64 x.n, .int .i64 x.scale, .string x.text, .int .i64 x.num] 35)) w5 row) (hr : row = some wr.heap.size) : Vals w5 (some ⟨wr.heap.size + 1, 0, none⟩) [x] :=
  Vals.but (vals_one ((wr.alloc o).drew) x (n := wr.heap.size + 1) (by simp [go_sem])) t (by rw [hr]; simp)
theorem x5_c {wr w5 : World} {x : Val} {row : Option Nat} {o : Obj} (t : BelBut ((wr.alloc (.cells #[.int .i64 x.kind, .int .i64 x.n, .int .i64 x.scale, .string x.text, .int .i64 x.num] 35)).alloc o) w5 row) (hr : row = some (wr.heap.size + 1)) : Vals w5 (some ⟨wr.heap.size, 0, none⟩) [x] :=
  Vals.but ((vals_one wr x rfl).keep ((Bel.refl _).alloc _)) t (by rw [hr]; simp)
theorem x5_d {wr w5 : World} {x : Val} {row : Option Nat} {o : Obj} (t : BelBut (((wr.alloc (.cells #[.int .i64 x.kind, .int .i64 x.n, .int .i64 x.scale, .string x.text, .int .i64 x.num] 35)).alloc o).drew) w5 row) (hr : row = some (wr.heap.size + 1)) : Vals w5 (some ⟨wr.heap.size, 0, none⟩) [x] :=
  Vals.but ((vals_one wr x rfl).keep ((Bel.refl _).alloc _).drew) t (by rw [hr]; simp)
theorem bel_both {wr w' : World} (h : Bel wr w') : Bel wr w' ∧ ∀ b o, b < wr.heap.size → w'.cell? ⟨b, o, none⟩ = wr.cell? ⟨b, o, none⟩ := ⟨h, h.cells⟩
set_option maxRecDepth 100000 in
set_option maxHeartbeats 1500000 in
theorem rsort_ok (vs : List Val) (b off : Nat) (c : Nat) (w : World) (hv : Vals w (some ⟨b, off, none⟩) vs) (hlt : b < w.heap.size) (hl : vs.length ≤ 1000) (ho : ∀ v ∈ vs, v.text.size ≤ 9223372036854775807) (hall : allV vs = true) :
    Calls Tryz.prog 5 #[.slice (some ⟨b, off, none⟩) vs.length c] w (SortPost vs w) := by
  have hli : (vs.length : Int) ≤ 9223372036854775807 := by omega
  have hso : ∀ v ∈ vs, vsnd v = true := by unfold allV at hall; rwa [List.all_eq_true] at hall
  have hat : ∀ i v, vs[i]? = some v → ValAt w b (off + i * 5) v := fun i v h => by
    obtain ⟨b', off', e, _, hc⟩ := hv (by have := (List.getElem?_eq_some_iff.1 h).1; omega)
    cases e
    exact hc i v h
  have HO := Lib.hid (And.intro ho hso)
  clear ho hall hv hso
  go_enter Tryz.func5, Tryz.ntmps5
  go_wp2_with fail
  go_loopg [5] vs.length (fun g i wr => ∃ k : Nat, i = .int .i64 k ∧ k ≤ vs.length ∧ Hid (g = vs.length - k) ∧ Bel w wr ∧ OwnV wr w.heap.size (.slice (some ⟨w.heap.size, 0, none⟩) 0 0) [])
  case atStart => exact ⟨0, rfl, Nat.zero_le _, rfl, (Bel.refl _).alloc _, OwnV.made (Bel.refl _)⟩
  case round =>
    obtain ⟨k, rfl, hk, hh, hb, hown⟩ := hrel
    by_cases hp : k < vs.length
    · obtain ⟨v, hvk⟩ : ∃ v, vs[k]? = some v := ⟨_, List.getElem?_eq_getElem hp⟩
      have ha := (hat k v hvk).keep hb hlt
      have hmem : v ∈ vs := List.mem_of_getElem? hvk
      have cc := fun w => rvsound_any v (HO.out.1 v hmem) w
      rw [HO.out.2 v hmem] at cc
      have C := Lib.hid cc
      have O := Lib.hid hown
      obtain ⟨vk, vn, vsc, vt, vm⟩ := v
      obtain ⟨a0, a1, a2, a3, a4⟩ := ha
      have i1 : (k : Int) < vs.length := by omega
      clear hat hvk cc hmem hown
      go_wp2_with (go_at_call 14; refine (C.out _).mono ?_; rintro e W1 ⟨rfl, hb1⟩)
      go_roundg (vs.length - (k + 1))
      case measure => have := hh.out; omega
      case rel => exact ⟨k + 1, by go_num, by omega, rfl, hb.trans hb1, O.out.keep hb1⟩
    · obtain rfl : k = vs.length := by omega
      have O := Lib.hid hown
      clear hown hh hp hk
      go_wp2_with fail
      go_loopg [4, 6] vs.length (fun g o i wr => ∃ (k : Nat) (r : List Val), i = .int .i64 k ∧ k ≤ vs.length ∧ Hid (SrtOf (vs.take k) r ∧ g = vs.length - k ∧ r.length ≤ k) ∧ Bel w wr ∧ OwnV wr w.heap.size o r)
      case atStart => exact ⟨0, [], rfl, Nat.zero_le _, ⟨⟨List.Pairwise.nil, fun v => by simp⟩, rfl, Nat.le_refl _⟩, hb, O.out⟩
      case round =>
        obtain ⟨k, r, rfl, hk, hh, hb2, hown⟩ := hrel
        obtain ⟨A, cr, rfl, hvr, hAn, hrc⟩ := hown.vals
        have O2 := Lib.hid hown
        clear hown
        by_cases hp : k < vs.length
        · obtain ⟨x, hxk⟩ : ∃ x, vs[k]? = some x := ⟨_, List.getElem?_eq_getElem hp⟩
          have hx := (hat k x hxk).keep hb2 hlt
          have hlt2 := Nat.lt_of_lt_of_le hlt hb2.size
          have X := Lib.hid (And.intro hxk (And.intro (List.mem_of_getElem? hxk) hat))
          clear hat hxk
          have i1 : (k : Int) < vs.length := by omega
          have CU := Lib.hid (show ∀ u ∈ r, ∀ w, Calls Tryz.prog 15 #[u.val, x.val] w fun e w' => e = .returned (.tuple #[.int .i64 (vcmp u x), .int .i64 0]) ∧ Bel w w' from fun u hu w => by
            have hm : u ∈ vs := List.mem_of_mem_take ((hh.out.1.2 u).1 hu)
            have hc := rvcompare_any u x (HO.out.1 u hm) (HO.out.1 x X.out.2.1) w
            have e : vcmpV u x = .tuple #[.int .i64 (vcmp u x), .int .i64 0] := if_pos ⟨HO.out.2 u hm, HO.out.2 x X.out.2.1⟩
            rwa [e] at hc)
          have hsk := Lib.hid (show ∀ v ∈ vs.take k, vsnd v = true from fun v hv => HO.out.2 v (List.mem_of_mem_take hv))
          have hsx := Lib.hid (HO.out.2 x X.out.2.1)
          have hrl : (r.length : Int) ≤ 9223372036854775807 := by have := hh.out.2.2; omega
          have hxs := Lib.hid (show vs.take (k + 1) = vs.take k ++ [x] by rw [List.take_add_one, X.out.1]; rfl)
          go_wp2_with fail
          go_loopg [7, 8, 9] r.length (fun g a t j w3 => ∃ (m n : Nat) (tb : Bool), a = .int .i64 n ∧ t = .bool tb ∧ j = .int .i64 m ∧ m ≤ r.length ∧ Hid (SrtRel r x m n tb ∧ g = r.length - m) ∧ Bel wr w3)
          case atStart => exact ⟨0, 0, false, rfl, rfl, rfl, Nat.zero_le _, ⟨srtRel_0 _ _, rfl⟩, Bel.refl _⟩
          case round =>
            obtain ⟨m, n, tb, rfl, rfl, rfl, hm, hr, hb3⟩ := hrel
            by_cases hmr : m < r.length
            · obtain ⟨b', off', rfl, hlt', hat'⟩ := hvr (by omega)
              obtain ⟨u, huk⟩ : ∃ u, r[m]? = some u := ⟨_, List.getElem?_eq_getElem hmr⟩
              have hu3 := (hat' m u huk).keep hb3 hlt'
              have hx3 := hx.keep hb3 hlt2
              have hl1 := Nat.lt_of_lt_of_le hlt' hb3.size
              have hl2 := Nat.lt_of_lt_of_le hlt2 hb3.size
              have cc := CU.out u (List.mem_of_getElem? huk)
              have S1 := Lib.hid (srtRel_step hh.out.1 hsk.out hsx.out hr.out.1 huk)
              have i2 : (m : Int) < r.length := by omega
              have bd := vcmp_bd u x
              obtain ⟨z, hz⟩ : ∃ z, z = vcmp u x := ⟨_, rfl⟩
              rw [← hz] at cc S1 bd
              have z3 : z = -1 ∨ z = 0 ∨ z = 1 := by omega
              have C := Lib.hid cc
              obtain ⟨ku, nu, su, tu, mu⟩ := u
              obtain ⟨kx, nx, sx, tx, mx⟩ := x
              clear hvr hat' huk hx cc bd hz
              go_wp2_with fail
              go_region_held3 (fun w' => Bel wr w' ∧ (∀ b o, b < wr.heap.size → w'.cell? ⟨b, o, none⟩ = wr.cell? ⟨b, o, none⟩)) (first | exact keep0 | exact keep1 ‹_› ‹_›) ((go_at_call 15; refine (C.out _).mono ?_; rintro e W3 ⟨rfl, hb4'⟩))
              rename_i hH
              obtain ⟨hb4, hc4⟩ := hH
              rcases z3 with rfl | rfl | rfl <;> cases tb
              all_goals
                go_wp2_with fail
                go_roundg (r.length - (m + 1))
                case measure => have := hr.out.2; omega
                case rel => exact ⟨m + 1, _, _, by go_num, rfl, by go_num, by omega, ⟨S1.out, rfl⟩, hb3.trans hb4⟩
            · obtain rfl : m = r.length := by omega
              have E := Lib.hid (srtRel_end hh.out.1 hsk.out hsx.out hr.out.1)
              cases tb with
              | true =>
                go_wp2_with fail
                go_roundg (vs.length - (k + 1))
                case measure => have := hh.out.2.1; omega
                case rel => exact ⟨k + 1, r, by go_num, by omega, ⟨by rw [hxs.out]; exact E.out, rfl, by have := hh.out.2.2; omega⟩, hb2.trans hb3, O2.out.keep hb3⟩
              | false =>
                have hnr : n ≤ r.length := hr.out.1.1
                have hrk : r.length ≤ 1000 := by have := hh.out.2.2; omega
                have HR := Lib.hid (And.intro hrc (And.intro hvr (And.intro (O2.out.keep hb3) (And.intro hb2 hh.out))))
                have hx3 := hx.keep hb3 hlt2
                have hl2 := Nat.lt_of_lt_of_le hlt2 hb3.size
                have hvw := Lib.hid (hvr.keep hb3)
                clear hvr hx
                rcases O2.out.2 with ⟨e1, e2⟩ | ⟨g, cap, cur, e1, hgB, hgh, hgn, hgm, _, _⟩
                · simp only [Value.slice.injEq] at e1
                  obtain ⟨rfl, hr0, rfl⟩ := e1
                  obtain rfl := List.eq_nil_of_length_eq_zero hr0
                  obtain rfl : n = 0 := by simpa using hnr
                  clear hr0 hnr hAn hrc
                  go_wp2_with fail
                  go_region_held_law (fun w' => Bel wr w' ∧ (∀ b o, b < wr.heap.size → w'.cell? ⟨b, o, none⟩ = wr.cell? ⟨b, o, none⟩)) ((refine bel_both ?_; (repeat (first | with_reducible exact Bel.refl _ | with_reducible refine Bel.setCell ?_ (by first | exact Nat.le_refl _ | (dsimp only; omega)) _ | with_reducible refine Bel.alloc ?_ _ | with_reducible refine Bel.drew ?_ | with_reducible assumption | with_reducible refine Bel.trans ?_ (by assumption))))) (first
                    | (have _u := o6
                       refine step_app rfl _ _ _ rfl (app_step (wr := wr) (xs := ([] : List Val).take 0 ++ [x]) (ys := ([] : List Val).drop 0) ?_ (o6.keep ?_) ?_ ?_ ?_ ?_ _) ?_
                       · (repeat (first | with_reducible exact Bel.refl _ | with_reducible refine Bel.setCell ?_ (by first | exact Nat.le_refl _ | (dsimp only; omega)) _ | with_reducible refine Bel.alloc ?_ _ | with_reducible refine Bel.drew ?_ | with_reducible assumption | with_reducible refine Bel.trans ?_ (by assumption)))
                       · (repeat (first | with_reducible exact Bel.refl _ | with_reducible refine Bel.setCell ?_ (by first | exact Nat.le_refl _ | (dsimp only; omega)) _ | with_reducible refine Bel.alloc ?_ _ | with_reducible refine Bel.drew ?_ | with_reducible assumption | with_reducible refine Bel.trans ?_ (by assumption)))
                       · exact fun h => absurd h (by simp)
                       · first | (rw [List.length_drop]; done) | simp
                       · first | (intro h; split at h <;> cases h; done) | (intro _; rfl)
                       · simp only [List.length_append, List.length_take, List.length_drop, List.length_cons, List.length_nil]; omega
                       rintro v7 w7 ⟨o7, b7, t7⟩)
                    | (have _u := o5
                       refine step_app rfl _ _ _ rfl (app_step (wr := wr) (xs := ([] : List Val).take 0) (ys := [x]) ?_ (o5.keep ?_) ?_ ?_ ?_ ?_ _) ?_
                       · (repeat (first | with_reducible exact Bel.refl _ | with_reducible refine Bel.setCell ?_ (by first | exact Nat.le_refl _ | (dsimp only; omega)) _ | with_reducible refine Bel.alloc ?_ _ | with_reducible refine Bel.drew ?_ | with_reducible assumption | with_reducible refine Bel.trans ?_ (by assumption)))
                       · (repeat (first | with_reducible exact Bel.refl _ | with_reducible refine Bel.setCell ?_ (by first | exact Nat.le_refl _ | (dsimp only; omega)) _ | with_reducible refine Bel.alloc ?_ _ | with_reducible refine Bel.drew ?_ | with_reducible assumption | with_reducible refine Bel.trans ?_ (by assumption)))
                       · first
                           | with_reducible exact vals_one w5 x rfl
                           | with_reducible exact vals_one w5.drew x rfl
                           | (refine Vals.keep (x5_b t5 rfl) ?_
                              (repeat (first | with_reducible exact Bel.refl _ | with_reducible refine Bel.setCell ?_ (by first | exact Nat.le_refl _ | (dsimp only; omega)) _ | with_reducible refine Bel.alloc ?_ _ | with_reducible refine Bel.drew ?_ | with_reducible assumption | with_reducible refine Bel.trans ?_ (by assumption)))
                              done)
                           | (refine Vals.keep (x5_c t5 rfl) ?_
                              (repeat (first | with_reducible exact Bel.refl _ | with_reducible refine Bel.setCell ?_ (by first | exact Nat.le_refl _ | (dsimp only; omega)) _ | with_reducible refine Bel.alloc ?_ _ | with_reducible refine Bel.drew ?_ | with_reducible assumption | with_reducible refine Bel.trans ?_ (by assumption)))
                              done)
                           | (refine Vals.keep (x5_d t5 rfl) ?_
                              (repeat (first | with_reducible exact Bel.refl _ | with_reducible refine Bel.setCell ?_ (by first | exact Nat.le_refl _ | (dsimp only; omega)) _ | with_reducible refine Bel.alloc ?_ _ | with_reducible refine Bel.drew ?_ | with_reducible assumption | with_reducible refine Bel.trans ?_ (by assumption)))
                              done)
                       · rfl
                       · intro h; cases h
                       · simp only [List.length_append, List.length_take, List.length_drop, List.length_cons, List.length_nil]; omega
                       rintro v6 w6 ⟨o6, b6, t6⟩)
                    | (fail_if_success have _u := o5
                       refine step_app rfl _ _ _ rfl (app_step (wr := wr) (xs := []) ?_ ?_ ((hvw.out.take 0).keep ?_) ?_ ?_ ?_ _) ?_
                       · (repeat (first | with_reducible exact Bel.refl _ | with_reducible refine Bel.setCell ?_ (by first | exact Nat.le_refl _ | (dsimp only; omega)) _ | with_reducible refine Bel.alloc ?_ _ | with_reducible refine Bel.drew ?_ | with_reducible assumption | with_reducible refine Bel.trans ?_ (by assumption)))
                       · first
                           | exact (OwnV.made' (w := wr) (Bel.refl _) rfl).keep (by (repeat (first | with_reducible exact Bel.refl _ | with_reducible refine Bel.setCell ?_ (by first | exact Nat.le_refl _ | (dsimp only; omega)) _ | with_reducible refine Bel.alloc ?_ _ | with_reducible refine Bel.drew ?_ | with_reducible assumption | with_reducible refine Bel.trans ?_ (by assumption))))
                           | (refine OwnV.made' (w := wr.alloc _) ?_ ?_
                              · (repeat (first | with_reducible exact Bel.refl _ | with_reducible refine Bel.setCell ?_ (by first | exact Nat.le_refl _ | (dsimp only; omega)) _ | with_reducible refine Bel.alloc ?_ _ | with_reducible refine Bel.drew ?_ | with_reducible assumption | with_reducible refine Bel.trans ?_ (by assumption)))
                              · simp [go_sem])
                           | (refine OwnV.made' (w := (wr.alloc _).drew) ?_ ?_
                              · (repeat (first | with_reducible exact Bel.refl _ | with_reducible refine Bel.setCell ?_ (by first | exact Nat.le_refl _ | (dsimp only; omega)) _ | with_reducible refine Bel.alloc ?_ _ | with_reducible refine Bel.drew ?_ | with_reducible assumption | with_reducible refine Bel.trans ?_ (by assumption)))
                              · simp [go_sem])
                       · (repeat (first | with_reducible exact Bel.refl _ | with_reducible refine Bel.setCell ?_ (by first | exact Nat.le_refl _ | (dsimp only; omega)) _ | with_reducible refine Bel.alloc ?_ _ | with_reducible refine Bel.drew ?_ | with_reducible assumption | with_reducible refine Bel.trans ?_ (by assumption)))
                       · first | (rw [List.length_take]; omega) | simp
                       · first | (intro h; cases h; done) | (intro _; rfl)
                       · simp only [List.length_append, List.length_take, List.length_drop, List.length_cons, List.length_nil]; omega
                       rintro v5 w5 ⟨o5, b5, t5⟩)
                    | fail)
                  all_goals
                    go_wp2_with fail
                    go_roundg (vs.length - (k + 1))
                    case measure => have := HR.out.2.2.2.2.2.1; omega
                    case rel =>
                      refine ⟨k + 1, _, by go_num, by omega, ⟨?_, rfl, ?_⟩, hb2.trans (hb3.trans b7), o7.base (hb2.trans hb3).size⟩
                      · rw [hxs.out]; simpa using E.out
                      · have := HR.out.2.2.2.2.2.2
                        simp only [List.length_append, List.length_take, List.length_drop, List.length_cons, List.length_nil]
                        omega
                · cases e1
                  have hi1 : (n : Int) ≤ cr := by omega
                  have hi2 : (n : Int) ≤ r.length := by omega
                  have hi0 : (0 : Int) ≤ n := by omega
                  clear hgh
                  go_wp2_with fail
                  go_region_held_law (fun w' => Bel wr w' ∧ (∀ b o, b < wr.heap.size → w'.cell? ⟨b, o, none⟩ = wr.cell? ⟨b, o, none⟩)) ((refine bel_both ?_; (repeat (first | with_reducible exact Bel.refl _ | with_reducible refine Bel.setCell ?_ (by first | exact Nat.le_refl _ | (dsimp only; omega)) _ | with_reducible refine Bel.alloc ?_ _ | with_reducible refine Bel.drew ?_ | with_reducible assumption | with_reducible refine Bel.trans ?_ (by assumption))))) (first
                    | (have _u := o6
                       refine step_app rfl _ _ _ rfl (app_step (wr := wr) (xs := r.take n ++ [x]) (ys := r.drop n) ?_ (o6.keep ?_) ?_ ?_ ?_ ?_ _) ?_
                       · (repeat (first | with_reducible exact Bel.refl _ | with_reducible refine Bel.setCell ?_ (by first | exact Nat.le_refl _ | (dsimp only; omega)) _ | with_reducible refine Bel.alloc ?_ _ | with_reducible refine Bel.drew ?_ | with_reducible assumption | with_reducible refine Bel.trans ?_ (by assumption)))
                       · (repeat (first | with_reducible exact Bel.refl _ | with_reducible refine Bel.setCell ?_ (by first | exact Nat.le_refl _ | (dsimp only; omega)) _ | with_reducible refine Bel.alloc ?_ _ | with_reducible refine Bel.drew ?_ | with_reducible assumption | with_reducible refine Bel.trans ?_ (by assumption)))
                       · exact Vals.dropIf (hvw.out.keep (by (repeat (first | with_reducible exact Bel.refl _ | with_reducible refine Bel.setCell ?_ (by first | exact Nat.le_refl _ | (dsimp only; omega)) _ | with_reducible refine Bel.alloc ?_ _ | with_reducible refine Bel.drew ?_ | with_reducible assumption | with_reducible refine Bel.trans ?_ (by assumption))))) HR.out.1 n
                       · first | (rw [List.length_drop]; done) | simp
                       · first | (intro h; split at h <;> cases h; done) | (intro _; rfl)
                       · simp only [List.length_append, List.length_take, List.length_drop, List.length_cons, List.length_nil]; omega
                       rintro v7 w7 ⟨o7, b7, t7⟩)
                    | (have _u := o5
                       refine step_app rfl _ _ _ rfl (app_step (wr := wr) (xs := r.take n) (ys := [x]) ?_ (o5.keep ?_) ?_ ?_ ?_ ?_ _) ?_
                       · (repeat (first | with_reducible exact Bel.refl _ | with_reducible refine Bel.setCell ?_ (by first | exact Nat.le_refl _ | (dsimp only; omega)) _ | with_reducible refine Bel.alloc ?_ _ | with_reducible refine Bel.drew ?_ | with_reducible assumption | with_reducible refine Bel.trans ?_ (by assumption)))
                       · (repeat (first | with_reducible exact Bel.refl _ | with_reducible refine Bel.setCell ?_ (by first | exact Nat.le_refl _ | (dsimp only; omega)) _ | with_reducible refine Bel.alloc ?_ _ | with_reducible refine Bel.drew ?_ | with_reducible assumption | with_reducible refine Bel.trans ?_ (by assumption)))
                       · first
                           | with_reducible exact vals_one w5 x rfl
                           | with_reducible exact vals_one w5.drew x rfl
                           | (refine Vals.keep (x5_b t5 rfl) ?_
                              (repeat (first | with_reducible exact Bel.refl _ | with_reducible refine Bel.setCell ?_ (by first | exact Nat.le_refl _ | (dsimp only; omega)) _ | with_reducible refine Bel.alloc ?_ _ | with_reducible refine Bel.drew ?_ | with_reducible assumption | with_reducible refine Bel.trans ?_ (by assumption)))
                              done)
                           | (refine Vals.keep (x5_c t5 rfl) ?_
                              (repeat (first | with_reducible exact Bel.refl _ | with_reducible refine Bel.setCell ?_ (by first | exact Nat.le_refl _ | (dsimp only; omega)) _ | with_reducible refine Bel.alloc ?_ _ | with_reducible refine Bel.drew ?_ | with_reducible assumption | with_reducible refine Bel.trans ?_ (by assumption)))
                              done)
                           | (refine Vals.keep (x5_d t5 rfl) ?_
                              (repeat (first | with_reducible exact Bel.refl _ | with_reducible refine Bel.setCell ?_ (by first | exact Nat.le_refl _ | (dsimp only; omega)) _ | with_reducible refine Bel.alloc ?_ _ | with_reducible refine Bel.drew ?_ | with_reducible assumption | with_reducible refine Bel.trans ?_ (by assumption)))
                              done)
                       · rfl
                       · intro h; cases h
                       · simp only [List.length_append, List.length_take, List.length_drop, List.length_cons, List.length_nil]; omega
                       rintro v6 w6 ⟨o6, b6, t6⟩)
                    | (fail_if_success have _u := o5
                       refine step_app rfl _ _ _ rfl (app_step (wr := wr) (xs := []) ?_ ?_ ((hvw.out.take n).keep ?_) ?_ ?_ ?_ _) ?_
                       · (repeat (first | with_reducible exact Bel.refl _ | with_reducible refine Bel.setCell ?_ (by first | exact Nat.le_refl _ | (dsimp only; omega)) _ | with_reducible refine Bel.alloc ?_ _ | with_reducible refine Bel.drew ?_ | with_reducible assumption | with_reducible refine Bel.trans ?_ (by assumption)))
                       · first
                           | exact (OwnV.made' (w := wr) (Bel.refl _) rfl).keep (by (repeat (first | with_reducible exact Bel.refl _ | with_reducible refine Bel.setCell ?_ (by first | exact Nat.le_refl _ | (dsimp only; omega)) _ | with_reducible refine Bel.alloc ?_ _ | with_reducible refine Bel.drew ?_ | with_reducible assumption | with_reducible refine Bel.trans ?_ (by assumption))))
                           | (refine OwnV.made' (w := wr.alloc _) ?_ ?_
                              · (repeat (first | with_reducible exact Bel.refl _ | with_reducible refine Bel.setCell ?_ (by first | exact Nat.le_refl _ | (dsimp only; omega)) _ | with_reducible refine Bel.alloc ?_ _ | with_reducible refine Bel.drew ?_ | with_reducible assumption | with_reducible refine Bel.trans ?_ (by assumption)))
                              · simp [go_sem])
                           | (refine OwnV.made' (w := (wr.alloc _).drew) ?_ ?_
                              · (repeat (first | with_reducible exact Bel.refl _ | with_reducible refine Bel.setCell ?_ (by first | exact Nat.le_refl _ | (dsimp only; omega)) _ | with_reducible refine Bel.alloc ?_ _ | with_reducible refine Bel.drew ?_ | with_reducible assumption | with_reducible refine Bel.trans ?_ (by assumption)))
                              · simp [go_sem])
                       · (repeat (first | with_reducible exact Bel.refl _ | with_reducible refine Bel.setCell ?_ (by first | exact Nat.le_refl _ | (dsimp only; omega)) _ | with_reducible refine Bel.alloc ?_ _ | with_reducible refine Bel.drew ?_ | with_reducible assumption | with_reducible refine Bel.trans ?_ (by assumption)))
                       · first | (rw [List.length_take]; omega) | simp
                       · first | (intro h; cases h; done) | (intro _; rfl)
                       · simp only [List.length_append, List.length_take, List.length_drop, List.length_cons, List.length_nil]; omega
                       rintro v5 w5 ⟨o5, b5, t5⟩)
                    | fail)
                  all_goals
                    go_wp2_with fail
                    all_goals
                      go_roundg (vs.length - (k + 1))
                      case measure => have := HR.out.2.2.2.2.2.1; omega
                      case rel =>
                        refine ⟨k + 1, _, by go_num, by omega, ⟨?_, rfl, ?_⟩, hb2.trans (hb3.trans b7), o7.base (hb2.trans hb3).size⟩
                        · rw [hxs.out]; simpa using E.out
                        · have := HR.out.2.2.2.2.2.2
                          simp only [List.length_append, List.length_take, List.length_drop, List.length_cons, List.length_nil]
                          omega
        · obtain rfl : k = vs.length := by omega
          go_wp2_with fail
          go_ret2
          have h := hh.out.1
          rw [List.take_length] at h
          exact ⟨r, A, cr, rfl, h, hvr, hb2⟩
end Go.Proofs.YtladmlnopbnlgaaGreatDoor
