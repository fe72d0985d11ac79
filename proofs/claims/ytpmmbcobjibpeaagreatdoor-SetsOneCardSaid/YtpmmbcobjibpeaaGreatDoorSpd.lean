
import Derived.Test.YtpmmbcobjibpeaaGreatDoorSpc
import Derived.Laws.OwnMore
import Derived.Laws.Small
namespace Go.Proofs.YtpmmbcobjibpeaaGreatDoor
set_option linter.unusedSimpArgs false
set_option linter.unusedVariables false
open Go.RowKit

/-! Spans: Join. -/
theorem OwnS.nonempty {w : World} {B : Nat} {v : Value} {l : List Sp} (h : OwnS w B v l) (hl : l ≠ []) : ∃ g cap, v = .slice (some ⟨g, 0, none⟩) l.length cap ∧ B ≤ g ∧ g < w.heap.size := by
  obtain ⟨g, cap, e, hb, hlt⟩ := World.ownsRow.form h (List.length_pos_iff.2 hl)
  exact ⟨g, cap, e, hb, hlt⟩
theorem flats_high (l : List Sp) (t : Sp) (x : Int) : (flats (l ++ [t])).set (l.length * 2 + 1) (.int .i64 x) = flats (l ++ [(t.1, x)]) := by
  rw [flats_append, flats_append, List.set_append_right _ _ (by rw [flats_length]; omega), flats_length]
  have e : l.length * 2 + 1 - l.length * 2 = 1 := by omega
  rw [e]
  rfl
theorem OwnS.high {w : World} {B g cap n : Nat} {l : List Sp} {t : Sp} (h : OwnS w B (.slice (some ⟨g, 0, none⟩) n cap) (l ++ [t])) (hn : n = l.length + 1) (x : Int) :
    OwnS (w.setCell ⟨g, l.length * 2 + 1, none⟩ (.int .i64 x)) B (.slice (some ⟨g, 0, none⟩) n cap) (l ++ [(t.1, x)]) := by
  have h' := h
  unfold OwnS at h' ⊢
  rw [List.length_append, List.length_singleton, ← hn] at h' ⊢
  have k := (h'.stored (l.length * 2 + 1) (.int .i64 x)).1
  rwa [flats_high] at k
theorem OwnS.free {w : World} {B g cap n : Nat} {l : List Sp} (h : OwnS w B (.slice (some ⟨g, 0, none⟩) n cap) l) (hn : n = l.length) (j : Nat) : w.frozen? ⟨g, j, none⟩ = false := by
  subst hn
  exact World.ownsRow.frozenAt h j
theorem OwnS.lastAt {w : World} {B g cap n : Nat} {l : List Sp} {t : Sp} (h : OwnS w B (.slice (some ⟨g, 0, none⟩) n cap) (l ++ [t])) : SpAt w g (l.length * 2) t := by
  obtain ⟨A, c, e, hs, _⟩ := h.sps
  cases e
  obtain ⟨b, off, e, _, hat⟩ := hs (by simp)
  cases e
  have := hat l.length t (by simp)
  rwa [Nat.zero_add] at this
theorem snoc_cases (r : List Sp) : r = [] ∨ ∃ r' t, r = r' ++ [t] := by
  rcases List.eq_nil_or_concat r with h | ⟨r', t, h⟩
  · exact .inl h
  · exact .inr ⟨r', t, by rw [h, List.concat_eq_append]⟩
/-- What the functions that make spans give. -/
def SpsPost (w : World) (P : List Sp → Prop) (e : Ending) (w' : World) : Prop := ∃ v r, e = .returned v ∧ OwnS w' w.heap.size v r ∧ Ord r ∧ (∀ s ∈ r, Rng s) ∧ P r ∧ Bel w w'
set_option maxRecDepth 100000 in
set_option maxHeartbeats 2000000 in
theorem join_nil (w : World) : Calls Tryz.prog 47 #[.slice none 0 0] w (SpsPost w fun r => r = []) := by
  have C1 := Lib.hid fun w => cloneN_any 0 0 w
  have C2 := Lib.hid fun w => sortN_any none 0 (.func (.func 76) #[] #[]) w
  go_enter Tryz.func47, Tryz.ntmps47
  go_wp2_with (first
    | (go_at_call 74; refine (C1.out _).mono ?_; rintro e W2 ⟨rfl, rfl⟩)
    | (go_at_call 75; refine (C2.out _).mono ?_; rintro e W3 ⟨rfl, rfl⟩))
  go_loopg [4, 14] 0 (fun gm o i wr => o = .slice none 0 0 ∧ i = .int .i64 0 ∧ Bel W3 wr)
  case atStart => exact ⟨rfl, rfl, Bel.refl _⟩
  case round =>
    obtain ⟨rfl, rfl, hb⟩ := hrel
    go_wp2_with fail
    go_ret
    exact ⟨.slice none 0 0, [], rfl, OwnS.nil _ _, ord_nil, (fun s hs => nomatch hs), rfl, hb⟩
set_option maxRecDepth 100000 in
set_option maxHeartbeats 4000000 in
theorem join_some (l : List Sp) (b off c : Nat) (w : World) (hv : Sps w (some ⟨b, off, none⟩) l) (hl : l.length ≤ 1000) (hr : ∀ s ∈ l, Rng s) :
    Calls Tryz.prog 47 #[.slice (some ⟨b, off, none⟩) l.length c] w (SpsPost w fun r => (∀ n, SMem r n ↔ SMem l n) ∧ r.length ≤ l.length) := by
  have C1 := Lib.hid (clone_any l b off c w (by omega) hv)
  have HR := Lib.hid hr
  have HL := Lib.hid hl
  have hli : (l.length : Int) ≤ 9223372036854775807 := by omega
  clear hv hr hl
  go_enter Tryz.func47, Tryz.ntmps47
  go_wp2_with (first
    | (go_at_call 74
       refine C1.out.mono ?_
       rintro e W2 ⟨v', rfl, hown, hne, hb2⟩
       obtain ⟨g, cap, rfl, hg, hlt, hnc, hcm, hxl, hH⟩ := holdsS_of_own hown hne
       have G := Lib.hid (And.intro hb2 (And.intro hg (And.intro hlt hH)))
       clear hown hne hb2 hg hlt hnc hcm hxl hH)
    | (go_at_call 75
       refine (sortS_any l g cap _ w G.out.2.2.2 G.out.2.2.1 G.out.1 G.out.2.1 (by have := HL.out; omega)).mono ?_
       rintro e W3 ⟨rfl, d, hperm, hlow, hsp, hg3, hb3⟩
       have D := Lib.hid (And.intro hperm (And.intro hlow hb3))
       have hdl := Lib.hid hperm.length_eq
       clear hperm hlow hb3))
  go_loopg [4, 14] l.length (fun gm o i wr => ∃ (k : Nat) (r : List Sp), i = .int .i64 k ∧ k ≤ l.length ∧ Hid (JInv (d.take k) r ∧ gm = l.length - k) ∧ Bel W3 wr ∧ Hid (OwnS wr W3.heap.size o r))
  case atStart => exact ⟨0, [], rfl, Nat.zero_le _, ⟨jinv_0, rfl⟩, Bel.refl _, OwnS.nil _ _⟩
  case round =>
    obtain ⟨k, r, rfl, hk, hh, hb, hown⟩ := hrel
    by_cases hp : k < l.length
    · obtain ⟨b', off', e', hlt', hat⟩ := hsp (by rw [hdl.out]; omega)
      cases e'
      obtain ⟨s, hsk⟩ : ∃ s, d[k]? = some s := ⟨_, List.getElem?_eq_getElem (by rw [hdl.out]; omega)⟩
      have ha := (hat k s hsk).keep hb hlt'
      have hlg := Nat.lt_of_lt_of_le hlt' hb.size
      have hrs := HR.out s (D.out.1.mem_iff.1 (List.mem_of_getElem? hsk))
      have K := Lib.hid (show ∀ out, JInv (d.take k ++ [s]) out → JInv (d.take (k + 1)) out from fun out h => by rw [take_snoc hsk]; exact h)
      have KL := Lib.hid (show ∀ p ∈ d.take k, p.1 ≤ s.1 from fun p hp => by
        obtain ⟨j, hj, e⟩ := mem_take_get hp
        exact D.out.2.1 j k p s hj e hsk)
      have i1 : (k : Int) < l.length := by omega
      have hlen : r.length ≤ 1000 := by
        have h1 := hh.out.1.2.2.2
        have h2 := HL.out
        rw [List.length_take] at h1
        omega
      have R := Lib.hid hrs
      clear hat hsk hrs hsp
      obtain ⟨s1, s2⟩ := s
      obtain ⟨a0, a1⟩ := ha
      simp only [Nat.zero_add] at a0 a1
      by_cases hs : s2 < s1
      · have J := Lib.hid (K.out _ (jinv_empty hh.out.1 hs))
        go_wp2_with fail
        go_roundg (l.length - (k + 1))
        case measure => have := hh.out.2; omega
        case rel =>
          refine ⟨k + 1, r, by go_num, by omega, ⟨J.out, rfl⟩, ?_, hown.out.keep ?_⟩
          · (repeat (first | with_reducible exact Bel.refl _ | with_reducible refine Bel.setCell ?_ (by first | exact Nat.le_refl _ | (dsimp only; omega)) _ | with_reducible refine Bel.alloc ?_ _ | with_reducible refine Bel.drew ?_ | with_reducible assumption | with_reducible refine Bel.trans ?_ (by assumption)))
          · (repeat (first | with_reducible exact Bel.refl _ | with_reducible refine Bel.setCell ?_ (by first | exact Nat.le_refl _ | (dsimp only; omega)) _ | with_reducible refine Bel.alloc ?_ _ | with_reducible refine Bel.drew ?_ | with_reducible assumption | with_reducible refine Bel.trans ?_ (by assumption)))
      · have RS := Lib.hid (show Rng (s1, s2) from R.out)
        rcases snoc_cases r with rfl | ⟨r', t, rfl⟩
        · obtain ⟨A, co, rfl, _, _, _⟩ := hown.out.sps
          have J := Lib.hid (K.out _ (jinv_new hh.out.1 (by omega : s1 ≤ s2) (by simp)))
          go_wp2_with fail
          refine under_name (w0 := wr) ?_ fun W hc hf hz hb4 => ?_
          · (repeat (first | with_reducible exact Bel.refl _ | with_reducible refine Bel.setCell ?_ (by first | exact Nat.le_refl _ | (dsimp only; omega)) _ | with_reducible refine Bel.alloc ?_ _ | with_reducible refine Bel.drew ?_ | with_reducible assumption | with_reducible refine Bel.trans ?_ (by assumption)))
          have c0 : W.cell? ⟨wr.heap.size, 0, none⟩ = some (.int .i64 s1) := by simp [hc, go_sem]
          have c1 : W.cell? ⟨wr.heap.size, 1, none⟩ = some (.int .i64 s2) := by simp [hc, go_sem]
          have hltW : wr.heap.size < W.heap.size := by rw [hz]; simp
          clear hc hf hz a0 a1
          refine wp_region_uni (S := (fun w' => Bel W w' ∧ (∀ b o, b < W.heap.size → w'.cell? ⟨b, o, none⟩ = W.cell? ⟨b, o, none⟩))) (by kernel_rfl) (by kernel_rfl) keep0 ?_
          repeat (first | (refine wpUni_skip (by rfl) ?_; (try simp only [Act.put, List.setIfInBounds_toArray, List.set_cons_zero, List.set_cons_succ]))
                                                            | (refine wpUni_value (by rfl) (fun w hS => by (try dsimp only at hS); go_simp; first | done | with_reducible rfl) ?_; (try simp only [Act.put, List.setIfInBounds_toArray, List.set_cons_zero, List.set_cons_succ])))
          refine wpUni_nil fun W1 hS => ?_
          have d0 := (hS.2 _ 0 hltW).trans c0
          have d1 := (hS.2 _ 1 hltW).trans c1
          have hb5 := hb4.trans hS.1
          clear hS c0 c1
          go_wp2_with (at_builtin
                       refine wpList_app rfl (.tmp 48) (.tmp 50) _ rfl (app_at (w0 := W3) (xs := []) (ys := [(s1, s2)]) ((hb.trans hb5).alloc _) (hown.out.keep (hb5.alloc _)) (sps_one W1 (s1, s2) rfl) rfl (fun h => by cases h) (by simp) _) ?_
                       rintro v' w' ⟨o', b', _, _⟩)
          go_roundg (l.length - (k + 1))
          case measure => have := hh.out.2; omega
          case rel => exact ⟨k + 1, [(s1, s2)], by go_num, by omega, ⟨J.out, rfl⟩, b', o'⟩
        · obtain ⟨g2, co, rfl, hg2, hg2l⟩ := hown.out.nonempty (by simp)
          have el : (r' ++ [t]).length = r'.length + 1 := by simp
          rw [el] at hown hlen ⊢
          have la := hown.out.lastAt
          have lf := hown.out.free el.symm
          have RT := Lib.hid (show Rng t by
            obtain ⟨⟨p, hp, e1⟩, q, hq, e2⟩ := hh.out.1.2.2.1 t (by simp)
            have h1 := HR.out p (D.out.1.mem_iff.1 (List.mem_of_mem_take hp))
            have h2 := HR.out q (D.out.1.mem_iff.1 (List.mem_of_mem_take hq))
            unfold Rng at h1 h2 ⊢
            omega)
          have LF := Lib.hid lf
          clear lf
          obtain ⟨t1, t2⟩ := t
          obtain ⟨b0, b1⟩ := la
          have i2 : (r'.length : Int) + 1 ≤ 1000 := by omega
          have i3 : (r'.length : Int) < (r'.length : Int) + 1 := by omega
          simp only at b0 b1
          go_wp2_with fail
          refine under_name (w0 := wr) ?_ fun W hc hf hz hb4 => ?_
          · (repeat (first | with_reducible exact Bel.refl _ | with_reducible refine Bel.setCell ?_ (by first | exact Nat.le_refl _ | (dsimp only; omega)) _ | with_reducible refine Bel.alloc ?_ _ | with_reducible refine Bel.drew ?_ | with_reducible assumption | with_reducible refine Bel.trans ?_ (by assumption)))
          have c0 : W.cell? ⟨wr.heap.size, 0, none⟩ = some (.int .i64 s1) := by simp [hc, go_sem]
          have c1 : W.cell? ⟨wr.heap.size, 1, none⟩ = some (.int .i64 s2) := by simp [hc, go_sem]
          have hltW : wr.heap.size < W.heap.size := by rw [hz]; simp
          have hg2W : g2 < W.heap.size := by rw [hz]; simp; omega
          have e0 := (hb4.cells g2 (r'.length * 2) hg2l).trans b0
          have e1 := (hb4.cells g2 (r'.length * 2 + 1) hg2l).trans b1
          clear hc hf hz a0 a1 b0 b1
          by_cases ht : s1 ≤ t2 + 1
          · have T := Lib.hid (show ∀ w, Calls Tryz.prog 78 #[.agg #[.int .i64 t1, .int .i64 t2], .agg #[.int .i64 s1, .int .i64 s2]] w fun e w' => e = .returned (.bool true) ∧ Bel w w' from fun w => by
              have h := touch_any (t1, t2) (s1, s2) w RT.out RS.out
              rwa [show touchB (t1, t2) (s1, s2) = true from decide_eq_true ht] at h)
            have J := Lib.hid (K.out _ (jinv_join hh.out.1 KL.out ht))
            refine wp_region_uni (S := (fun w' => Bel W w' ∧ (∀ b o, b < W.heap.size → w'.cell? ⟨b, o, none⟩ = W.cell? ⟨b, o, none⟩))) (by kernel_rfl) (by kernel_rfl) keep0 ?_
            repeat (first | (refine wpUni_skip (by rfl) ?_; (try simp only [Act.put, List.setIfInBounds_toArray, List.set_cons_zero, List.set_cons_succ]))
                                                            | (refine wpUni_value (by rfl) (fun w hS => by (try dsimp only at hS); go_simp; first | done | with_reducible rfl) ?_; (try simp only [Act.put, List.setIfInBounds_toArray, List.set_cons_zero, List.set_cons_succ]))
                                                            | (refine wpUni_call (f := 78) (by rfl) (fun w => by go_simp; first | done | with_reducible rfl) (fun w hS => (T.out w).mono fun e w' ⟨he, hb⟩ => ⟨he, keep1 hS hb⟩) ?_; (try simp only [Act.put, List.setIfInBounds_toArray, List.set_cons_zero, List.set_cons_succ])))
            refine wpUni_nil fun W1 hS => ?_
            have d0 := (hS.2 _ 0 hltW).trans c0
            have d1 := (hS.2 _ 1 hltW).trans c1
            have f0 := (hS.2 _ (r'.length * 2) hg2W).trans e0
            have f1 := (hS.2 _ (r'.length * 2 + 1) hg2W).trans e1
            have hb5 := hb4.trans hS.1
            have ho5 := Lib.hid (hown.out.keep hb5)
            have lf := (hb5.frozens g2 (r'.length * 2 + 1) hg2l).trans (LF.out _)
            clear hS c0 c1 e0 e1
            go_wp2_with fail
            go_region
            go_wp2_with fail
            all_goals
              go_roundg (l.length - (k + 1))
              case measure => have := hh.out.2; omega
              case rel =>
                refine ⟨k + 1, _, by go_num, by omega, ⟨J.out, rfl⟩, ?_, ?_⟩
                · have hb6 := hb.trans hb5
                  (repeat (first | with_reducible exact Bel.refl _ | with_reducible refine Bel.setCell ?_ (by first | exact Nat.le_refl _ | (dsimp only; omega)) _ | with_reducible refine Bel.alloc ?_ _ | with_reducible refine Bel.drew ?_ | with_reducible assumption | with_reducible refine Bel.trans ?_ (by assumption)))
                · rw [show (if t2 < s2 then s2 else t2) = max t2 s2 by rw [Int.max_def]; split <;> split <;> omega]
                  exact OwnS.keep (OwnS.high ho5.out rfl _) ((Bel.refl _).drew)
          · have T := Lib.hid (show ∀ w, Calls Tryz.prog 78 #[.agg #[.int .i64 t1, .int .i64 t2], .agg #[.int .i64 s1, .int .i64 s2]] w fun e w' => e = .returned (.bool false) ∧ Bel w w' from fun w => by
              have h := touch_any (t1, t2) (s1, s2) w RT.out RS.out
              rwa [show touchB (t1, t2) (s1, s2) = false from decide_eq_false ht] at h)
            have J := Lib.hid (K.out _ (jinv_far hh.out.1 (by omega : s1 ≤ s2) (by omega : t2 + 1 < s1)))
            refine wp_region_uni (S := (fun w' => Bel W w' ∧ (∀ b o, b < W.heap.size → w'.cell? ⟨b, o, none⟩ = W.cell? ⟨b, o, none⟩))) (by kernel_rfl) (by kernel_rfl) keep0 ?_
            repeat (first | (refine wpUni_skip (by rfl) ?_; (try simp only [Act.put, List.setIfInBounds_toArray, List.set_cons_zero, List.set_cons_succ]))
                                                            | (refine wpUni_value (by rfl) (fun w hS => by (try dsimp only at hS); go_simp; first | done | with_reducible rfl) ?_; (try simp only [Act.put, List.setIfInBounds_toArray, List.set_cons_zero, List.set_cons_succ]))
                                                            | (refine wpUni_call (f := 78) (by rfl) (fun w => by go_simp; first | done | with_reducible rfl) (fun w hS => (T.out w).mono fun e w' ⟨he, hb⟩ => ⟨he, keep1 hS hb⟩) ?_; (try simp only [Act.put, List.setIfInBounds_toArray, List.set_cons_zero, List.set_cons_succ])))
            refine wpUni_nil fun W1 hS => ?_
            have d0 := (hS.2 _ 0 hltW).trans c0
            have d1 := (hS.2 _ 1 hltW).trans c1
            have hb5 := hb4.trans hS.1
            clear hS c0 c1 e0 e1
            go_wp2_with (at_builtin
                         refine wpList_app rfl (.tmp 48) (.tmp 50) _ rfl (app_at (w0 := W3) (xs := r' ++ [(t1, t2)]) (ys := [(s1, s2)]) ((hb.trans hb5).alloc _) (hown.out.keep (hb5.alloc _)) (sps_one W1 (s1, s2) rfl) rfl (fun h => by cases h) (by simp; omega) _) ?_
                         rintro v' w' ⟨o', b', _, _⟩)
            go_roundg (l.length - (k + 1))
            case measure => have := hh.out.2; omega
            case rel => exact ⟨k + 1, _, by go_num, by omega, ⟨J.out, rfl⟩, b', o'⟩
    · obtain rfl : k = l.length := by omega
      go_wp2_with fail
      go_ret
      have h := hh.out.1
      rw [List.take_of_length_le (by rw [hdl.out]; exact Nat.le_refl _)] at h
      refine ⟨_, r, rfl, hown.out.base D.out.2.2.size, h.1, fun s hs => ?_, ⟨fun n => (h.2.1 n).trans ?_, by rw [← hdl.out]; exact h.2.2.2⟩, D.out.2.2.trans hb⟩
      · obtain ⟨⟨p, hp, e1⟩, q, hq, e2⟩ := h.2.2.1 s hs
        have h1 := HR.out p (D.out.1.mem_iff.1 hp)
        have h2 := HR.out q (D.out.1.mem_iff.1 hq)
        unfold Rng at h1 h2 ⊢
        omega
      · exact ⟨fun ⟨s, hs, h⟩ => ⟨s, D.out.1.mem_iff.1 hs, h⟩, fun ⟨s, hs, h⟩ => ⟨s, D.out.1.mem_iff.2 hs, h⟩⟩
theorem join_any (v : Value) (l : List Sp) (w : World) (h : SlS w v l) (hl : l.length ≤ 1000) (hr : ∀ s ∈ l, Rng s) :
    Calls Tryz.prog 47 #[v] w (SpsPost w fun r => (∀ n, SMem r n ↔ SMem l n) ∧ r.length ≤ l.length) := by
  obtain ⟨A, c, rfl, hs, hc, hA⟩ := h
  rcases hA with ⟨rfl, rfl⟩ | ⟨b, off, rfl, _⟩
  · obtain rfl : l = [] := List.eq_nil_of_length_eq_zero (by omega)
    refine (join_nil w).mono ?_
    rintro e w' ⟨v, r, he, ho, h1, h2, rfl, hb⟩
    exact ⟨v, [], he, ho, h1, h2, ⟨fun n => Iff.rfl, Nat.le_refl _⟩, hb⟩
  · exact join_some l b off c w hs hl hr
end Go.Proofs.YtpmmbcobjibpeaaGreatDoor
