import Derived.Test.YteblpdoljhmcmaaPlc
import Derived.Test.YteblpdoljhmcmaaLay
import Derived.Shelf.SlicesQ.IndexFunc
namespace Go.Proofs.Yteblpdoljhmcmaa
set_option linter.unusedSimpArgs false
set_option linter.unusedVariables false
open Go.RowKit Go.Lib
attribute [local go_sem ↓] eql_val neq_val
--DEFS
/-! What the methods of results give. -/
theorem hd_at {w : World} {A : Option Addr} {r : List Val} (hv : Vals w A r) (h0 : 0 < r.length) : ∃ b off, A = some ⟨b, off, none⟩ ∧ b < w.heap.size ∧ ValAt w b off (hd r) := by
  obtain ⟨b, off, rfl, hlt, hat⟩ := hv h0
  cases r with
  | nil => simp at h0
  | cons v l => exact ⟨b, off, rfl, hlt, by have := hat 0 v rfl; rw [Nat.zero_mul, Nat.add_zero] at this; exact this⟩
set_option maxRecDepth 100000 in
set_option maxHeartbeats 2000000 in
theorem uniq_any (r : List Val) (A : Option Addr) (c : Nat) (w : World) (hv : Vals w A r) (h0 : 0 < r.length) (hl : r.length ≤ 9223372036854775807) :
    Calls Try.prog 30 #[.slice A r.length c] w fun e w' => e = .returned (uniq r).val ∧ Bel w w' := by
  obtain ⟨b, off, rfl, hlt, ha⟩ := hd_at hv h0
  have U := Lib.hid (show uniq r = if 1 < r.length then nul else hd r from rfl)
  generalize uniq r = R at U ⊢
  generalize hd r = h at U ha
  by_cases h1 : 1 < r.length
  · obtain rfl : R = nul := U.out.trans (if_pos h1)
    have e1 : (1 : Int) < r.length := by omega
    clear hv U ha
    go_enter Try.func30, Try.ntmps30
    go_wp2_with fail
    refine bodyPost_ret (by simp [results, Try.results30, go_sem, nul]; try rfl) rfl ⟨rfl, ?_⟩
    (repeat (first | with_reducible exact Bel.refl _ | with_reducible refine Bel.setCell ?_ (by first | exact Nat.le_refl _ | (dsimp only; omega)) _ | with_reducible refine Bel.alloc ?_ _ | with_reducible refine Bel.drew ?_ | with_reducible assumption | with_reducible refine Bel.trans ?_ (by assumption)))
  · obtain rfl : R = h := U.out.trans (if_neg h1)
    have e1 : ¬ (1 : Int) < r.length := by omega
    have e2 : (0 : Int) < r.length := by omega
    obtain ⟨h0', h1', h2', h3', h4'⟩ := R
    obtain ⟨a0, a1, a2, a3, a4⟩ := ha
    clear hv U
    go_enter Try.func30, Try.ntmps30
    go_wp2_with fail
    refine bodyPost_ret (by simp [results, Try.results30, go_sem]; try rfl) rfl ⟨rfl, ?_⟩
    (repeat (first | with_reducible exact Bel.refl _ | with_reducible refine Bel.setCell ?_ (by first | exact Nat.le_refl _ | (dsimp only; omega)) _ | with_reducible refine Bel.alloc ?_ _ | with_reducible refine Bel.drew ?_ | with_reducible assumption | with_reducible refine Bel.trans ?_ (by assumption)))
def IdxP (b : Bool) (w : World) (e : Ending) (w' : World) : Prop := ∃ r : Int, e = .returned (.int .i64 r) ∧ decide (0 ≤ r) = b ∧ Bel w w'
set_option maxRecDepth 100000 in
set_option maxHeartbeats 2000000 in
theorem index_any (r : List Val) (A : Option Addr) (c : Nat) (v : Val) (w : World) (hv : Vals w A r) (hl : r.length ≤ 9223372036854775807) :
    Calls Try.prog 57 #[.slice A r.length c, v.val] w (IdxP (memV r v) w) := by
  have hli : (r.length : Int) ≤ 9223372036854775807 := by omega
  obtain ⟨R, hR⟩ : ∃ R, R = memV r v := ⟨_, rfl⟩
  rw [← hR]
  have RR := Lib.hid hR
  clear hR
  obtain ⟨v0, v1, v2, v3, v4⟩ := v
  go_enter Try.func57, Try.ntmps57
  go_wp2_with fail
  refine under_name ((Bel.refl w).alloc _) fun W hc hf hz hbW => ?_
  have n3 : ValAt W w.heap.size 0 ⟨v0, v1, v2, v3, v4⟩ := by simp [ValAt, hc, go_sem]
  have z0 : w.heap.size < W.heap.size := by simp [hz]
  clear hc hf hz
  generalize w.heap.size = B at n3 z0 ⊢
  go_loopg [8] r.length (fun g i wr => ∃ k : Nat, i = .int .i64 k ∧ k ≤ r.length ∧ Hid (R = memV (r.drop k) ⟨v0, v1, v2, v3, v4⟩ ∧ g = r.length - k) ∧ Bel W wr)
  case atStart => exact ⟨0, rfl, Nat.zero_le _, ⟨RR.out, rfl⟩, Bel.refl _⟩
  case round =>
    obtain ⟨k, rfl, hk, hh, hb⟩ := hrel
    by_cases hp : k < r.length
    · obtain ⟨b, off, rfl, hlt, hat⟩ := hv (by omega)
      obtain ⟨u, hvk⟩ : ∃ u, r[k]? = some u := ⟨_, List.getElem?_eq_getElem hp⟩
      have ha := (hat k u hvk).keep (hbW.trans hb) hlt
      have hn := n3.keep hb z0
      have lt1 := Nat.lt_of_lt_of_le hlt (hbW.trans hb).size
      have lt2 := Nat.lt_of_lt_of_le z0 hb.size
      have hdr : r.drop k = u :: r.drop (k + 1) := by rw [List.drop_eq_getElem_cons hp]; simp [List.getElem?_eq_getElem hp] at hvk; rw [hvk]
      have RN := Lib.hid (show R = (veq ⟨v0, v1, v2, v3, v4⟩ u || memV (r.drop (k + 1)) ⟨v0, v1, v2, v3, v4⟩) from by rw [hh.out.1, hdr]; rfl)
      have i1 : (k : Int) < r.length := by omega
      have i2 : (0 : Int) ≤ (k : Int) := by omega
      obtain ⟨u0, u1, u2, u3, u4⟩ := u
      obtain ⟨a0, a1, a2, a3, a4⟩ := ha
      obtain ⟨b0, b1, b2, b3, b4⟩ := hn
      simp only [Nat.zero_add] at b0 b1 b2 b3 b4
      generalize hq : veq ⟨v0, v1, v2, v3, v4⟩ ⟨u0, u1, u2, u3, u4⟩ = q at RN
      have hq' := hq
      clear hv hat hvk hdr
      cases q with
      | true =>
        obtain rfl : R = true := RN.out
        go_wp2_with fail
        refine wp_region_uni (S := (fun w' => Bel wr w' ∧ (∀ b o, b < wr.heap.size → w'.cell? ⟨b, o, none⟩ = wr.cell? ⟨b, o, none⟩))) (by kernel_rfl) (by kernel_rfl) keep0 ?_
        repeat (first | (refine wpUni_skip (by rfl) ?_; (try simp only [Act.put, List.setIfInBounds_toArray, List.set_cons_zero, List.set_cons_succ]))
                                                            | (refine wpUni_value (by rfl) (fun w hS => by (try dsimp only at hS); go_simp; first | done | with_reducible rfl) ?_; (try simp only [Act.put, List.setIfInBounds_toArray, List.set_cons_zero, List.set_cons_succ])))
        refine wpUni_nil fun W1 hS => ?_
        have hb1 := hb.trans hS.1
        clear hS
        go_wp2_with fail
        go_ret
        exact ⟨_, rfl, decide_eq_true (by omega), hbW.trans hb1⟩
      | false =>
        have RN := Lib.hid (show R = memV (r.drop (k + 1)) ⟨v0, v1, v2, v3, v4⟩ from RN.out)
        go_wp2_with fail
        refine wp_region_uni (S := (fun w' => Bel wr w' ∧ (∀ b o, b < wr.heap.size → w'.cell? ⟨b, o, none⟩ = wr.cell? ⟨b, o, none⟩))) (by kernel_rfl) (by kernel_rfl) keep0 ?_
        repeat (first | (refine wpUni_skip (by rfl) ?_; (try simp only [Act.put, List.setIfInBounds_toArray, List.set_cons_zero, List.set_cons_succ]))
                                                            | (refine wpUni_value (by rfl) (fun w hS => by (try dsimp only at hS); go_simp; first | done | with_reducible rfl) ?_; (try simp only [Act.put, List.setIfInBounds_toArray, List.set_cons_zero, List.set_cons_succ])))
        refine wpUni_nil fun W1 hS => ?_
        have hb1 := hb.trans hS.1
        clear hS
        go_wp2_with fail
        go_roundg (r.length - (k + 1))
        case measure => have := hh.out.2; omega
        case rel => exact ⟨k + 1, by go_num, by omega, ⟨RN.out, rfl⟩, hb1⟩
    · obtain rfl : k = r.length := by omega
      have h := hh.out.1
      rw [List.drop_length] at h
      obtain rfl : R = false := h
      go_wp2_with fail
      go_ret
      exact ⟨_, rfl, by decide, hbW.trans hb⟩
theorem contains_any (r : List Val) (A : Option Addr) (c : Nat) (v : Val) (w : World) (hv : Vals w A r) (hl : r.length ≤ 9223372036854775807) :
    Calls Try.prog 46 #[.slice A r.length c, v.val] w fun e w' => e = .returned (.bool (memV r v)) ∧ Bel w w' := by
  have C := Lib.hid fun W (hW : Bel w W) => index_any r A c v W (hv.keep hW) hl
  generalize memV r v = R at C ⊢
  obtain ⟨v0, v1, v2, v3, v4⟩ := v
  clear hv
  go_enter Try.func46, Try.ntmps46
  go_wp2_with (go_at_call 57; refine (C.out _ ((Bel.refl w).alloc _)).mono ?_; rintro e W1 ⟨i, rfl, hi, hb1⟩)
  go_ret
  refine ⟨rfl, ?_⟩
  (repeat (first | with_reducible exact Bel.refl _ | with_reducible refine Bel.setCell ?_ (by first | exact Nat.le_refl _ | (dsimp only; omega)) _ | with_reducible refine Bel.alloc ?_ _ | with_reducible refine Bel.drew ?_ | with_reducible assumption | with_reducible refine Bel.trans ?_ (by assumption)))
set_option maxRecDepth 100000 in
set_option maxHeartbeats 4000000 in
theorem prio_any (r : List Val) (A : Option Addr) (c : Nat) (o : List Val) (B : Option Addr) (d : Nat) (w : World) (hv : Vals w A r) (h0 : 0 < r.length) (hl : r.length ≤ 9223372036854775807) (ho : Vals w B o) (hol : o.length ≤ 9223372036854775807) :
    Calls Try.prog 32 #[.slice A r.length c, .slice B o.length d] w fun e w' => e = .returned (prio r o).val ∧ Bel w w' := by
  have hli : (o.length : Int) ≤ 9223372036854775807 := by omega
  have e2 : (0 : Int) < r.length := by omega
  have CC := Lib.hid fun v W (hW : Bel w W) => contains_any r A c v W (hv.keep hW) hl
  obtain ⟨b, off, rfl, hlt, ha⟩ := hd_at hv h0
  obtain ⟨R, hR⟩ : ∃ R, R = prio r o := ⟨_, rfl⟩
  rw [← hR]
  have RR := Lib.hid hR
  clear hR hv
  obtain ⟨a0, a1, a2, a3, a4⟩ := ha
  have H := Lib.hid (show hd r = ⟨(hd r).kind, (hd r).n, (hd r).scale, (hd r).text, (hd r).num⟩ from rfl)
  generalize (hd r).kind = h0 at a0 H
  generalize (hd r).n = h1 at a1 H
  generalize (hd r).scale = h2 at a2 H
  generalize (hd r).text = h3 at a3 H
  generalize (hd r).num = h4 at a4 H
  go_enter Try.func32, Try.ntmps32
  go_wp2_with fail
  refine under_name ((Bel.refl w).alloc _) fun W hc hf hz hbW => ?_
  have n3 : Slot W w.heap.size nul := by simp [Slot, ValAt, FreeAt, nul, hc, hf, hz, go_sem]
  clear hc hf hz
  have BB := Lib.hid (show w.heap.size ≤ w.heap.size from Nat.le_refl _)
  generalize hB : w.heap.size = B' at n3 ⊢
  have HB := Lib.hid (show w.heap.size ≤ B' from by omega)
  clear hB BB
  go_loopg [9] o.length (fun g i wr => ∃ k : Nat, i = .int .i64 k ∧ k ≤ o.length ∧ Hid (R = prio r (o.drop k) ∧ g = o.length - k) ∧ Bel W wr)
  case atStart => exact ⟨0, rfl, Nat.zero_le _, ⟨RR.out, rfl⟩, Bel.refl _⟩
  case round =>
    obtain ⟨k, rfl, hk, hh, hb⟩ := hrel
    obtain ⟨s0, ⟨s1, s2, s3, s4, s5⟩, ⟨f1, f2, f3, f4, f5⟩⟩ := n3.keep hb
    simp only [nul, Nat.zero_add] at s1 s2 s3 s4 s5
    by_cases hp : k < o.length
    · obtain ⟨b', off', rfl, hlt', hat⟩ := ho (by omega)
      obtain ⟨u, hvk⟩ : ∃ u, o[k]? = some u := ⟨_, List.getElem?_eq_getElem hp⟩
      have hx := (hat k u hvk).keep (hbW.trans hb) hlt'
      have lt1 := Nat.lt_of_lt_of_le hlt' (hbW.trans hb).size
      have hdr : o.drop k = u :: o.drop (k + 1) := by rw [List.drop_eq_getElem_cons hp]; simp [List.getElem?_eq_getElem hp] at hvk; rw [hvk]
      have RN := Lib.hid (show R = if memV r u then u else prio r (o.drop (k + 1)) from by rw [hh.out.1, hdr]; rfl)
      have i1 : (k : Int) < o.length := by omega
      have C := Lib.hid fun W' (hW : Bel W W') => CC.out u W' (hbW.trans hW)
      generalize memV r u = q at C RN
      obtain ⟨u0, u1, u2, u3, u4⟩ := u
      obtain ⟨x0, x1, x2, x3, x4⟩ := hx
      have ne1 : ¬ B' = wr.heap.size := by omega
      clear ho hat hvk hdr
      cases q with
      | true =>
        obtain rfl : R = ⟨u0, u1, u2, u3, u4⟩ := RN.out
        go_wp2_with (go_at_call 46; refine (C.out _ (hb.alloc _)).mono ?_; rintro e W1 ⟨rfl, hb1⟩; have hc1 := hb1.cells; have hf1 := hb1.frozens; have hs1 := hb1.lt1; have hs2 : B' < W1.heap.size := (by omega); obtain ⟨_, ⟨t1, t2, t3, t4, t5⟩, ⟨g1, g2, g3, g4, g5⟩⟩ := n3.keep ((hb.alloc _).trans hb1); simp only [nul, Nat.zero_add] at t1 t2 t3 t4 t5)
        refine bodyPost_ret (by simp [results, Try.results32, go_sem, t1, t2, t3, t4, t5]; try rfl) rfl ⟨rfl, ?_⟩
        have hq1 := hbW.trans ((hb.alloc _).trans hb1)
        have hB' := HB.out
        (repeat (first | with_reducible exact Bel.refl _ | with_reducible refine Bel.setCell ?_ (by first | exact Nat.le_refl _ | (dsimp only; omega)) _ | with_reducible refine Bel.alloc ?_ _ | with_reducible refine Bel.drew ?_ | with_reducible assumption | with_reducible refine Bel.trans ?_ (by assumption)))
      | false =>
        have RN := Lib.hid (show R = prio r (o.drop (k + 1)) from RN.out)
        go_wp2_with (go_at_call 46; refine (C.out _ (hb.alloc _)).mono ?_; rintro e W1 ⟨rfl, hb1⟩)
        go_roundg (o.length - (k + 1))
        case measure => have := hh.out.2; omega
        case rel =>
          refine ⟨k + 1, by go_num, by omega, ⟨RN.out, rfl⟩, ?_⟩
          (repeat (first | with_reducible exact Bel.refl _ | with_reducible refine Bel.setCell ?_ (by first | exact Nat.le_refl _ | (dsimp only; omega)) _ | with_reducible refine Bel.alloc ?_ _ | with_reducible refine Bel.drew ?_ | with_reducible assumption | with_reducible refine Bel.trans ?_ (by assumption)))
    · obtain rfl : k = o.length := by omega
      have h := hh.out.1
      rw [List.drop_length] at h
      have hR : R = ⟨h0, h1, h2, h3, h4⟩ := h.trans H.out
      subst hR
      rw [← (hbW.trans hb).cells _ _ hlt] at a0 a1 a2 a3 a4
      have lt1 := Nat.lt_of_lt_of_le hlt (hbW.trans hb).size
      go_wp2_with fail
      refine bodyPost_ret (by simp [results, Try.results32, go_sem, s1, s2, s3, s4, s5]; try rfl) rfl ⟨rfl, ?_⟩
      have hq1 := hbW.trans hb
      have hB' := HB.out
      (repeat (first | with_reducible exact Bel.refl _ | with_reducible refine Bel.setCell ?_ (by first | exact Nat.le_refl _ | (dsimp only; omega)) _ | with_reducible refine Bel.alloc ?_ _ | with_reducible refine Bel.drew ?_ | with_reducible assumption | with_reducible refine Bel.trans ?_ (by assumption)))
end Go.Proofs.Yteblpdoljhmcmaa
