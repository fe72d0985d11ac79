import Derived.Test.YtlheahcljnjogaaLge
namespace Go.Proofs.Ytlheahcljnjogaa
set_option linter.unusedSimpArgs false
set_option linter.unusedVariables false
open Go.RowKit
attribute [local go_sem ↓] eql_val neq_val

theorem info_val : (Try.prog.info? 27).map (fun i => (i.zero, i.size, i.bytes)) = some (some (.agg #[.int .i64 0, .int .i64 0, .int .i64 0, .string ⟨#[]⟩, .int .i64 0]), 5, 48) := by kernel_rfl
/-- Rows of values of the call's own. -/
def OwnV (w : World) (B : Nat) (v : Value) (vs : List Val) : Prop := w.ownsRow B 27 5 v vs.length (flat vs)
theorem OwnV.vals {w : World} {B : Nat} {v : Value} {vs : List Val} (h : OwnV w B v vs) : ∃ A c, v = .slice A vs.length c ∧ Vals w A vs ∧ (A = none → c = 0) := by
  obtain ⟨A, c, e, hr, hA, _⟩ := own_row h
  exact ⟨A, c, e, hr.vals, hA⟩
theorem OwnV.nil (w : World) (B : Nat) : OwnV w B (.slice none 0 0) [] := World.ownsRow_nil w B _ 5
theorem OwnV.keep {w w' : World} {B : Nat} {v : Value} {vs : List Val} (h : OwnV w B v vs) (hb : Bel w w') : OwnV w' B v vs := own_keep h hb

theorem OwnV.lt {w : World} {B : Nat} {v : Value} {vs : List Val} (h : OwnV w B v vs) : ∀ k, v.ownBlock = some k → B ≤ k ∧ k < w.heap.size := World.ownsRow.lt h
theorem OwnV.but {w w' : World} {row : Option Nat} {B : Nat} {v : Value} {vs : List Val} (h : OwnV w B v vs) (hb : BelBut w w' row) (hne : v.ownBlock = none ∨ v.ownBlock ≠ row) : OwnV w' B v vs := hb.keepOwn h hne
theorem app_vals {w : World} {B : Nat} {v : Value} {xs ys : List Val} {A : Option Addr} {c : Nat} (h : OwnV w B v xs) (hy : Vals w A ys) (hA : A = none → c = 0) (hn : xs.length + ys.length ≤ 2097152) (hB : B ≤ w.heap.size) (ty : TypeId) :
    ∃ v' w', (Builtin.append_ #[22, 22] ty #[v, .slice A ys.length c]).run Try.prog w = .ok v' w' ∧ (OwnV w' B v' (xs ++ ys) ∧ BelBut w w' v.ownBlock ∧ (v'.ownBlock = v.ownBlock ∨ v'.ownBlock = some w.heap.size)) := by
  obtain ⟨i0, hi, hz0, hz1, hz2⟩ := info_parts info_val
  obtain ⟨v', w', hr, h1, h2, h3⟩ := run_app (P := Try.prog) w B 22 ty 27 i0 _ 5 48 Try.underlying22 hi hz0 hz1 hz2 rfl (by omega) h hy.row (flat_length ys) hA (flat_one ys) (by simp only [maxLen]; omega) (by omega) hB
  exact ⟨v', w', hr, by unfold OwnV; rw [List.length_append, flat_append]; exact h1, h2, h3⟩

theorem apart_swap {a b : Option Nat} (h : a = none ∨ a ≠ b) : b = none ∨ b ≠ a := by
  rcases h with rfl | h
  · cases b
    · exact .inl rfl
    · exact .inr (by simp)
  · exact .inr (Ne.symm h)
theorem apart_next {a b a' b' : Option Nat} {x y : Nat} (h : a = none ∨ a ≠ b) (ha : a' = a ∨ a' = some x) (hb : b' = b ∨ b' = some y) (hbx : ∀ k, b = some k → k < x) (hay : ∀ k, a' = some k → k < y) : a' = none ∨ a' ≠ b' := by
  cases a' with
  | none => exact .inl rfl
  | some k =>
    right
    intro e
    have hk := hay k rfl
    rcases hb with rfl | rfl
    · rcases ha with ha | ha
      · subst ha
        rcases h with h | h
        · cases h
        · exact h e
      · simp only [Option.some.injEq] at ha
        subst ha
        exact absurd (hbx k e.symm) (Nat.lt_irrefl _)
    · simp only [Option.some.injEq] at e
      omega

set_option maxHeartbeats 2000000 in
theorem laws_law (xs ys : List Val) (A B : Option Addr) (c d : Nat) (w : World) (ha : Vals w A xs) (hb : Vals w B ys) (hA : A = none → c = 0) (hB : B = none → d = 0) (hla : xs.length ≤ 1048576) (hlb : ys.length ≤ 1048576) :
    Calls Try.prog 5 #[.slice A xs.length c, .slice B ys.length d] w fun e w' => e = .returned (.bool true) ∧ Bel w w' := by
  go_enter Try.func5, Try.ntmps5
  go_wp2_with fail
  go_loopw [5, 6, 7] (fun p q i wr => ∃ k : Nat, k ≤ xs.length ∧ i = .int .i64 k ∧ Bel w wr ∧ OwnV wr w.heap.size p ((xs.take k).map nt) ∧ OwnV wr w.heap.size q (xs.reverse.take k) ∧ (p.ownBlock = none ∨ p.ownBlock ≠ q.ownBlock))
    (fun _ _ i _ => xs.length - (intOf i).toNat)
  case atStart => exact ⟨0, by omega, rfl, Bel.refl _, OwnV.nil _ _, OwnV.nil _ _, .inl rfl⟩
  case round =>
    obtain ⟨k, hk, rfl, hbw, hp, hq, hne⟩ := hrel
    by_cases hlt : k < xs.length
    · obtain ⟨b, off, rfl, hbl, hcell⟩ := ha (by omega)
      obtain ⟨⟨k0, n0, s0, t0, m0⟩, hv0⟩ : ∃ v, xs[k]? = some v := ⟨_, List.getElem?_eq_getElem hlt⟩
      obtain ⟨⟨k1, n1, s1, t1, m1⟩, hv1⟩ : ∃ v, xs[xs.length - 1 - k]? = some v := ⟨_, List.getElem?_eq_getElem (by omega)⟩
      have hV := (hcell k _ hv0).keep hbw hbl
      go_wp2_with fail
      refine (not_any ⟨k0, n0, s0, t0, m0⟩ _).mono ?_
      rintro e w1 ⟨rfl, hb1⟩
      have hp1 := hp.keep hb1
      have hq1 := hq.keep hb1
      have hbw1 := hbw.trans hb1
      have Hv0 := Lib.hid hv0
      have Hv1 := Lib.hid hv1
      clear hv0 hv1
      have Hc := Lib.hid hcell
      clear hcell hV
      have hlen : (xs.take k).length ≤ k := List.length_take_le _ _
      have hlen2 : (xs.reverse.take k).length ≤ k := List.length_take_le _ _
      go_wp2_with (first
        | (at_builtin; refine wpList_app rfl (.tmp 15) (.tmp 21) _ rfl (app_vals (hp1.keep ((Bel.refl w1).alloc _)) (ys := [nt ⟨k0, n0, s0, t0, m0⟩]) (vals_one w1 _ rfl) (fun h => by cases h) (by simp; omega) (hbw1.alloc _).size _) ?_; rintro p' w2 ⟨hp2, hbb, hor⟩; have hbw2 : Bel w w2 := hbb.bel (hbw1.alloc _) (fun k hk => (hp.lt k hk).1); have hV2 := (Hc.out _ _ Hv1.out).keep hbw2 hbl; have hq2 : OwnV w2 w.heap.size u6 (xs.reverse.take k) := (hq1.keep ((Bel.refl w1).alloc _)).but hbb (apart_swap hne))
        | (at_builtin; refine wpList_app rfl (.tmp 23) (.tmp 32) _ rfl (app_vals (hq2.keep ((Bel.refl w2).alloc _)) (ys := [⟨k1, n1, s1, t1, m1⟩]) (vals_one w2 _ rfl) (fun h => by cases h) (by simp; omega) (hbw2.alloc _).size _) ?_; rintro q' w3 ⟨hq3, hbb3, hor3⟩; have hbw3 : Bel w w3 := hbb3.bel (hbw2.alloc _) (fun k hk => (hq2.lt k hk).1)))
      have hp3 : OwnV w3 w.heap.size p' _ := (hp2.keep ((Bel.refl w2).alloc _)).but hbb3 (by
        refine apart_next (x := w1.heap.size + 1) (y := w2.heap.size) hne ?_ (.inl rfl) ?_ ?_
        · simpa using hor
        · exact fun k hk => Nat.lt_succ_of_lt (hq1.lt k hk).2
        · exact fun k hk => (hp2.lt k hk).2)
      have hne3 : p'.ownBlock = none ∨ p'.ownBlock ≠ q'.ownBlock := by
        refine apart_next (x := w1.heap.size + 1) (y := w2.heap.size + 1) hne ?_ ?_ ?_ ?_
        · simpa using hor
        · simpa using hor3
        · exact fun k hk => Nat.lt_succ_of_lt (hq1.lt k hk).2
        · exact fun k hk => Nat.lt_succ_of_lt (hp2.lt k hk).2
      have E1 : Hid ((xs.take (k + 1)).map nt = (xs.take k).map nt ++ [nt ⟨k0, n0, s0, t0, m0⟩]) := by
        unfold Hid; rw [take_snoc xs k _ Hv0.out, List.map_append]; rfl
      have E2 : Hid (xs.reverse.take (k + 1) = xs.reverse.take k ++ [⟨k1, n1, s1, t1, m1⟩]) := by
        unfold Hid; rw [take_snoc xs.reverse k ⟨k1, n1, s1, t1, m1⟩ (by rw [List.getElem?_reverse hlt]; exact Hv1.out)]
      clear hor hor3 hbb hbb3 hq2 hp2 hp1 hq1 hp hq hne Hv0 Hv1 Hc hV2 hb1 hbw1 hbw2 ha hb
      go_wp2_with fail
      go_roundw
      case rel => exact ⟨k + 1, by omega, by go_num, hbw3, by rw [E1.out]; exact hp3, by rw [E2.out]; exact hq3, hne3⟩
      case measure => simp [intOf]; omega
    · obtain rfl : k = xs.length := by omega
      rw [List.take_length] at hp
      rw [List.take_of_length_le (by simp)] at hq
      obtain ⟨A1, c1, rfl, hv1, hc1⟩ := hp.vals
      obtain ⟨A2, c2, rfl, hv2, hc2⟩ := hq.vals
      have z0 := veq_self (jn true (xs.map nt))
      have z1 := veq_self (jn false xs)
      have z2 := veq_self (jn true xs)
      have l1 : (xs.map nt).length = xs.length := List.length_map _
      have l2 : xs.reverse.length = xs.length := List.length_reverse
      have L1 := Lib.hid l1
      have L2 := Lib.hid l2
      clear l1 l2
      have m0 : xs.length ≤ maxLen := by simp only [maxLen]; omega
      rw [L1.out, L2.out]
      clear hne hp hq hc1 hc2
      go_wp2_with fail
      refine (awake_any _).mono ?_
      rintro e x1 ⟨rfl, hx⟩
      have q1 := hbw.trans hx
      have r1 := hv1.keep hx
      have r2 := hv2.keep hx
      clear hx hv1 hv2 hbw
      go_wp2_with fail
      refine (and_any xs A c _ (ha.keep q1) m0).mono ?_
      rintro e x2 ⟨rfl, hx⟩
      have q2 := q1.trans hx
      have s1 := r1.keep hx
      have s2 := r2.keep hx
      clear hx r1 r2 q1
      go_wp2_with fail
      refine (not_any (jn false xs) _).mono ?_
      rintro e x3 ⟨he, hx⟩
      rw [jn_not] at he
      subst he
      have q3 := q2.trans hx
      have r1 := s1.keep hx
      have r2 := s2.keep hx
      clear hx s1 s2 q2
      go_wp2_with fail
      have K := or_any (xs.map nt) A1 c1 x3 r1 (by rw [L1.out]; exact m0)
      rw [L1.out] at K
      refine K.mono ?_
      clear K
      rintro e x4 ⟨rfl, hx⟩
      have q4 := q3.trans hx
      have s2 := r2.keep hx
      clear hx r1 r2 q3
      go_wp2_with fail
      refine (and_any xs A c _ (ha.keep q4) m0).mono ?_
      rintro e x5 ⟨rfl, hx⟩
      have q5 := q4.trans hx
      have r2 := s2.keep hx
      clear hx s2 q4
      go_wp2_with fail
      have K := and_any xs.reverse A2 c2 x5 r2 (by rw [L2.out]; exact m0)
      rw [L2.out, jn_reverse] at K
      refine K.mono ?_
      clear K
      rintro e x6 ⟨rfl, hx⟩
      have q6 := q5.trans hx
      have s2 := r2.keep hx
      clear hx r2 q5
      go_wp2_with fail
      refine (or_any xs A c _ (ha.keep q6) m0).mono ?_
      rintro e x7 ⟨rfl, hx⟩
      have q7 := q6.trans hx
      have r2 := s2.keep hx
      clear hx s2 q6
      go_wp2_with fail
      have K := or_any xs.reverse A2 c2 x7 r2 (by rw [L2.out]; exact m0)
      rw [L2.out, jn_reverse] at K
      refine K.mono ?_
      clear K
      rintro e x8 ⟨rfl, hx⟩
      have q8 := q7.trans hx
      clear hx r2 q7 z0 z1
      have hz : OwnV (x8.alloc (.cells #[] 27)) w.heap.size (.slice (some ⟨x8.heap.size, 0, none⟩) 0 0) [] :=
        World.ownsRow_made x8 #[] 0 q8.size (by simp [maxLen]) rfl
      go_wp2_with (first
        | (at_builtin; refine wpList_app rfl (.tmp 58) (.tmp 59) _ rfl (app_vals hz (ha.keep (q8.alloc _)) hA (by simp; omega) (q8.alloc _).size _) ?_; rintro y1 x9 ⟨ho9, hbb9, hor9⟩; have q9 : Bel w x9 := hbb9.bel (q8.alloc _) (fun k hk => (hz.lt k hk).1))
        | (at_builtin; refine wpList_app rfl (.tmp 60) (.tmp 61) _ rfl (app_vals ho9 (hb.keep q9) hB (by simp; omega) q9.size _) ?_; rintro y2 x10 ⟨ho10, hbb10, hor10⟩; have q10 : Bel w x10 := hbb10.bel q9 (fun k hk => (ho9.lt k hk).1))
        | (go_at_call 8; fail))
      obtain ⟨A3, c3, rfl, hv3, _⟩ := ho10.vals
      clear hz ho9 ho10 hbb9 hbb10 hor9 hor10 z2
      have m1 : ys.length ≤ maxLen := by simp only [maxLen]; omega
      have m2 : (xs ++ ys).length ≤ maxLen := by simp only [maxLen, List.length_append]; omega
      rw [List.nil_append] at hv3
      simp only [List.nil_append]
      have z1 := veq_self (jn false [jn false xs, jn false ys])
      have z2 := veq_self (jn true [jn true xs, jn true ys])
      have K := and_any (xs ++ ys) A3 c3 x10 hv3 m2
      rw [jn_append] at K
      refine K.mono ?_
      clear K
      rintro e x11 ⟨rfl, hx⟩
      have q11 := q10.trans hx
      have hv4 := hv3.keep hx
      clear hx hv3 q8 q9 q10
      go_wp2_with fail
      refine (and_any xs A c _ (ha.keep q11) m0).mono ?_
      rintro e x12 ⟨rfl, hx⟩
      have q12 := q11.trans hx
      have hv3 := hv4.keep hx
      clear hx hv4 q11
      go_wp2_with fail
      refine (and_any ys B d _ (hb.keep q12) m1).mono ?_
      rintro e x13 ⟨rfl, hx⟩
      have q13 := q12.trans hx
      have hv4 := hv3.keep hx
      clear hx hv3 q12
      go_wp2_with fail
      refine (and_any [jn false xs, jn false ys] _ 2 _ (vals_two x13 (jn false xs) (jn false ys)) (by simp [maxLen])).mono ?_
      rintro e x14 ⟨rfl, hx⟩
      have q14 := (q13.alloc _).trans hx
      have hv3 := (hv4.keep ((Bel.refl _).alloc _)).keep hx
      clear hx hv4 q13
      go_wp2_with fail
      have K := or_any (xs ++ ys) A3 c3 x14 hv3 m2
      rw [jn_append, List.length_append] at K
      refine K.mono ?_
      clear K
      rintro e x15 ⟨rfl, hx⟩
      have q15 := q14.trans hx
      clear hx hv3 q14
      go_wp2_with fail
      refine (or_any xs A c _ (ha.keep q15) m0).mono ?_
      rintro e x16 ⟨rfl, hx⟩
      have q16 := q15.trans hx
      clear hx q15
      go_wp2_with fail
      refine (or_any ys B d _ (hb.keep q16) m1).mono ?_
      rintro e x17 ⟨rfl, hx⟩
      have q17 := q16.trans hx
      clear hx q16
      go_wp2_with fail
      refine (or_any [jn true xs, jn true ys] _ 2 _ (vals_two x17 (jn true xs) (jn true ys)) (by simp [maxLen])).mono ?_
      rintro e x18 ⟨rfl, hx⟩
      have q18 := (q17.alloc _).trans hx
      clear hx q17
      go_wp2
      go_ret
      exact ⟨rfl, q18⟩
end Go.Proofs.Ytlheahcljnjogaa
