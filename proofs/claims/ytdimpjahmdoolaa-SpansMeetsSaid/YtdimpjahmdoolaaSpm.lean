import Derived.Test.YtdimpjahmdoolaaSpl
namespace Go.Proofs.Ytdimpjahmdoolaa
set_option linter.unusedSimpArgs false
set_option linter.unusedVariables false
open Go.RowKit Go.Lib
attribute [local go_sem ↓] eql_sp neq_sp

/-! Spans: the law Parts. -/
theorem wpList_appG {P : Program} {w : World} {ops : Array Oper} {rest : List Oper} {o : Oper} {a : Act} {Q : Exit → Act → World → Prop} (hw : Region.wanted o (yielded ops a.tmps) = true) (s x : Operand) (t : TypeId)
    (ho : o.op = .call { callee := .builtin .append, args := #[s, x], argTypes := #[t, t] }) {R : Value → World → Prop}
    (hrun : ∃ v' w', (Builtin.append_ #[t, t] o.type #[a.eval s, a.eval x]).run P w = .ok v' w' ∧ R v' w')
    (h : ∀ v' w', R v' w' → wpList P ops Q rest (a.put o.dst v') w') : wpList P ops Q (o :: rest) a w := by
  obtain ⟨v', w', hr, hR⟩ := hrun
  refine wpList_step fun K hK => ?_
  rw [if_pos hw]
  unfold Oper.wp execOp
  simp only [ho, resolve, invoke, builtin, Sem.run_bind, Sem.run_pure, Result.andThen_ok, List.map_toArray, List.map_cons, List.map_nil, hr]
  exact hK _ _ (h v' w' hR)
theorem seq_iff (x y : Sp) : seq x y = true ↔ x = y := by simp [seq]
set_option maxRecDepth 100000 in
set_option maxHeartbeats 2000000 in
theorem same_eq (v1 v2 : Value) (xs : List Sp) (w : World) (h1 : SlS w v1 xs) (h2 : SlS w v2 xs) (hl : xs.length ≤ 1000000) :
    Calls Try.prog 19 #[v1, v2] w fun e w' => e = .returned (.bool true) ∧ Bel w w' := by
  obtain ⟨A, c, rfl, hx, _, _⟩ := h1
  obtain ⟨B, c', rfl, hy, _, _⟩ := h2
  have hli : (xs.length : Int) ≤ 9223372036854775807 := by omega
  go_enter Try.func19, Try.ntmps19
  go_wp2_with fail
  go_loopg [5] xs.length (fun g i wr => ∃ k : Nat, i = .int .i64 k ∧ k ≤ xs.length ∧ Hid (g = xs.length - k) ∧ Bel w wr)
  case atStart => exact ⟨0, rfl, Nat.zero_le _, rfl, Bel.refl _⟩
  case round =>
    obtain ⟨k, rfl, hk, hh, hb⟩ := hrel
    by_cases hp : k < xs.length
    · obtain ⟨b, off, rfl, hlt, hat⟩ := hx (by omega)
      obtain ⟨b', off', rfl, hlt', hat'⟩ := hy (by omega)
      obtain ⟨u, huk⟩ : ∃ u, xs[k]? = some u := ⟨_, List.getElem?_eq_getElem hp⟩
      have ha := (hat k u huk).keep hb hlt
      have ha' := (hat' k u huk).keep hb hlt'
      have hl1 := Nat.lt_of_lt_of_le hlt hb.size
      have hl2 := Nat.lt_of_lt_of_le hlt' hb.size
      have i1 : (k : Int) < xs.length := by omega
      have sq : seq u u = true := by simp [seq]
      obtain ⟨u1, u2⟩ := u
      obtain ⟨a0, a1⟩ := ha
      obtain ⟨b0, b1⟩ := ha'
      simp only at a0 a1 b0 b1
      clear hx hy hat hat' huk
      go_wp2_with fail
      refine wp_region_uni (S := (fun w' => Bel wr w' ∧ (∀ b o, b < wr.heap.size → w'.cell? ⟨b, o, none⟩ = wr.cell? ⟨b, o, none⟩))) (by kernel_rfl) (by kernel_rfl) keep0 ?_
      repeat (first | (refine wpUni_skip (by rfl) ?_; (try simp only [Act.put, List.setIfInBounds_toArray, List.set_cons_zero, List.set_cons_succ]))
                                                            | (refine wpUni_value (by rfl) (fun w hS => by (try dsimp only at hS); go_simp; first | done | with_reducible rfl) ?_; (try simp only [Act.put, List.setIfInBounds_toArray, List.set_cons_zero, List.set_cons_succ])))
      refine wpUni_nil fun W1 hS => ?_
      have hb1 := hb.trans hS.1
      clear hS
      go_wp2_with fail
      go_roundg (xs.length - (k + 1))
      case measure => have := hh.out; omega
      case rel => exact ⟨k + 1, by go_num, by omega, rfl, hb1⟩
    · obtain rfl : k = xs.length := by omega
      go_wp2_with fail
      go_ret
      exact ⟨rfl, hb⟩
theorem smem_parts {x y a b : List Sp} (hx : ∀ n, SMem x n ↔ SMem a n ∧ SMem b n) (hy : ∀ n, SMem y n ↔ SMem a n ∧ ¬ SMem b n) (n : Int) : SMem (x ++ y) n ↔ SMem a n := by
  rw [smem_append, hx, hy]
  constructor
  · rintro (h | h)
    · exact h.1
    · exact h.1
  · intro h
    by_cases c : SMem b n
    · exact .inl ⟨h, c⟩
    · exact .inr ⟨h, c⟩
/-- What a call gives that makes spans, with the slice written out. -/
theorem SpsPost.form {w : World} {P : List Sp → Prop} {e : Ending} {w' : World} (h : SpsPost w P e w') : ∃ A c r, e = .returned (.slice A r.length c) ∧ OwnS w' w.heap.size (.slice A r.length c) r ∧ Ord r ∧ (∀ s ∈ r, Rng s) ∧ P r ∧ Bel w w' := by
  obtain ⟨v, r, he, ho, h1, h2, h3, h4⟩ := h
  obtain ⟨A, c, rfl⟩ := ho.sl.form
  exact ⟨A, c, r, he, ho, h1, h2, h3, h4⟩
theorem OwnS.made' {w0 w : World} {n : Nat} (h : Bel w0 w) (hn : n = w.heap.size) : OwnS (w.alloc (.cells #[] 37)) w0.heap.size (.slice (some ⟨n, 0, none⟩) 0 0) [] := by
  subst hn
  exact World.ownsRow_made w #[] 0 h.size (by simp [maxLen]) rfl
theorem SlS.nilc {w : World} {A : Option Addr} {n c : Nat} {l : List Sp} (h : SlS w (.slice A n c) l) : A = none → c = 0 := by
  obtain ⟨A', c', e, _, _, hA⟩ := h
  cases e
  rintro rfl
  rcases hA with ⟨_, h⟩ | ⟨_, _, e, _⟩
  · exact h
  · cases e
set_option maxRecDepth 100000 in
set_option maxHeartbeats 8000000 in
theorem law_Parts (va vb : Value) (la lb : List Sp) (w : World) (ha : SlS w va la) (hb : SlS w vb lb) (hra : ∀ s ∈ la, Rng s) (hrb : ∀ s ∈ lb, Rng s) :
    Calls Try.prog 7 #[va, vb] w fun e w' => e = .returned (.bool true) ∧ Bel w w' := by
  have FA := Lib.hid (few_any va la w ha)
  have FB := Lib.hid (show ∀ W, Bel w W → Calls Try.prog 8 #[vb] W _ from fun W hW => few_any vb lb W (hb.keep hW))
  have hula : (la.take 100).length ≤ 100 := by rw [List.length_take]; omega
  have hra' : ∀ s ∈ la.take 100, Rng s := fun s hs => hra s (List.mem_of_mem_take hs)
  have hulb : (lb.take 100).length ≤ 100 := by rw [List.length_take]; omega
  have hrb' : ∀ s ∈ lb.take 100, Rng s := fun s hs => hrb s (List.mem_of_mem_take hs)
  generalize la.take 100 = a at FA hula hra'
  generalize lb.take 100 = b at FB hulb hrb'
  have HA := Lib.hid (And.intro hula hra')
  have HB := Lib.hid (And.intro hulb hrb')
  clear hra hra' ha hula hrb hrb' hb hulb
  go_enter Try.func7, Try.ntmps7
  go_wp2_with (first
    | (go_at_call 19
       have _u := hb19
       refine (same_eq _ _ f _ (Sf.out.1.keep hb19) (Sg.out) (by have := Sf.out.2.2.2.2; have := HA.out.1; have := HB.out.1; omega)).mono ?_
       rintro e W20 ⟨rfl, hb20⟩
       have C20 := C19.trans hb20)
    | (go_at_call 15
       have _u := hb18
       refine (meet_any _ _ b a _ (KB.out.keep C18) (KA.out.keep C18) (by have := HB.out.1; omega) (by have := HA.out.1; omega) HB.out.2 HA.out.2).mono ?_
       rintro e W19 h19
       obtain ⟨A19, c19, g, rfl, og, g1, g2, ⟨g3, g4⟩, hb19⟩ := h19.form
       have hg : f = g := ord_unique Sf.out.2.1 g1 fun n => ((Sf.out.2.2.2.1 n).trans ⟨fun h => ⟨h.2, h.1⟩, fun h => ⟨h.2, h.1⟩⟩).trans (g3 n).symm
       subst hg
       have Sg := Lib.hid og.sl
       have C19 := C18.trans hb19
       clear og g1 g2 g3 g4
       clear h19)
    | (go_at_call 15
       have _u := hb17
       refine (meet_any _ _ a b _ (KA.out.keep C17) (KB.out.keep C17) (by have := HA.out.1; omega) (by have := HB.out.1; omega) HA.out.2 HB.out.2).mono ?_
       rintro e W18 h18
       obtain ⟨A18, c18, f, rfl, of, f1, f2, ⟨f3, f4⟩, hb18⟩ := h18.form
       have Sf := Lib.hid (And.intro of.sl (And.intro f1 (And.intro f2 (And.intro f3 f4))))
       have C18 := C17.trans hb18
       clear of f1 f2 f3 f4
       clear h18)
    | (go_at_call 16
       have _u := hb16
       refine (without_any _ _ a a _ (KA.out.keep C16) (KA.out.keep C16) (by have := HA.out.1; omega) (by have := HA.out.1; omega) HA.out.2 HA.out.2).mono ?_
       rintro e W17 h17
       obtain ⟨A17, c17, z, rfl, oz, z1, z2, ⟨z3, z4⟩, hb17⟩ := h17.form
       have hz : z = [] := ord_empty z1 fun n h => ((z3 n).1 h).2 ((z3 n).1 h).1
       subst hz
       have C17 := C16.trans hb17
       clear oz z1 z2 z3 z4
       clear h17)
    | (go_at_call 19
       have _u := hb15
       refine (same_eq _ _ p _ (Sp.out.1.keep hb15) (Sq.out) (by have := Sp.out.2.2.2.2; have := HA.out.1; omega)).mono ?_
       rintro e W16 ⟨rfl, hb16⟩
       have C16 := C15.trans hb16)
    | (go_at_call 9
       have _u := hb14
       refine (join_any _ a _ (KA.out.keep C14) (by have := HA.out.1; omega) HA.out.2).mono ?_
       rintro e W15 h15
       obtain ⟨A15, c15, q, rfl, oq, q1, q2, ⟨q3, q4⟩, hb15⟩ := h15.form
       have hq : p = q := ord_unique Sp.out.2.1 q1 fun n => ((Sp.out.2.2.2.1 n).trans ⟨fun h => h.1, fun h => ⟨h, h⟩⟩).trans (q3 n).symm
       subst hq
       have Sq := Lib.hid oq.sl
       have C15 := C14.trans hb15
       clear oq q1 q2 q3 q4
       clear h15)
    | (go_at_call 15
       have _u := hb13
       refine (meet_any _ _ a a _ (KA.out.keep C13) (KA.out.keep C13) (by have := HA.out.1; omega) (by have := HA.out.1; omega) HA.out.2 HA.out.2).mono ?_
       rintro e W14 h14
       obtain ⟨A14, c14, p, rfl, op, p1, p2, ⟨p3, p4⟩, hb14⟩ := h14.form
       have Sp := Lib.hid (And.intro op.sl (And.intro p1 (And.intro p2 (And.intro p3 p4))))
       have C14 := C13.trans hb14
       clear op p1 p2 p3 p4
       clear h14)
    | (go_at_call 19
       have _u := hb12
       refine (same_eq _ _ x _ (Sm.out) (KX.out.keep C12) (by have := GX.out.2.2.2.2; have := HA.out.1; have := HB.out.1; omega)).mono ?_
       rintro e W13 ⟨rfl, hb13⟩
       have C13 := C12.trans hb13)
    | (go_at_call 9
       have _u := hb11
       refine (join_any _ x _ (KX.out.keep C11) (by have := GX.out.2.2.2.2; have := HA.out.1; have := HB.out.1; omega) GX.out.2.2.1).mono ?_
       rintro e W12 h12
       obtain ⟨A12, c12, m, rfl, om, m1, m2, ⟨m3, m4⟩, hb12⟩ := h12.form
       have hm : x = m := ord_unique GX.out.2.1 m1 fun n => (m3 n).symm
       subst hm
       have Sm := Lib.hid om.sl
       have C12 := C11.trans hb12
       clear om m1 m2 m3 m4
       clear h12)
    | (go_at_call 19
       have _u := hb10
       refine (same_eq _ _ r _ (Sr.out.1.keep hb10) (St.out) (by have := Sr.out.2.2.2.2; rw [List.length_append] at this; have := GX.out.2.2.2.2; have := GY.out.2.2.2.2; have := HA.out.1; have := HB.out.1; omega)).mono ?_
       rintro e W11 ⟨rfl, hb11⟩
       have C11 := C10.trans hb11)
    | (go_at_call 9
       have _u := hb9
       refine (join_any _ a _ (KA.out.keep C9) (by have := HA.out.1; omega) HA.out.2).mono ?_
       rintro e W10 h10
       obtain ⟨A10, c10, t, rfl, ot, t1, t2, ⟨t3, t4⟩, hb10⟩ := h10.form
       have ht : r = t := ord_unique Sr.out.2.1 t1 fun n => ((Sr.out.2.2.2.1 n).trans (smem_parts GX.out.2.2.2.1 GY.out.2.2.2.1 n)).trans (t3 n).symm
       subst ht
       have St := Lib.hid ot.sl
       have C10 := C9.trans hb10
       clear ot t1 t2 t3 t4
       clear h10)
    | (go_at_call 9
       have _u := b8
       refine (join_any _ (x ++ y) _ S8.out (by rw [List.length_append]; have := GX.out.2.2.2.2; have := GY.out.2.2.2.2; have := HA.out.1; have := HB.out.1; omega) (fun s hs => by rcases List.mem_append.1 hs with g | g; exact GX.out.2.2.1 s g; exact GY.out.2.2.1 s g)).mono ?_
       rintro e W9 h9
       obtain ⟨A9, c9, r, rfl, or, r1, r2, ⟨r3, r4⟩, hb9⟩ := h9.form
       have Sr := Lib.hid (And.intro or.sl (And.intro r1 (And.intro r2 (And.intro r3 r4))))
       have C9 := C8.trans hb9
       clear or r1 r2 r3 r4
       clear h9)
    | (at_builtin
       have _u := b7
       refine wpList_appG (by rfl) (.tmp 29) (.tmp 30) _ rfl (app_at (w0 := W6) (xs := x) (ys := y) b7 o7 (KY.out.keep (C6.trans b7)).row.2 rfl KY.out.nilc (by have := GX.out.2.2.2.2; have := GY.out.2.2.2.2; have := HA.out.1; have := HB.out.1; omega) _) ?_
       rintro v8 w8 ⟨o8, b8, _, _⟩
       have C8 := C6.trans b8
       have S8 := Lib.hid o8.sl)
    | (at_builtin
       have _u := hb6
       refine wpList_appG (by rfl) (.tmp 27) (.tmp 28) _ rfl (app_at (w0 := W6) (xs := []) (ys := x) ((Bel.refl _).alloc _) (OwnS.made' (Bel.refl _) rfl) (KX.out.keep (C6.alloc _)).row.2 rfl KX.out.nilc (by have := GX.out.2.2.2.2; have := HA.out.1; have := HB.out.1; rw [List.length_nil]; omega) _) ?_
       rintro v7 w7 ⟨o7, b7, _, _⟩)
    | (go_at_call 15
       have _u := hb5
       refine (meet_any _ _ x y _ KX.out KY.out (by have := GX.out.2.2.2.2; have := HA.out.1; have := HB.out.1; omega) (by have := GY.out.2.2.2.2; have := HA.out.1; have := HB.out.1; omega) GX.out.2.2.1 GY.out.2.2.1).mono ?_
       rintro e W6 h6
       obtain ⟨A6, c6, z, rfl, oz, z1, z2, ⟨z3, z4⟩, hb6⟩ := h6.form
       have hz : z = [] := ord_empty z1 fun n h => ((GY.out.2.2.2.1 n).1 ((z3 n).1 h).2).2 ((GX.out.2.2.2.1 n).1 ((z3 n).1 h).1).2
       subst hz
       have C6 := hb6
       clear oz z1 z2 z3 z4
       clear h6)
    | (go_at_call 8
       have _u := hb1
       refine (FB.out _ hb1).mono ?_
       rintro e W2 ⟨v2', rfl, hv2', hb2⟩
       obtain ⟨A2, c2, rfl⟩ := hv2'.form
       have VB := Lib.hid hv2'
       clear hv2')
    | (go_at_call 8
       refine FA.out.mono ?_
       rintro e W1 ⟨v1', rfl, hv1', hb1⟩
       obtain ⟨A1, c1, rfl⟩ := hv1'.form
       have VA := Lib.hid hv1'
       clear hv1')
    | (go_at_call 10
       refine (awake_any _).mono ?_
       rintro e W5 ⟨rfl, hb5⟩
       have B5 := Lib.hid (((hb1.trans hb2).trans (hb3.trans hb4)).trans hb5)
       have KA := Lib.hid (VA.out.keep (((hb2.trans hb3).trans hb4).trans hb5))
       have KB := Lib.hid (VB.out.keep ((hb3.trans hb4).trans hb5))
       have KX := Lib.hid (GX.out.1.keep (hb4.trans hb5))
       have KY := Lib.hid (GY.out.1.keep hb5))
    | (go_at_call 16
       have _u := hb3
       refine (without_any _ _ a b _ (VA.out.keep (hb2.trans hb3)) (VB.out.keep hb3) (by have := HA.out.1; omega) (by have := HB.out.1; omega) HA.out.2 HB.out.2).mono ?_
       rintro e W4 h4
       obtain ⟨A4, c4, y, rfl, oy, y1, y2, ⟨y3, y4⟩, hb4⟩ := h4.form
       have GY := Lib.hid (And.intro oy.sl (And.intro y1 (And.intro y2 (And.intro y3 y4))))
       clear oy y1 y2 y3 y4 h4)
    | (go_at_call 15
       refine (meet_any _ _ a b _ (VA.out.keep hb2) VB.out (by have := HA.out.1; omega) (by have := HB.out.1; omega) HA.out.2 HB.out.2).mono ?_
       rintro e W3 h3
       obtain ⟨A3, c3, x, rfl, ox, x1, x2, ⟨x3, x4⟩, hb3⟩ := h3.form
       have GX := Lib.hid (And.intro ox.sl (And.intro x1 (And.intro x2 (And.intro x3 x4))))
       clear ox x1 x2 x3 x4 h3))
  go_ret
  exact ⟨rfl, B5.out.trans C20⟩
end Go.Proofs.Ytdimpjahmdoolaa
