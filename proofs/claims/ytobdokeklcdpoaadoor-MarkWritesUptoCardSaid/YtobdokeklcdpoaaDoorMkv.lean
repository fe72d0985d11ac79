import Derived.Test.YtobdokeklcdpoaaDoorMku
namespace Go.Proofs.YtobdokeklcdpoaaDoor
set_option linter.unusedSimpArgs false
set_option linter.unusedVariables false
open Go.RowKit

/-! The reader: an attribute is read. -/
section
variable {P : Program} {ops : Array Oper} {Q : Exit → Act → World → Prop} {K : Act → World → Prop} {a : Act} {w : World}
theorem wpOp_value {i : Nat} {o : Oper} {v : Value} {w' : World} (hi : ops[i]? = some o) (hw : Region.wanted o (yielded ops a.tmps) = true) (hx : (execOp a.eval o).run P w = .ok (.value v) w') (h : K (a.put o.dst v) w') : wpOp P ops Q i K a w := by
  unfold wpOp
  rw [hi]
  simp only [hw, if_true]
  left
  unfold Oper.wp
  rw [hx]
  exact h
theorem wpOp_skip {i : Nat} {o : Oper} {w' : World} (hi : ops[i]? = some o) (hw : Region.wanted o (yielded ops a.tmps) = true) (hx : (execOp a.eval o).run P w = .ok .skip w') (h : K (a.put o.dst undef) w') : wpOp P ops Q i K a w := by
  unfold wpOp
  rw [hi]
  simp only [hw, if_true]
  left
  unfold Oper.wp
  rw [hx]
  exact h
theorem wpOp_enter {i : Nat} {o : Oper} {f : FuncId} {args : Array Value} {R : Value → World → Prop} (hi : ops[i]? = some o) (hw : Region.wanted o (yielded ops a.tmps) = true) (hx : (execOp a.eval o).run P w = .ok (.enter f args) w)
    (hc : Calls P f args w fun e w' => ∃ v, e = .returned v ∧ R v w') (h : ∀ v w', R v w' → K (a.put o.dst v) w') : wpOp P ops Q i K a w := by
  unfold wpOp
  rw [hi]
  simp only [hw, if_true]
  left
  unfold Oper.wp
  rw [hx]
  show Oper.upon P o a K Q _
  refine Calls.mono hc ?_
  rintro e w' ⟨v, rfl, hR⟩
  exact h v w' hR
theorem wpOp_app {i : Nat} {o : Oper} (hi : ops[i]? = some o) (hgd : o.guard = none) (s x : Operand) (t : TypeId) (ho : o.op = .call { callee := .builtin .append, args := #[s, x], argTypes := #[t, t] }) {v' : Value} {w' : World}
    (hr : (Builtin.append_ #[t, t] o.type #[a.eval s, a.eval x]).run P w = .ok v' w') (h : K (a.put o.dst v') w') : wpOp P ops Q i K a w := by
  have hw : Region.wanted o (yielded ops a.tmps) = true := by simp [Region.wanted, hgd]
  unfold wpOp
  rw [hi]
  simp only [hw, if_true]
  left
  unfold Oper.wp execOp
  simp only [ho, resolve, invoke, builtin, Sem.run_bind, Sem.run_pure, Result.andThen_ok, List.map_toArray, List.map_cons, List.map_nil, hr]
  exact h
end
theorem far {a b : World} {B N i : Nat} {u : Value} (h : BelBut a b (some B)) (hN : N < a.heap.size) (hne : N ≠ B) (hc : a.cell? ⟨N, i, none⟩ = some u) : b.cell? ⟨N, i, none⟩ = some u :=
  (World.grownBy.cell_far h ⟨N, i, none⟩ hN (fun e => hne (by cases e; rfl))).trans hc
def AttOut (w0 : World) (B M : Nat) (s : ByteArray) (st : Nat) (v : Value) (k x : Int) (nmm : List UInt8) (q e : Int) (r : Ending) (w' : World) : Att → Prop
  | .bad dd er => r = .returned (.bool false) ∧ BelBut w0 w' (some B) ∧ ∃ p', Rec w' B s p' v ((st + dd : Nat) : Int) er
  | .ok _ acc d' => r = .returned (.bool true) ∧ BelBut w0 w' (some B) ∧ Rec w' B s (st + d') v q e ∧ ∃ va, MR w' M k x nmm va ∧ w'.ownsRow (M + 1) 48 2 va acc.length (atsCells acc)
theorem own_but {w w' : World} {B b n size : Nat} {t : TypeId} {va : Value} {xs : List Value} (O : w.ownsRow b t size va n xs) (h : BelBut w w' (some B)) (hB : B < b) : w'.ownsRow b t size va n xs :=
  O.kept h (by
    cases hv : va.ownBlock with
    | none => exact .inl rfl
    | some k =>
      right
      intro e
      cases e
      have := (World.ownsRow.lt O _ hv).1
      omega)
theorem infoAt : (Tryd.prog.info? 48).map (fun i => (i.zero, i.size, i.bytes)) = some (some (.agg #[.string ⟨#[]⟩, .string ⟨#[]⟩]), 2, 32) := by kernel_rfl
theorem infoAt' : ∃ i0, Tryd.prog.info? 48 = some i0 ∧ i0.zero = some (.agg #[.string ⟨#[]⟩, .string ⟨#[]⟩]) ∧ i0.size = 2 ∧ i0.bytes = 32 := by
  obtain ⟨i0, h1, h2⟩ := Option.map_eq_some_iff.1 infoAt
  simp only [Prod.mk.injEq] at h2
  exact ⟨i0, h1, h2.1, h2.2.1, h2.2.2⟩
/-- An attribute is put behind those that the call owns. -/
theorem app_att {w : World} {b : Nat} {va : Value} {acc : List (List UInt8 × List UInt8)} (O : w.ownsRow b 48 2 va acc.length (atsCells acc)) (hB : b ≤ w.heap.size) (hlen : acc.length ≤ 65536) (nm t : List UInt8) (ty : TypeId) :
    ∃ v' w', (Builtin.append_ #[29, 29] ty #[va, .slice (some ⟨w.heap.size, 0, none⟩) 1 1]).run Tryd.prog (w.alloc (.cells #[.string (bytesOf nm), .string (bytesOf t)] 48)) = .ok v' w' ∧
      ((∃ A c, v' = .slice A (acc.length + 1) c) ∧ w'.ownsRow b 48 2 v' (acc.length + 1) (atsCells (acc ++ [(nm, t)])) ∧ BelBut w w' va.ownBlock) := by
  obtain ⟨i0, hi, hz0, hz1, hz2⟩ := infoAt'
  have ho := own_keep O ((Bel.refl w).alloc (.cells #[.string (bytesOf nm), .string (bytesOf t)] 48))
  obtain ⟨v', w', hr, k1, k2, k3⟩ := run_app (P := Tryd.prog) _ b 29 ty 48 i0 _ 2 32 Tryd.underlying29 hi hz0 hz1 hz2 rfl (by omega) ho (m := 1) (c := 1) (news := [.string (bytesOf nm), .string (bytesOf t)]) (lit_row w [.string (bytesOf nm), .string (bytesOf t)] _) rfl (by simp) (by intro u hu; simp only [List.mem_cons, List.not_mem_nil, or_false] at hu; rcases hu with rfl | rfl <;> rfl) (by simp only [maxLen]; omega) (by omega) (by simp; omega)
  have e : atsCells (acc ++ [(nm, t)]) = atsCells acc ++ [.string (bytesOf nm), .string (bytesOf t)] := by simp [atsCells, attCells]
  obtain ⟨A, c, hv, _⟩ := own_row k1
  exact ⟨v', w', hr, ⟨A, c, hv⟩, by rw [e]; exact k1, but_trans (bel_but ((Bel.refl w).alloc _) _) k2⟩
section
variable {w w0 : World} {B M p st d : Nat} {s : ByteArray} {v va : Value} {k x q e : Int} {nmm : List UInt8} {acc : List (List UInt8 × List UInt8)}
set_option maxRecDepth 100000 in
set_option maxHeartbeats 8000000 in
theorem attr_any (F : BelBut w0 w (some B)) (hw0 : w0.heap.size ≤ M) (Rr : Rec w B s p v q e) (Mr : MR w M k x nmm va) (hx : x = (st : Nat)) (O : w.ownsRow (M + 1) 48 2 va acc.length (atsCells acc)) (hBM : B < M)
    (hm : Mx w) (hgB : 0 < B) (hp : p ≤ s.size) (hs : s.size ≤ 65536) (hac : acc.length ≤ 65536) (hd : st + d = p) :
    Calls Tryd.prog 47 #[.pointer (some ⟨B, 0, none⟩), .pointer (some ⟨M, 0, none⟩)] w fun r w' => AttOut w0 B M s st v k x nmm q e r w' (attL d (s.data.toList.drop p) acc) := by
  have NE := Lib.hid (show some B ≠ some M from fun e => by cases e; omega)
  have hmk : ∀ W, BelBut w W (some B) → Mx W := fun W hb => hm.but hb (by simp; omega)
  have hls : (s.data.toList.drop p).length = s.size - p := by rw [List.length_drop, size_list]
  have hl1 := tw_lens nmByte (s.data.toList.drop p)
  have hd3 : s.data.toList.drop (p + ((s.data.toList.drop p).takeWhile nmByte).length) = (s.data.toList.drop p).dropWhile nmByte := by rw [← List.drop_drop, drop_tw]
  have N1 := Lib.hid (name_meth Rr hp hs rfl)
  unfold attL
  generalize (s.data.toList.drop p).dropWhile nmByte = y at *
  generalize (s.data.toList.drop p).takeWhile nmByte = nm at *
  rw [hls] at hl1
  clear hls
  subst hx
  have F0 := Lib.hid F
  have MM := Lib.hid Mr
  have hB0 : B < w.heap.size := Rr.1
  have OO := Lib.hid O
  obtain ⟨Av, cv, hva, _⟩ := own_row O
  clear F Mr Rr O hm
  have RW : ∀ W, BelBut w W (some B) → Row W Av (atsCells acc) := fun W hb => by
    have := own_but OO.out hb (by omega)
    rw [hva] at this
    obtain ⟨A', c', e', hr', _⟩ := own_row this
    cases e'
    exact hr'
  by_cases hn : nmOk nm = true
  · rw [hn] at N1
    by_cases hr : [61, 34].isPrefixOf y = true
    · obtain ⟨u, rfl⟩ := (pre_iff _ _).1 hr
      rw [if_pos ⟨hn, hr⟩]
      have e4 : ([61, 34] ++ u).drop 2 = u := rfl
      rw [e4]
      have hul : ([61, 34] ++ u).length = u.length + 2 := by simp
      rw [hul] at hl1
      obtain ⟨hd4, hz4⟩ := drop_more (p := p + nm.length) (by omega) hd3
      simp only [List.length_cons, List.length_nil] at hd4 hz4
      have T1 := Lib.hid fun W (R : Rec W B s (p + nm.length) v q e) => take_yes R (by omega) hs ⟨#[61, 34]⟩ (by decide) (preB_of (a := [61, 34]) (u := u) hd3)
      have es : (⟨#[61, 34]⟩ : ByteArray).size = 2 := rfl
      rw [es] at T1
      cases hc : cutL [34] u with
      | none =>
        have U1 := Lib.hid fun W (R : Rec W B s (p + nm.length + 2) v q e) (hb : BelBut w W (some B)) => until_no R (hmk W hb) (by omega) hs ⟨#[34]⟩ (by simp) (by rw [hd4]; exact hc)
        simp only
        clear hc hmk hl1 hd3 hd4 hr hn e4 hul
        go_enter Tryd.func47, Tryd.ntmps47
        go_upto_region 2 with (go_at_call 45; refine N1.out.mono ?_; rintro r W1 ⟨rfl, R1, B1⟩)
        refine under_name (w0 := W1) (by (repeat (first | with_reducible exact Bel.refl _ | with_reducible refine Bel.setCell ?_ (by first | exact Nat.le_refl _ | (dsimp only; omega)) _ | with_reducible refine Bel.alloc ?_ _ | with_reducible refine Bel.drew ?_ | with_reducible assumption | with_reducible refine Bel.trans ?_ (by assumption)))) fun W2 hc hf hz hb => ?_
        have n0 : W2.cell? ⟨W1.heap.size, 0, none⟩ = some (.string (bytesOf nm)) := by simp [hc, go_sem]
        have z0 : W1.heap.size < W2.heap.size := by simp [hz]
        have R2 := R1.keep hb
        have B2 := but_trans B1 (bel_but hb (some B))
        have M2 := MM.out.but B2 NE.out
        have hN1 : W1.heap.size ≠ B := by have := but_size B1; omega
        have HN := Lib.hid (And.intro n0 (And.intro z0 (And.intro hN1 (but_size B1))))
        clear hc hf hz hb n0 z0 hN1
        generalize W1.heap.size = N at HN ⊢
        obtain ⟨z2, ⟨m20, m21, m22, m23, m24⟩, ⟨h20, h21, h22, h23, h24⟩⟩ := (id M2 : MR W2 M k ((st : Nat) : Int) nmm _)
        go_wp2_with (first
          | (go_at_call 43; refine (fail_any R4 _ _).mono ?_; rintro r W5 ⟨rfl, R5, B5⟩)
          | (go_at_call 42; refine (U1.out _ R3 (but_trans B2 B3)).mono ?_; rintro r W4 ⟨rfl, R4, B4⟩; have M4 := M3.but B4 NE.out; obtain ⟨z4, ⟨m40, m41, m42, m43, m44⟩, ⟨h40, h41, h42, h43, h44⟩⟩ := (id M4 : MR W4 M k ((st : Nat) : Int) nmm _); obtain ⟨r4, ⟨c40, c41, c42, c43, c44⟩, ⟨g40, g41, g42, g43, g44⟩⟩ := (id R4 : Rec W4 B s (p + nm.length + 2) v q e))
          | (go_at_call 41; refine (T1.out _ R2).mono ?_; rintro r W3 ⟨rfl, R3, B3⟩; have M3 := M2.but B3 NE.out; obtain ⟨r3, ⟨c30, c31, c32, c33, c34⟩, ⟨g30, g31, g32, g33, g34⟩⟩ := (id R3 : Rec W3 B s (p + nm.length + 2) v q e)))
        go_ret
        exact ⟨rfl, but_trans F0.out (but_trans B2 (but_trans B3 (but_trans B4 B5))), _, R5⟩
      | some z =>
        obtain ⟨b, r⟩ := z
        have hu := cutL_split (by simp) hc
        have hul2 := congrArg List.length hu
        simp only [List.length_append, List.length_cons, List.length_nil] at hul2
        have U1 := Lib.hid fun W (R : Rec W B s (p + nm.length + 2) v q e) (hb : BelBut w W (some B)) => until_yes R (hmk W hb) (by omega) hs ⟨#[34]⟩ (by simp) (by rw [hd4]; exact hc)
        have es1 : (⟨#[34]⟩ : ByteArray).size = 1 := rfl
        rw [es1] at U1
        have hbz : (bytesOf b).size = b.length := bytesOf_size b
        have UN := Lib.hid fun W => unescape_any (bytesOf b) (by rw [hbz]; omega) W
        have UE := Lib.hid (un_err (bytesOf b))
        rw [hbz] at UE
        simp only
        unfold unO
        generalize unS (bytesOf b) = un at *
        obtain ⟨t, at_, er⟩ := un
        unfold unV at UN
        simp only at UN UE ⊢
        by_cases he : er = 0
        · subst he
          rw [if_neg (by simp)]
          have e0 : ((0 : Nat) : Int) = 0 := rfl
          rw [e0] at UN
          have CA := Lib.hid fun W N Av cv (hr : Row W Av (atsCells acc)) (hN : N < W.heap.size) (hc : W.cell? ⟨N, 0, none⟩ = some (.string (bytesOf nm))) => contA_any acc nm Av cv N W hr hac hN hc
          cases hany : acc.any (fun a => a.1 == nm) with
          | true =>
            rw [if_pos rfl]
            rw [hany] at CA
            subst hva
            clear hc hmk hl1 hd3 hd4 hr hn e4 hul hu hul2 hany
            go_enter Tryd.func47, Tryd.ntmps47
            go_upto_region 2 with (go_at_call 45; refine N1.out.mono ?_; rintro r W1 ⟨rfl, R1, B1⟩)
            refine under_name (w0 := W1) (by (repeat (first | with_reducible exact Bel.refl _ | with_reducible refine Bel.setCell ?_ (by first | exact Nat.le_refl _ | (dsimp only; omega)) _ | with_reducible refine Bel.alloc ?_ _ | with_reducible refine Bel.drew ?_ | with_reducible assumption | with_reducible refine Bel.trans ?_ (by assumption)))) fun W2 hc hf hz hb => ?_
            have n0 : W2.cell? ⟨W1.heap.size, 0, none⟩ = some (.string (bytesOf nm)) := by simp [hc, go_sem]
            have z0 : W1.heap.size < W2.heap.size := by simp [hz]
            have R2 := R1.keep hb
            have B2 := but_trans B1 (bel_but hb (some B))
            have M2 := MM.out.but B2 NE.out
            have hN1 : W1.heap.size ≠ B := by have := but_size B1; omega
            have HN := Lib.hid (And.intro n0 (And.intro z0 (And.intro hN1 (but_size B1))))
            clear hc hf hz hb n0 z0 hN1
            generalize W1.heap.size = N at HN ⊢
            obtain ⟨z2, ⟨m20, m21, m22, m23, m24⟩, ⟨h20, h21, h22, h23, h24⟩⟩ := (id M2 : MR W2 M k ((st : Nat) : Int) nmm _)
            go_wp2_with (first
              | (go_at_call 43; refine (fail_any R6 _ _).mono ?_; rintro r W7 ⟨rfl, R7, B7⟩)
              | (go_at_call 59; refine (CA.out _ N _ _ (RW W5 (but_trans B2 (but_trans B3 (but_trans B4 (bel_but hb5 _))))) (Nat.lt_of_lt_of_le HN.out.2.1 (but_size (but_trans B3 (but_trans B4 (bel_but hb5 (some B)))))) (far (but_trans B3 (but_trans B4 (bel_but hb5 (some B)))) HN.out.2.1 HN.out.2.2.1 HN.out.1)).mono ?_; rintro r W6 ⟨rfl, hb6⟩; have R6 := R5.keep hb6; have M6 := M5.keep hb6; obtain ⟨z6, ⟨m60, m61, m62, m63, m64⟩, ⟨h60, h61, h62, h63, h64⟩⟩ := (id M6 : MR W6 M k ((st : Nat) : Int) nmm _))
              | (go_at_call 49; refine (UN.out _).mono ?_; rintro r W5 ⟨rfl, hb5⟩; have R5 := R4.keep hb5; have M5 := M4.keep hb5; obtain ⟨z5, ⟨m50, m51, m52, m53, m54⟩, ⟨h50, h51, h52, h53, h54⟩⟩ := (id M5 : MR W5 M k ((st : Nat) : Int) nmm _))
              | (go_at_call 42; refine (U1.out _ R3 (but_trans B2 B3)).mono ?_; rintro r W4 ⟨rfl, R4, B4⟩; have M4 := M3.but B4 NE.out)
              | (go_at_call 41; refine (T1.out _ R2).mono ?_; rintro r W3 ⟨rfl, R3, B3⟩; have M3 := M2.but B3 NE.out; obtain ⟨r3, ⟨c30, c31, c32, c33, c34⟩, ⟨g30, g31, g32, g33, g34⟩⟩ := (id R3 : Rec W3 B s (p + nm.length + 2) v q e)))
            go_ret
            exact ⟨rfl, but_trans F0.out (but_trans B2 (but_trans B3 (but_trans B4 (but_trans (bel_but (hb5.trans hb6) _) B7)))), _, R7⟩
          | false =>
            rw [if_neg (by simp)]
            rw [hany] at CA
            subst hva
            clear hc hmk hl1 hd3 hd4 hr hn e4 hul hu hul2 hany
            go_enter Tryd.func47, Tryd.ntmps47
            go_upto_region 2 with (go_at_call 45; refine N1.out.mono ?_; rintro r W1 ⟨rfl, R1, B1⟩)
            refine under_name (w0 := W1) (by (repeat (first | with_reducible exact Bel.refl _ | with_reducible refine Bel.setCell ?_ (by first | exact Nat.le_refl _ | (dsimp only; omega)) _ | with_reducible refine Bel.alloc ?_ _ | with_reducible refine Bel.drew ?_ | with_reducible assumption | with_reducible refine Bel.trans ?_ (by assumption)))) fun W2 hc hf hz hb => ?_
            have n0 : W2.cell? ⟨W1.heap.size, 0, none⟩ = some (.string (bytesOf nm)) := by simp [hc, go_sem]
            have z0 : W1.heap.size < W2.heap.size := by simp [hz]
            have R2 := R1.keep hb
            have B2 := but_trans B1 (bel_but hb (some B))
            have M2 := MM.out.but B2 NE.out
            have hN1 : W1.heap.size ≠ B := by have := but_size B1; omega
            have HN := Lib.hid (And.intro n0 (And.intro z0 (And.intro hN1 (but_size B1))))
            clear hc hf hz hb n0 z0 hN1
            generalize W1.heap.size = N at HN ⊢
            obtain ⟨z2, ⟨m20, m21, m22, m23, m24⟩, ⟨h20, h21, h22, h23, h24⟩⟩ := (id M2 : MR W2 M k ((st : Nat) : Int) nmm _)
            go_upto_region 13 with (first
              | (go_at_call 59; refine (CA.out _ N _ _ (RW W5 (but_trans B2 (but_trans B3 (but_trans B4 (bel_but hb5 _))))) (Nat.lt_of_lt_of_le HN.out.2.1 (but_size (but_trans B3 (but_trans B4 (bel_but hb5 (some B)))))) (far (but_trans B3 (but_trans B4 (bel_but hb5 (some B)))) HN.out.2.1 HN.out.2.2.1 HN.out.1)).mono ?_; rintro r W6 ⟨rfl, hb6⟩; have R6 := R5.keep hb6; have M6 := M5.keep hb6)
              | (go_at_call 49; refine (UN.out _).mono ?_; rintro r W5 ⟨rfl, hb5⟩; have R5 := R4.keep hb5; have M5 := M4.keep hb5; obtain ⟨z5, ⟨m50, m51, m52, m53, m54⟩, ⟨h50, h51, h52, h53, h54⟩⟩ := (id M5 : MR W5 M k ((st : Nat) : Int) nmm _))
              | (go_at_call 42; refine (U1.out _ R3 (but_trans B2 B3)).mono ?_; rintro r W4 ⟨rfl, R4, B4⟩; have M4 := M3.but B4 NE.out)
              | (go_at_call 41; refine (T1.out _ R2).mono ?_; rintro r W3 ⟨rfl, R3, B3⟩; have M3 := M2.but B3 NE.out; obtain ⟨r3, ⟨c30, c31, c32, c33, c34⟩, ⟨g30, g31, g32, g33, g34⟩⟩ := (id R3 : Rec W3 B s (p + nm.length + 2) v q e)))
            have q0 : W6.cell? ⟨N, 0, none⟩ = some (.string (bytesOf nm)) := (hb6.cells _ _ (Nat.lt_of_lt_of_le HN.out.2.1 (but_size (but_trans B3 (but_trans B4 (bel_but hb5 (some B))))))).trans (far (but_trans B3 (but_trans B4 (bel_but hb5 (some B)))) HN.out.2.1 HN.out.2.2.1 HN.out.1)
            have B6 : BelBut w W6 (some B) := but_trans B2 (but_trans B3 (but_trans B4 (bel_but (hb5.trans hb6) _)))
            have O6 := own_but OO.out B6 (by omega)
            have hNM : ¬ N = M := by have := HN.out.2.2.2; have := MM.out.1; omega
            have hMN : ¬ M = N := fun e => hNM e.symm
            have RB6 := Lib.hid (And.intro R6 (And.intro M6 (And.intro O6 B6)))
            have OL := Lib.hid (World.ownsRow.lt OO.out)
            obtain ⟨z6, ⟨m60, m61, m62, m63, m64⟩, ⟨h60, h61, h62, h63, h64⟩⟩ := (id M6 : MR W6 M k ((st : Nat) : Int) nmm _)
            clear m20 m21 m22 m23 m24 h20 h21 h22 h23 h24 m60 m61 m62 m64 h60 h61 h62 h64 R1 R2 R3 R4 R5 R6 M2 M3 M4 M5 M6 O6
            refine wp_region_noPanic ?_
            refine wp_region_held (S := fun X => X.cell? ⟨N, 0, none⟩ = some (.string (bytesOf nm))) (by kernel_rfl) ?_
            have hX0 : Bel W6 { W6 with drawn := W6.drawn + 1 } := (Bel.refl W6).drew
            generalize { W6 with drawn := W6.drawn + 1 } = X0 at hX0 ⊢
            have q1 : X0.cell? ⟨N, 0, none⟩ = some (.string (bytesOf nm)) := (hX0.cells _ _ (by have h1 := HN.out.2.1; have h2 := but_size (but_trans B3 (but_trans B4 (bel_but (hb5.trans hb6) (some B)))); omega)).trans q0
            have m3 : X0.cell? ⟨M, 3, none⟩ = some (.slice Av acc.length cv) := (hX0.cells _ _ z6).trans m63
            have z0 : M < X0.heap.size := Nat.lt_of_lt_of_le z6 hX0.size
            have zN : N < X0.heap.size := by have h1 := HN.out.2.1; have h2 := but_size (but_trans B3 (but_trans B4 (bel_but (hb5.trans hb6) (some B)))); have := hX0.size; omega
            clear q0 m63 h63 z6
            refine wpAnyH_take (i := 0) (oi := { dst := some 73, op := Op.move (Operand.tmp 1), type := 72, pos := "reader.go:191", after := #[], guard := none }) (v := .pointer (some ⟨M, 0, none⟩)) rfl (by kernel_rfl) (by kernel_rfl) (by kernel_rfl) (fun _ _ _ h => h) (.inl ⟨by rfl, fun X hS => by
                go_simp; first | done | with_reducible rfl | rfl⟩) q1 ?_
            (try simp only [Act.put, List.setIfInBounds_toArray, List.set_cons_zero, List.set_cons_succ])
            refine wpAnyH_take (i := 1) (oi := { dst := some 74, op := Op.move (Operand.tmp 1), type := 72, pos := "reader.go:191", after := #[], guard := none }) (v := .pointer (some ⟨M, 0, none⟩)) rfl (by kernel_rfl) (by kernel_rfl) (by kernel_rfl) (fun _ _ _ h => h) (.inl ⟨by rfl, fun X hS => by
                go_simp; first | done | with_reducible rfl | rfl⟩) q1 ?_
            (try simp only [Act.put, List.setIfInBounds_toArray, List.set_cons_zero, List.set_cons_succ])
            refine wpAnyH_take (i := 2) (oi := { dst := some 75, op := Op.nilCheck (Operand.tmp 74), type := 0, pos := "reader.go:191", after := #[{ on := 1, ground := Ground.data }], guard := none }) (v := .pointer (some ⟨M, 0, none⟩)) rfl (by kernel_rfl) (by kernel_rfl) (by kernel_rfl) (fun _ _ _ h => h) (.inl ⟨by rfl, fun X hS => by
                go_simp; first | done | with_reducible rfl | rfl⟩) q1 ?_
            (try simp only [Act.put, List.setIfInBounds_toArray, List.set_cons_zero, List.set_cons_succ])
            refine wpAnyH_take (i := 3) (oi := { dst := some 76, op := Op.fieldAddr 31 (Operand.tmp 75) 3, type := 0, pos := "reader.go:191", after := #[{ on := 2, ground := Ground.data }], guard := none }) (v := .pointer (some ⟨M, 3, none⟩)) rfl (by kernel_rfl) (by kernel_rfl) (by kernel_rfl) (fun _ _ _ h => h) (.inl ⟨by rfl, fun X hS => by
                go_simp; first | done | with_reducible rfl | rfl⟩) q1 ?_
            (try simp only [Act.put, List.setIfInBounds_toArray, List.set_cons_zero, List.set_cons_succ])
            refine wpAnyH_take (i := 5) (oi := { dst := some 78, op := Op.load 9 (Operand.tmp 5), type := 9, pos := "reader.go:191", after := #[], guard := none }) (v := .string (bytesOf nm)) rfl (by kernel_rfl) (by kernel_rfl) (by kernel_rfl) (fun _ _ _ h => h) (.inl ⟨by rfl, fun X hS => by
                go_simp; first | done | with_reducible rfl | rfl⟩) q1 ?_
            (try simp only [Act.put, List.setIfInBounds_toArray, List.set_cons_zero, List.set_cons_succ])
            refine wpAnyH_take (i := 6) (oi := { dst := some 79, op := Op.move (Operand.tmp 9), type := 9, pos := "reader.go:191", after := #[], guard := none }) (v := .string (bytesOf t)) rfl (by kernel_rfl) (by kernel_rfl) (by kernel_rfl) (fun _ _ _ h => h) (.inl ⟨by rfl, fun X hS => by
                go_simp; first | done | with_reducible rfl | rfl⟩) q1 ?_
            (try simp only [Act.put, List.setIfInBounds_toArray, List.set_cons_zero, List.set_cons_succ])
            refine wpAnyH_take (i := 7) (oi := { dst := some 80, op := Op.build 48 #[(0, Operand.tmp 78), (1, Operand.tmp 79)], type := 48, pos := "reader.go:191", after := #[{ on := 5, ground := Ground.data }, { on := 6, ground := Ground.data }], guard := none }) (v := .agg #[.string (bytesOf nm), .string (bytesOf t)]) rfl (by kernel_rfl) (by kernel_rfl) (by kernel_rfl) (fun _ _ _ h => h) (.inl ⟨by rfl, fun X hS => by
                go_simp; first | done | with_reducible rfl | rfl⟩) q1 ?_
            (try simp only [Act.put, List.setIfInBounds_toArray, List.set_cons_zero, List.set_cons_succ])
            have q2 : World.cell? (X0.alloc (.cells #[.string (bytesOf nm), .string (bytesOf t)] 48)) ⟨N, 0, none⟩ = some (.string (bytesOf nm)) := by simp [go_sem, q1, zN]
            refine wpAnyH_all (rs := [4, 8]) (by kernel_rfl) (by simp) ?_
            intro i hi
            simp only [List.mem_cons, List.not_mem_nil, or_false] at hi
            rcases hi with rfl | rfl
            case' inl =>
              refine wpOp_value (o := { dst := some 77, op := Op.load 29 (Operand.tmp 76), type := 29, pos := "reader.go:191", after := #[{ on := 3, ground := Ground.data }], guard := none }) (v := .slice Av acc.length cv) (w' := X0) rfl (by rfl) (by go_simp; first | done | with_reducible rfl | rfl) ?_
              refine ⟨q1, ?_⟩
              (try simp only [Act.put, List.setIfInBounds_toArray, List.set_cons_zero, List.set_cons_succ])
              refine wpAnyH_all (rs := [8]) (by kernel_rfl) (by simp) ?_
              intro i hi
              simp only [List.mem_cons, List.not_mem_nil, or_false] at hi
              subst hi
              refine wpOp_value (o := { dst := some 81, op := Op.buildSlice 29 1 #[(0, Operand.tmp 80)], type := 29, pos := "reader.go:191", after := #[{ on := 7, ground := Ground.data }], guard := none }) (v := .slice (some ⟨X0.heap.size, 0, none⟩) 1 1) (w' := (X0.alloc (.cells #[.string (bytesOf nm), .string (bytesOf t)] 48))) rfl (by rfl) (by go_simp; first | done | with_reducible rfl | rfl) ?_
              refine ⟨q2, ?_⟩
              (try simp only [Act.put, List.setIfInBounds_toArray, List.set_cons_zero, List.set_cons_succ])
            case' inr =>
              refine wpOp_value (o := { dst := some 81, op := Op.buildSlice 29 1 #[(0, Operand.tmp 80)], type := 29, pos := "reader.go:191", after := #[{ on := 7, ground := Ground.data }], guard := none }) (v := .slice (some ⟨X0.heap.size, 0, none⟩) 1 1) (w' := (X0.alloc (.cells #[.string (bytesOf nm), .string (bytesOf t)] 48))) rfl (by rfl) (by go_simp; first | done | with_reducible rfl | rfl) ?_
              refine ⟨q2, ?_⟩
              (try simp only [Act.put, List.setIfInBounds_toArray, List.set_cons_zero, List.set_cons_succ])
              refine wpAnyH_all (rs := [4]) (by kernel_rfl) (by simp) ?_
              intro i hi
              simp only [List.mem_cons, List.not_mem_nil, or_false] at hi
              subst hi
              refine wpOp_value (o := { dst := some 77, op := Op.load 29 (Operand.tmp 76), type := 29, pos := "reader.go:191", after := #[{ on := 3, ground := Ground.data }], guard := none }) (v := .slice Av acc.length cv) (w' := (X0.alloc (.cells #[.string (bytesOf nm), .string (bytesOf t)] 48))) rfl (by rfl) (by go_simp; first | done | with_reducible rfl | rfl) ?_
              refine ⟨q2, ?_⟩
              (try simp only [Act.put, List.setIfInBounds_toArray, List.set_cons_zero, List.set_cons_succ])
            all_goals
              refine wpAnyH_all (rs := [9]) (by kernel_rfl) (by simp) ?_
              intro i hi
              simp only [List.mem_cons, List.not_mem_nil, or_false] at hi
              subst hi
              obtain ⟨v', X1, hr, ⟨A1, c1, rfl⟩, O1, B1'⟩ := app_att (own_keep RB6.out.2.2.1 hX0) (by have := z0; omega) hac nm t 29
              have o1 : ∀ k, (Value.slice Av acc.length cv).ownBlock = some k → M + 1 ≤ k ∧ k < w.heap.size := OL.out
              have nN : (Value.slice Av acc.length cv).ownBlock ≠ some N := fun e => by have := (o1 _ e).2; have := HN.out.2.2.2; omega
              have nM : (Value.slice Av acc.length cv).ownBlock ≠ some M := fun e => by have := (o1 _ e).1; omega
              have nB : (Value.slice Av acc.length cv).ownBlock ≠ some B := fun e => by have := (o1 _ e).1; omega
              refine wpOp_app (o := { dst := some 82, op := Op.call { callee := Callee.builtin Builtin.append, args := #[Operand.tmp 77, Operand.tmp 81], argTypes := #[29, 29] }, type := 29, pos := "reader.go:191", after := #[{ on := 4, ground := Ground.data }, { on := 8, ground := Ground.data }], guard := none }) rfl rfl (.tmp 77) (.tmp 81) 29 rfl hr ?_
              have q3 : X1.cell? ⟨N, 0, none⟩ = some (.string (bytesOf nm)) := (World.grownBy.cell_far B1' ⟨N, 0, none⟩ zN (fun e => nN e.symm)).trans q1
              have M7 := (RB6.out.2.1.keep hX0).but B1' nM
              have R7 := Lib.hid ((RB6.out.1.keep hX0).but B1' nB)
              obtain ⟨z7, ⟨m70, m71, m72, m73, m74⟩, ⟨h70, h71, h72, h73, h74⟩⟩ := (id M7 : MR X1 M k ((st : Nat) : Int) nmm _)
              have M8 := Lib.hid M7
              clear m70 m71 m72 m74 h70 h71 h72 h74 M7 hr m3
              refine ⟨q3, ?_⟩
              (try simp only [Act.put, List.setIfInBounds_toArray, List.set_cons_zero, List.set_cons_succ])
              refine wpAnyH_take (i := 10) (oi := { dst := some 83, op := Op.nilCheck (Operand.tmp 73), type := 0, pos := "reader.go:191", after := #[{ on := 0, ground := Ground.data }, { on := 0, ground := Ground.phase }, { on := 1, ground := Ground.phase }, { on := 2, ground := Ground.phase }, { on := 3, ground := Ground.phase }, { on := 4, ground := Ground.phase }, { on := 5, ground := Ground.phase }, { on := 6, ground := Ground.phase }, { on := 7, ground := Ground.phase }, { on := 8, ground := Ground.phase }, { on := 9, ground := Ground.phase }], guard := none }) (v := .pointer (some ⟨M, 0, none⟩)) rfl (by kernel_rfl) (by kernel_rfl) (by kernel_rfl) (fun _ _ _ h => h) (.inl ⟨by rfl, fun X hS => by
                  go_simp; first | done | with_reducible rfl | rfl⟩) q3 ?_
              (try simp only [Act.put, List.setIfInBounds_toArray, List.set_cons_zero, List.set_cons_succ])
              refine wpAnyH_take (i := 11) (oi := { dst := some 84, op := Op.fieldAddr 31 (Operand.tmp 83) 3, type := 0, pos := "reader.go:191", after := #[{ on := 10, ground := Ground.data }, { on := 0, ground := Ground.phase }, { on := 1, ground := Ground.phase }, { on := 2, ground := Ground.phase }, { on := 3, ground := Ground.phase }, { on := 4, ground := Ground.phase }, { on := 5, ground := Ground.phase }, { on := 6, ground := Ground.phase }, { on := 7, ground := Ground.phase }, { on := 8, ground := Ground.phase }, { on := 9, ground := Ground.phase }], guard := none }) (v := .pointer (some ⟨M, 3, none⟩)) rfl (by kernel_rfl) (by kernel_rfl) (by kernel_rfl) (fun _ _ _ h => h) (.inl ⟨by rfl, fun X hS => by
                  go_simp; first | done | with_reducible rfl | rfl⟩) q3 ?_
              (try simp only [Act.put, List.setIfInBounds_toArray, List.set_cons_zero, List.set_cons_succ])
              refine wpAnyH_all (rs := [12]) (by kernel_rfl) (by simp) ?_
              intro i hi
              simp only [List.mem_cons, List.not_mem_nil, or_false] at hi
              subst hi
              refine wpOp_skip (o := { dst := none, op := Op.store 29 (Operand.tmp 84) (Operand.tmp 82), type := 0, pos := "reader.go:191", after := #[{ on := 11, ground := Ground.data }, { on := 9, ground := Ground.data }, { on := 9, ground := Ground.chain }, { on := 0, ground := Ground.phase }, { on := 1, ground := Ground.phase }, { on := 2, ground := Ground.phase }, { on := 3, ground := Ground.phase }, { on := 4, ground := Ground.phase }, { on := 5, ground := Ground.phase }, { on := 6, ground := Ground.phase }, { on := 7, ground := Ground.phase }, { on := 8, ground := Ground.phase }, { on := 9, ground := Ground.phase }], guard := none }) (w' := (X1.setCell ⟨M, 3, none⟩ (.slice A1 (acc.length + 1) c1))) rfl (by rfl) (by go_simp; first | done | with_reducible rfl | rfl) ?_
              refine ⟨by simp [go_sem, q3, hNM, hMN], ?_⟩
              (try simp only [Act.put, List.setIfInBounds_toArray, List.set_cons_zero, List.set_cons_succ])
              refine wpAnyH_done (by kernel_rfl) ?_ _
              refine NoPanic.normal ?_
              have FIN : BelBut w0 (X1.setCell ⟨M, 3, none⟩ (.slice A1 (acc.length + 1) c1)) (some B) ∧ Rec (X1.setCell ⟨M, 3, none⟩ (.slice A1 (acc.length + 1) c1)) B s (p + nm.length + 2 + (b.length + 1)) v q e ∧ MR (X1.setCell ⟨M, 3, none⟩ (.slice A1 (acc.length + 1) c1)) M k ((st : Nat) : Int) nmm (.slice A1 (acc.length + 1) c1) ∧ (X1.setCell ⟨M, 3, none⟩ (.slice A1 (acc.length + 1) c1)).ownsRow (M + 1) 48 2 (.slice A1 (acc.length + 1) c1) (acc.length + 1) (atsCells (acc ++ [(nm, t)])) := by
                refine ⟨?_, R7.out.but (but_set _ _ _ _) (fun e => by cases e; omega), M8.out.set3 _, own_but O1 (but_set _ _ _ _) (Nat.lt_succ_self M)⟩
                refine World.grownBy.andThen (row' := some M) (World.grownBy.andThen (row' := (Value.slice Av acc.length cv).ownBlock) (but_trans F0.out (but_trans RB6.out.2.2.2 (bel_but hX0 _))) B1' ?_) (but_set _ _ _ _) ?_
                · intro j hj; left; have := (o1 _ hj).1; omega
                · intro j hj; left; cases hj; exact hw0
              have FINH := Lib.hid FIN
              generalize (X1.setCell ⟨M, 3, none⟩ (.slice A1 (acc.length + 1) c1)) = X2 at FINH ⊢
              clear FIN
              go_wp2_with fail
              go_ret
              refine ⟨rfl, FINH.out.1, ?_, _, FINH.out.2.2.1, by rw [List.length_append]; exact FINH.out.2.2.2⟩
              rw [show st + (d + nm.length + 2 + b.length + 1) = p + nm.length + 2 + (b.length + 1) by omega]
              exact FINH.out.2.1
        · have UE := UE.out.resolve_left he
          rw [if_pos he]
          have hx : ∀ n : Nat, er = n → n ≠ 0 → Calls Tryd.prog 47 #[.pointer (some ⟨B, 0, none⟩), .pointer (some ⟨M, 0, none⟩)] w fun r w' => r = .returned (.bool false) ∧ BelBut w0 w' (some B) ∧ ∃ p', Rec w' B s p' v ((st + (d + nm.length + 2 + at_) : Nat) : Int) n := by
            intro n hk h0
            subst hk
            have hat := UE.2.1
            have w2 : IntKind.i64.wrap (((p + nm.length + 2 : Nat) : Int) + (at_ : Int)) = ((st + (d + nm.length + 2 + at_) : Nat) : Int) := by rw [IntKind.wrap_i64]; omega
            have en : (((er : Nat) : Int) != 0) = true := by rw [bne_iff_ne]; omega
            have en2 : (((er : Nat) : Int) == 0) = false := by rw [beq_eq_false_iff_ne]; omega
            have ep : ((p + nm.length + 2 : Nat) : Int) = (p : Int) + (nm.length : Int) + 2 := by omega
            rw [ep] at w2
            clear he UE hat h0 hc hmk hl1 hd3 hd4 hr hn e4 hul hu hul2 ep
            go_enter Tryd.func47, Tryd.ntmps47
            go_upto_region 2 with (go_at_call 45; refine N1.out.mono ?_; rintro r W1 ⟨rfl, R1, B1⟩)
            refine under_name (w0 := W1) (by (repeat (first | with_reducible exact Bel.refl _ | with_reducible refine Bel.setCell ?_ (by first | exact Nat.le_refl _ | (dsimp only; omega)) _ | with_reducible refine Bel.alloc ?_ _ | with_reducible refine Bel.drew ?_ | with_reducible assumption | with_reducible refine Bel.trans ?_ (by assumption)))) fun W2 hc hf hz hb => ?_
            have n0 : W2.cell? ⟨W1.heap.size, 0, none⟩ = some (.string (bytesOf nm)) := by simp [hc, go_sem]
            have z0 : W1.heap.size < W2.heap.size := by simp [hz]
            have R2 := R1.keep hb
            have B2 := but_trans B1 (bel_but hb (some B))
            have M2 := MM.out.but B2 NE.out
            have hN1 : W1.heap.size ≠ B := by have := but_size B1; omega
            have HN := Lib.hid (And.intro n0 (And.intro z0 (And.intro hN1 (but_size B1))))
            clear hc hf hz hb n0 z0 hN1
            generalize W1.heap.size = N at HN ⊢
            obtain ⟨z2, ⟨m20, m21, m22, m23, m24⟩, ⟨h20, h21, h22, h23, h24⟩⟩ := (id M2 : MR W2 M k ((st : Nat) : Int) nmm _)
            go_wp2_with (first
              | (go_at_call 43; refine (fail_any R5 _ _).mono ?_; rintro r W7 ⟨rfl, R7, B7⟩)
              | (go_at_call 49; refine (UN.out _).mono ?_; rintro r W5 ⟨rfl, hb5⟩; have R5 := R4.keep hb5)
              | (go_at_call 42; refine (U1.out _ R3 (but_trans B2 B3)).mono ?_; rintro r W4 ⟨rfl, R4, B4⟩)
              | (go_at_call 41; refine (T1.out _ R2).mono ?_; rintro r W3 ⟨rfl, R3, B3⟩; have M3 := M2.but B3 NE.out; obtain ⟨r3, ⟨c30, c31, c32, c33, c34⟩, ⟨g30, g31, g32, g33, g34⟩⟩ := (id R3 : Rec W3 B s (p + nm.length + 2) v q e)))
            go_ret
            exact ⟨rfl, but_trans F0.out (but_trans B2 (but_trans B3 (but_trans B4 (but_trans (bel_but hb5 _) B7)))), _, R7⟩
          exact hx er rfl he
    · rw [if_neg (fun h => hr h.2)]
      have T1 := Lib.hid fun W (R : Rec W B s (p + nm.length) v q e) => take_no R (by omega) hs ⟨#[61, 34]⟩ (by
        unfold preB
        rw [hd3]
        exact Bool.eq_false_iff.2 hr)
      clear hmk hl1 hd3 hr hn
      go_enter Tryd.func47, Tryd.ntmps47
      go_upto_region 2 with (go_at_call 45; refine N1.out.mono ?_; rintro r W1 ⟨rfl, R1, B1⟩)
      refine under_name (w0 := W1) (by (repeat (first | with_reducible exact Bel.refl _ | with_reducible refine Bel.setCell ?_ (by first | exact Nat.le_refl _ | (dsimp only; omega)) _ | with_reducible refine Bel.alloc ?_ _ | with_reducible refine Bel.drew ?_ | with_reducible assumption | with_reducible refine Bel.trans ?_ (by assumption)))) fun W2 hc hf hz hb => ?_
      have n0 : W2.cell? ⟨W1.heap.size, 0, none⟩ = some (.string (bytesOf nm)) := by simp [hc, go_sem]
      have z0 : W1.heap.size < W2.heap.size := by simp [hz]
      have R2 := R1.keep hb
      have B2 := but_trans B1 (bel_but hb (some B))
      have M2 := MM.out.but B2 NE.out
      have hN1 : W1.heap.size ≠ B := by have := but_size B1; omega
      have HN := Lib.hid (And.intro n0 (And.intro z0 (And.intro hN1 (but_size B1))))
      clear hc hf hz hb n0 z0 hN1
      generalize W1.heap.size = N at HN ⊢
      obtain ⟨z2, ⟨m20, m21, m22, m23, m24⟩, ⟨h20, h21, h22, h23, h24⟩⟩ := (id M2 : MR W2 M k ((st : Nat) : Int) nmm _)
      go_wp2_with (first
        | (go_at_call 43; refine (fail_any R3 _ _).mono ?_; rintro r W5 ⟨rfl, R5, B5⟩)
        | (go_at_call 41; refine (T1.out _ R2).mono ?_; rintro r W3 ⟨rfl, R3, B3⟩; have M3 := M2.but B3 NE.out; obtain ⟨z3, ⟨m30, m31, m32, m33, m34⟩, ⟨h30, h31, h32, h33, h34⟩⟩ := (id M3 : MR W3 M k ((st : Nat) : Int) nmm _)))
      go_ret
      exact ⟨rfl, but_trans F0.out (but_trans B2 (but_trans B3 B5)), _, R5⟩
  · rw [if_neg (fun h => hn h.1)]
    rw [Bool.eq_false_iff.2 hn] at N1
    clear hmk hl1 hd3 hn
    go_enter Tryd.func47, Tryd.ntmps47
    go_upto_region 2 with (go_at_call 45; refine N1.out.mono ?_; rintro r W1 ⟨rfl, R1, B1⟩)
    refine under_name (w0 := W1) (by (repeat (first | with_reducible exact Bel.refl _ | with_reducible refine Bel.setCell ?_ (by first | exact Nat.le_refl _ | (dsimp only; omega)) _ | with_reducible refine Bel.alloc ?_ _ | with_reducible refine Bel.drew ?_ | with_reducible assumption | with_reducible refine Bel.trans ?_ (by assumption)))) fun W2 hc hf hz hb => ?_
    have n0 : W2.cell? ⟨W1.heap.size, 0, none⟩ = some (.string (bytesOf nm)) := by simp [hc, go_sem]
    have z0 : W1.heap.size < W2.heap.size := by simp [hz]
    have R2 := R1.keep hb
    have B2 := but_trans B1 (bel_but hb (some B))
    have M2 := MM.out.but B2 NE.out
    have hN1 : W1.heap.size ≠ B := by have := but_size B1; omega
    have HN := Lib.hid (And.intro n0 (And.intro z0 (And.intro hN1 (but_size B1))))
    clear hc hf hz hb n0 z0 hN1
    generalize W1.heap.size = N at HN ⊢
    obtain ⟨z2, ⟨m20, m21, m22, m23, m24⟩, ⟨h20, h21, h22, h23, h24⟩⟩ := (id M2 : MR W2 M k ((st : Nat) : Int) nmm _)
    go_wp2_with (first
        | (go_at_call 43; refine (fail_any R2 _ _).mono ?_; rintro r W5 ⟨rfl, R5, B5⟩))
    go_ret
    exact ⟨rfl, but_trans F0.out (but_trans B2 B5), _, R5⟩
end
end Go.Proofs.YtobdokeklcdpoaaDoor
