import Derived.Test.YtopgahnconbpmaaMtl
namespace Go.Proofs.Ytopgahnconbpmaa
set_option linter.unusedSimpArgs false
set_option linter.unusedVariables false
open Go.RowKit Go.Lib
attribute [local go_sem ↓] eql_val neq_val eql_tst neq_tst

/-! The laws of match: Turned, Between. -/
theorem usnd_turn {not : Bool} {l : List Tst} : usnd false (!not) l = usnd false not l := rfl
theorem mall_turn {not : Bool} {l : List Tst} {v : Val} : mall false (!not) l v = !mall false not l v := by
  simp only [mall, Bool.false_eq_true, if_false]
  generalize (l.any fun t => mone t v) = q
  cases not <;> cases q <;> rfl
theorem usnd_both {not : Bool} {l : List Tst} : ¬ (usnd true not l = true ∧ usnd true (!not) l = true) := by
  cases not <;> simp [usnd]
def cutT (k : Int) (u : Val) : Tst := ⟨k, u, zv, false, false⟩
theorem cut_snd {k : Int} {u : Val} (h : 2 ≤ k ∧ k ≤ 5) : tsnd (cutT k u) = (vsnd u && ordk u.kind) := by
  obtain ⟨h1, h2⟩ := h
  unfold tsnd cutT
  rw [if_neg (show ¬ k = 1 by omega), if_pos (show k = 2 ∨ k = 3 ∨ k = 4 ∨ k = 5 by omega)]
  simp [teq]
theorem cut_ok {k : Int} {u : Val} (h : u.text.size ≤ 9223372036854775807) : TOk (cutT k u) := ⟨h, Nat.zero_le _⟩
theorem cut_none {k : Int} {u v : Val} (h : v.kind ≠ u.kind) : mone (cutT k u) v = false := by
  unfold mone cutT
  rw [if_pos h]
theorem cut_2 {u v : Val} (h : v.kind = u.kind) : mone (cutT 2 u) v = decide (vcmp v u < 0) := by
  show (if v.kind ≠ u.kind then false else _) = _
  rw [if_neg (fun x => x h)]
  rfl
theorem cut_3 {u v : Val} (h : v.kind = u.kind) : mone (cutT 3 u) v = decide (vcmp v u ≤ 0) := by
  show (if v.kind ≠ u.kind then false else _) = _
  rw [if_neg (fun x => x h)]
  rfl
theorem cut_4 {u v : Val} (h : v.kind = u.kind) : mone (cutT 4 u) v = decide (0 < vcmp v u) := by
  show (if v.kind ≠ u.kind then false else _) = _
  rw [if_neg (fun x => x h)]
  rfl
theorem cut_5 {u v : Val} (h : v.kind = u.kind) : mone (cutT 5 u) v = decide (0 ≤ vcmp v u) := by
  show (if v.kind ≠ u.kind then false else _) = _
  rw [if_neg (fun x => x h)]
  rfl
theorem set_other (w : World) (b o b' o' : Nat) (v : Value) (h : b ≠ b' ∨ o ≠ o') : (w.setCell ⟨b, o, none⟩ v).cell? ⟨b', o', none⟩ = w.cell? ⟨b', o', none⟩ :=
  World.cell?_setCell_other w _ _ v (by intro e; cases e; simp at h)
def ifV (q b : Bool) : Value := if q = true then .tuple #[.bool b, .int .i64 0] else .tuple #[.bool false, .int .i64 2]
theorem oneV_if (t : Tst) (v : Val) : oneV t v = ifV (tsnd t && vsnd v) (mone t v) := by
  unfold oneV ifV
  simp only [Bool.and_eq_true]
theorem mallV_if (a n : Bool) (l : List Tst) (v : Val) : mallV a n l v = ifV (usnd a n l && vsnd v) (mall a n l v) := by
  unfold mallV ifV
  simp only [Bool.and_eq_true]
theorem ifV_t (b : Bool) : ifV true b = .tuple #[.bool b, .int .i64 0] := rfl
theorem ifV_f (b : Bool) : ifV false b = .tuple #[.bool false, .int .i64 2] := rfl
/-- What the law asks of the four answers. -/
structure Turn (any K P1 P2 A1 A2 G m2 m5 : Bool) : Prop where
  same : any = false → P1 = P2 ∧ A2 = !A1
  both : any = true → ¬ (P1 = true ∧ P2 = true)
  kind : G = true → if K then m5 = !m2 else m2 = false ∧ m5 = false
set_option maxRecDepth 100000 in
set_option maxHeartbeats 16000000 in
theorem turned_walk (any not : Bool) (sl : Value) (v u : Val) (P1 P2 A1 A2 G m2 m5 K : Bool) (hK : (v.kind == u.kind) = K) (hT : Turn any K P1 P2 A1 A2 G m2 m5) (w : World)
    (C1 : ∀ W, Bel w W → Calls Try.prog 12 #[.agg #[.bool any, .bool not, sl], v.val] W fun e w' => e = .returned (ifV P1 A1) ∧ Bel W w')
    (C2 : ∀ W, Bel w W → Calls Try.prog 12 #[.agg #[.bool any, .bool (!not), sl], v.val] W fun e w' => e = .returned (ifV P2 A2) ∧ Bel W w')
    (C3 : ∀ W, Calls Try.prog 8 #[(cutT 2 u).val, v.val] W fun e w' => e = .returned (ifV G m2) ∧ Bel W w')
    (C4 : ∀ W, Calls Try.prog 8 #[(cutT 5 u).val, v.val] W fun e w' => e = .returned (ifV G m5) ∧ Bel W w') :
    Calls Try.prog 6 #[.agg #[.bool any, .bool not, sl], v.val, u.val] w fun e w' => e = .returned (.bool true) ∧ Bel w w' := by
  have C5 := Lib.hid fun W => awake_any W
  obtain ⟨v0, v1, v2, v3, v4⟩ := v
  obtain ⟨u0, u1, u2, u3, u4⟩ := u
  simp only [cutT, zv] at C1 C2 C3 C4 hK
  have key : (any = false ∧ ((P1 = true ∧ P2 = true ∧ A2 = !A1) ∨ (P1 = false ∧ P2 = false))) ∨ (any = true ∧ ((P1 = true ∧ P2 = false) ∨ P1 = false)) := by
    have h1 := hT.same
    have h2 := hT.both
    cases any
    · obtain ⟨rfl, rfl⟩ := h1 rfl
      cases P1 <;> simp
    · have := h2 rfl
      cases P1 <;> cases P2 <;> simp_all
  have key2 : (G = true ∧ ((K = true ∧ m5 = !m2) ∨ (K = false ∧ m2 = false ∧ m5 = false))) ∨ G = false := by
    have h := hT.kind
    cases G
    · exact .inr rfl
    · have := h rfl
      cases K <;> simp_all
  clear hT
  rcases key with ⟨rfl, (⟨rfl, rfl, rfl⟩ | ⟨rfl, rfl⟩)⟩ | ⟨rfl, (⟨rfl, rfl⟩ | rfl)⟩
  · rcases key2 with ⟨rfl, (⟨rfl, rfl⟩ | ⟨rfl, rfl, rfl⟩)⟩ | rfl
    · cases A1 <;> cases m2
      all_goals
        simp only [ifV_t, ifV_f, Bool.not_true, Bool.not_false] at C1 C2 C3 C4
        replace C1 := Lib.hid C1
        replace C2 := Lib.hid C2
        replace C3 := Lib.hid C3
        replace C4 := Lib.hid C4
        go_enter Try.func6, Try.ntmps6
        go_upto_region 3 with (go_at_call 12; with_reducible refine Calls.mono (C1.out _ ((((Bel.refl w).alloc _).alloc _).alloc _)) ?_; rintro e W1 ⟨rfl, hb1⟩; have hc1 := hb1.cells; have hf1 := hb1.frozens; have hz1 := hb1.lt3; have qn : W1.cell? ⟨w.heap.size, 1, none⟩ = some (.bool not) := (hc1 _ _ (by simp <;> omega)).trans (by simp [go_sem]); replace hb1 := ((((Bel.refl w).alloc _).alloc _).alloc _).trans hb1)
        refine under_name (hb1.setCell (p := ⟨w.heap.size, 1, none⟩) (Nat.le_refl _) _) fun W hc hf hz hbW => ?_
        have n0 : W.cell? ⟨w.heap.size, 0, none⟩ = some (.bool false) := (hc _).trans ((set_other _ _ 1 _ 0 _ (.inr (by omega))).trans ((hc1 _ _ (by simp <;> omega)).trans (by simp [go_sem])))
        have n1 : W.cell? ⟨w.heap.size, 1, none⟩ = some (.bool (!not)) := (hc _).trans (World.cell?_setCell_same' W1 _ _ (by rw [qn]; rfl))
        have n2 : W.cell? ⟨w.heap.size, 2, none⟩ = some sl := (hc _).trans ((set_other _ _ 1 _ 2 _ (.inr (by omega))).trans ((hc1 _ _ (by simp <;> omega)).trans (by simp [go_sem])))
        have nv : ∀ o, W.cell? ⟨w.heap.size + 1, o, none⟩ = W1.cell? ⟨w.heap.size + 1, o, none⟩ := fun o => (hc _).trans (set_other _ _ 1 _ o _ (.inl (by omega)))
        have nu : ∀ o, W.cell? ⟨w.heap.size + 2, o, none⟩ = W1.cell? ⟨w.heap.size + 2, o, none⟩ := fun o => (hc _).trans (set_other _ _ 1 _ o _ (.inl (by omega)))
        have n3 : ValAt W (w.heap.size + 1) 0 ⟨v0, v1, v2, v3, v4⟩ := by simp only [ValAt, nv]; refine ⟨?_, ?_, ?_, ?_, ?_⟩ <;> (rw [hc1 _ _ (by simp <;> omega)]; simp [go_sem])
        have n4 : ValAt W (w.heap.size + 2) 0 ⟨u0, u1, u2, u3, u4⟩ := by simp only [ValAt, nu]; refine ⟨?_, ?_, ?_, ?_, ?_⟩ <;> (rw [hc1 _ _ (by simp <;> omega)]; simp [go_sem])
        have hs0 : W.heap.size = W1.heap.size := by rw [hz]; simp [World.setCell]
        have z0 : w.heap.size < W.heap.size := by rw [hs0]; exact hz1.1
        have z1 : w.heap.size + 1 < W.heap.size := by rw [hs0]; exact hz1.2.1
        have z2 : w.heap.size + 2 < W.heap.size := by rw [hs0]; exact hz1.2.2
        obtain ⟨n30, n31, n32, n33, n34⟩ := n3
        obtain ⟨n40, n41, n42, n43, n44⟩ := n4
        simp only [Nat.zero_add] at n30 n31 n32 n33 n34 n40 n41 n42 n43 n44
        clear hc hf hz hc1 hf1 hz1 qn hb1 nv nu hs0
        go_wp2_with (first
          | (go_at_call 12; with_reducible refine Calls.mono (C2.out _ hbW) ?_; rintro e W2 ⟨rfl, hb2⟩; have hc2 := hb2.cells; have hs2 := hb2.size; have hz2 := Nat.lt_of_lt_of_le z0 hs2; have hz3 := Nat.lt_of_lt_of_le z1 hs2; have hz4 := Nat.lt_of_lt_of_le z2 hs2)
          | (go_at_call 10; with_reducible refine Calls.mono (C5.out _) ?_; rintro e W3 ⟨rfl, hb3⟩; have hc3 := hb3.cells; have hs3 := hb3.size; have hz5 := Nat.lt_of_lt_of_le hz2 hs3; have hz6 := Nat.lt_of_lt_of_le hz3 hs3; have hz7 := Nat.lt_of_lt_of_le hz4 hs3)
          | (go_at_call 8; with_reducible refine Calls.mono (C3.out _) ?_; rintro e W4 ⟨rfl, hb4⟩; have hc4 := hb4.cells; have hs4 := hb4.size; have hz8 := Nat.lt_of_lt_of_le hz5 hs4; have hz9 := Nat.lt_of_lt_of_le hz6 hs4; have hz10 := Nat.lt_of_lt_of_le hz7 hs4)
          | (go_at_call 8; with_reducible refine Calls.mono (C4.out _) ?_; rintro e W5 ⟨rfl, hb5⟩; have hc5 := hb5.cells; have hs5 := hb5.size; have hz11 := Nat.lt_of_lt_of_le hz8 hs5; have hz12 := Nat.lt_of_lt_of_le hz9 hs5; have hz13 := Nat.lt_of_lt_of_le hz10 hs5))
        go_ret
        exact ⟨by simp, (((hbW.trans hb2).trans hb3).trans hb4).trans hb5⟩
    · cases A1
      all_goals
        simp only [ifV_t, ifV_f, Bool.not_true, Bool.not_false] at C1 C2 C3 C4
        replace C1 := Lib.hid C1
        replace C2 := Lib.hid C2
        replace C3 := Lib.hid C3
        replace C4 := Lib.hid C4
        go_enter Try.func6, Try.ntmps6
        go_upto_region 3 with (go_at_call 12; with_reducible refine Calls.mono (C1.out _ ((((Bel.refl w).alloc _).alloc _).alloc _)) ?_; rintro e W1 ⟨rfl, hb1⟩; have hc1 := hb1.cells; have hf1 := hb1.frozens; have hz1 := hb1.lt3; have qn : W1.cell? ⟨w.heap.size, 1, none⟩ = some (.bool not) := (hc1 _ _ (by simp <;> omega)).trans (by simp [go_sem]); replace hb1 := ((((Bel.refl w).alloc _).alloc _).alloc _).trans hb1)
        refine under_name (hb1.setCell (p := ⟨w.heap.size, 1, none⟩) (Nat.le_refl _) _) fun W hc hf hz hbW => ?_
        have n0 : W.cell? ⟨w.heap.size, 0, none⟩ = some (.bool false) := (hc _).trans ((set_other _ _ 1 _ 0 _ (.inr (by omega))).trans ((hc1 _ _ (by simp <;> omega)).trans (by simp [go_sem])))
        have n1 : W.cell? ⟨w.heap.size, 1, none⟩ = some (.bool (!not)) := (hc _).trans (World.cell?_setCell_same' W1 _ _ (by rw [qn]; rfl))
        have n2 : W.cell? ⟨w.heap.size, 2, none⟩ = some sl := (hc _).trans ((set_other _ _ 1 _ 2 _ (.inr (by omega))).trans ((hc1 _ _ (by simp <;> omega)).trans (by simp [go_sem])))
        have nv : ∀ o, W.cell? ⟨w.heap.size + 1, o, none⟩ = W1.cell? ⟨w.heap.size + 1, o, none⟩ := fun o => (hc _).trans (set_other _ _ 1 _ o _ (.inl (by omega)))
        have nu : ∀ o, W.cell? ⟨w.heap.size + 2, o, none⟩ = W1.cell? ⟨w.heap.size + 2, o, none⟩ := fun o => (hc _).trans (set_other _ _ 1 _ o _ (.inl (by omega)))
        have n3 : ValAt W (w.heap.size + 1) 0 ⟨v0, v1, v2, v3, v4⟩ := by simp only [ValAt, nv]; refine ⟨?_, ?_, ?_, ?_, ?_⟩ <;> (rw [hc1 _ _ (by simp <;> omega)]; simp [go_sem])
        have n4 : ValAt W (w.heap.size + 2) 0 ⟨u0, u1, u2, u3, u4⟩ := by simp only [ValAt, nu]; refine ⟨?_, ?_, ?_, ?_, ?_⟩ <;> (rw [hc1 _ _ (by simp <;> omega)]; simp [go_sem])
        have hs0 : W.heap.size = W1.heap.size := by rw [hz]; simp [World.setCell]
        have z0 : w.heap.size < W.heap.size := by rw [hs0]; exact hz1.1
        have z1 : w.heap.size + 1 < W.heap.size := by rw [hs0]; exact hz1.2.1
        have z2 : w.heap.size + 2 < W.heap.size := by rw [hs0]; exact hz1.2.2
        obtain ⟨n30, n31, n32, n33, n34⟩ := n3
        obtain ⟨n40, n41, n42, n43, n44⟩ := n4
        simp only [Nat.zero_add] at n30 n31 n32 n33 n34 n40 n41 n42 n43 n44
        clear hc hf hz hc1 hf1 hz1 qn hb1 nv nu hs0
        go_wp2_with (first
          | (go_at_call 12; with_reducible refine Calls.mono (C2.out _ hbW) ?_; rintro e W2 ⟨rfl, hb2⟩; have hc2 := hb2.cells; have hs2 := hb2.size; have hz2 := Nat.lt_of_lt_of_le z0 hs2; have hz3 := Nat.lt_of_lt_of_le z1 hs2; have hz4 := Nat.lt_of_lt_of_le z2 hs2)
          | (go_at_call 10; with_reducible refine Calls.mono (C5.out _) ?_; rintro e W3 ⟨rfl, hb3⟩; have hc3 := hb3.cells; have hs3 := hb3.size; have hz5 := Nat.lt_of_lt_of_le hz2 hs3; have hz6 := Nat.lt_of_lt_of_le hz3 hs3; have hz7 := Nat.lt_of_lt_of_le hz4 hs3)
          | (go_at_call 8; with_reducible refine Calls.mono (C3.out _) ?_; rintro e W4 ⟨rfl, hb4⟩; have hc4 := hb4.cells; have hs4 := hb4.size; have hz8 := Nat.lt_of_lt_of_le hz5 hs4; have hz9 := Nat.lt_of_lt_of_le hz6 hs4; have hz10 := Nat.lt_of_lt_of_le hz7 hs4)
          | (go_at_call 8; with_reducible refine Calls.mono (C4.out _) ?_; rintro e W5 ⟨rfl, hb5⟩; have hc5 := hb5.cells; have hs5 := hb5.size; have hz11 := Nat.lt_of_lt_of_le hz8 hs5; have hz12 := Nat.lt_of_lt_of_le hz9 hs5; have hz13 := Nat.lt_of_lt_of_le hz10 hs5))
        go_ret
        exact ⟨by simp, (((hbW.trans hb2).trans hb3).trans hb4).trans hb5⟩
    · cases A1
      all_goals
        simp only [ifV_t, ifV_f, Bool.not_true, Bool.not_false] at C1 C2 C3 C4
        replace C1 := Lib.hid C1
        replace C2 := Lib.hid C2
        replace C3 := Lib.hid C3
        replace C4 := Lib.hid C4
        go_enter Try.func6, Try.ntmps6
        go_upto_region 3 with (go_at_call 12; with_reducible refine Calls.mono (C1.out _ ((((Bel.refl w).alloc _).alloc _).alloc _)) ?_; rintro e W1 ⟨rfl, hb1⟩; have hc1 := hb1.cells; have hf1 := hb1.frozens; have hz1 := hb1.lt3; have qn : W1.cell? ⟨w.heap.size, 1, none⟩ = some (.bool not) := (hc1 _ _ (by simp <;> omega)).trans (by simp [go_sem]); replace hb1 := ((((Bel.refl w).alloc _).alloc _).alloc _).trans hb1)
        refine under_name (hb1.setCell (p := ⟨w.heap.size, 1, none⟩) (Nat.le_refl _) _) fun W hc hf hz hbW => ?_
        have n0 : W.cell? ⟨w.heap.size, 0, none⟩ = some (.bool false) := (hc _).trans ((set_other _ _ 1 _ 0 _ (.inr (by omega))).trans ((hc1 _ _ (by simp <;> omega)).trans (by simp [go_sem])))
        have n1 : W.cell? ⟨w.heap.size, 1, none⟩ = some (.bool (!not)) := (hc _).trans (World.cell?_setCell_same' W1 _ _ (by rw [qn]; rfl))
        have n2 : W.cell? ⟨w.heap.size, 2, none⟩ = some sl := (hc _).trans ((set_other _ _ 1 _ 2 _ (.inr (by omega))).trans ((hc1 _ _ (by simp <;> omega)).trans (by simp [go_sem])))
        have nv : ∀ o, W.cell? ⟨w.heap.size + 1, o, none⟩ = W1.cell? ⟨w.heap.size + 1, o, none⟩ := fun o => (hc _).trans (set_other _ _ 1 _ o _ (.inl (by omega)))
        have nu : ∀ o, W.cell? ⟨w.heap.size + 2, o, none⟩ = W1.cell? ⟨w.heap.size + 2, o, none⟩ := fun o => (hc _).trans (set_other _ _ 1 _ o _ (.inl (by omega)))
        have n3 : ValAt W (w.heap.size + 1) 0 ⟨v0, v1, v2, v3, v4⟩ := by simp only [ValAt, nv]; refine ⟨?_, ?_, ?_, ?_, ?_⟩ <;> (rw [hc1 _ _ (by simp <;> omega)]; simp [go_sem])
        have n4 : ValAt W (w.heap.size + 2) 0 ⟨u0, u1, u2, u3, u4⟩ := by simp only [ValAt, nu]; refine ⟨?_, ?_, ?_, ?_, ?_⟩ <;> (rw [hc1 _ _ (by simp <;> omega)]; simp [go_sem])
        have hs0 : W.heap.size = W1.heap.size := by rw [hz]; simp [World.setCell]
        have z0 : w.heap.size < W.heap.size := by rw [hs0]; exact hz1.1
        have z1 : w.heap.size + 1 < W.heap.size := by rw [hs0]; exact hz1.2.1
        have z2 : w.heap.size + 2 < W.heap.size := by rw [hs0]; exact hz1.2.2
        obtain ⟨n30, n31, n32, n33, n34⟩ := n3
        obtain ⟨n40, n41, n42, n43, n44⟩ := n4
        simp only [Nat.zero_add] at n30 n31 n32 n33 n34 n40 n41 n42 n43 n44
        clear hc hf hz hc1 hf1 hz1 qn hb1 nv nu hs0
        go_wp2_with (first
          | (go_at_call 12; with_reducible refine Calls.mono (C2.out _ hbW) ?_; rintro e W2 ⟨rfl, hb2⟩; have hc2 := hb2.cells; have hs2 := hb2.size; have hz2 := Nat.lt_of_lt_of_le z0 hs2; have hz3 := Nat.lt_of_lt_of_le z1 hs2; have hz4 := Nat.lt_of_lt_of_le z2 hs2)
          | (go_at_call 10; with_reducible refine Calls.mono (C5.out _) ?_; rintro e W3 ⟨rfl, hb3⟩; have hc3 := hb3.cells; have hs3 := hb3.size; have hz5 := Nat.lt_of_lt_of_le hz2 hs3; have hz6 := Nat.lt_of_lt_of_le hz3 hs3; have hz7 := Nat.lt_of_lt_of_le hz4 hs3)
          | (go_at_call 8; with_reducible refine Calls.mono (C3.out _) ?_; rintro e W4 ⟨rfl, hb4⟩; have hc4 := hb4.cells; have hs4 := hb4.size; have hz8 := Nat.lt_of_lt_of_le hz5 hs4; have hz9 := Nat.lt_of_lt_of_le hz6 hs4; have hz10 := Nat.lt_of_lt_of_le hz7 hs4)
          | (go_at_call 8; with_reducible refine Calls.mono (C4.out _) ?_; rintro e W5 ⟨rfl, hb5⟩; have hc5 := hb5.cells; have hs5 := hb5.size; have hz11 := Nat.lt_of_lt_of_le hz8 hs5; have hz12 := Nat.lt_of_lt_of_le hz9 hs5; have hz13 := Nat.lt_of_lt_of_le hz10 hs5))
        go_ret
        exact ⟨by simp, (((hbW.trans hb2).trans hb3).trans hb4).trans hb5⟩
  · rcases key2 with ⟨rfl, (⟨rfl, rfl⟩ | ⟨rfl, rfl, rfl⟩)⟩ | rfl
    · cases m2
      all_goals
        simp only [ifV_t, ifV_f, Bool.not_true, Bool.not_false] at C1 C2 C3 C4
        replace C1 := Lib.hid C1
        replace C2 := Lib.hid C2
        replace C3 := Lib.hid C3
        replace C4 := Lib.hid C4
        go_enter Try.func6, Try.ntmps6
        go_upto_region 3 with (go_at_call 12; with_reducible refine Calls.mono (C1.out _ ((((Bel.refl w).alloc _).alloc _).alloc _)) ?_; rintro e W1 ⟨rfl, hb1⟩; have hc1 := hb1.cells; have hf1 := hb1.frozens; have hz1 := hb1.lt3; have qn : W1.cell? ⟨w.heap.size, 1, none⟩ = some (.bool not) := (hc1 _ _ (by simp <;> omega)).trans (by simp [go_sem]); replace hb1 := ((((Bel.refl w).alloc _).alloc _).alloc _).trans hb1)
        refine under_name (hb1.setCell (p := ⟨w.heap.size, 1, none⟩) (Nat.le_refl _) _) fun W hc hf hz hbW => ?_
        have n0 : W.cell? ⟨w.heap.size, 0, none⟩ = some (.bool false) := (hc _).trans ((set_other _ _ 1 _ 0 _ (.inr (by omega))).trans ((hc1 _ _ (by simp <;> omega)).trans (by simp [go_sem])))
        have n1 : W.cell? ⟨w.heap.size, 1, none⟩ = some (.bool (!not)) := (hc _).trans (World.cell?_setCell_same' W1 _ _ (by rw [qn]; rfl))
        have n2 : W.cell? ⟨w.heap.size, 2, none⟩ = some sl := (hc _).trans ((set_other _ _ 1 _ 2 _ (.inr (by omega))).trans ((hc1 _ _ (by simp <;> omega)).trans (by simp [go_sem])))
        have nv : ∀ o, W.cell? ⟨w.heap.size + 1, o, none⟩ = W1.cell? ⟨w.heap.size + 1, o, none⟩ := fun o => (hc _).trans (set_other _ _ 1 _ o _ (.inl (by omega)))
        have nu : ∀ o, W.cell? ⟨w.heap.size + 2, o, none⟩ = W1.cell? ⟨w.heap.size + 2, o, none⟩ := fun o => (hc _).trans (set_other _ _ 1 _ o _ (.inl (by omega)))
        have n3 : ValAt W (w.heap.size + 1) 0 ⟨v0, v1, v2, v3, v4⟩ := by simp only [ValAt, nv]; refine ⟨?_, ?_, ?_, ?_, ?_⟩ <;> (rw [hc1 _ _ (by simp <;> omega)]; simp [go_sem])
        have n4 : ValAt W (w.heap.size + 2) 0 ⟨u0, u1, u2, u3, u4⟩ := by simp only [ValAt, nu]; refine ⟨?_, ?_, ?_, ?_, ?_⟩ <;> (rw [hc1 _ _ (by simp <;> omega)]; simp [go_sem])
        have hs0 : W.heap.size = W1.heap.size := by rw [hz]; simp [World.setCell]
        have z0 : w.heap.size < W.heap.size := by rw [hs0]; exact hz1.1
        have z1 : w.heap.size + 1 < W.heap.size := by rw [hs0]; exact hz1.2.1
        have z2 : w.heap.size + 2 < W.heap.size := by rw [hs0]; exact hz1.2.2
        obtain ⟨n30, n31, n32, n33, n34⟩ := n3
        obtain ⟨n40, n41, n42, n43, n44⟩ := n4
        simp only [Nat.zero_add] at n30 n31 n32 n33 n34 n40 n41 n42 n43 n44
        clear hc hf hz hc1 hf1 hz1 qn hb1 nv nu hs0
        go_wp2_with (first
          | (go_at_call 12; with_reducible refine Calls.mono (C2.out _ hbW) ?_; rintro e W2 ⟨rfl, hb2⟩; have hc2 := hb2.cells; have hs2 := hb2.size; have hz2 := Nat.lt_of_lt_of_le z0 hs2; have hz3 := Nat.lt_of_lt_of_le z1 hs2; have hz4 := Nat.lt_of_lt_of_le z2 hs2)
          | (go_at_call 10; with_reducible refine Calls.mono (C5.out _) ?_; rintro e W3 ⟨rfl, hb3⟩; have hc3 := hb3.cells; have hs3 := hb3.size; have hz5 := Nat.lt_of_lt_of_le hz2 hs3; have hz6 := Nat.lt_of_lt_of_le hz3 hs3; have hz7 := Nat.lt_of_lt_of_le hz4 hs3)
          | (go_at_call 8; with_reducible refine Calls.mono (C3.out _) ?_; rintro e W4 ⟨rfl, hb4⟩; have hc4 := hb4.cells; have hs4 := hb4.size; have hz8 := Nat.lt_of_lt_of_le hz5 hs4; have hz9 := Nat.lt_of_lt_of_le hz6 hs4; have hz10 := Nat.lt_of_lt_of_le hz7 hs4)
          | (go_at_call 8; with_reducible refine Calls.mono (C4.out _) ?_; rintro e W5 ⟨rfl, hb5⟩; have hc5 := hb5.cells; have hs5 := hb5.size; have hz11 := Nat.lt_of_lt_of_le hz8 hs5; have hz12 := Nat.lt_of_lt_of_le hz9 hs5; have hz13 := Nat.lt_of_lt_of_le hz10 hs5))
        go_ret
        exact ⟨by simp, (((hbW.trans hb2).trans hb3).trans hb4).trans hb5⟩
    · skip
      all_goals
        simp only [ifV_t, ifV_f, Bool.not_true, Bool.not_false] at C1 C2 C3 C4
        replace C1 := Lib.hid C1
        replace C2 := Lib.hid C2
        replace C3 := Lib.hid C3
        replace C4 := Lib.hid C4
        go_enter Try.func6, Try.ntmps6
        go_upto_region 3 with (go_at_call 12; with_reducible refine Calls.mono (C1.out _ ((((Bel.refl w).alloc _).alloc _).alloc _)) ?_; rintro e W1 ⟨rfl, hb1⟩; have hc1 := hb1.cells; have hf1 := hb1.frozens; have hz1 := hb1.lt3; have qn : W1.cell? ⟨w.heap.size, 1, none⟩ = some (.bool not) := (hc1 _ _ (by simp <;> omega)).trans (by simp [go_sem]); replace hb1 := ((((Bel.refl w).alloc _).alloc _).alloc _).trans hb1)
        refine under_name (hb1.setCell (p := ⟨w.heap.size, 1, none⟩) (Nat.le_refl _) _) fun W hc hf hz hbW => ?_
        have n0 : W.cell? ⟨w.heap.size, 0, none⟩ = some (.bool false) := (hc _).trans ((set_other _ _ 1 _ 0 _ (.inr (by omega))).trans ((hc1 _ _ (by simp <;> omega)).trans (by simp [go_sem])))
        have n1 : W.cell? ⟨w.heap.size, 1, none⟩ = some (.bool (!not)) := (hc _).trans (World.cell?_setCell_same' W1 _ _ (by rw [qn]; rfl))
        have n2 : W.cell? ⟨w.heap.size, 2, none⟩ = some sl := (hc _).trans ((set_other _ _ 1 _ 2 _ (.inr (by omega))).trans ((hc1 _ _ (by simp <;> omega)).trans (by simp [go_sem])))
        have nv : ∀ o, W.cell? ⟨w.heap.size + 1, o, none⟩ = W1.cell? ⟨w.heap.size + 1, o, none⟩ := fun o => (hc _).trans (set_other _ _ 1 _ o _ (.inl (by omega)))
        have nu : ∀ o, W.cell? ⟨w.heap.size + 2, o, none⟩ = W1.cell? ⟨w.heap.size + 2, o, none⟩ := fun o => (hc _).trans (set_other _ _ 1 _ o _ (.inl (by omega)))
        have n3 : ValAt W (w.heap.size + 1) 0 ⟨v0, v1, v2, v3, v4⟩ := by simp only [ValAt, nv]; refine ⟨?_, ?_, ?_, ?_, ?_⟩ <;> (rw [hc1 _ _ (by simp <;> omega)]; simp [go_sem])
        have n4 : ValAt W (w.heap.size + 2) 0 ⟨u0, u1, u2, u3, u4⟩ := by simp only [ValAt, nu]; refine ⟨?_, ?_, ?_, ?_, ?_⟩ <;> (rw [hc1 _ _ (by simp <;> omega)]; simp [go_sem])
        have hs0 : W.heap.size = W1.heap.size := by rw [hz]; simp [World.setCell]
        have z0 : w.heap.size < W.heap.size := by rw [hs0]; exact hz1.1
        have z1 : w.heap.size + 1 < W.heap.size := by rw [hs0]; exact hz1.2.1
        have z2 : w.heap.size + 2 < W.heap.size := by rw [hs0]; exact hz1.2.2
        obtain ⟨n30, n31, n32, n33, n34⟩ := n3
        obtain ⟨n40, n41, n42, n43, n44⟩ := n4
        simp only [Nat.zero_add] at n30 n31 n32 n33 n34 n40 n41 n42 n43 n44
        clear hc hf hz hc1 hf1 hz1 qn hb1 nv nu hs0
        go_wp2_with (first
          | (go_at_call 12; with_reducible refine Calls.mono (C2.out _ hbW) ?_; rintro e W2 ⟨rfl, hb2⟩; have hc2 := hb2.cells; have hs2 := hb2.size; have hz2 := Nat.lt_of_lt_of_le z0 hs2; have hz3 := Nat.lt_of_lt_of_le z1 hs2; have hz4 := Nat.lt_of_lt_of_le z2 hs2)
          | (go_at_call 10; with_reducible refine Calls.mono (C5.out _) ?_; rintro e W3 ⟨rfl, hb3⟩; have hc3 := hb3.cells; have hs3 := hb3.size; have hz5 := Nat.lt_of_lt_of_le hz2 hs3; have hz6 := Nat.lt_of_lt_of_le hz3 hs3; have hz7 := Nat.lt_of_lt_of_le hz4 hs3)
          | (go_at_call 8; with_reducible refine Calls.mono (C3.out _) ?_; rintro e W4 ⟨rfl, hb4⟩; have hc4 := hb4.cells; have hs4 := hb4.size; have hz8 := Nat.lt_of_lt_of_le hz5 hs4; have hz9 := Nat.lt_of_lt_of_le hz6 hs4; have hz10 := Nat.lt_of_lt_of_le hz7 hs4)
          | (go_at_call 8; with_reducible refine Calls.mono (C4.out _) ?_; rintro e W5 ⟨rfl, hb5⟩; have hc5 := hb5.cells; have hs5 := hb5.size; have hz11 := Nat.lt_of_lt_of_le hz8 hs5; have hz12 := Nat.lt_of_lt_of_le hz9 hs5; have hz13 := Nat.lt_of_lt_of_le hz10 hs5))
        go_ret
        exact ⟨by simp, (((hbW.trans hb2).trans hb3).trans hb4).trans hb5⟩
    · skip
      all_goals
        simp only [ifV_t, ifV_f, Bool.not_true, Bool.not_false] at C1 C2 C3 C4
        replace C1 := Lib.hid C1
        replace C2 := Lib.hid C2
        replace C3 := Lib.hid C3
        replace C4 := Lib.hid C4
        go_enter Try.func6, Try.ntmps6
        go_upto_region 3 with (go_at_call 12; with_reducible refine Calls.mono (C1.out _ ((((Bel.refl w).alloc _).alloc _).alloc _)) ?_; rintro e W1 ⟨rfl, hb1⟩; have hc1 := hb1.cells; have hf1 := hb1.frozens; have hz1 := hb1.lt3; have qn : W1.cell? ⟨w.heap.size, 1, none⟩ = some (.bool not) := (hc1 _ _ (by simp <;> omega)).trans (by simp [go_sem]); replace hb1 := ((((Bel.refl w).alloc _).alloc _).alloc _).trans hb1)
        refine under_name (hb1.setCell (p := ⟨w.heap.size, 1, none⟩) (Nat.le_refl _) _) fun W hc hf hz hbW => ?_
        have n0 : W.cell? ⟨w.heap.size, 0, none⟩ = some (.bool false) := (hc _).trans ((set_other _ _ 1 _ 0 _ (.inr (by omega))).trans ((hc1 _ _ (by simp <;> omega)).trans (by simp [go_sem])))
        have n1 : W.cell? ⟨w.heap.size, 1, none⟩ = some (.bool (!not)) := (hc _).trans (World.cell?_setCell_same' W1 _ _ (by rw [qn]; rfl))
        have n2 : W.cell? ⟨w.heap.size, 2, none⟩ = some sl := (hc _).trans ((set_other _ _ 1 _ 2 _ (.inr (by omega))).trans ((hc1 _ _ (by simp <;> omega)).trans (by simp [go_sem])))
        have nv : ∀ o, W.cell? ⟨w.heap.size + 1, o, none⟩ = W1.cell? ⟨w.heap.size + 1, o, none⟩ := fun o => (hc _).trans (set_other _ _ 1 _ o _ (.inl (by omega)))
        have nu : ∀ o, W.cell? ⟨w.heap.size + 2, o, none⟩ = W1.cell? ⟨w.heap.size + 2, o, none⟩ := fun o => (hc _).trans (set_other _ _ 1 _ o _ (.inl (by omega)))
        have n3 : ValAt W (w.heap.size + 1) 0 ⟨v0, v1, v2, v3, v4⟩ := by simp only [ValAt, nv]; refine ⟨?_, ?_, ?_, ?_, ?_⟩ <;> (rw [hc1 _ _ (by simp <;> omega)]; simp [go_sem])
        have n4 : ValAt W (w.heap.size + 2) 0 ⟨u0, u1, u2, u3, u4⟩ := by simp only [ValAt, nu]; refine ⟨?_, ?_, ?_, ?_, ?_⟩ <;> (rw [hc1 _ _ (by simp <;> omega)]; simp [go_sem])
        have hs0 : W.heap.size = W1.heap.size := by rw [hz]; simp [World.setCell]
        have z0 : w.heap.size < W.heap.size := by rw [hs0]; exact hz1.1
        have z1 : w.heap.size + 1 < W.heap.size := by rw [hs0]; exact hz1.2.1
        have z2 : w.heap.size + 2 < W.heap.size := by rw [hs0]; exact hz1.2.2
        obtain ⟨n30, n31, n32, n33, n34⟩ := n3
        obtain ⟨n40, n41, n42, n43, n44⟩ := n4
        simp only [Nat.zero_add] at n30 n31 n32 n33 n34 n40 n41 n42 n43 n44
        clear hc hf hz hc1 hf1 hz1 qn hb1 nv nu hs0
        go_wp2_with (first
          | (go_at_call 12; with_reducible refine Calls.mono (C2.out _ hbW) ?_; rintro e W2 ⟨rfl, hb2⟩; have hc2 := hb2.cells; have hs2 := hb2.size; have hz2 := Nat.lt_of_lt_of_le z0 hs2; have hz3 := Nat.lt_of_lt_of_le z1 hs2; have hz4 := Nat.lt_of_lt_of_le z2 hs2)
          | (go_at_call 10; with_reducible refine Calls.mono (C5.out _) ?_; rintro e W3 ⟨rfl, hb3⟩; have hc3 := hb3.cells; have hs3 := hb3.size; have hz5 := Nat.lt_of_lt_of_le hz2 hs3; have hz6 := Nat.lt_of_lt_of_le hz3 hs3; have hz7 := Nat.lt_of_lt_of_le hz4 hs3)
          | (go_at_call 8; with_reducible refine Calls.mono (C3.out _) ?_; rintro e W4 ⟨rfl, hb4⟩; have hc4 := hb4.cells; have hs4 := hb4.size; have hz8 := Nat.lt_of_lt_of_le hz5 hs4; have hz9 := Nat.lt_of_lt_of_le hz6 hs4; have hz10 := Nat.lt_of_lt_of_le hz7 hs4)
          | (go_at_call 8; with_reducible refine Calls.mono (C4.out _) ?_; rintro e W5 ⟨rfl, hb5⟩; have hc5 := hb5.cells; have hs5 := hb5.size; have hz11 := Nat.lt_of_lt_of_le hz8 hs5; have hz12 := Nat.lt_of_lt_of_le hz9 hs5; have hz13 := Nat.lt_of_lt_of_le hz10 hs5))
        go_ret
        exact ⟨by simp, (((hbW.trans hb2).trans hb3).trans hb4).trans hb5⟩
  · rcases key2 with ⟨rfl, (⟨rfl, rfl⟩ | ⟨rfl, rfl, rfl⟩)⟩ | rfl
    · cases m2
      all_goals
        simp only [ifV_t, ifV_f, Bool.not_true, Bool.not_false] at C1 C2 C3 C4
        replace C1 := Lib.hid C1
        replace C2 := Lib.hid C2
        replace C3 := Lib.hid C3
        replace C4 := Lib.hid C4
        go_enter Try.func6, Try.ntmps6
        go_upto_region 3 with (go_at_call 12; with_reducible refine Calls.mono (C1.out _ ((((Bel.refl w).alloc _).alloc _).alloc _)) ?_; rintro e W1 ⟨rfl, hb1⟩; have hc1 := hb1.cells; have hf1 := hb1.frozens; have hz1 := hb1.lt3; have qn : W1.cell? ⟨w.heap.size, 1, none⟩ = some (.bool not) := (hc1 _ _ (by simp <;> omega)).trans (by simp [go_sem]); replace hb1 := ((((Bel.refl w).alloc _).alloc _).alloc _).trans hb1)
        refine under_name (hb1.setCell (p := ⟨w.heap.size, 1, none⟩) (Nat.le_refl _) _) fun W hc hf hz hbW => ?_
        have n0 : W.cell? ⟨w.heap.size, 0, none⟩ = some (.bool true) := (hc _).trans ((set_other _ _ 1 _ 0 _ (.inr (by omega))).trans ((hc1 _ _ (by simp <;> omega)).trans (by simp [go_sem])))
        have n1 : W.cell? ⟨w.heap.size, 1, none⟩ = some (.bool (!not)) := (hc _).trans (World.cell?_setCell_same' W1 _ _ (by rw [qn]; rfl))
        have n2 : W.cell? ⟨w.heap.size, 2, none⟩ = some sl := (hc _).trans ((set_other _ _ 1 _ 2 _ (.inr (by omega))).trans ((hc1 _ _ (by simp <;> omega)).trans (by simp [go_sem])))
        have nv : ∀ o, W.cell? ⟨w.heap.size + 1, o, none⟩ = W1.cell? ⟨w.heap.size + 1, o, none⟩ := fun o => (hc _).trans (set_other _ _ 1 _ o _ (.inl (by omega)))
        have nu : ∀ o, W.cell? ⟨w.heap.size + 2, o, none⟩ = W1.cell? ⟨w.heap.size + 2, o, none⟩ := fun o => (hc _).trans (set_other _ _ 1 _ o _ (.inl (by omega)))
        have n3 : ValAt W (w.heap.size + 1) 0 ⟨v0, v1, v2, v3, v4⟩ := by simp only [ValAt, nv]; refine ⟨?_, ?_, ?_, ?_, ?_⟩ <;> (rw [hc1 _ _ (by simp <;> omega)]; simp [go_sem])
        have n4 : ValAt W (w.heap.size + 2) 0 ⟨u0, u1, u2, u3, u4⟩ := by simp only [ValAt, nu]; refine ⟨?_, ?_, ?_, ?_, ?_⟩ <;> (rw [hc1 _ _ (by simp <;> omega)]; simp [go_sem])
        have hs0 : W.heap.size = W1.heap.size := by rw [hz]; simp [World.setCell]
        have z0 : w.heap.size < W.heap.size := by rw [hs0]; exact hz1.1
        have z1 : w.heap.size + 1 < W.heap.size := by rw [hs0]; exact hz1.2.1
        have z2 : w.heap.size + 2 < W.heap.size := by rw [hs0]; exact hz1.2.2
        obtain ⟨n30, n31, n32, n33, n34⟩ := n3
        obtain ⟨n40, n41, n42, n43, n44⟩ := n4
        simp only [Nat.zero_add] at n30 n31 n32 n33 n34 n40 n41 n42 n43 n44
        clear hc hf hz hc1 hf1 hz1 qn hb1 nv nu hs0
        go_wp2_with (first
          | (go_at_call 12; with_reducible refine Calls.mono (C2.out _ hbW) ?_; rintro e W2 ⟨rfl, hb2⟩; have hc2 := hb2.cells; have hs2 := hb2.size; have hz2 := Nat.lt_of_lt_of_le z0 hs2; have hz3 := Nat.lt_of_lt_of_le z1 hs2; have hz4 := Nat.lt_of_lt_of_le z2 hs2)
          | (go_at_call 10; with_reducible refine Calls.mono (C5.out _) ?_; rintro e W3 ⟨rfl, hb3⟩; have hc3 := hb3.cells; have hs3 := hb3.size; have hz5 := Nat.lt_of_lt_of_le hz2 hs3; have hz6 := Nat.lt_of_lt_of_le hz3 hs3; have hz7 := Nat.lt_of_lt_of_le hz4 hs3)
          | (go_at_call 8; with_reducible refine Calls.mono (C3.out _) ?_; rintro e W4 ⟨rfl, hb4⟩; have hc4 := hb4.cells; have hs4 := hb4.size; have hz8 := Nat.lt_of_lt_of_le hz5 hs4; have hz9 := Nat.lt_of_lt_of_le hz6 hs4; have hz10 := Nat.lt_of_lt_of_le hz7 hs4)
          | (go_at_call 8; with_reducible refine Calls.mono (C4.out _) ?_; rintro e W5 ⟨rfl, hb5⟩; have hc5 := hb5.cells; have hs5 := hb5.size; have hz11 := Nat.lt_of_lt_of_le hz8 hs5; have hz12 := Nat.lt_of_lt_of_le hz9 hs5; have hz13 := Nat.lt_of_lt_of_le hz10 hs5))
        go_ret
        exact ⟨by simp, (((hbW.trans hb2).trans hb3).trans hb4).trans hb5⟩
    · skip
      all_goals
        simp only [ifV_t, ifV_f, Bool.not_true, Bool.not_false] at C1 C2 C3 C4
        replace C1 := Lib.hid C1
        replace C2 := Lib.hid C2
        replace C3 := Lib.hid C3
        replace C4 := Lib.hid C4
        go_enter Try.func6, Try.ntmps6
        go_upto_region 3 with (go_at_call 12; with_reducible refine Calls.mono (C1.out _ ((((Bel.refl w).alloc _).alloc _).alloc _)) ?_; rintro e W1 ⟨rfl, hb1⟩; have hc1 := hb1.cells; have hf1 := hb1.frozens; have hz1 := hb1.lt3; have qn : W1.cell? ⟨w.heap.size, 1, none⟩ = some (.bool not) := (hc1 _ _ (by simp <;> omega)).trans (by simp [go_sem]); replace hb1 := ((((Bel.refl w).alloc _).alloc _).alloc _).trans hb1)
        refine under_name (hb1.setCell (p := ⟨w.heap.size, 1, none⟩) (Nat.le_refl _) _) fun W hc hf hz hbW => ?_
        have n0 : W.cell? ⟨w.heap.size, 0, none⟩ = some (.bool true) := (hc _).trans ((set_other _ _ 1 _ 0 _ (.inr (by omega))).trans ((hc1 _ _ (by simp <;> omega)).trans (by simp [go_sem])))
        have n1 : W.cell? ⟨w.heap.size, 1, none⟩ = some (.bool (!not)) := (hc _).trans (World.cell?_setCell_same' W1 _ _ (by rw [qn]; rfl))
        have n2 : W.cell? ⟨w.heap.size, 2, none⟩ = some sl := (hc _).trans ((set_other _ _ 1 _ 2 _ (.inr (by omega))).trans ((hc1 _ _ (by simp <;> omega)).trans (by simp [go_sem])))
        have nv : ∀ o, W.cell? ⟨w.heap.size + 1, o, none⟩ = W1.cell? ⟨w.heap.size + 1, o, none⟩ := fun o => (hc _).trans (set_other _ _ 1 _ o _ (.inl (by omega)))
        have nu : ∀ o, W.cell? ⟨w.heap.size + 2, o, none⟩ = W1.cell? ⟨w.heap.size + 2, o, none⟩ := fun o => (hc _).trans (set_other _ _ 1 _ o _ (.inl (by omega)))
        have n3 : ValAt W (w.heap.size + 1) 0 ⟨v0, v1, v2, v3, v4⟩ := by simp only [ValAt, nv]; refine ⟨?_, ?_, ?_, ?_, ?_⟩ <;> (rw [hc1 _ _ (by simp <;> omega)]; simp [go_sem])
        have n4 : ValAt W (w.heap.size + 2) 0 ⟨u0, u1, u2, u3, u4⟩ := by simp only [ValAt, nu]; refine ⟨?_, ?_, ?_, ?_, ?_⟩ <;> (rw [hc1 _ _ (by simp <;> omega)]; simp [go_sem])
        have hs0 : W.heap.size = W1.heap.size := by rw [hz]; simp [World.setCell]
        have z0 : w.heap.size < W.heap.size := by rw [hs0]; exact hz1.1
        have z1 : w.heap.size + 1 < W.heap.size := by rw [hs0]; exact hz1.2.1
        have z2 : w.heap.size + 2 < W.heap.size := by rw [hs0]; exact hz1.2.2
        obtain ⟨n30, n31, n32, n33, n34⟩ := n3
        obtain ⟨n40, n41, n42, n43, n44⟩ := n4
        simp only [Nat.zero_add] at n30 n31 n32 n33 n34 n40 n41 n42 n43 n44
        clear hc hf hz hc1 hf1 hz1 qn hb1 nv nu hs0
        go_wp2_with (first
          | (go_at_call 12; with_reducible refine Calls.mono (C2.out _ hbW) ?_; rintro e W2 ⟨rfl, hb2⟩; have hc2 := hb2.cells; have hs2 := hb2.size; have hz2 := Nat.lt_of_lt_of_le z0 hs2; have hz3 := Nat.lt_of_lt_of_le z1 hs2; have hz4 := Nat.lt_of_lt_of_le z2 hs2)
          | (go_at_call 10; with_reducible refine Calls.mono (C5.out _) ?_; rintro e W3 ⟨rfl, hb3⟩; have hc3 := hb3.cells; have hs3 := hb3.size; have hz5 := Nat.lt_of_lt_of_le hz2 hs3; have hz6 := Nat.lt_of_lt_of_le hz3 hs3; have hz7 := Nat.lt_of_lt_of_le hz4 hs3)
          | (go_at_call 8; with_reducible refine Calls.mono (C3.out _) ?_; rintro e W4 ⟨rfl, hb4⟩; have hc4 := hb4.cells; have hs4 := hb4.size; have hz8 := Nat.lt_of_lt_of_le hz5 hs4; have hz9 := Nat.lt_of_lt_of_le hz6 hs4; have hz10 := Nat.lt_of_lt_of_le hz7 hs4)
          | (go_at_call 8; with_reducible refine Calls.mono (C4.out _) ?_; rintro e W5 ⟨rfl, hb5⟩; have hc5 := hb5.cells; have hs5 := hb5.size; have hz11 := Nat.lt_of_lt_of_le hz8 hs5; have hz12 := Nat.lt_of_lt_of_le hz9 hs5; have hz13 := Nat.lt_of_lt_of_le hz10 hs5))
        go_ret
        exact ⟨by simp, (((hbW.trans hb2).trans hb3).trans hb4).trans hb5⟩
    · skip
      all_goals
        simp only [ifV_t, ifV_f, Bool.not_true, Bool.not_false] at C1 C2 C3 C4
        replace C1 := Lib.hid C1
        replace C2 := Lib.hid C2
        replace C3 := Lib.hid C3
        replace C4 := Lib.hid C4
        go_enter Try.func6, Try.ntmps6
        go_upto_region 3 with (go_at_call 12; with_reducible refine Calls.mono (C1.out _ ((((Bel.refl w).alloc _).alloc _).alloc _)) ?_; rintro e W1 ⟨rfl, hb1⟩; have hc1 := hb1.cells; have hf1 := hb1.frozens; have hz1 := hb1.lt3; have qn : W1.cell? ⟨w.heap.size, 1, none⟩ = some (.bool not) := (hc1 _ _ (by simp <;> omega)).trans (by simp [go_sem]); replace hb1 := ((((Bel.refl w).alloc _).alloc _).alloc _).trans hb1)
        refine under_name (hb1.setCell (p := ⟨w.heap.size, 1, none⟩) (Nat.le_refl _) _) fun W hc hf hz hbW => ?_
        have n0 : W.cell? ⟨w.heap.size, 0, none⟩ = some (.bool true) := (hc _).trans ((set_other _ _ 1 _ 0 _ (.inr (by omega))).trans ((hc1 _ _ (by simp <;> omega)).trans (by simp [go_sem])))
        have n1 : W.cell? ⟨w.heap.size, 1, none⟩ = some (.bool (!not)) := (hc _).trans (World.cell?_setCell_same' W1 _ _ (by rw [qn]; rfl))
        have n2 : W.cell? ⟨w.heap.size, 2, none⟩ = some sl := (hc _).trans ((set_other _ _ 1 _ 2 _ (.inr (by omega))).trans ((hc1 _ _ (by simp <;> omega)).trans (by simp [go_sem])))
        have nv : ∀ o, W.cell? ⟨w.heap.size + 1, o, none⟩ = W1.cell? ⟨w.heap.size + 1, o, none⟩ := fun o => (hc _).trans (set_other _ _ 1 _ o _ (.inl (by omega)))
        have nu : ∀ o, W.cell? ⟨w.heap.size + 2, o, none⟩ = W1.cell? ⟨w.heap.size + 2, o, none⟩ := fun o => (hc _).trans (set_other _ _ 1 _ o _ (.inl (by omega)))
        have n3 : ValAt W (w.heap.size + 1) 0 ⟨v0, v1, v2, v3, v4⟩ := by simp only [ValAt, nv]; refine ⟨?_, ?_, ?_, ?_, ?_⟩ <;> (rw [hc1 _ _ (by simp <;> omega)]; simp [go_sem])
        have n4 : ValAt W (w.heap.size + 2) 0 ⟨u0, u1, u2, u3, u4⟩ := by simp only [ValAt, nu]; refine ⟨?_, ?_, ?_, ?_, ?_⟩ <;> (rw [hc1 _ _ (by simp <;> omega)]; simp [go_sem])
        have hs0 : W.heap.size = W1.heap.size := by rw [hz]; simp [World.setCell]
        have z0 : w.heap.size < W.heap.size := by rw [hs0]; exact hz1.1
        have z1 : w.heap.size + 1 < W.heap.size := by rw [hs0]; exact hz1.2.1
        have z2 : w.heap.size + 2 < W.heap.size := by rw [hs0]; exact hz1.2.2
        obtain ⟨n30, n31, n32, n33, n34⟩ := n3
        obtain ⟨n40, n41, n42, n43, n44⟩ := n4
        simp only [Nat.zero_add] at n30 n31 n32 n33 n34 n40 n41 n42 n43 n44
        clear hc hf hz hc1 hf1 hz1 qn hb1 nv nu hs0
        go_wp2_with (first
          | (go_at_call 12; with_reducible refine Calls.mono (C2.out _ hbW) ?_; rintro e W2 ⟨rfl, hb2⟩; have hc2 := hb2.cells; have hs2 := hb2.size; have hz2 := Nat.lt_of_lt_of_le z0 hs2; have hz3 := Nat.lt_of_lt_of_le z1 hs2; have hz4 := Nat.lt_of_lt_of_le z2 hs2)
          | (go_at_call 10; with_reducible refine Calls.mono (C5.out _) ?_; rintro e W3 ⟨rfl, hb3⟩; have hc3 := hb3.cells; have hs3 := hb3.size; have hz5 := Nat.lt_of_lt_of_le hz2 hs3; have hz6 := Nat.lt_of_lt_of_le hz3 hs3; have hz7 := Nat.lt_of_lt_of_le hz4 hs3)
          | (go_at_call 8; with_reducible refine Calls.mono (C3.out _) ?_; rintro e W4 ⟨rfl, hb4⟩; have hc4 := hb4.cells; have hs4 := hb4.size; have hz8 := Nat.lt_of_lt_of_le hz5 hs4; have hz9 := Nat.lt_of_lt_of_le hz6 hs4; have hz10 := Nat.lt_of_lt_of_le hz7 hs4)
          | (go_at_call 8; with_reducible refine Calls.mono (C4.out _) ?_; rintro e W5 ⟨rfl, hb5⟩; have hc5 := hb5.cells; have hs5 := hb5.size; have hz11 := Nat.lt_of_lt_of_le hz8 hs5; have hz12 := Nat.lt_of_lt_of_le hz9 hs5; have hz13 := Nat.lt_of_lt_of_le hz10 hs5))
        go_ret
        exact ⟨by simp, (((hbW.trans hb2).trans hb3).trans hb4).trans hb5⟩
  · rcases key2 with ⟨rfl, (⟨rfl, rfl⟩ | ⟨rfl, rfl, rfl⟩)⟩ | rfl
    · cases m2 <;> cases P2
      all_goals
        simp only [ifV_t, ifV_f, Bool.not_true, Bool.not_false] at C1 C2 C3 C4
        replace C1 := Lib.hid C1
        replace C2 := Lib.hid C2
        replace C3 := Lib.hid C3
        replace C4 := Lib.hid C4
        go_enter Try.func6, Try.ntmps6
        go_upto_region 3 with (go_at_call 12; with_reducible refine Calls.mono (C1.out _ ((((Bel.refl w).alloc _).alloc _).alloc _)) ?_; rintro e W1 ⟨rfl, hb1⟩; have hc1 := hb1.cells; have hf1 := hb1.frozens; have hz1 := hb1.lt3; have qn : W1.cell? ⟨w.heap.size, 1, none⟩ = some (.bool not) := (hc1 _ _ (by simp <;> omega)).trans (by simp [go_sem]); replace hb1 := ((((Bel.refl w).alloc _).alloc _).alloc _).trans hb1)
        refine under_name (hb1.setCell (p := ⟨w.heap.size, 1, none⟩) (Nat.le_refl _) _) fun W hc hf hz hbW => ?_
        have n0 : W.cell? ⟨w.heap.size, 0, none⟩ = some (.bool true) := (hc _).trans ((set_other _ _ 1 _ 0 _ (.inr (by omega))).trans ((hc1 _ _ (by simp <;> omega)).trans (by simp [go_sem])))
        have n1 : W.cell? ⟨w.heap.size, 1, none⟩ = some (.bool (!not)) := (hc _).trans (World.cell?_setCell_same' W1 _ _ (by rw [qn]; rfl))
        have n2 : W.cell? ⟨w.heap.size, 2, none⟩ = some sl := (hc _).trans ((set_other _ _ 1 _ 2 _ (.inr (by omega))).trans ((hc1 _ _ (by simp <;> omega)).trans (by simp [go_sem])))
        have nv : ∀ o, W.cell? ⟨w.heap.size + 1, o, none⟩ = W1.cell? ⟨w.heap.size + 1, o, none⟩ := fun o => (hc _).trans (set_other _ _ 1 _ o _ (.inl (by omega)))
        have nu : ∀ o, W.cell? ⟨w.heap.size + 2, o, none⟩ = W1.cell? ⟨w.heap.size + 2, o, none⟩ := fun o => (hc _).trans (set_other _ _ 1 _ o _ (.inl (by omega)))
        have n3 : ValAt W (w.heap.size + 1) 0 ⟨v0, v1, v2, v3, v4⟩ := by simp only [ValAt, nv]; refine ⟨?_, ?_, ?_, ?_, ?_⟩ <;> (rw [hc1 _ _ (by simp <;> omega)]; simp [go_sem])
        have n4 : ValAt W (w.heap.size + 2) 0 ⟨u0, u1, u2, u3, u4⟩ := by simp only [ValAt, nu]; refine ⟨?_, ?_, ?_, ?_, ?_⟩ <;> (rw [hc1 _ _ (by simp <;> omega)]; simp [go_sem])
        have hs0 : W.heap.size = W1.heap.size := by rw [hz]; simp [World.setCell]
        have z0 : w.heap.size < W.heap.size := by rw [hs0]; exact hz1.1
        have z1 : w.heap.size + 1 < W.heap.size := by rw [hs0]; exact hz1.2.1
        have z2 : w.heap.size + 2 < W.heap.size := by rw [hs0]; exact hz1.2.2
        obtain ⟨n30, n31, n32, n33, n34⟩ := n3
        obtain ⟨n40, n41, n42, n43, n44⟩ := n4
        simp only [Nat.zero_add] at n30 n31 n32 n33 n34 n40 n41 n42 n43 n44
        clear hc hf hz hc1 hf1 hz1 qn hb1 nv nu hs0
        go_wp2_with (first
          | (go_at_call 12; with_reducible refine Calls.mono (C2.out _ hbW) ?_; rintro e W2 ⟨rfl, hb2⟩; have hc2 := hb2.cells; have hs2 := hb2.size; have hz2 := Nat.lt_of_lt_of_le z0 hs2; have hz3 := Nat.lt_of_lt_of_le z1 hs2; have hz4 := Nat.lt_of_lt_of_le z2 hs2)
          | (go_at_call 10; with_reducible refine Calls.mono (C5.out _) ?_; rintro e W3 ⟨rfl, hb3⟩; have hc3 := hb3.cells; have hs3 := hb3.size; have hz5 := Nat.lt_of_lt_of_le hz2 hs3; have hz6 := Nat.lt_of_lt_of_le hz3 hs3; have hz7 := Nat.lt_of_lt_of_le hz4 hs3)
          | (go_at_call 8; with_reducible refine Calls.mono (C3.out _) ?_; rintro e W4 ⟨rfl, hb4⟩; have hc4 := hb4.cells; have hs4 := hb4.size; have hz8 := Nat.lt_of_lt_of_le hz5 hs4; have hz9 := Nat.lt_of_lt_of_le hz6 hs4; have hz10 := Nat.lt_of_lt_of_le hz7 hs4)
          | (go_at_call 8; with_reducible refine Calls.mono (C4.out _) ?_; rintro e W5 ⟨rfl, hb5⟩; have hc5 := hb5.cells; have hs5 := hb5.size; have hz11 := Nat.lt_of_lt_of_le hz8 hs5; have hz12 := Nat.lt_of_lt_of_le hz9 hs5; have hz13 := Nat.lt_of_lt_of_le hz10 hs5))
        go_ret
        exact ⟨by simp, (((hbW.trans hb2).trans hb3).trans hb4).trans hb5⟩
    · cases P2
      all_goals
        simp only [ifV_t, ifV_f, Bool.not_true, Bool.not_false] at C1 C2 C3 C4
        replace C1 := Lib.hid C1
        replace C2 := Lib.hid C2
        replace C3 := Lib.hid C3
        replace C4 := Lib.hid C4
        go_enter Try.func6, Try.ntmps6
        go_upto_region 3 with (go_at_call 12; with_reducible refine Calls.mono (C1.out _ ((((Bel.refl w).alloc _).alloc _).alloc _)) ?_; rintro e W1 ⟨rfl, hb1⟩; have hc1 := hb1.cells; have hf1 := hb1.frozens; have hz1 := hb1.lt3; have qn : W1.cell? ⟨w.heap.size, 1, none⟩ = some (.bool not) := (hc1 _ _ (by simp <;> omega)).trans (by simp [go_sem]); replace hb1 := ((((Bel.refl w).alloc _).alloc _).alloc _).trans hb1)
        refine under_name (hb1.setCell (p := ⟨w.heap.size, 1, none⟩) (Nat.le_refl _) _) fun W hc hf hz hbW => ?_
        have n0 : W.cell? ⟨w.heap.size, 0, none⟩ = some (.bool true) := (hc _).trans ((set_other _ _ 1 _ 0 _ (.inr (by omega))).trans ((hc1 _ _ (by simp <;> omega)).trans (by simp [go_sem])))
        have n1 : W.cell? ⟨w.heap.size, 1, none⟩ = some (.bool (!not)) := (hc _).trans (World.cell?_setCell_same' W1 _ _ (by rw [qn]; rfl))
        have n2 : W.cell? ⟨w.heap.size, 2, none⟩ = some sl := (hc _).trans ((set_other _ _ 1 _ 2 _ (.inr (by omega))).trans ((hc1 _ _ (by simp <;> omega)).trans (by simp [go_sem])))
        have nv : ∀ o, W.cell? ⟨w.heap.size + 1, o, none⟩ = W1.cell? ⟨w.heap.size + 1, o, none⟩ := fun o => (hc _).trans (set_other _ _ 1 _ o _ (.inl (by omega)))
        have nu : ∀ o, W.cell? ⟨w.heap.size + 2, o, none⟩ = W1.cell? ⟨w.heap.size + 2, o, none⟩ := fun o => (hc _).trans (set_other _ _ 1 _ o _ (.inl (by omega)))
        have n3 : ValAt W (w.heap.size + 1) 0 ⟨v0, v1, v2, v3, v4⟩ := by simp only [ValAt, nv]; refine ⟨?_, ?_, ?_, ?_, ?_⟩ <;> (rw [hc1 _ _ (by simp <;> omega)]; simp [go_sem])
        have n4 : ValAt W (w.heap.size + 2) 0 ⟨u0, u1, u2, u3, u4⟩ := by simp only [ValAt, nu]; refine ⟨?_, ?_, ?_, ?_, ?_⟩ <;> (rw [hc1 _ _ (by simp <;> omega)]; simp [go_sem])
        have hs0 : W.heap.size = W1.heap.size := by rw [hz]; simp [World.setCell]
        have z0 : w.heap.size < W.heap.size := by rw [hs0]; exact hz1.1
        have z1 : w.heap.size + 1 < W.heap.size := by rw [hs0]; exact hz1.2.1
        have z2 : w.heap.size + 2 < W.heap.size := by rw [hs0]; exact hz1.2.2
        obtain ⟨n30, n31, n32, n33, n34⟩ := n3
        obtain ⟨n40, n41, n42, n43, n44⟩ := n4
        simp only [Nat.zero_add] at n30 n31 n32 n33 n34 n40 n41 n42 n43 n44
        clear hc hf hz hc1 hf1 hz1 qn hb1 nv nu hs0
        go_wp2_with (first
          | (go_at_call 12; with_reducible refine Calls.mono (C2.out _ hbW) ?_; rintro e W2 ⟨rfl, hb2⟩; have hc2 := hb2.cells; have hs2 := hb2.size; have hz2 := Nat.lt_of_lt_of_le z0 hs2; have hz3 := Nat.lt_of_lt_of_le z1 hs2; have hz4 := Nat.lt_of_lt_of_le z2 hs2)
          | (go_at_call 10; with_reducible refine Calls.mono (C5.out _) ?_; rintro e W3 ⟨rfl, hb3⟩; have hc3 := hb3.cells; have hs3 := hb3.size; have hz5 := Nat.lt_of_lt_of_le hz2 hs3; have hz6 := Nat.lt_of_lt_of_le hz3 hs3; have hz7 := Nat.lt_of_lt_of_le hz4 hs3)
          | (go_at_call 8; with_reducible refine Calls.mono (C3.out _) ?_; rintro e W4 ⟨rfl, hb4⟩; have hc4 := hb4.cells; have hs4 := hb4.size; have hz8 := Nat.lt_of_lt_of_le hz5 hs4; have hz9 := Nat.lt_of_lt_of_le hz6 hs4; have hz10 := Nat.lt_of_lt_of_le hz7 hs4)
          | (go_at_call 8; with_reducible refine Calls.mono (C4.out _) ?_; rintro e W5 ⟨rfl, hb5⟩; have hc5 := hb5.cells; have hs5 := hb5.size; have hz11 := Nat.lt_of_lt_of_le hz8 hs5; have hz12 := Nat.lt_of_lt_of_le hz9 hs5; have hz13 := Nat.lt_of_lt_of_le hz10 hs5))
        go_ret
        exact ⟨by simp, (((hbW.trans hb2).trans hb3).trans hb4).trans hb5⟩
    · cases P2
      all_goals
        simp only [ifV_t, ifV_f, Bool.not_true, Bool.not_false] at C1 C2 C3 C4
        replace C1 := Lib.hid C1
        replace C2 := Lib.hid C2
        replace C3 := Lib.hid C3
        replace C4 := Lib.hid C4
        go_enter Try.func6, Try.ntmps6
        go_upto_region 3 with (go_at_call 12; with_reducible refine Calls.mono (C1.out _ ((((Bel.refl w).alloc _).alloc _).alloc _)) ?_; rintro e W1 ⟨rfl, hb1⟩; have hc1 := hb1.cells; have hf1 := hb1.frozens; have hz1 := hb1.lt3; have qn : W1.cell? ⟨w.heap.size, 1, none⟩ = some (.bool not) := (hc1 _ _ (by simp <;> omega)).trans (by simp [go_sem]); replace hb1 := ((((Bel.refl w).alloc _).alloc _).alloc _).trans hb1)
        refine under_name (hb1.setCell (p := ⟨w.heap.size, 1, none⟩) (Nat.le_refl _) _) fun W hc hf hz hbW => ?_
        have n0 : W.cell? ⟨w.heap.size, 0, none⟩ = some (.bool true) := (hc _).trans ((set_other _ _ 1 _ 0 _ (.inr (by omega))).trans ((hc1 _ _ (by simp <;> omega)).trans (by simp [go_sem])))
        have n1 : W.cell? ⟨w.heap.size, 1, none⟩ = some (.bool (!not)) := (hc _).trans (World.cell?_setCell_same' W1 _ _ (by rw [qn]; rfl))
        have n2 : W.cell? ⟨w.heap.size, 2, none⟩ = some sl := (hc _).trans ((set_other _ _ 1 _ 2 _ (.inr (by omega))).trans ((hc1 _ _ (by simp <;> omega)).trans (by simp [go_sem])))
        have nv : ∀ o, W.cell? ⟨w.heap.size + 1, o, none⟩ = W1.cell? ⟨w.heap.size + 1, o, none⟩ := fun o => (hc _).trans (set_other _ _ 1 _ o _ (.inl (by omega)))
        have nu : ∀ o, W.cell? ⟨w.heap.size + 2, o, none⟩ = W1.cell? ⟨w.heap.size + 2, o, none⟩ := fun o => (hc _).trans (set_other _ _ 1 _ o _ (.inl (by omega)))
        have n3 : ValAt W (w.heap.size + 1) 0 ⟨v0, v1, v2, v3, v4⟩ := by simp only [ValAt, nv]; refine ⟨?_, ?_, ?_, ?_, ?_⟩ <;> (rw [hc1 _ _ (by simp <;> omega)]; simp [go_sem])
        have n4 : ValAt W (w.heap.size + 2) 0 ⟨u0, u1, u2, u3, u4⟩ := by simp only [ValAt, nu]; refine ⟨?_, ?_, ?_, ?_, ?_⟩ <;> (rw [hc1 _ _ (by simp <;> omega)]; simp [go_sem])
        have hs0 : W.heap.size = W1.heap.size := by rw [hz]; simp [World.setCell]
        have z0 : w.heap.size < W.heap.size := by rw [hs0]; exact hz1.1
        have z1 : w.heap.size + 1 < W.heap.size := by rw [hs0]; exact hz1.2.1
        have z2 : w.heap.size + 2 < W.heap.size := by rw [hs0]; exact hz1.2.2
        obtain ⟨n30, n31, n32, n33, n34⟩ := n3
        obtain ⟨n40, n41, n42, n43, n44⟩ := n4
        simp only [Nat.zero_add] at n30 n31 n32 n33 n34 n40 n41 n42 n43 n44
        clear hc hf hz hc1 hf1 hz1 qn hb1 nv nu hs0
        go_wp2_with (first
          | (go_at_call 12; with_reducible refine Calls.mono (C2.out _ hbW) ?_; rintro e W2 ⟨rfl, hb2⟩; have hc2 := hb2.cells; have hs2 := hb2.size; have hz2 := Nat.lt_of_lt_of_le z0 hs2; have hz3 := Nat.lt_of_lt_of_le z1 hs2; have hz4 := Nat.lt_of_lt_of_le z2 hs2)
          | (go_at_call 10; with_reducible refine Calls.mono (C5.out _) ?_; rintro e W3 ⟨rfl, hb3⟩; have hc3 := hb3.cells; have hs3 := hb3.size; have hz5 := Nat.lt_of_lt_of_le hz2 hs3; have hz6 := Nat.lt_of_lt_of_le hz3 hs3; have hz7 := Nat.lt_of_lt_of_le hz4 hs3)
          | (go_at_call 8; with_reducible refine Calls.mono (C3.out _) ?_; rintro e W4 ⟨rfl, hb4⟩; have hc4 := hb4.cells; have hs4 := hb4.size; have hz8 := Nat.lt_of_lt_of_le hz5 hs4; have hz9 := Nat.lt_of_lt_of_le hz6 hs4; have hz10 := Nat.lt_of_lt_of_le hz7 hs4)
          | (go_at_call 8; with_reducible refine Calls.mono (C4.out _) ?_; rintro e W5 ⟨rfl, hb5⟩; have hc5 := hb5.cells; have hs5 := hb5.size; have hz11 := Nat.lt_of_lt_of_le hz8 hs5; have hz12 := Nat.lt_of_lt_of_le hz9 hs5; have hz13 := Nat.lt_of_lt_of_le hz10 hs5))
        go_ret
        exact ⟨by simp, (((hbW.trans hb2).trans hb3).trans hb4).trans hb5⟩
theorem law_Turned (x : Cel) (v u : Val) (w : World) (hx : CelOk w x) (hv : v.text.size ≤ 9223372036854775807) (hu : u.text.size ≤ 9223372036854775807) : Calls Try.prog 6 #[x.val, v.val, u.val] w fun e w' => e = .returned (.bool true) ∧ Bel w w' := by
  have k1 := fun W (hW : Bel w W) => mAll_any x.any x.not x.l x.A x.c v W (hx.tsts.keep hW) hx.len (fun t h => tok_of (hx.ok t h)) hv
  have k2 := fun W (hW : Bel w W) => mAll_any x.any (!x.not) x.l x.A x.c v W (hx.tsts.keep hW) hx.len (fun t h => tok_of (hx.ok t h)) hv
  have k3 := fun W => mOne_any (cutT 2 u) v (cut_ok hu) hv W
  have k4 := fun W => mOne_any (cutT 5 u) v (cut_ok hu) hv W
  simp only [mallV_if] at k1 k2
  simp only [oneV_if, cut_snd (k := 2) (u := u) (by omega)] at k3
  simp only [oneV_if, cut_snd (k := 5) (u := u) (by omega)] at k4
  refine turned_walk x.any x.not _ v u _ _ _ _ _ _ _ _ rfl ⟨?_, ?_, ?_⟩ w k1 k2 k3 k4
  · intro h
    rw [h]
    exact ⟨by rw [usnd_turn], mall_turn⟩
  · rintro h ⟨h1, h2⟩
    rw [h] at h1 h2
    simp only [Bool.and_eq_true] at h1 h2
    exact usnd_both ⟨h1.1, h2.1⟩
  · intro _
    by_cases hk : v.kind = u.kind
    · rw [if_pos (by simp [hk]), cut_2 hk, cut_5 hk]
      by_cases h : vcmp v u < 0
      · rw [decide_eq_true h, decide_eq_false (by omega)]; rfl
      · rw [decide_eq_false h, decide_eq_true (by omega)]; rfl
    · rw [if_neg (by simp [hk])]
      exact ⟨cut_none hk, cut_none hk⟩
end Go.Proofs.Ytopgahnconbpmaa
