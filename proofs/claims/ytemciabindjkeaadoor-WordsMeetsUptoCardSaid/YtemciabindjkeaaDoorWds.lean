import Derived.Test.YtemciabindjkeaaDoorWdv
namespace Go.Proofs.YtemciabindjkeaaDoor
set_option linter.unusedSimpArgs false
set_option linter.unusedVariables false
open Go.RowKit Go.Lib

/-! Words: the law on Meet and Other. -/
theorem meetl_mem (a : Bool) (l : List ByteArray) (b : Bool) (m : List ByteArray) (s : ByteArray) : s ∈ meetl a l b m ↔ okw s = true ∧ (if a = true ∧ b = true then s ∈ l ∨ s ∈ m else (hasw a l s && hasw b m s) = true) := by
  have h1 := inl_iff l s
  have h2 := inl_iff m s
  cases a <;> cases b
  · rw [meetl3, keptl_mem]
    unfold hasw
    rw [← h1]
    cases okw s <;> cases inl l s <;> cases inl m s <;> simp
  · rw [meetl3, keptl_mem]
    unfold hasw
    rw [← h1]
    cases okw s <;> cases inl l s <;> cases inl m s <;> simp
  · rw [meetl2, keptl_mem]
    unfold hasw
    rw [← h2]
    cases okw s <;> cases inl l s <;> cases inl m s <;> simp
  · rw [meetl1, keptl_mem, List.mem_append]
    simp only [and_self, if_true]
    exact And.comm
theorem meet_has (a : Bool) (l : List ByteArray) (b : Bool) (m : List ByteArray) (s : ByteArray) : hasw (a && b) (meetl a l b m) s = (hasw a l s && hasw b m s) := by
  have h := meetl_mem a l b m s
  have h1 := inl_iff l s
  have h2 := inl_iff m s
  rw [← inl_iff] at h
  cases ho : okw s with
  | false => unfold hasw; rw [ho]; simp
  | true =>
    rw [ho] at h
    unfold hasw at h ⊢
    rw [ho] at h ⊢
    rw [← h1, ← h2] at h
    generalize inl (meetl a l b m) s = z at h ⊢
    generalize inl l s = p at h ⊢
    generalize inl m s = r at h ⊢
    cases a <;> cases b <;> cases z <;> cases p <;> cases r <;> simp at h ⊢
theorem other_has (a : Bool) (l : List ByteArray) (s : ByteArray) : hasw (!a) (keptl okw l) s = (!hasw a l s && okw s) := by
  rw [hasw_kept]
  unfold hasw
  cases okw s <;> cases inl l s <;> cases a <;> rfl
theorem meetl_goods (a : Bool) (l : List ByteArray) (b : Bool) (m : List ByteArray) : Goods (meetl a l b m) := by
  refine ⟨?_, fun s hs => ((meetl_mem a l b m s).1 hs).1⟩
  unfold meetl
  split
  · exact keptl_srt _ _
  · split <;> exact keptl_srt _ _
theorem meetl_len (a : Bool) (l : List ByteArray) (b : Bool) (m : List ByteArray) : (meetl a l b m).length ≤ l.length + m.length := by
  unfold meetl
  split
  · have := keptl_len okw (l ++ m); rw [List.length_append] at this; exact this
  · split
    · have := keptl_len (fun s => okw s && !inl l s) m; omega
    · have := keptl_len (fun s => okw s && !(inl m s == b)) l; omega
theorem meetl_fits {a : Bool} {l : List ByteArray} {b : Bool} {m : List ByteArray} (h1 : ∀ s ∈ l, Fits s) (h2 : ∀ s ∈ m, Fits s) : ∀ s ∈ meetl a l b m, Fits s := by
  intro s hs
  have : okw s = true := ((meetl_mem a l b m s).1 hs).1
  unfold okw at this
  rw [Bool.and_eq_true, decide_eq_true_eq] at this
  unfold Fits
  omega
def MadeV (W : World) (f : Value → Value) (r : List ByteArray) (v : Value) (w' : World) : Prop :=
  ∃ A c, v = f (.slice A r.length c) ∧ Strs w' A r ∧ (A = none → c = 0) ∧ (r = [] ∨ ∃ g, A = some ⟨g, 0, none⟩ ∧ W.heap.size ≤ g) ∧ Bel W w'
theorem Made.v {W w' : World} {e : Ending} {f : Value → Value} {r : List ByteArray} (h : Made W w' e f r) : ∃ v, e = .returned v ∧ MadeV W f r v w' := by
  obtain ⟨A, c, h1, h2⟩ := h
  exact ⟨_, h1, A, c, rfl, h2⟩
def Two (wx : World) (v7 v8 : Value) (p q : Bool) (x y : List ByteArray) : Prop :=
  ∃ B7 B8 A7 A8 c7 c8, v7 = .pointer (some ⟨B7, 0, none⟩) ∧ v8 = .pointer (some ⟨B8, 0, none⟩) ∧ WAt wx B7 p A7 x.length c7 ∧ WAt wx B8 q A8 y.length c8 ∧ Strs wx A7 x ∧ Strs wx A8 y ∧ (A7 = none → c7 = 0) ∧ (A8 = none → c8 = 0)
set_option maxRecDepth 100000 in
set_option maxHeartbeats 8000000 in
theorem law_Meets (a : Bool) (l : List ByteArray) (A : Option Addr) (c : Nat) (b : Bool) (m : List ByteArray) (A2 : Option Addr) (c2 : Nat) (s : ByteArray) (w : World) (ht : Tab w) (hl : Strs w A l) (hm : Strs w A2 m) (hA : A = none → c = 0) (hA2 : A2 = none → c2 = 0)
    (hn : l.length ≤ 1048576) (hn2 : m.length ≤ 1048576) (hs : ∀ s ∈ l, Fits s) (hs2 : ∀ s ∈ m, Fits s) (hfs : Fits s) :
    Calls Tryd.prog 4 #[.agg #[.bool a, .slice A l.length c], .agg #[.bool b, .slice A2 m.length c2], .string s] w fun e w' => e = .returned (.bool true) ∧ Bel w w' := by
  have HT := Lib.hid ht
  have HL := Lib.hid hl
  have HM := Lib.hid hm
  have me := fun W (hW : Bel w W) => meet_any a l A c b m A2 c2 W (hl.keep hW) (hm.keep hW) hA hA2 (by omega) (by omega) (fun _ _ => by omega) hs hs2
  have ot := fun W (hW : Bel w W) => other_any a l A c W (hl.keep hW) (by omega) hs
  unfold wset at me ot
  have KH := Lib.hid (meet_has a l b m)
  have KO := Lib.hid (other_has a l)
  have GX := Lib.hid (meetl_goods a l b m)
  have GY := Lib.hid (kept_goods okw l fun s h => h)
  have LX := Lib.hid (meetl_len a l b m)
  have LY := Lib.hid (keptl_len okw l)
  have FX := Lib.hid (meetl_fits (a := a) (b := b) hs hs2)
  have FY := Lib.hid (kept_fits (p := okw) hs)
  have AS := Lib.hid fun W (hW : Bel w W) => asks_any s l A c m A2 c2 W (hl.keep hW) (hm.keep hW) (by omega) (by omega)
  have AF := Lib.hid (askl_fits hfs hs hs2)
  have AL := Lib.hid (askl_len s l m)
  have WA := Lib.hid fun t (ht : Fits t) W (hW : Bel w W) => rwords_any a l A c t W (hl.keep hW) (by omega) ht
  have WB := Lib.hid fun t (ht : Fits t) W (hW : Bel w W) => rwords_any b m A2 c2 t W (hm.keep hW) (by omega) ht
  unfold wset at WA WB
  have NL := Lib.hid (And.intro hn hn2)
  generalize meetl a l b m = x at me KH GX LX FX
  generalize keptl okw l = y at ot KO GY LY FY
  go_enter Tryd.func4, Tryd.ntmps4
  go_upto_region 1 with fail
  refine under_name (((Bel.refl w).alloc _).alloc _) fun W hc hf hz hb => ?_
  have m0 : W.cell? ⟨w.heap.size, 0, none⟩ = some (.bool a) := by simp [hc, go_sem]
  have m1 : W.cell? ⟨w.heap.size, 1, none⟩ = some (.slice A l.length c) := by simp [hc, go_sem]
  have n0 : W.cell? ⟨w.heap.size + 1, 0, none⟩ = some (.bool b) := by simp [hc, go_sem]
  have n1 : W.cell? ⟨w.heap.size + 1, 1, none⟩ = some (.slice A2 m.length c2) := by simp [hc, go_sem]
  have z0 : w.heap.size + 1 < W.heap.size := by simp [hz]
  have z1 : w.heap.size < W.heap.size := by omega
  clear hc hf hz
  generalize hB1 : w.heap.size + 1 = B1 at n0 n1 z0 ⊢
  generalize w.heap.size = B0 at m0 m1 z1 hB1 ⊢
  clear hB1
  go_cut [7, 8] (fun v7 v8 wx => Two wx v7 v8 (a && b) (!a) x y ∧ Bel W wx)
  case first =>
    have ME := Lib.hid fun X (hX : Bel W X) => (me X (hb.trans hX)).mono fun e w' h => h.v
    have OT := Lib.hid fun X (hX : Bel W X) => (ot X (hb.trans hX)).mono fun e w' h => h.v
    have RD := Lib.hid fun X (hX : Bel W X) => And.intro ((hX.cells _ 0 z1).trans m0) (And.intro ((hX.cells _ 1 z1).trans m1) (And.intro ((hX.cells _ 0 z0).trans n0) ((hX.cells _ 1 z0).trans n1)))
    clear me ot m0 m1 n0 n1 z0 z1 hb hl hm hs hs2 hA hA2 hn hn2 ht
    refine wp_region_noPanic ?_
    refine wp_region_held (S := fun X => Bel W X) (by kernel_rfl) ?_
    have hX0 : Bel W { W with drawn := W.drawn + 1 } := (Bel.refl W).drew
    generalize { W with drawn := W.drawn + 1 } = X0 at hX0 ⊢
    refine wpAnyH_take (i := 0) (oi := { dst := some 13, op := Op.load 24 (Operand.tmp 3), type := 24, pos := "law.go:48", after := #[], guard := none }) (v := .agg #[.bool a, .slice A l.length c]) rfl (by kernel_rfl) (by kernel_rfl) (by kernel_rfl) (fun _ _ _ h => h) (.inl ⟨by rfl, fun X hS => by
        obtain ⟨k0, k1, k2, k3⟩ := RD.out X hS
        go_simp; first | done | with_reducible rfl | rfl⟩) hX0 ?_
    (try simp only [Act.put, List.setIfInBounds_toArray, List.set_cons_zero, List.set_cons_succ])
    refine wpAnyH_take (i := 1) (oi := { dst := some 14, op := Op.load 24 (Operand.tmp 4), type := 24, pos := "law.go:48", after := #[], guard := none }) (v := .agg #[.bool b, .slice A2 m.length c2]) rfl (by kernel_rfl) (by kernel_rfl) (by kernel_rfl) (fun _ _ _ h => h) (.inl ⟨by rfl, fun X hS => by
        obtain ⟨k0, k1, k2, k3⟩ := RD.out X hS
        go_simp; first | done | with_reducible rfl | rfl⟩) hX0 ?_
    (try simp only [Act.put, List.setIfInBounds_toArray, List.set_cons_zero, List.set_cons_succ])
    refine wpAnyH_take (i := 3) (oi := { dst := some 16, op := Op.load 24 (Operand.tmp 3), type := 24, pos := "law.go:48", after := #[], guard := none }) (v := .agg #[.bool a, .slice A l.length c]) rfl (by kernel_rfl) (by kernel_rfl) (by kernel_rfl) (fun _ _ _ h => h) (.inl ⟨by rfl, fun X hS => by
        obtain ⟨k0, k1, k2, k3⟩ := RD.out X hS
        go_simp; first | done | with_reducible rfl | rfl⟩) hX0 ?_
    (try simp only [Act.put, List.setIfInBounds_toArray, List.set_cons_zero, List.set_cons_succ])
    refine wpAnyH_all (rs := [2, 5, 6]) (by kernel_rfl) (by simp) ?_
    intro i hi
    simp only [List.mem_cons, List.not_mem_nil, or_false] at hi
    rcases hi with rfl | rfl | rfl
    · refine wpOp_enter (o := { dst := some 15, op := Op.call { callee := Callee.value (Operand.func 15), args := #[Operand.tmp 13, Operand.tmp 14], argTypes := #[24, 24] }, type := 24, pos := "law.go:48", after := #[{ on := 0, ground := Ground.data }, { on := 1, ground := Ground.data }], guard := none }) (R := MadeV X0 (fun v => .agg #[.bool (a && b), v]) x) rfl (by rfl) (by go_simp; first | done | with_reducible rfl | rfl) (ME.out X0 hX0) ?_
      rintro v X1 ⟨Ax, cx, rfl, Sx, Nx, Gx, hb'⟩
      refine ⟨hX0.trans hb', ?_⟩
      (try simp only [Act.put, List.setIfInBounds_toArray, List.set_cons_zero, List.set_cons_succ])
      have hX1 := hX0.trans hb'
      have Ox := own1_of Gx
      clear hb' Gx
      refine wpAnyH_all (rs := [4, 5, 6]) (by kernel_rfl) (by simp) ?_
      intro i hi
      simp only [List.mem_cons, List.not_mem_nil, or_false] at hi
      rcases hi with rfl | rfl | rfl
      · refine wpOp_enter (o := { dst := some 17, op := Op.call { callee := Callee.value (Operand.func 16), args := #[Operand.tmp 16], argTypes := #[24] }, type := 24, pos := "law.go:48", after := #[{ on := 3, ground := Ground.data }, { on := 2, ground := Ground.chain }], guard := none }) (R := MadeV X1 (fun v => .agg #[.bool !a, v]) y) rfl (by rfl) (by go_simp; first | done | with_reducible rfl | rfl) (OT.out X1 hX1) ?_
        rintro v X2 ⟨Ay, cy, rfl, Sy, Ny, Gy, hb'⟩
        refine ⟨hX1.trans hb', ?_⟩
        (try simp only [Act.put, List.setIfInBounds_toArray, List.set_cons_zero, List.set_cons_succ])
        have hX2 := hX1.trans hb'
        have Oy := own1_of Gy
        have Sx := Sx.keep hb'
        clear hb' Gy
        refine wpAnyH_all (rs := [5, 6]) (by kernel_rfl) (by simp) ?_
        intro i hi
        simp only [List.mem_cons, List.not_mem_nil, or_false] at hi
        rcases hi with rfl | rfl
        · refine wpOp_value (o := { dst := some 7, op := Op.alloc 24, type := 0, pos := "law.go:48", after := #[], guard := none }) (v := .pointer (some ⟨X2.heap.size, 0, none⟩)) (w' := X2.alloc (.cells #[.bool false, .slice none 0 0] 24)) rfl (by rfl) (by go_simp; first | done | with_reducible rfl | rfl) ?_
          have hb' : Bel X2 (X2.alloc (.cells #[.bool false, .slice none 0 0] 24)) := (Bel.refl _).alloc _
          refine ⟨hX2.trans hb', ?_⟩
          (try simp only [Act.put, List.setIfInBounds_toArray, List.set_cons_zero, List.set_cons_succ])
          have F7 := FreeW.new X2
          have L7 : W.heap.size ≤ X2.heap.size := hX2.size
          generalize X2.alloc (.cells #[.bool false, .slice none 0 0] 24) = X3 at hb' F7 ⊢
          have hX3 := hX2.trans hb'
          have Px7 := apart_new Sx Ox
          have Sx := Sx.keep hb'
          have Py7 := apart_new Sy Oy
          have Sy := Sy.keep hb'
          clear hb'
          generalize X2.heap.size = B7 at F7 L7 Px7 Py7 ⊢
          refine wpAnyH_all (rs := [6]) (by kernel_rfl) (by simp) ?_
          intro i hi
          simp only [List.mem_cons, List.not_mem_nil, or_false] at hi
          subst hi
          refine wpOp_value (o := { dst := some 8, op := Op.alloc 24, type := 0, pos := "law.go:48", after := #[], guard := none }) (v := .pointer (some ⟨X3.heap.size, 0, none⟩)) (w' := X3.alloc (.cells #[.bool false, .slice none 0 0] 24)) rfl (by rfl) (by go_simp; first | done | with_reducible rfl | rfl) ?_
          have hb' : Bel X3 (X3.alloc (.cells #[.bool false, .slice none 0 0] 24)) := (Bel.refl _).alloc _
          refine ⟨hX3.trans hb', ?_⟩
          (try simp only [Act.put, List.setIfInBounds_toArray, List.set_cons_zero, List.set_cons_succ])
          have F8 := FreeW.new X3
          have L8 : W.heap.size ≤ X3.heap.size := hX3.size
          generalize X3.alloc (.cells #[.bool false, .slice none 0 0] 24) = X4 at hb' F8 ⊢
          have hX4 := hX3.trans hb'
          have Px8 := apart_new Sx Ox
          have Sx := Sx.keep hb'
          have Py8 := apart_new Sy Oy
          have Sy := Sy.keep hb'
          have NE : B7 ≠ X3.heap.size := Nat.ne_of_lt F7.1
          have F7 := F7.keep hb'
          clear hb'
          generalize X3.heap.size = B8 at F8 L8 Px8 Py8 NE ⊢
          refine wpAnyH_all (rs := [7]) (by kernel_rfl) (by simp) ?_
          intro i hi
          simp only [List.mem_cons, List.not_mem_nil, or_false] at hi
          subst hi
          refine wpOp_skip (o := { dst := none, op := Op.store 24 (Operand.tmp 7) (Operand.tmp 15), type := 0, pos := "law.go:48", after := #[{ on := 5, ground := Ground.data }, { on := 2, ground := Ground.data }, { on := 4, ground := Ground.chain }, { on := 0, ground := Ground.phase }, { on := 1, ground := Ground.phase }, { on := 2, ground := Ground.phase }, { on := 3, ground := Ground.textOnly Departure.lateStores }, { on := 4, ground := Ground.textOnly Departure.lateStoresUnsure }, { on := 5, ground := Ground.phase }, { on := 6, ground := Ground.phase }], guard := none }) (w' := putW X4 B7 (a && b) (.slice Ax x.length cx)) rfl (by rfl) (by obtain ⟨f0, f1, f2, f3, f4⟩ := F7; unfold putW; go_simp; first | done | with_reducible rfl | rfl) ?_
          have hX5 : Bel W (putW X4 B7 (a && b) (.slice Ax x.length cx)) := putW_bel hX4 L7
          refine ⟨hX5, ?_⟩
          (try simp only [Act.put, List.setIfInBounds_toArray, List.set_cons_zero, List.set_cons_succ])
          have K7 := putW_at (A := Ax) (n := x.length) (c := cx) (a && b) F7
          have F8 := F8.putW (all := a && b) (v := .slice Ax x.length cx) NE.symm
          have Sx := Sx.putW (all := a && b) (v := .slice Ax x.length cx) Px7
          have Sy := Sy.putW (all := a && b) (v := .slice Ax x.length cx) Py7
          generalize putW X4 B7 (a && b) (.slice Ax x.length cx) = X5 at hX5 K7 F8 Sx Sy ⊢
          refine wpAnyH_all (rs := [8]) (by kernel_rfl) (by simp) ?_
          intro i hi
          simp only [List.mem_cons, List.not_mem_nil, or_false] at hi
          subst hi
          refine wpOp_skip (o := { dst := none, op := Op.store 24 (Operand.tmp 8) (Operand.tmp 17), type := 0, pos := "law.go:48", after := #[{ on := 6, ground := Ground.data }, { on := 4, ground := Ground.data }, { on := 7, ground := Ground.chain }, { on := 0, ground := Ground.phase }, { on := 1, ground := Ground.phase }, { on := 2, ground := Ground.phase }, { on := 3, ground := Ground.phase }, { on := 4, ground := Ground.phase }, { on := 5, ground := Ground.phase }, { on := 6, ground := Ground.phase }, { on := 7, ground := Ground.phase }], guard := none }) (w' := putW X5 B8 (!a) (.slice Ay y.length cy)) rfl (by rfl) (by obtain ⟨f0, f1, f2, f3, f4⟩ := F8; unfold putW; go_simp; first | done | with_reducible rfl | rfl) ?_
          have hX6 : Bel W (putW X5 B8 (!a) (.slice Ay y.length cy)) := putW_bel hX5 L8
          refine ⟨hX6, ?_⟩
          (try simp only [Act.put, List.setIfInBounds_toArray, List.set_cons_zero, List.set_cons_succ])
          have K8 := putW_at (A := Ay) (n := y.length) (c := cy) (!a) F8
          have K7 := K7.putW (all := !a) (v := .slice Ay y.length cy) NE
          have Sx := Sx.putW (all := !a) (v := .slice Ay y.length cy) Px8
          have Sy := Sy.putW (all := !a) (v := .slice Ay y.length cy) Py8
          generalize putW X5 B8 (!a) (.slice Ay y.length cy) = X6 at hX6 K8 K7 Sx Sy ⊢
          refine wpAnyH_done (by kernel_rfl) ?_ _
          refine NoPanic.normal ?_
          go_wp2
          go_meet
          exact ⟨⟨B7, B8, Ax, Ay, cx, cy, rfl, rfl, K7, K8, Sx, Sy, Nx, Ny⟩, hX6⟩
        · refine wpOp_value (o := { dst := some 8, op := Op.alloc 24, type := 0, pos := "law.go:48", after := #[], guard := none }) (v := .pointer (some ⟨X2.heap.size, 0, none⟩)) (w' := X2.alloc (.cells #[.bool false, .slice none 0 0] 24)) rfl (by rfl) (by go_simp; first | done | with_reducible rfl | rfl) ?_
          have hb' : Bel X2 (X2.alloc (.cells #[.bool false, .slice none 0 0] 24)) := (Bel.refl _).alloc _
          refine ⟨hX2.trans hb', ?_⟩
          (try simp only [Act.put, List.setIfInBounds_toArray, List.set_cons_zero, List.set_cons_succ])
          have F8 := FreeW.new X2
          have L8 : W.heap.size ≤ X2.heap.size := hX2.size
          generalize X2.alloc (.cells #[.bool false, .slice none 0 0] 24) = X3 at hb' F8 ⊢
          have hX3 := hX2.trans hb'
          have Px8 := apart_new Sx Ox
          have Sx := Sx.keep hb'
          have Py8 := apart_new Sy Oy
          have Sy := Sy.keep hb'
          clear hb'
          generalize X2.heap.size = B8 at F8 L8 Px8 Py8 ⊢
          refine wpAnyH_all (rs := [5]) (by kernel_rfl) (by simp) ?_
          intro i hi
          simp only [List.mem_cons, List.not_mem_nil, or_false] at hi
          subst hi
          refine wpOp_value (o := { dst := some 7, op := Op.alloc 24, type := 0, pos := "law.go:48", after := #[], guard := none }) (v := .pointer (some ⟨X3.heap.size, 0, none⟩)) (w' := X3.alloc (.cells #[.bool false, .slice none 0 0] 24)) rfl (by rfl) (by go_simp; first | done | with_reducible rfl | rfl) ?_
          have hb' : Bel X3 (X3.alloc (.cells #[.bool false, .slice none 0 0] 24)) := (Bel.refl _).alloc _
          refine ⟨hX3.trans hb', ?_⟩
          (try simp only [Act.put, List.setIfInBounds_toArray, List.set_cons_zero, List.set_cons_succ])
          have F7 := FreeW.new X3
          have L7 : W.heap.size ≤ X3.heap.size := hX3.size
          generalize X3.alloc (.cells #[.bool false, .slice none 0 0] 24) = X4 at hb' F7 ⊢
          have hX4 := hX3.trans hb'
          have Px7 := apart_new Sx Ox
          have Sx := Sx.keep hb'
          have Py7 := apart_new Sy Oy
          have Sy := Sy.keep hb'
          have NE : B8 ≠ X3.heap.size := Nat.ne_of_lt F8.1
          have F8 := F8.keep hb'
          clear hb'
          generalize X3.heap.size = B7 at F7 L7 Px7 Py7 NE ⊢
          have NE := NE.symm
          refine wpAnyH_all (rs := [7]) (by kernel_rfl) (by simp) ?_
          intro i hi
          simp only [List.mem_cons, List.not_mem_nil, or_false] at hi
          subst hi
          refine wpOp_skip (o := { dst := none, op := Op.store 24 (Operand.tmp 7) (Operand.tmp 15), type := 0, pos := "law.go:48", after := #[{ on := 5, ground := Ground.data }, { on := 2, ground := Ground.data }, { on := 4, ground := Ground.chain }, { on := 0, ground := Ground.phase }, { on := 1, ground := Ground.phase }, { on := 2, ground := Ground.phase }, { on := 3, ground := Ground.textOnly Departure.lateStores }, { on := 4, ground := Ground.textOnly Departure.lateStoresUnsure }, { on := 5, ground := Ground.phase }, { on := 6, ground := Ground.phase }], guard := none }) (w' := putW X4 B7 (a && b) (.slice Ax x.length cx)) rfl (by rfl) (by obtain ⟨f0, f1, f2, f3, f4⟩ := F7; unfold putW; go_simp; first | done | with_reducible rfl | rfl) ?_
          have hX5 : Bel W (putW X4 B7 (a && b) (.slice Ax x.length cx)) := putW_bel hX4 L7
          refine ⟨hX5, ?_⟩
          (try simp only [Act.put, List.setIfInBounds_toArray, List.set_cons_zero, List.set_cons_succ])
          have K7 := putW_at (A := Ax) (n := x.length) (c := cx) (a && b) F7
          have F8 := F8.putW (all := a && b) (v := .slice Ax x.length cx) NE.symm
          have Sx := Sx.putW (all := a && b) (v := .slice Ax x.length cx) Px7
          have Sy := Sy.putW (all := a && b) (v := .slice Ax x.length cx) Py7
          generalize putW X4 B7 (a && b) (.slice Ax x.length cx) = X5 at hX5 K7 F8 Sx Sy ⊢
          refine wpAnyH_all (rs := [8]) (by kernel_rfl) (by simp) ?_
          intro i hi
          simp only [List.mem_cons, List.not_mem_nil, or_false] at hi
          subst hi
          refine wpOp_skip (o := { dst := none, op := Op.store 24 (Operand.tmp 8) (Operand.tmp 17), type := 0, pos := "law.go:48", after := #[{ on := 6, ground := Ground.data }, { on := 4, ground := Ground.data }, { on := 7, ground := Ground.chain }, { on := 0, ground := Ground.phase }, { on := 1, ground := Ground.phase }, { on := 2, ground := Ground.phase }, { on := 3, ground := Ground.phase }, { on := 4, ground := Ground.phase }, { on := 5, ground := Ground.phase }, { on := 6, ground := Ground.phase }, { on := 7, ground := Ground.phase }], guard := none }) (w' := putW X5 B8 (!a) (.slice Ay y.length cy)) rfl (by rfl) (by obtain ⟨f0, f1, f2, f3, f4⟩ := F8; unfold putW; go_simp; first | done | with_reducible rfl | rfl) ?_
          have hX6 : Bel W (putW X5 B8 (!a) (.slice Ay y.length cy)) := putW_bel hX5 L8
          refine ⟨hX6, ?_⟩
          (try simp only [Act.put, List.setIfInBounds_toArray, List.set_cons_zero, List.set_cons_succ])
          have K8 := putW_at (A := Ay) (n := y.length) (c := cy) (!a) F8
          have K7 := K7.putW (all := !a) (v := .slice Ay y.length cy) NE
          have Sx := Sx.putW (all := !a) (v := .slice Ay y.length cy) Px8
          have Sy := Sy.putW (all := !a) (v := .slice Ay y.length cy) Py8
          generalize putW X5 B8 (!a) (.slice Ay y.length cy) = X6 at hX6 K8 K7 Sx Sy ⊢
          refine wpAnyH_done (by kernel_rfl) ?_ _
          refine NoPanic.normal ?_
          go_wp2
          go_meet
          exact ⟨⟨B7, B8, Ax, Ay, cx, cy, rfl, rfl, K7, K8, Sx, Sy, Nx, Ny⟩, hX6⟩
      · refine wpOp_value (o := { dst := some 7, op := Op.alloc 24, type := 0, pos := "law.go:48", after := #[], guard := none }) (v := .pointer (some ⟨X1.heap.size, 0, none⟩)) (w' := X1.alloc (.cells #[.bool false, .slice none 0 0] 24)) rfl (by rfl) (by go_simp; first | done | with_reducible rfl | rfl) ?_
        have hb' : Bel X1 (X1.alloc (.cells #[.bool false, .slice none 0 0] 24)) := (Bel.refl _).alloc _
        refine ⟨hX1.trans hb', ?_⟩
        (try simp only [Act.put, List.setIfInBounds_toArray, List.set_cons_zero, List.set_cons_succ])
        have F7 := FreeW.new X1
        have L7 : W.heap.size ≤ X1.heap.size := hX1.size
        generalize X1.alloc (.cells #[.bool false, .slice none 0 0] 24) = X2 at hb' F7 ⊢
        have hX2 := hX1.trans hb'
        have Px7 := apart_new Sx Ox
        have Sx := Sx.keep hb'
        clear hb'
        generalize X1.heap.size = B7 at F7 L7 Px7 ⊢
        refine wpAnyH_all (rs := [4, 6]) (by kernel_rfl) (by simp) ?_
        intro i hi
        simp only [List.mem_cons, List.not_mem_nil, or_false] at hi
        rcases hi with rfl | rfl
        · refine wpOp_enter (o := { dst := some 17, op := Op.call { callee := Callee.value (Operand.func 16), args := #[Operand.tmp 16], argTypes := #[24] }, type := 24, pos := "law.go:48", after := #[{ on := 3, ground := Ground.data }, { on := 2, ground := Ground.chain }], guard := none }) (R := MadeV X2 (fun v => .agg #[.bool !a, v]) y) rfl (by rfl) (by go_simp; first | done | with_reducible rfl | rfl) (OT.out X2 hX2) ?_
          rintro v X3 ⟨Ay, cy, rfl, Sy, Ny, Gy, hb'⟩
          refine ⟨hX2.trans hb', ?_⟩
          (try simp only [Act.put, List.setIfInBounds_toArray, List.set_cons_zero, List.set_cons_succ])
          have hX3 := hX2.trans hb'
          have Oy := own1_of Gy
          have Sx := Sx.keep hb'
          have Py7 := apart_old Gy F7.1
          have F7 := F7.keep hb'
          clear hb' Gy
          refine wpAnyH_all (rs := [6]) (by kernel_rfl) (by simp) ?_
          intro i hi
          simp only [List.mem_cons, List.not_mem_nil, or_false] at hi
          subst hi
          refine wpOp_value (o := { dst := some 8, op := Op.alloc 24, type := 0, pos := "law.go:48", after := #[], guard := none }) (v := .pointer (some ⟨X3.heap.size, 0, none⟩)) (w' := X3.alloc (.cells #[.bool false, .slice none 0 0] 24)) rfl (by rfl) (by go_simp; first | done | with_reducible rfl | rfl) ?_
          have hb' : Bel X3 (X3.alloc (.cells #[.bool false, .slice none 0 0] 24)) := (Bel.refl _).alloc _
          refine ⟨hX3.trans hb', ?_⟩
          (try simp only [Act.put, List.setIfInBounds_toArray, List.set_cons_zero, List.set_cons_succ])
          have F8 := FreeW.new X3
          have L8 : W.heap.size ≤ X3.heap.size := hX3.size
          generalize X3.alloc (.cells #[.bool false, .slice none 0 0] 24) = X4 at hb' F8 ⊢
          have hX4 := hX3.trans hb'
          have Px8 := apart_new Sx Ox
          have Sx := Sx.keep hb'
          have Py8 := apart_new Sy Oy
          have Sy := Sy.keep hb'
          have NE : B7 ≠ X3.heap.size := Nat.ne_of_lt F7.1
          have F7 := F7.keep hb'
          clear hb'
          generalize X3.heap.size = B8 at F8 L8 Px8 Py8 NE ⊢
          refine wpAnyH_all (rs := [7]) (by kernel_rfl) (by simp) ?_
          intro i hi
          simp only [List.mem_cons, List.not_mem_nil, or_false] at hi
          subst hi
          refine wpOp_skip (o := { dst := none, op := Op.store 24 (Operand.tmp 7) (Operand.tmp 15), type := 0, pos := "law.go:48", after := #[{ on := 5, ground := Ground.data }, { on := 2, ground := Ground.data }, { on := 4, ground := Ground.chain }, { on := 0, ground := Ground.phase }, { on := 1, ground := Ground.phase }, { on := 2, ground := Ground.phase }, { on := 3, ground := Ground.textOnly Departure.lateStores }, { on := 4, ground := Ground.textOnly Departure.lateStoresUnsure }, { on := 5, ground := Ground.phase }, { on := 6, ground := Ground.phase }], guard := none }) (w' := putW X4 B7 (a && b) (.slice Ax x.length cx)) rfl (by rfl) (by obtain ⟨f0, f1, f2, f3, f4⟩ := F7; unfold putW; go_simp; first | done | with_reducible rfl | rfl) ?_
          have hX5 : Bel W (putW X4 B7 (a && b) (.slice Ax x.length cx)) := putW_bel hX4 L7
          refine ⟨hX5, ?_⟩
          (try simp only [Act.put, List.setIfInBounds_toArray, List.set_cons_zero, List.set_cons_succ])
          have K7 := putW_at (A := Ax) (n := x.length) (c := cx) (a && b) F7
          have F8 := F8.putW (all := a && b) (v := .slice Ax x.length cx) NE.symm
          have Sx := Sx.putW (all := a && b) (v := .slice Ax x.length cx) Px7
          have Sy := Sy.putW (all := a && b) (v := .slice Ax x.length cx) Py7
          generalize putW X4 B7 (a && b) (.slice Ax x.length cx) = X5 at hX5 K7 F8 Sx Sy ⊢
          refine wpAnyH_all (rs := [8]) (by kernel_rfl) (by simp) ?_
          intro i hi
          simp only [List.mem_cons, List.not_mem_nil, or_false] at hi
          subst hi
          refine wpOp_skip (o := { dst := none, op := Op.store 24 (Operand.tmp 8) (Operand.tmp 17), type := 0, pos := "law.go:48", after := #[{ on := 6, ground := Ground.data }, { on := 4, ground := Ground.data }, { on := 7, ground := Ground.chain }, { on := 0, ground := Ground.phase }, { on := 1, ground := Ground.phase }, { on := 2, ground := Ground.phase }, { on := 3, ground := Ground.phase }, { on := 4, ground := Ground.phase }, { on := 5, ground := Ground.phase }, { on := 6, ground := Ground.phase }, { on := 7, ground := Ground.phase }], guard := none }) (w' := putW X5 B8 (!a) (.slice Ay y.length cy)) rfl (by rfl) (by obtain ⟨f0, f1, f2, f3, f4⟩ := F8; unfold putW; go_simp; first | done | with_reducible rfl | rfl) ?_
          have hX6 : Bel W (putW X5 B8 (!a) (.slice Ay y.length cy)) := putW_bel hX5 L8
          refine ⟨hX6, ?_⟩
          (try simp only [Act.put, List.setIfInBounds_toArray, List.set_cons_zero, List.set_cons_succ])
          have K8 := putW_at (A := Ay) (n := y.length) (c := cy) (!a) F8
          have K7 := K7.putW (all := !a) (v := .slice Ay y.length cy) NE
          have Sx := Sx.putW (all := !a) (v := .slice Ay y.length cy) Px8
          have Sy := Sy.putW (all := !a) (v := .slice Ay y.length cy) Py8
          generalize putW X5 B8 (!a) (.slice Ay y.length cy) = X6 at hX6 K8 K7 Sx Sy ⊢
          refine wpAnyH_done (by kernel_rfl) ?_ _
          refine NoPanic.normal ?_
          go_wp2
          go_meet
          exact ⟨⟨B7, B8, Ax, Ay, cx, cy, rfl, rfl, K7, K8, Sx, Sy, Nx, Ny⟩, hX6⟩
        · refine wpOp_value (o := { dst := some 8, op := Op.alloc 24, type := 0, pos := "law.go:48", after := #[], guard := none }) (v := .pointer (some ⟨X2.heap.size, 0, none⟩)) (w' := X2.alloc (.cells #[.bool false, .slice none 0 0] 24)) rfl (by rfl) (by go_simp; first | done | with_reducible rfl | rfl) ?_
          have hb' : Bel X2 (X2.alloc (.cells #[.bool false, .slice none 0 0] 24)) := (Bel.refl _).alloc _
          refine ⟨hX2.trans hb', ?_⟩
          (try simp only [Act.put, List.setIfInBounds_toArray, List.set_cons_zero, List.set_cons_succ])
          have F8 := FreeW.new X2
          have L8 : W.heap.size ≤ X2.heap.size := hX2.size
          generalize X2.alloc (.cells #[.bool false, .slice none 0 0] 24) = X3 at hb' F8 ⊢
          have hX3 := hX2.trans hb'
          have Px8 := apart_new Sx Ox
          have Sx := Sx.keep hb'
          have NE : B7 ≠ X2.heap.size := Nat.ne_of_lt F7.1
          have F7 := F7.keep hb'
          clear hb'
          generalize X2.heap.size = B8 at F8 L8 Px8 NE ⊢
          refine wpAnyH_all (rs := [4]) (by kernel_rfl) (by simp) ?_
          intro i hi
          simp only [List.mem_cons, List.not_mem_nil, or_false] at hi
          subst hi
          refine wpOp_enter (o := { dst := some 17, op := Op.call { callee := Callee.value (Operand.func 16), args := #[Operand.tmp 16], argTypes := #[24] }, type := 24, pos := "law.go:48", after := #[{ on := 3, ground := Ground.data }, { on := 2, ground := Ground.chain }], guard := none }) (R := MadeV X3 (fun v => .agg #[.bool !a, v]) y) rfl (by rfl) (by go_simp; first | done | with_reducible rfl | rfl) (OT.out X3 hX3) ?_
          rintro v X4 ⟨Ay, cy, rfl, Sy, Ny, Gy, hb'⟩
          refine ⟨hX3.trans hb', ?_⟩
          (try simp only [Act.put, List.setIfInBounds_toArray, List.set_cons_zero, List.set_cons_succ])
          have hX4 := hX3.trans hb'
          have Oy := own1_of Gy
          have Sx := Sx.keep hb'
          have Py7 := apart_old Gy F7.1
          have F7 := F7.keep hb'
          have Py8 := apart_old Gy F8.1
          have F8 := F8.keep hb'
          clear hb' Gy
          refine wpAnyH_all (rs := [7]) (by kernel_rfl) (by simp) ?_
          intro i hi
          simp only [List.mem_cons, List.not_mem_nil, or_false] at hi
          subst hi
          refine wpOp_skip (o := { dst := none, op := Op.store 24 (Operand.tmp 7) (Operand.tmp 15), type := 0, pos := "law.go:48", after := #[{ on := 5, ground := Ground.data }, { on := 2, ground := Ground.data }, { on := 4, ground := Ground.chain }, { on := 0, ground := Ground.phase }, { on := 1, ground := Ground.phase }, { on := 2, ground := Ground.phase }, { on := 3, ground := Ground.textOnly Departure.lateStores }, { on := 4, ground := Ground.textOnly Departure.lateStoresUnsure }, { on := 5, ground := Ground.phase }, { on := 6, ground := Ground.phase }], guard := none }) (w' := putW X4 B7 (a && b) (.slice Ax x.length cx)) rfl (by rfl) (by obtain ⟨f0, f1, f2, f3, f4⟩ := F7; unfold putW; go_simp; first | done | with_reducible rfl | rfl) ?_
          have hX5 : Bel W (putW X4 B7 (a && b) (.slice Ax x.length cx)) := putW_bel hX4 L7
          refine ⟨hX5, ?_⟩
          (try simp only [Act.put, List.setIfInBounds_toArray, List.set_cons_zero, List.set_cons_succ])
          have K7 := putW_at (A := Ax) (n := x.length) (c := cx) (a && b) F7
          have F8 := F8.putW (all := a && b) (v := .slice Ax x.length cx) NE.symm
          have Sx := Sx.putW (all := a && b) (v := .slice Ax x.length cx) Px7
          have Sy := Sy.putW (all := a && b) (v := .slice Ax x.length cx) Py7
          generalize putW X4 B7 (a && b) (.slice Ax x.length cx) = X5 at hX5 K7 F8 Sx Sy ⊢
          refine wpAnyH_all (rs := [8]) (by kernel_rfl) (by simp) ?_
          intro i hi
          simp only [List.mem_cons, List.not_mem_nil, or_false] at hi
          subst hi
          refine wpOp_skip (o := { dst := none, op := Op.store 24 (Operand.tmp 8) (Operand.tmp 17), type := 0, pos := "law.go:48", after := #[{ on := 6, ground := Ground.data }, { on := 4, ground := Ground.data }, { on := 7, ground := Ground.chain }, { on := 0, ground := Ground.phase }, { on := 1, ground := Ground.phase }, { on := 2, ground := Ground.phase }, { on := 3, ground := Ground.phase }, { on := 4, ground := Ground.phase }, { on := 5, ground := Ground.phase }, { on := 6, ground := Ground.phase }, { on := 7, ground := Ground.phase }], guard := none }) (w' := putW X5 B8 (!a) (.slice Ay y.length cy)) rfl (by rfl) (by obtain ⟨f0, f1, f2, f3, f4⟩ := F8; unfold putW; go_simp; first | done | with_reducible rfl | rfl) ?_
          have hX6 : Bel W (putW X5 B8 (!a) (.slice Ay y.length cy)) := putW_bel hX5 L8
          refine ⟨hX6, ?_⟩
          (try simp only [Act.put, List.setIfInBounds_toArray, List.set_cons_zero, List.set_cons_succ])
          have K8 := putW_at (A := Ay) (n := y.length) (c := cy) (!a) F8
          have K7 := K7.putW (all := !a) (v := .slice Ay y.length cy) NE
          have Sx := Sx.putW (all := !a) (v := .slice Ay y.length cy) Px8
          have Sy := Sy.putW (all := !a) (v := .slice Ay y.length cy) Py8
          generalize putW X5 B8 (!a) (.slice Ay y.length cy) = X6 at hX6 K8 K7 Sx Sy ⊢
          refine wpAnyH_done (by kernel_rfl) ?_ _
          refine NoPanic.normal ?_
          go_wp2
          go_meet
          exact ⟨⟨B7, B8, Ax, Ay, cx, cy, rfl, rfl, K7, K8, Sx, Sy, Nx, Ny⟩, hX6⟩
      · refine wpOp_value (o := { dst := some 8, op := Op.alloc 24, type := 0, pos := "law.go:48", after := #[], guard := none }) (v := .pointer (some ⟨X1.heap.size, 0, none⟩)) (w' := X1.alloc (.cells #[.bool false, .slice none 0 0] 24)) rfl (by rfl) (by go_simp; first | done | with_reducible rfl | rfl) ?_
        have hb' : Bel X1 (X1.alloc (.cells #[.bool false, .slice none 0 0] 24)) := (Bel.refl _).alloc _
        refine ⟨hX1.trans hb', ?_⟩
        (try simp only [Act.put, List.setIfInBounds_toArray, List.set_cons_zero, List.set_cons_succ])
        have F8 := FreeW.new X1
        have L8 : W.heap.size ≤ X1.heap.size := hX1.size
        generalize X1.alloc (.cells #[.bool false, .slice none 0 0] 24) = X2 at hb' F8 ⊢
        have hX2 := hX1.trans hb'
        have Px8 := apart_new Sx Ox
        have Sx := Sx.keep hb'
        clear hb'
        generalize X1.heap.size = B8 at F8 L8 Px8 ⊢
        refine wpAnyH_all (rs := [4, 5]) (by kernel_rfl) (by simp) ?_
        intro i hi
        simp only [List.mem_cons, List.not_mem_nil, or_false] at hi
        rcases hi with rfl | rfl
        · refine wpOp_enter (o := { dst := some 17, op := Op.call { callee := Callee.value (Operand.func 16), args := #[Operand.tmp 16], argTypes := #[24] }, type := 24, pos := "law.go:48", after := #[{ on := 3, ground := Ground.data }, { on := 2, ground := Ground.chain }], guard := none }) (R := MadeV X2 (fun v => .agg #[.bool !a, v]) y) rfl (by rfl) (by go_simp; first | done | with_reducible rfl | rfl) (OT.out X2 hX2) ?_
          rintro v X3 ⟨Ay, cy, rfl, Sy, Ny, Gy, hb'⟩
          refine ⟨hX2.trans hb', ?_⟩
          (try simp only [Act.put, List.setIfInBounds_toArray, List.set_cons_zero, List.set_cons_succ])
          have hX3 := hX2.trans hb'
          have Oy := own1_of Gy
          have Sx := Sx.keep hb'
          have Py8 := apart_old Gy F8.1
          have F8 := F8.keep hb'
          clear hb' Gy
          refine wpAnyH_all (rs := [5]) (by kernel_rfl) (by simp) ?_
          intro i hi
          simp only [List.mem_cons, List.not_mem_nil, or_false] at hi
          subst hi
          refine wpOp_value (o := { dst := some 7, op := Op.alloc 24, type := 0, pos := "law.go:48", after := #[], guard := none }) (v := .pointer (some ⟨X3.heap.size, 0, none⟩)) (w' := X3.alloc (.cells #[.bool false, .slice none 0 0] 24)) rfl (by rfl) (by go_simp; first | done | with_reducible rfl | rfl) ?_
          have hb' : Bel X3 (X3.alloc (.cells #[.bool false, .slice none 0 0] 24)) := (Bel.refl _).alloc _
          refine ⟨hX3.trans hb', ?_⟩
          (try simp only [Act.put, List.setIfInBounds_toArray, List.set_cons_zero, List.set_cons_succ])
          have F7 := FreeW.new X3
          have L7 : W.heap.size ≤ X3.heap.size := hX3.size
          generalize X3.alloc (.cells #[.bool false, .slice none 0 0] 24) = X4 at hb' F7 ⊢
          have hX4 := hX3.trans hb'
          have Px7 := apart_new Sx Ox
          have Sx := Sx.keep hb'
          have Py7 := apart_new Sy Oy
          have Sy := Sy.keep hb'
          have NE : B8 ≠ X3.heap.size := Nat.ne_of_lt F8.1
          have F8 := F8.keep hb'
          clear hb'
          generalize X3.heap.size = B7 at F7 L7 Px7 Py7 NE ⊢
          have NE := NE.symm
          refine wpAnyH_all (rs := [7]) (by kernel_rfl) (by simp) ?_
          intro i hi
          simp only [List.mem_cons, List.not_mem_nil, or_false] at hi
          subst hi
          refine wpOp_skip (o := { dst := none, op := Op.store 24 (Operand.tmp 7) (Operand.tmp 15), type := 0, pos := "law.go:48", after := #[{ on := 5, ground := Ground.data }, { on := 2, ground := Ground.data }, { on := 4, ground := Ground.chain }, { on := 0, ground := Ground.phase }, { on := 1, ground := Ground.phase }, { on := 2, ground := Ground.phase }, { on := 3, ground := Ground.textOnly Departure.lateStores }, { on := 4, ground := Ground.textOnly Departure.lateStoresUnsure }, { on := 5, ground := Ground.phase }, { on := 6, ground := Ground.phase }], guard := none }) (w' := putW X4 B7 (a && b) (.slice Ax x.length cx)) rfl (by rfl) (by obtain ⟨f0, f1, f2, f3, f4⟩ := F7; unfold putW; go_simp; first | done | with_reducible rfl | rfl) ?_
          have hX5 : Bel W (putW X4 B7 (a && b) (.slice Ax x.length cx)) := putW_bel hX4 L7
          refine ⟨hX5, ?_⟩
          (try simp only [Act.put, List.setIfInBounds_toArray, List.set_cons_zero, List.set_cons_succ])
          have K7 := putW_at (A := Ax) (n := x.length) (c := cx) (a && b) F7
          have F8 := F8.putW (all := a && b) (v := .slice Ax x.length cx) NE.symm
          have Sx := Sx.putW (all := a && b) (v := .slice Ax x.length cx) Px7
          have Sy := Sy.putW (all := a && b) (v := .slice Ax x.length cx) Py7
          generalize putW X4 B7 (a && b) (.slice Ax x.length cx) = X5 at hX5 K7 F8 Sx Sy ⊢
          refine wpAnyH_all (rs := [8]) (by kernel_rfl) (by simp) ?_
          intro i hi
          simp only [List.mem_cons, List.not_mem_nil, or_false] at hi
          subst hi
          refine wpOp_skip (o := { dst := none, op := Op.store 24 (Operand.tmp 8) (Operand.tmp 17), type := 0, pos := "law.go:48", after := #[{ on := 6, ground := Ground.data }, { on := 4, ground := Ground.data }, { on := 7, ground := Ground.chain }, { on := 0, ground := Ground.phase }, { on := 1, ground := Ground.phase }, { on := 2, ground := Ground.phase }, { on := 3, ground := Ground.phase }, { on := 4, ground := Ground.phase }, { on := 5, ground := Ground.phase }, { on := 6, ground := Ground.phase }, { on := 7, ground := Ground.phase }], guard := none }) (w' := putW X5 B8 (!a) (.slice Ay y.length cy)) rfl (by rfl) (by obtain ⟨f0, f1, f2, f3, f4⟩ := F8; unfold putW; go_simp; first | done | with_reducible rfl | rfl) ?_
          have hX6 : Bel W (putW X5 B8 (!a) (.slice Ay y.length cy)) := putW_bel hX5 L8
          refine ⟨hX6, ?_⟩
          (try simp only [Act.put, List.setIfInBounds_toArray, List.set_cons_zero, List.set_cons_succ])
          have K8 := putW_at (A := Ay) (n := y.length) (c := cy) (!a) F8
          have K7 := K7.putW (all := !a) (v := .slice Ay y.length cy) NE
          have Sx := Sx.putW (all := !a) (v := .slice Ay y.length cy) Px8
          have Sy := Sy.putW (all := !a) (v := .slice Ay y.length cy) Py8
          generalize putW X5 B8 (!a) (.slice Ay y.length cy) = X6 at hX6 K8 K7 Sx Sy ⊢
          refine wpAnyH_done (by kernel_rfl) ?_ _
          refine NoPanic.normal ?_
          go_wp2
          go_meet
          exact ⟨⟨B7, B8, Ax, Ay, cx, cy, rfl, rfl, K7, K8, Sx, Sy, Nx, Ny⟩, hX6⟩
        · refine wpOp_value (o := { dst := some 7, op := Op.alloc 24, type := 0, pos := "law.go:48", after := #[], guard := none }) (v := .pointer (some ⟨X2.heap.size, 0, none⟩)) (w' := X2.alloc (.cells #[.bool false, .slice none 0 0] 24)) rfl (by rfl) (by go_simp; first | done | with_reducible rfl | rfl) ?_
          have hb' : Bel X2 (X2.alloc (.cells #[.bool false, .slice none 0 0] 24)) := (Bel.refl _).alloc _
          refine ⟨hX2.trans hb', ?_⟩
          (try simp only [Act.put, List.setIfInBounds_toArray, List.set_cons_zero, List.set_cons_succ])
          have F7 := FreeW.new X2
          have L7 : W.heap.size ≤ X2.heap.size := hX2.size
          generalize X2.alloc (.cells #[.bool false, .slice none 0 0] 24) = X3 at hb' F7 ⊢
          have hX3 := hX2.trans hb'
          have Px7 := apart_new Sx Ox
          have Sx := Sx.keep hb'
          have NE : B8 ≠ X2.heap.size := Nat.ne_of_lt F8.1
          have F8 := F8.keep hb'
          clear hb'
          generalize X2.heap.size = B7 at F7 L7 Px7 NE ⊢
          have NE := NE.symm
          refine wpAnyH_all (rs := [4]) (by kernel_rfl) (by simp) ?_
          intro i hi
          simp only [List.mem_cons, List.not_mem_nil, or_false] at hi
          subst hi
          refine wpOp_enter (o := { dst := some 17, op := Op.call { callee := Callee.value (Operand.func 16), args := #[Operand.tmp 16], argTypes := #[24] }, type := 24, pos := "law.go:48", after := #[{ on := 3, ground := Ground.data }, { on := 2, ground := Ground.chain }], guard := none }) (R := MadeV X3 (fun v => .agg #[.bool !a, v]) y) rfl (by rfl) (by go_simp; first | done | with_reducible rfl | rfl) (OT.out X3 hX3) ?_
          rintro v X4 ⟨Ay, cy, rfl, Sy, Ny, Gy, hb'⟩
          refine ⟨hX3.trans hb', ?_⟩
          (try simp only [Act.put, List.setIfInBounds_toArray, List.set_cons_zero, List.set_cons_succ])
          have hX4 := hX3.trans hb'
          have Oy := own1_of Gy
          have Sx := Sx.keep hb'
          have Py7 := apart_old Gy F7.1
          have F7 := F7.keep hb'
          have Py8 := apart_old Gy F8.1
          have F8 := F8.keep hb'
          clear hb' Gy
          refine wpAnyH_all (rs := [7]) (by kernel_rfl) (by simp) ?_
          intro i hi
          simp only [List.mem_cons, List.not_mem_nil, or_false] at hi
          subst hi
          refine wpOp_skip (o := { dst := none, op := Op.store 24 (Operand.tmp 7) (Operand.tmp 15), type := 0, pos := "law.go:48", after := #[{ on := 5, ground := Ground.data }, { on := 2, ground := Ground.data }, { on := 4, ground := Ground.chain }, { on := 0, ground := Ground.phase }, { on := 1, ground := Ground.phase }, { on := 2, ground := Ground.phase }, { on := 3, ground := Ground.textOnly Departure.lateStores }, { on := 4, ground := Ground.textOnly Departure.lateStoresUnsure }, { on := 5, ground := Ground.phase }, { on := 6, ground := Ground.phase }], guard := none }) (w' := putW X4 B7 (a && b) (.slice Ax x.length cx)) rfl (by rfl) (by obtain ⟨f0, f1, f2, f3, f4⟩ := F7; unfold putW; go_simp; first | done | with_reducible rfl | rfl) ?_
          have hX5 : Bel W (putW X4 B7 (a && b) (.slice Ax x.length cx)) := putW_bel hX4 L7
          refine ⟨hX5, ?_⟩
          (try simp only [Act.put, List.setIfInBounds_toArray, List.set_cons_zero, List.set_cons_succ])
          have K7 := putW_at (A := Ax) (n := x.length) (c := cx) (a && b) F7
          have F8 := F8.putW (all := a && b) (v := .slice Ax x.length cx) NE.symm
          have Sx := Sx.putW (all := a && b) (v := .slice Ax x.length cx) Px7
          have Sy := Sy.putW (all := a && b) (v := .slice Ax x.length cx) Py7
          generalize putW X4 B7 (a && b) (.slice Ax x.length cx) = X5 at hX5 K7 F8 Sx Sy ⊢
          refine wpAnyH_all (rs := [8]) (by kernel_rfl) (by simp) ?_
          intro i hi
          simp only [List.mem_cons, List.not_mem_nil, or_false] at hi
          subst hi
          refine wpOp_skip (o := { dst := none, op := Op.store 24 (Operand.tmp 8) (Operand.tmp 17), type := 0, pos := "law.go:48", after := #[{ on := 6, ground := Ground.data }, { on := 4, ground := Ground.data }, { on := 7, ground := Ground.chain }, { on := 0, ground := Ground.phase }, { on := 1, ground := Ground.phase }, { on := 2, ground := Ground.phase }, { on := 3, ground := Ground.phase }, { on := 4, ground := Ground.phase }, { on := 5, ground := Ground.phase }, { on := 6, ground := Ground.phase }, { on := 7, ground := Ground.phase }], guard := none }) (w' := putW X5 B8 (!a) (.slice Ay y.length cy)) rfl (by rfl) (by obtain ⟨f0, f1, f2, f3, f4⟩ := F8; unfold putW; go_simp; first | done | with_reducible rfl | rfl) ?_
          have hX6 : Bel W (putW X5 B8 (!a) (.slice Ay y.length cy)) := putW_bel hX5 L8
          refine ⟨hX6, ?_⟩
          (try simp only [Act.put, List.setIfInBounds_toArray, List.set_cons_zero, List.set_cons_succ])
          have K8 := putW_at (A := Ay) (n := y.length) (c := cy) (!a) F8
          have K7 := K7.putW (all := !a) (v := .slice Ay y.length cy) NE
          have Sx := Sx.putW (all := !a) (v := .slice Ay y.length cy) Px8
          have Sy := Sy.putW (all := !a) (v := .slice Ay y.length cy) Py8
          generalize putW X5 B8 (!a) (.slice Ay y.length cy) = X6 at hX6 K8 K7 Sx Sy ⊢
          refine wpAnyH_done (by kernel_rfl) ?_ _
          refine NoPanic.normal ?_
          go_wp2
          go_meet
          exact ⟨⟨B7, B8, Ax, Ay, cx, cy, rfl, rfl, K7, K8, Sx, Sy, Nx, Ny⟩, hX6⟩
    · refine wpOp_value (o := { dst := some 7, op := Op.alloc 24, type := 0, pos := "law.go:48", after := #[], guard := none }) (v := .pointer (some ⟨X0.heap.size, 0, none⟩)) (w' := X0.alloc (.cells #[.bool false, .slice none 0 0] 24)) rfl (by rfl) (by go_simp; first | done | with_reducible rfl | rfl) ?_
      have hb' : Bel X0 (X0.alloc (.cells #[.bool false, .slice none 0 0] 24)) := (Bel.refl _).alloc _
      refine ⟨hX0.trans hb', ?_⟩
      (try simp only [Act.put, List.setIfInBounds_toArray, List.set_cons_zero, List.set_cons_succ])
      have F7 := FreeW.new X0
      have L7 : W.heap.size ≤ X0.heap.size := hX0.size
      generalize X0.alloc (.cells #[.bool false, .slice none 0 0] 24) = X1 at hb' F7 ⊢
      have hX1 := hX0.trans hb'
      clear hb'
      generalize X0.heap.size = B7 at F7 L7 ⊢
      refine wpAnyH_all (rs := [2, 6]) (by kernel_rfl) (by simp) ?_
      intro i hi
      simp only [List.mem_cons, List.not_mem_nil, or_false] at hi
      rcases hi with rfl | rfl
      · refine wpOp_enter (o := { dst := some 15, op := Op.call { callee := Callee.value (Operand.func 15), args := #[Operand.tmp 13, Operand.tmp 14], argTypes := #[24, 24] }, type := 24, pos := "law.go:48", after := #[{ on := 0, ground := Ground.data }, { on := 1, ground := Ground.data }], guard := none }) (R := MadeV X1 (fun v => .agg #[.bool (a && b), v]) x) rfl (by rfl) (by go_simp; first | done | with_reducible rfl | rfl) (ME.out X1 hX1) ?_
        rintro v X2 ⟨Ax, cx, rfl, Sx, Nx, Gx, hb'⟩
        refine ⟨hX1.trans hb', ?_⟩
        (try simp only [Act.put, List.setIfInBounds_toArray, List.set_cons_zero, List.set_cons_succ])
        have hX2 := hX1.trans hb'
        have Ox := own1_of Gx
        have Px7 := apart_old Gx F7.1
        have F7 := F7.keep hb'
        clear hb' Gx
        refine wpAnyH_all (rs := [4, 6]) (by kernel_rfl) (by simp) ?_
        intro i hi
        simp only [List.mem_cons, List.not_mem_nil, or_false] at hi
        rcases hi with rfl | rfl
        · refine wpOp_enter (o := { dst := some 17, op := Op.call { callee := Callee.value (Operand.func 16), args := #[Operand.tmp 16], argTypes := #[24] }, type := 24, pos := "law.go:48", after := #[{ on := 3, ground := Ground.data }, { on := 2, ground := Ground.chain }], guard := none }) (R := MadeV X2 (fun v => .agg #[.bool !a, v]) y) rfl (by rfl) (by go_simp; first | done | with_reducible rfl | rfl) (OT.out X2 hX2) ?_
          rintro v X3 ⟨Ay, cy, rfl, Sy, Ny, Gy, hb'⟩
          refine ⟨hX2.trans hb', ?_⟩
          (try simp only [Act.put, List.setIfInBounds_toArray, List.set_cons_zero, List.set_cons_succ])
          have hX3 := hX2.trans hb'
          have Oy := own1_of Gy
          have Sx := Sx.keep hb'
          have Py7 := apart_old Gy F7.1
          have F7 := F7.keep hb'
          clear hb' Gy
          refine wpAnyH_all (rs := [6]) (by kernel_rfl) (by simp) ?_
          intro i hi
          simp only [List.mem_cons, List.not_mem_nil, or_false] at hi
          subst hi
          refine wpOp_value (o := { dst := some 8, op := Op.alloc 24, type := 0, pos := "law.go:48", after := #[], guard := none }) (v := .pointer (some ⟨X3.heap.size, 0, none⟩)) (w' := X3.alloc (.cells #[.bool false, .slice none 0 0] 24)) rfl (by rfl) (by go_simp; first | done | with_reducible rfl | rfl) ?_
          have hb' : Bel X3 (X3.alloc (.cells #[.bool false, .slice none 0 0] 24)) := (Bel.refl _).alloc _
          refine ⟨hX3.trans hb', ?_⟩
          (try simp only [Act.put, List.setIfInBounds_toArray, List.set_cons_zero, List.set_cons_succ])
          have F8 := FreeW.new X3
          have L8 : W.heap.size ≤ X3.heap.size := hX3.size
          generalize X3.alloc (.cells #[.bool false, .slice none 0 0] 24) = X4 at hb' F8 ⊢
          have hX4 := hX3.trans hb'
          have Px8 := apart_new Sx Ox
          have Sx := Sx.keep hb'
          have Py8 := apart_new Sy Oy
          have Sy := Sy.keep hb'
          have NE : B7 ≠ X3.heap.size := Nat.ne_of_lt F7.1
          have F7 := F7.keep hb'
          clear hb'
          generalize X3.heap.size = B8 at F8 L8 Px8 Py8 NE ⊢
          refine wpAnyH_all (rs := [7]) (by kernel_rfl) (by simp) ?_
          intro i hi
          simp only [List.mem_cons, List.not_mem_nil, or_false] at hi
          subst hi
          refine wpOp_skip (o := { dst := none, op := Op.store 24 (Operand.tmp 7) (Operand.tmp 15), type := 0, pos := "law.go:48", after := #[{ on := 5, ground := Ground.data }, { on := 2, ground := Ground.data }, { on := 4, ground := Ground.chain }, { on := 0, ground := Ground.phase }, { on := 1, ground := Ground.phase }, { on := 2, ground := Ground.phase }, { on := 3, ground := Ground.textOnly Departure.lateStores }, { on := 4, ground := Ground.textOnly Departure.lateStoresUnsure }, { on := 5, ground := Ground.phase }, { on := 6, ground := Ground.phase }], guard := none }) (w' := putW X4 B7 (a && b) (.slice Ax x.length cx)) rfl (by rfl) (by obtain ⟨f0, f1, f2, f3, f4⟩ := F7; unfold putW; go_simp; first | done | with_reducible rfl | rfl) ?_
          have hX5 : Bel W (putW X4 B7 (a && b) (.slice Ax x.length cx)) := putW_bel hX4 L7
          refine ⟨hX5, ?_⟩
          (try simp only [Act.put, List.setIfInBounds_toArray, List.set_cons_zero, List.set_cons_succ])
          have K7 := putW_at (A := Ax) (n := x.length) (c := cx) (a && b) F7
          have F8 := F8.putW (all := a && b) (v := .slice Ax x.length cx) NE.symm
          have Sx := Sx.putW (all := a && b) (v := .slice Ax x.length cx) Px7
          have Sy := Sy.putW (all := a && b) (v := .slice Ax x.length cx) Py7
          generalize putW X4 B7 (a && b) (.slice Ax x.length cx) = X5 at hX5 K7 F8 Sx Sy ⊢
          refine wpAnyH_all (rs := [8]) (by kernel_rfl) (by simp) ?_
          intro i hi
          simp only [List.mem_cons, List.not_mem_nil, or_false] at hi
          subst hi
          refine wpOp_skip (o := { dst := none, op := Op.store 24 (Operand.tmp 8) (Operand.tmp 17), type := 0, pos := "law.go:48", after := #[{ on := 6, ground := Ground.data }, { on := 4, ground := Ground.data }, { on := 7, ground := Ground.chain }, { on := 0, ground := Ground.phase }, { on := 1, ground := Ground.phase }, { on := 2, ground := Ground.phase }, { on := 3, ground := Ground.phase }, { on := 4, ground := Ground.phase }, { on := 5, ground := Ground.phase }, { on := 6, ground := Ground.phase }, { on := 7, ground := Ground.phase }], guard := none }) (w' := putW X5 B8 (!a) (.slice Ay y.length cy)) rfl (by rfl) (by obtain ⟨f0, f1, f2, f3, f4⟩ := F8; unfold putW; go_simp; first | done | with_reducible rfl | rfl) ?_
          have hX6 : Bel W (putW X5 B8 (!a) (.slice Ay y.length cy)) := putW_bel hX5 L8
          refine ⟨hX6, ?_⟩
          (try simp only [Act.put, List.setIfInBounds_toArray, List.set_cons_zero, List.set_cons_succ])
          have K8 := putW_at (A := Ay) (n := y.length) (c := cy) (!a) F8
          have K7 := K7.putW (all := !a) (v := .slice Ay y.length cy) NE
          have Sx := Sx.putW (all := !a) (v := .slice Ay y.length cy) Px8
          have Sy := Sy.putW (all := !a) (v := .slice Ay y.length cy) Py8
          generalize putW X5 B8 (!a) (.slice Ay y.length cy) = X6 at hX6 K8 K7 Sx Sy ⊢
          refine wpAnyH_done (by kernel_rfl) ?_ _
          refine NoPanic.normal ?_
          go_wp2
          go_meet
          exact ⟨⟨B7, B8, Ax, Ay, cx, cy, rfl, rfl, K7, K8, Sx, Sy, Nx, Ny⟩, hX6⟩
        · refine wpOp_value (o := { dst := some 8, op := Op.alloc 24, type := 0, pos := "law.go:48", after := #[], guard := none }) (v := .pointer (some ⟨X2.heap.size, 0, none⟩)) (w' := X2.alloc (.cells #[.bool false, .slice none 0 0] 24)) rfl (by rfl) (by go_simp; first | done | with_reducible rfl | rfl) ?_
          have hb' : Bel X2 (X2.alloc (.cells #[.bool false, .slice none 0 0] 24)) := (Bel.refl _).alloc _
          refine ⟨hX2.trans hb', ?_⟩
          (try simp only [Act.put, List.setIfInBounds_toArray, List.set_cons_zero, List.set_cons_succ])
          have F8 := FreeW.new X2
          have L8 : W.heap.size ≤ X2.heap.size := hX2.size
          generalize X2.alloc (.cells #[.bool false, .slice none 0 0] 24) = X3 at hb' F8 ⊢
          have hX3 := hX2.trans hb'
          have Px8 := apart_new Sx Ox
          have Sx := Sx.keep hb'
          have NE : B7 ≠ X2.heap.size := Nat.ne_of_lt F7.1
          have F7 := F7.keep hb'
          clear hb'
          generalize X2.heap.size = B8 at F8 L8 Px8 NE ⊢
          refine wpAnyH_all (rs := [4]) (by kernel_rfl) (by simp) ?_
          intro i hi
          simp only [List.mem_cons, List.not_mem_nil, or_false] at hi
          subst hi
          refine wpOp_enter (o := { dst := some 17, op := Op.call { callee := Callee.value (Operand.func 16), args := #[Operand.tmp 16], argTypes := #[24] }, type := 24, pos := "law.go:48", after := #[{ on := 3, ground := Ground.data }, { on := 2, ground := Ground.chain }], guard := none }) (R := MadeV X3 (fun v => .agg #[.bool !a, v]) y) rfl (by rfl) (by go_simp; first | done | with_reducible rfl | rfl) (OT.out X3 hX3) ?_
          rintro v X4 ⟨Ay, cy, rfl, Sy, Ny, Gy, hb'⟩
          refine ⟨hX3.trans hb', ?_⟩
          (try simp only [Act.put, List.setIfInBounds_toArray, List.set_cons_zero, List.set_cons_succ])
          have hX4 := hX3.trans hb'
          have Oy := own1_of Gy
          have Sx := Sx.keep hb'
          have Py7 := apart_old Gy F7.1
          have F7 := F7.keep hb'
          have Py8 := apart_old Gy F8.1
          have F8 := F8.keep hb'
          clear hb' Gy
          refine wpAnyH_all (rs := [7]) (by kernel_rfl) (by simp) ?_
          intro i hi
          simp only [List.mem_cons, List.not_mem_nil, or_false] at hi
          subst hi
          refine wpOp_skip (o := { dst := none, op := Op.store 24 (Operand.tmp 7) (Operand.tmp 15), type := 0, pos := "law.go:48", after := #[{ on := 5, ground := Ground.data }, { on := 2, ground := Ground.data }, { on := 4, ground := Ground.chain }, { on := 0, ground := Ground.phase }, { on := 1, ground := Ground.phase }, { on := 2, ground := Ground.phase }, { on := 3, ground := Ground.textOnly Departure.lateStores }, { on := 4, ground := Ground.textOnly Departure.lateStoresUnsure }, { on := 5, ground := Ground.phase }, { on := 6, ground := Ground.phase }], guard := none }) (w' := putW X4 B7 (a && b) (.slice Ax x.length cx)) rfl (by rfl) (by obtain ⟨f0, f1, f2, f3, f4⟩ := F7; unfold putW; go_simp; first | done | with_reducible rfl | rfl) ?_
          have hX5 : Bel W (putW X4 B7 (a && b) (.slice Ax x.length cx)) := putW_bel hX4 L7
          refine ⟨hX5, ?_⟩
          (try simp only [Act.put, List.setIfInBounds_toArray, List.set_cons_zero, List.set_cons_succ])
          have K7 := putW_at (A := Ax) (n := x.length) (c := cx) (a && b) F7
          have F8 := F8.putW (all := a && b) (v := .slice Ax x.length cx) NE.symm
          have Sx := Sx.putW (all := a && b) (v := .slice Ax x.length cx) Px7
          have Sy := Sy.putW (all := a && b) (v := .slice Ax x.length cx) Py7
          generalize putW X4 B7 (a && b) (.slice Ax x.length cx) = X5 at hX5 K7 F8 Sx Sy ⊢
          refine wpAnyH_all (rs := [8]) (by kernel_rfl) (by simp) ?_
          intro i hi
          simp only [List.mem_cons, List.not_mem_nil, or_false] at hi
          subst hi
          refine wpOp_skip (o := { dst := none, op := Op.store 24 (Operand.tmp 8) (Operand.tmp 17), type := 0, pos := "law.go:48", after := #[{ on := 6, ground := Ground.data }, { on := 4, ground := Ground.data }, { on := 7, ground := Ground.chain }, { on := 0, ground := Ground.phase }, { on := 1, ground := Ground.phase }, { on := 2, ground := Ground.phase }, { on := 3, ground := Ground.phase }, { on := 4, ground := Ground.phase }, { on := 5, ground := Ground.phase }, { on := 6, ground := Ground.phase }, { on := 7, ground := Ground.phase }], guard := none }) (w' := putW X5 B8 (!a) (.slice Ay y.length cy)) rfl (by rfl) (by obtain ⟨f0, f1, f2, f3, f4⟩ := F8; unfold putW; go_simp; first | done | with_reducible rfl | rfl) ?_
          have hX6 : Bel W (putW X5 B8 (!a) (.slice Ay y.length cy)) := putW_bel hX5 L8
          refine ⟨hX6, ?_⟩
          (try simp only [Act.put, List.setIfInBounds_toArray, List.set_cons_zero, List.set_cons_succ])
          have K8 := putW_at (A := Ay) (n := y.length) (c := cy) (!a) F8
          have K7 := K7.putW (all := !a) (v := .slice Ay y.length cy) NE
          have Sx := Sx.putW (all := !a) (v := .slice Ay y.length cy) Px8
          have Sy := Sy.putW (all := !a) (v := .slice Ay y.length cy) Py8
          generalize putW X5 B8 (!a) (.slice Ay y.length cy) = X6 at hX6 K8 K7 Sx Sy ⊢
          refine wpAnyH_done (by kernel_rfl) ?_ _
          refine NoPanic.normal ?_
          go_wp2
          go_meet
          exact ⟨⟨B7, B8, Ax, Ay, cx, cy, rfl, rfl, K7, K8, Sx, Sy, Nx, Ny⟩, hX6⟩
      · refine wpOp_value (o := { dst := some 8, op := Op.alloc 24, type := 0, pos := "law.go:48", after := #[], guard := none }) (v := .pointer (some ⟨X1.heap.size, 0, none⟩)) (w' := X1.alloc (.cells #[.bool false, .slice none 0 0] 24)) rfl (by rfl) (by go_simp; first | done | with_reducible rfl | rfl) ?_
        have hb' : Bel X1 (X1.alloc (.cells #[.bool false, .slice none 0 0] 24)) := (Bel.refl _).alloc _
        refine ⟨hX1.trans hb', ?_⟩
        (try simp only [Act.put, List.setIfInBounds_toArray, List.set_cons_zero, List.set_cons_succ])
        have F8 := FreeW.new X1
        have L8 : W.heap.size ≤ X1.heap.size := hX1.size
        generalize X1.alloc (.cells #[.bool false, .slice none 0 0] 24) = X2 at hb' F8 ⊢
        have hX2 := hX1.trans hb'
        have NE : B7 ≠ X1.heap.size := Nat.ne_of_lt F7.1
        have F7 := F7.keep hb'
        clear hb'
        generalize X1.heap.size = B8 at F8 L8 NE ⊢
        refine wpAnyH_all (rs := [2]) (by kernel_rfl) (by simp) ?_
        intro i hi
        simp only [List.mem_cons, List.not_mem_nil, or_false] at hi
        subst hi
        refine wpOp_enter (o := { dst := some 15, op := Op.call { callee := Callee.value (Operand.func 15), args := #[Operand.tmp 13, Operand.tmp 14], argTypes := #[24, 24] }, type := 24, pos := "law.go:48", after := #[{ on := 0, ground := Ground.data }, { on := 1, ground := Ground.data }], guard := none }) (R := MadeV X2 (fun v => .agg #[.bool (a && b), v]) x) rfl (by rfl) (by go_simp; first | done | with_reducible rfl | rfl) (ME.out X2 hX2) ?_
        rintro v X3 ⟨Ax, cx, rfl, Sx, Nx, Gx, hb'⟩
        refine ⟨hX2.trans hb', ?_⟩
        (try simp only [Act.put, List.setIfInBounds_toArray, List.set_cons_zero, List.set_cons_succ])
        have hX3 := hX2.trans hb'
        have Ox := own1_of Gx
        have Px7 := apart_old Gx F7.1
        have F7 := F7.keep hb'
        have Px8 := apart_old Gx F8.1
        have F8 := F8.keep hb'
        clear hb' Gx
        refine wpAnyH_all (rs := [4]) (by kernel_rfl) (by simp) ?_
        intro i hi
        simp only [List.mem_cons, List.not_mem_nil, or_false] at hi
        subst hi
        refine wpOp_enter (o := { dst := some 17, op := Op.call { callee := Callee.value (Operand.func 16), args := #[Operand.tmp 16], argTypes := #[24] }, type := 24, pos := "law.go:48", after := #[{ on := 3, ground := Ground.data }, { on := 2, ground := Ground.chain }], guard := none }) (R := MadeV X3 (fun v => .agg #[.bool !a, v]) y) rfl (by rfl) (by go_simp; first | done | with_reducible rfl | rfl) (OT.out X3 hX3) ?_
        rintro v X4 ⟨Ay, cy, rfl, Sy, Ny, Gy, hb'⟩
        refine ⟨hX3.trans hb', ?_⟩
        (try simp only [Act.put, List.setIfInBounds_toArray, List.set_cons_zero, List.set_cons_succ])
        have hX4 := hX3.trans hb'
        have Oy := own1_of Gy
        have Sx := Sx.keep hb'
        have Py7 := apart_old Gy F7.1
        have F7 := F7.keep hb'
        have Py8 := apart_old Gy F8.1
        have F8 := F8.keep hb'
        clear hb' Gy
        refine wpAnyH_all (rs := [7]) (by kernel_rfl) (by simp) ?_
        intro i hi
        simp only [List.mem_cons, List.not_mem_nil, or_false] at hi
        subst hi
        refine wpOp_skip (o := { dst := none, op := Op.store 24 (Operand.tmp 7) (Operand.tmp 15), type := 0, pos := "law.go:48", after := #[{ on := 5, ground := Ground.data }, { on := 2, ground := Ground.data }, { on := 4, ground := Ground.chain }, { on := 0, ground := Ground.phase }, { on := 1, ground := Ground.phase }, { on := 2, ground := Ground.phase }, { on := 3, ground := Ground.textOnly Departure.lateStores }, { on := 4, ground := Ground.textOnly Departure.lateStoresUnsure }, { on := 5, ground := Ground.phase }, { on := 6, ground := Ground.phase }], guard := none }) (w' := putW X4 B7 (a && b) (.slice Ax x.length cx)) rfl (by rfl) (by obtain ⟨f0, f1, f2, f3, f4⟩ := F7; unfold putW; go_simp; first | done | with_reducible rfl | rfl) ?_
        have hX5 : Bel W (putW X4 B7 (a && b) (.slice Ax x.length cx)) := putW_bel hX4 L7
        refine ⟨hX5, ?_⟩
        (try simp only [Act.put, List.setIfInBounds_toArray, List.set_cons_zero, List.set_cons_succ])
        have K7 := putW_at (A := Ax) (n := x.length) (c := cx) (a && b) F7
        have F8 := F8.putW (all := a && b) (v := .slice Ax x.length cx) NE.symm
        have Sx := Sx.putW (all := a && b) (v := .slice Ax x.length cx) Px7
        have Sy := Sy.putW (all := a && b) (v := .slice Ax x.length cx) Py7
        generalize putW X4 B7 (a && b) (.slice Ax x.length cx) = X5 at hX5 K7 F8 Sx Sy ⊢
        refine wpAnyH_all (rs := [8]) (by kernel_rfl) (by simp) ?_
        intro i hi
        simp only [List.mem_cons, List.not_mem_nil, or_false] at hi
        subst hi
        refine wpOp_skip (o := { dst := none, op := Op.store 24 (Operand.tmp 8) (Operand.tmp 17), type := 0, pos := "law.go:48", after := #[{ on := 6, ground := Ground.data }, { on := 4, ground := Ground.data }, { on := 7, ground := Ground.chain }, { on := 0, ground := Ground.phase }, { on := 1, ground := Ground.phase }, { on := 2, ground := Ground.phase }, { on := 3, ground := Ground.phase }, { on := 4, ground := Ground.phase }, { on := 5, ground := Ground.phase }, { on := 6, ground := Ground.phase }, { on := 7, ground := Ground.phase }], guard := none }) (w' := putW X5 B8 (!a) (.slice Ay y.length cy)) rfl (by rfl) (by obtain ⟨f0, f1, f2, f3, f4⟩ := F8; unfold putW; go_simp; first | done | with_reducible rfl | rfl) ?_
        have hX6 : Bel W (putW X5 B8 (!a) (.slice Ay y.length cy)) := putW_bel hX5 L8
        refine ⟨hX6, ?_⟩
        (try simp only [Act.put, List.setIfInBounds_toArray, List.set_cons_zero, List.set_cons_succ])
        have K8 := putW_at (A := Ay) (n := y.length) (c := cy) (!a) F8
        have K7 := K7.putW (all := !a) (v := .slice Ay y.length cy) NE
        have Sx := Sx.putW (all := !a) (v := .slice Ay y.length cy) Px8
        have Sy := Sy.putW (all := !a) (v := .slice Ay y.length cy) Py8
        generalize putW X5 B8 (!a) (.slice Ay y.length cy) = X6 at hX6 K8 K7 Sx Sy ⊢
        refine wpAnyH_done (by kernel_rfl) ?_ _
        refine NoPanic.normal ?_
        go_wp2
        go_meet
        exact ⟨⟨B7, B8, Ax, Ay, cx, cy, rfl, rfl, K7, K8, Sx, Sy, Nx, Ny⟩, hX6⟩
    · refine wpOp_value (o := { dst := some 8, op := Op.alloc 24, type := 0, pos := "law.go:48", after := #[], guard := none }) (v := .pointer (some ⟨X0.heap.size, 0, none⟩)) (w' := X0.alloc (.cells #[.bool false, .slice none 0 0] 24)) rfl (by rfl) (by go_simp; first | done | with_reducible rfl | rfl) ?_
      have hb' : Bel X0 (X0.alloc (.cells #[.bool false, .slice none 0 0] 24)) := (Bel.refl _).alloc _
      refine ⟨hX0.trans hb', ?_⟩
      (try simp only [Act.put, List.setIfInBounds_toArray, List.set_cons_zero, List.set_cons_succ])
      have F8 := FreeW.new X0
      have L8 : W.heap.size ≤ X0.heap.size := hX0.size
      generalize X0.alloc (.cells #[.bool false, .slice none 0 0] 24) = X1 at hb' F8 ⊢
      have hX1 := hX0.trans hb'
      clear hb'
      generalize X0.heap.size = B8 at F8 L8 ⊢
      refine wpAnyH_all (rs := [2, 5]) (by kernel_rfl) (by simp) ?_
      intro i hi
      simp only [List.mem_cons, List.not_mem_nil, or_false] at hi
      rcases hi with rfl | rfl
      · refine wpOp_enter (o := { dst := some 15, op := Op.call { callee := Callee.value (Operand.func 15), args := #[Operand.tmp 13, Operand.tmp 14], argTypes := #[24, 24] }, type := 24, pos := "law.go:48", after := #[{ on := 0, ground := Ground.data }, { on := 1, ground := Ground.data }], guard := none }) (R := MadeV X1 (fun v => .agg #[.bool (a && b), v]) x) rfl (by rfl) (by go_simp; first | done | with_reducible rfl | rfl) (ME.out X1 hX1) ?_
        rintro v X2 ⟨Ax, cx, rfl, Sx, Nx, Gx, hb'⟩
        refine ⟨hX1.trans hb', ?_⟩
        (try simp only [Act.put, List.setIfInBounds_toArray, List.set_cons_zero, List.set_cons_succ])
        have hX2 := hX1.trans hb'
        have Ox := own1_of Gx
        have Px8 := apart_old Gx F8.1
        have F8 := F8.keep hb'
        clear hb' Gx
        refine wpAnyH_all (rs := [4, 5]) (by kernel_rfl) (by simp) ?_
        intro i hi
        simp only [List.mem_cons, List.not_mem_nil, or_false] at hi
        rcases hi with rfl | rfl
        · refine wpOp_enter (o := { dst := some 17, op := Op.call { callee := Callee.value (Operand.func 16), args := #[Operand.tmp 16], argTypes := #[24] }, type := 24, pos := "law.go:48", after := #[{ on := 3, ground := Ground.data }, { on := 2, ground := Ground.chain }], guard := none }) (R := MadeV X2 (fun v => .agg #[.bool !a, v]) y) rfl (by rfl) (by go_simp; first | done | with_reducible rfl | rfl) (OT.out X2 hX2) ?_
          rintro v X3 ⟨Ay, cy, rfl, Sy, Ny, Gy, hb'⟩
          refine ⟨hX2.trans hb', ?_⟩
          (try simp only [Act.put, List.setIfInBounds_toArray, List.set_cons_zero, List.set_cons_succ])
          have hX3 := hX2.trans hb'
          have Oy := own1_of Gy
          have Sx := Sx.keep hb'
          have Py8 := apart_old Gy F8.1
          have F8 := F8.keep hb'
          clear hb' Gy
          refine wpAnyH_all (rs := [5]) (by kernel_rfl) (by simp) ?_
          intro i hi
          simp only [List.mem_cons, List.not_mem_nil, or_false] at hi
          subst hi
          refine wpOp_value (o := { dst := some 7, op := Op.alloc 24, type := 0, pos := "law.go:48", after := #[], guard := none }) (v := .pointer (some ⟨X3.heap.size, 0, none⟩)) (w' := X3.alloc (.cells #[.bool false, .slice none 0 0] 24)) rfl (by rfl) (by go_simp; first | done | with_reducible rfl | rfl) ?_
          have hb' : Bel X3 (X3.alloc (.cells #[.bool false, .slice none 0 0] 24)) := (Bel.refl _).alloc _
          refine ⟨hX3.trans hb', ?_⟩
          (try simp only [Act.put, List.setIfInBounds_toArray, List.set_cons_zero, List.set_cons_succ])
          have F7 := FreeW.new X3
          have L7 : W.heap.size ≤ X3.heap.size := hX3.size
          generalize X3.alloc (.cells #[.bool false, .slice none 0 0] 24) = X4 at hb' F7 ⊢
          have hX4 := hX3.trans hb'
          have Px7 := apart_new Sx Ox
          have Sx := Sx.keep hb'
          have Py7 := apart_new Sy Oy
          have Sy := Sy.keep hb'
          have NE : B8 ≠ X3.heap.size := Nat.ne_of_lt F8.1
          have F8 := F8.keep hb'
          clear hb'
          generalize X3.heap.size = B7 at F7 L7 Px7 Py7 NE ⊢
          have NE := NE.symm
          refine wpAnyH_all (rs := [7]) (by kernel_rfl) (by simp) ?_
          intro i hi
          simp only [List.mem_cons, List.not_mem_nil, or_false] at hi
          subst hi
          refine wpOp_skip (o := { dst := none, op := Op.store 24 (Operand.tmp 7) (Operand.tmp 15), type := 0, pos := "law.go:48", after := #[{ on := 5, ground := Ground.data }, { on := 2, ground := Ground.data }, { on := 4, ground := Ground.chain }, { on := 0, ground := Ground.phase }, { on := 1, ground := Ground.phase }, { on := 2, ground := Ground.phase }, { on := 3, ground := Ground.textOnly Departure.lateStores }, { on := 4, ground := Ground.textOnly Departure.lateStoresUnsure }, { on := 5, ground := Ground.phase }, { on := 6, ground := Ground.phase }], guard := none }) (w' := putW X4 B7 (a && b) (.slice Ax x.length cx)) rfl (by rfl) (by obtain ⟨f0, f1, f2, f3, f4⟩ := F7; unfold putW; go_simp; first | done | with_reducible rfl | rfl) ?_
          have hX5 : Bel W (putW X4 B7 (a && b) (.slice Ax x.length cx)) := putW_bel hX4 L7
          refine ⟨hX5, ?_⟩
          (try simp only [Act.put, List.setIfInBounds_toArray, List.set_cons_zero, List.set_cons_succ])
          have K7 := putW_at (A := Ax) (n := x.length) (c := cx) (a && b) F7
          have F8 := F8.putW (all := a && b) (v := .slice Ax x.length cx) NE.symm
          have Sx := Sx.putW (all := a && b) (v := .slice Ax x.length cx) Px7
          have Sy := Sy.putW (all := a && b) (v := .slice Ax x.length cx) Py7
          generalize putW X4 B7 (a && b) (.slice Ax x.length cx) = X5 at hX5 K7 F8 Sx Sy ⊢
          refine wpAnyH_all (rs := [8]) (by kernel_rfl) (by simp) ?_
          intro i hi
          simp only [List.mem_cons, List.not_mem_nil, or_false] at hi
          subst hi
          refine wpOp_skip (o := { dst := none, op := Op.store 24 (Operand.tmp 8) (Operand.tmp 17), type := 0, pos := "law.go:48", after := #[{ on := 6, ground := Ground.data }, { on := 4, ground := Ground.data }, { on := 7, ground := Ground.chain }, { on := 0, ground := Ground.phase }, { on := 1, ground := Ground.phase }, { on := 2, ground := Ground.phase }, { on := 3, ground := Ground.phase }, { on := 4, ground := Ground.phase }, { on := 5, ground := Ground.phase }, { on := 6, ground := Ground.phase }, { on := 7, ground := Ground.phase }], guard := none }) (w' := putW X5 B8 (!a) (.slice Ay y.length cy)) rfl (by rfl) (by obtain ⟨f0, f1, f2, f3, f4⟩ := F8; unfold putW; go_simp; first | done | with_reducible rfl | rfl) ?_
          have hX6 : Bel W (putW X5 B8 (!a) (.slice Ay y.length cy)) := putW_bel hX5 L8
          refine ⟨hX6, ?_⟩
          (try simp only [Act.put, List.setIfInBounds_toArray, List.set_cons_zero, List.set_cons_succ])
          have K8 := putW_at (A := Ay) (n := y.length) (c := cy) (!a) F8
          have K7 := K7.putW (all := !a) (v := .slice Ay y.length cy) NE
          have Sx := Sx.putW (all := !a) (v := .slice Ay y.length cy) Px8
          have Sy := Sy.putW (all := !a) (v := .slice Ay y.length cy) Py8
          generalize putW X5 B8 (!a) (.slice Ay y.length cy) = X6 at hX6 K8 K7 Sx Sy ⊢
          refine wpAnyH_done (by kernel_rfl) ?_ _
          refine NoPanic.normal ?_
          go_wp2
          go_meet
          exact ⟨⟨B7, B8, Ax, Ay, cx, cy, rfl, rfl, K7, K8, Sx, Sy, Nx, Ny⟩, hX6⟩
        · refine wpOp_value (o := { dst := some 7, op := Op.alloc 24, type := 0, pos := "law.go:48", after := #[], guard := none }) (v := .pointer (some ⟨X2.heap.size, 0, none⟩)) (w' := X2.alloc (.cells #[.bool false, .slice none 0 0] 24)) rfl (by rfl) (by go_simp; first | done | with_reducible rfl | rfl) ?_
          have hb' : Bel X2 (X2.alloc (.cells #[.bool false, .slice none 0 0] 24)) := (Bel.refl _).alloc _
          refine ⟨hX2.trans hb', ?_⟩
          (try simp only [Act.put, List.setIfInBounds_toArray, List.set_cons_zero, List.set_cons_succ])
          have F7 := FreeW.new X2
          have L7 : W.heap.size ≤ X2.heap.size := hX2.size
          generalize X2.alloc (.cells #[.bool false, .slice none 0 0] 24) = X3 at hb' F7 ⊢
          have hX3 := hX2.trans hb'
          have Px7 := apart_new Sx Ox
          have Sx := Sx.keep hb'
          have NE : B8 ≠ X2.heap.size := Nat.ne_of_lt F8.1
          have F8 := F8.keep hb'
          clear hb'
          generalize X2.heap.size = B7 at F7 L7 Px7 NE ⊢
          have NE := NE.symm
          refine wpAnyH_all (rs := [4]) (by kernel_rfl) (by simp) ?_
          intro i hi
          simp only [List.mem_cons, List.not_mem_nil, or_false] at hi
          subst hi
          refine wpOp_enter (o := { dst := some 17, op := Op.call { callee := Callee.value (Operand.func 16), args := #[Operand.tmp 16], argTypes := #[24] }, type := 24, pos := "law.go:48", after := #[{ on := 3, ground := Ground.data }, { on := 2, ground := Ground.chain }], guard := none }) (R := MadeV X3 (fun v => .agg #[.bool !a, v]) y) rfl (by rfl) (by go_simp; first | done | with_reducible rfl | rfl) (OT.out X3 hX3) ?_
          rintro v X4 ⟨Ay, cy, rfl, Sy, Ny, Gy, hb'⟩
          refine ⟨hX3.trans hb', ?_⟩
          (try simp only [Act.put, List.setIfInBounds_toArray, List.set_cons_zero, List.set_cons_succ])
          have hX4 := hX3.trans hb'
          have Oy := own1_of Gy
          have Sx := Sx.keep hb'
          have Py7 := apart_old Gy F7.1
          have F7 := F7.keep hb'
          have Py8 := apart_old Gy F8.1
          have F8 := F8.keep hb'
          clear hb' Gy
          refine wpAnyH_all (rs := [7]) (by kernel_rfl) (by simp) ?_
          intro i hi
          simp only [List.mem_cons, List.not_mem_nil, or_false] at hi
          subst hi
          refine wpOp_skip (o := { dst := none, op := Op.store 24 (Operand.tmp 7) (Operand.tmp 15), type := 0, pos := "law.go:48", after := #[{ on := 5, ground := Ground.data }, { on := 2, ground := Ground.data }, { on := 4, ground := Ground.chain }, { on := 0, ground := Ground.phase }, { on := 1, ground := Ground.phase }, { on := 2, ground := Ground.phase }, { on := 3, ground := Ground.textOnly Departure.lateStores }, { on := 4, ground := Ground.textOnly Departure.lateStoresUnsure }, { on := 5, ground := Ground.phase }, { on := 6, ground := Ground.phase }], guard := none }) (w' := putW X4 B7 (a && b) (.slice Ax x.length cx)) rfl (by rfl) (by obtain ⟨f0, f1, f2, f3, f4⟩ := F7; unfold putW; go_simp; first | done | with_reducible rfl | rfl) ?_
          have hX5 : Bel W (putW X4 B7 (a && b) (.slice Ax x.length cx)) := putW_bel hX4 L7
          refine ⟨hX5, ?_⟩
          (try simp only [Act.put, List.setIfInBounds_toArray, List.set_cons_zero, List.set_cons_succ])
          have K7 := putW_at (A := Ax) (n := x.length) (c := cx) (a && b) F7
          have F8 := F8.putW (all := a && b) (v := .slice Ax x.length cx) NE.symm
          have Sx := Sx.putW (all := a && b) (v := .slice Ax x.length cx) Px7
          have Sy := Sy.putW (all := a && b) (v := .slice Ax x.length cx) Py7
          generalize putW X4 B7 (a && b) (.slice Ax x.length cx) = X5 at hX5 K7 F8 Sx Sy ⊢
          refine wpAnyH_all (rs := [8]) (by kernel_rfl) (by simp) ?_
          intro i hi
          simp only [List.mem_cons, List.not_mem_nil, or_false] at hi
          subst hi
          refine wpOp_skip (o := { dst := none, op := Op.store 24 (Operand.tmp 8) (Operand.tmp 17), type := 0, pos := "law.go:48", after := #[{ on := 6, ground := Ground.data }, { on := 4, ground := Ground.data }, { on := 7, ground := Ground.chain }, { on := 0, ground := Ground.phase }, { on := 1, ground := Ground.phase }, { on := 2, ground := Ground.phase }, { on := 3, ground := Ground.phase }, { on := 4, ground := Ground.phase }, { on := 5, ground := Ground.phase }, { on := 6, ground := Ground.phase }, { on := 7, ground := Ground.phase }], guard := none }) (w' := putW X5 B8 (!a) (.slice Ay y.length cy)) rfl (by rfl) (by obtain ⟨f0, f1, f2, f3, f4⟩ := F8; unfold putW; go_simp; first | done | with_reducible rfl | rfl) ?_
          have hX6 : Bel W (putW X5 B8 (!a) (.slice Ay y.length cy)) := putW_bel hX5 L8
          refine ⟨hX6, ?_⟩
          (try simp only [Act.put, List.setIfInBounds_toArray, List.set_cons_zero, List.set_cons_succ])
          have K8 := putW_at (A := Ay) (n := y.length) (c := cy) (!a) F8
          have K7 := K7.putW (all := !a) (v := .slice Ay y.length cy) NE
          have Sx := Sx.putW (all := !a) (v := .slice Ay y.length cy) Px8
          have Sy := Sy.putW (all := !a) (v := .slice Ay y.length cy) Py8
          generalize putW X5 B8 (!a) (.slice Ay y.length cy) = X6 at hX6 K8 K7 Sx Sy ⊢
          refine wpAnyH_done (by kernel_rfl) ?_ _
          refine NoPanic.normal ?_
          go_wp2
          go_meet
          exact ⟨⟨B7, B8, Ax, Ay, cx, cy, rfl, rfl, K7, K8, Sx, Sy, Nx, Ny⟩, hX6⟩
      · refine wpOp_value (o := { dst := some 7, op := Op.alloc 24, type := 0, pos := "law.go:48", after := #[], guard := none }) (v := .pointer (some ⟨X1.heap.size, 0, none⟩)) (w' := X1.alloc (.cells #[.bool false, .slice none 0 0] 24)) rfl (by rfl) (by go_simp; first | done | with_reducible rfl | rfl) ?_
        have hb' : Bel X1 (X1.alloc (.cells #[.bool false, .slice none 0 0] 24)) := (Bel.refl _).alloc _
        refine ⟨hX1.trans hb', ?_⟩
        (try simp only [Act.put, List.setIfInBounds_toArray, List.set_cons_zero, List.set_cons_succ])
        have F7 := FreeW.new X1
        have L7 : W.heap.size ≤ X1.heap.size := hX1.size
        generalize X1.alloc (.cells #[.bool false, .slice none 0 0] 24) = X2 at hb' F7 ⊢
        have hX2 := hX1.trans hb'
        have NE : B8 ≠ X1.heap.size := Nat.ne_of_lt F8.1
        have F8 := F8.keep hb'
        clear hb'
        generalize X1.heap.size = B7 at F7 L7 NE ⊢
        have NE := NE.symm
        refine wpAnyH_all (rs := [2]) (by kernel_rfl) (by simp) ?_
        intro i hi
        simp only [List.mem_cons, List.not_mem_nil, or_false] at hi
        subst hi
        refine wpOp_enter (o := { dst := some 15, op := Op.call { callee := Callee.value (Operand.func 15), args := #[Operand.tmp 13, Operand.tmp 14], argTypes := #[24, 24] }, type := 24, pos := "law.go:48", after := #[{ on := 0, ground := Ground.data }, { on := 1, ground := Ground.data }], guard := none }) (R := MadeV X2 (fun v => .agg #[.bool (a && b), v]) x) rfl (by rfl) (by go_simp; first | done | with_reducible rfl | rfl) (ME.out X2 hX2) ?_
        rintro v X3 ⟨Ax, cx, rfl, Sx, Nx, Gx, hb'⟩
        refine ⟨hX2.trans hb', ?_⟩
        (try simp only [Act.put, List.setIfInBounds_toArray, List.set_cons_zero, List.set_cons_succ])
        have hX3 := hX2.trans hb'
        have Ox := own1_of Gx
        have Px7 := apart_old Gx F7.1
        have F7 := F7.keep hb'
        have Px8 := apart_old Gx F8.1
        have F8 := F8.keep hb'
        clear hb' Gx
        refine wpAnyH_all (rs := [4]) (by kernel_rfl) (by simp) ?_
        intro i hi
        simp only [List.mem_cons, List.not_mem_nil, or_false] at hi
        subst hi
        refine wpOp_enter (o := { dst := some 17, op := Op.call { callee := Callee.value (Operand.func 16), args := #[Operand.tmp 16], argTypes := #[24] }, type := 24, pos := "law.go:48", after := #[{ on := 3, ground := Ground.data }, { on := 2, ground := Ground.chain }], guard := none }) (R := MadeV X3 (fun v => .agg #[.bool !a, v]) y) rfl (by rfl) (by go_simp; first | done | with_reducible rfl | rfl) (OT.out X3 hX3) ?_
        rintro v X4 ⟨Ay, cy, rfl, Sy, Ny, Gy, hb'⟩
        refine ⟨hX3.trans hb', ?_⟩
        (try simp only [Act.put, List.setIfInBounds_toArray, List.set_cons_zero, List.set_cons_succ])
        have hX4 := hX3.trans hb'
        have Oy := own1_of Gy
        have Sx := Sx.keep hb'
        have Py7 := apart_old Gy F7.1
        have F7 := F7.keep hb'
        have Py8 := apart_old Gy F8.1
        have F8 := F8.keep hb'
        clear hb' Gy
        refine wpAnyH_all (rs := [7]) (by kernel_rfl) (by simp) ?_
        intro i hi
        simp only [List.mem_cons, List.not_mem_nil, or_false] at hi
        subst hi
        refine wpOp_skip (o := { dst := none, op := Op.store 24 (Operand.tmp 7) (Operand.tmp 15), type := 0, pos := "law.go:48", after := #[{ on := 5, ground := Ground.data }, { on := 2, ground := Ground.data }, { on := 4, ground := Ground.chain }, { on := 0, ground := Ground.phase }, { on := 1, ground := Ground.phase }, { on := 2, ground := Ground.phase }, { on := 3, ground := Ground.textOnly Departure.lateStores }, { on := 4, ground := Ground.textOnly Departure.lateStoresUnsure }, { on := 5, ground := Ground.phase }, { on := 6, ground := Ground.phase }], guard := none }) (w' := putW X4 B7 (a && b) (.slice Ax x.length cx)) rfl (by rfl) (by obtain ⟨f0, f1, f2, f3, f4⟩ := F7; unfold putW; go_simp; first | done | with_reducible rfl | rfl) ?_
        have hX5 : Bel W (putW X4 B7 (a && b) (.slice Ax x.length cx)) := putW_bel hX4 L7
        refine ⟨hX5, ?_⟩
        (try simp only [Act.put, List.setIfInBounds_toArray, List.set_cons_zero, List.set_cons_succ])
        have K7 := putW_at (A := Ax) (n := x.length) (c := cx) (a && b) F7
        have F8 := F8.putW (all := a && b) (v := .slice Ax x.length cx) NE.symm
        have Sx := Sx.putW (all := a && b) (v := .slice Ax x.length cx) Px7
        have Sy := Sy.putW (all := a && b) (v := .slice Ax x.length cx) Py7
        generalize putW X4 B7 (a && b) (.slice Ax x.length cx) = X5 at hX5 K7 F8 Sx Sy ⊢
        refine wpAnyH_all (rs := [8]) (by kernel_rfl) (by simp) ?_
        intro i hi
        simp only [List.mem_cons, List.not_mem_nil, or_false] at hi
        subst hi
        refine wpOp_skip (o := { dst := none, op := Op.store 24 (Operand.tmp 8) (Operand.tmp 17), type := 0, pos := "law.go:48", after := #[{ on := 6, ground := Ground.data }, { on := 4, ground := Ground.data }, { on := 7, ground := Ground.chain }, { on := 0, ground := Ground.phase }, { on := 1, ground := Ground.phase }, { on := 2, ground := Ground.phase }, { on := 3, ground := Ground.phase }, { on := 4, ground := Ground.phase }, { on := 5, ground := Ground.phase }, { on := 6, ground := Ground.phase }, { on := 7, ground := Ground.phase }], guard := none }) (w' := putW X5 B8 (!a) (.slice Ay y.length cy)) rfl (by rfl) (by obtain ⟨f0, f1, f2, f3, f4⟩ := F8; unfold putW; go_simp; first | done | with_reducible rfl | rfl) ?_
        have hX6 : Bel W (putW X5 B8 (!a) (.slice Ay y.length cy)) := putW_bel hX5 L8
        refine ⟨hX6, ?_⟩
        (try simp only [Act.put, List.setIfInBounds_toArray, List.set_cons_zero, List.set_cons_succ])
        have K8 := putW_at (A := Ay) (n := y.length) (c := cy) (!a) F8
        have K7 := K7.putW (all := !a) (v := .slice Ay y.length cy) NE
        have Sx := Sx.putW (all := !a) (v := .slice Ay y.length cy) Px8
        have Sy := Sy.putW (all := !a) (v := .slice Ay y.length cy) Py8
        generalize putW X5 B8 (!a) (.slice Ay y.length cy) = X6 at hX6 K8 K7 Sx Sy ⊢
        refine wpAnyH_done (by kernel_rfl) ?_ _
        refine NoPanic.normal ?_
        go_wp2
        go_meet
        exact ⟨⟨B7, B8, Ax, Ay, cx, cy, rfl, rfl, K7, K8, Sx, Sy, Nx, Ny⟩, hX6⟩
  case rest =>
    clear me ot hl hm hs hs2 hA hA2 hn hn2 ht hfs
    obtain ⟨⟨B7, B8, A7, A8, c7, c8, rfl, rfl, K7, K8, S7, S8, N7, N8⟩, hbc⟩ := hcut
    have hbw := hb.trans hbc
    have K1 := Lib.hid (show WAt W B0 a A l.length c from ⟨z1, m0, m1⟩)
    have K2 := Lib.hid (show WAt W B1 b A2 m.length c2 from ⟨z0, n0, n1⟩)
    have K1 := Lib.hid (K1.out.keep hbc)
    have K2 := Lib.hid (K2.out.keep hbc)
    have K7 := Lib.hid K7
    have K8 := Lib.hid K8
    have S7 := Lib.hid S7
    have S8 := Lib.hid S8
    have hbW := hbw
    clear m0 m1 n0 n1 z0 z1 hbc hb N7 N8 HL HM
    go_upto_region 2 with fail
    go_cut [49] (fun v49 wx => v49 = .bool false ∧ Bel wc wx)
    case first =>
      have RX := Lib.hid fun W (hW : Strs W A7 x) => rrising_any x A7 c7 W GX.out hW (by have := LX.out; have := NL.out; omega) FX.out
      have RY := Lib.hid fun W (hW : Strs W A8 y) => rrising_any y A8 c8 W GY.out hW (by have := LY.out; have := NL.out; omega) FY.out
      obtain ⟨z1, m0, m1⟩ := K1.out
      obtain ⟨z2, n0, n1⟩ := K2.out
      obtain ⟨z7, p0, p1⟩ := K7.out
      obtain ⟨z8, q0, q1⟩ := K8.out
      clear K1 K2 K7 K8 KH KO GX GY FX FY AS AF AL WA WB LX LY NL
      cases a <;> cases b
      all_goals
        simp only [Bool.and_self, Bool.and_true, Bool.and_false, Bool.true_and, Bool.false_and, Bool.not_true, Bool.not_false] at p0 q0
        go_wp2_with (first
          | (go_at_call 9; (with_reducible refine Calls.mono (awake_any _ (HT.out.keep hbW)) ?_); rintro e W5 ⟨rfl, hb5⟩; have m0 := (hb5.cells _ _ z1).trans m0; have n0 := (hb5.cells _ _ z2).trans n0; have p0 := (hb5.cells _ _ z7).trans p0; have p1 := (hb5.cells _ _ z7).trans p1; have q0 := (hb5.cells _ _ z8).trans q0; have q1 := (hb5.cells _ _ z8).trans q1; have z1 := Nat.lt_of_lt_of_le z1 hb5.size; have z2 := Nat.lt_of_lt_of_le z2 hb5.size; have z7 := Nat.lt_of_lt_of_le z7 hb5.size; have z8 := Nat.lt_of_lt_of_le z8 hb5.size; have S7 := Lib.hid (S7.out.keep hb5); have S8 := Lib.hid (S8.out.keep hb5); have hbY := hb5; clear hb5)
          | (go_at_call_of 10 (Value.slice A7 x.length c7); (with_reducible refine Calls.mono (RX.out _ S7.out) ?_); rintro e W6 ⟨rfl, hb5⟩; have m0 := (hb5.cells _ _ z1).trans m0; have n0 := (hb5.cells _ _ z2).trans n0; have p0 := (hb5.cells _ _ z7).trans p0; have q0 := (hb5.cells _ _ z8).trans q0; have q1 := (hb5.cells _ _ z8).trans q1; have z1 := Nat.lt_of_lt_of_le z1 hb5.size; have z2 := Nat.lt_of_lt_of_le z2 hb5.size; have z7 := Nat.lt_of_lt_of_le z7 hb5.size; have z8 := Nat.lt_of_lt_of_le z8 hb5.size; have S8 := Lib.hid (S8.out.keep hb5); have hbY := hbY.trans hb5; clear hb5)
          | (go_at_call_of 10 (Value.slice A8 y.length c8); (with_reducible refine Calls.mono (RY.out _ S8.out) ?_); rintro e W7 ⟨rfl, hb5⟩; have m0 := (hb5.cells _ _ z1).trans m0; have n0 := (hb5.cells _ _ z2).trans n0; have p0 := (hb5.cells _ _ z7).trans p0; have q0 := (hb5.cells _ _ z8).trans q0; have hbY := hbY.trans hb5; clear hb5))
        go_meet
        exact ⟨rfl, hbY⟩
    case rest =>
      obtain ⟨rfl, hb2⟩ := hcut
      have hbW := hbW.trans hb2
      have K1 := Lib.hid (K1.out.keep hb2)
      have K2 := Lib.hid (K2.out.keep hb2)
      have K7 := Lib.hid (K7.out.keep hb2)
      have K8 := Lib.hid (K8.out.keep hb2)
      have S7 := Lib.hid (S7.out.keep hb2)
      have S8 := Lib.hid (S8.out.keep hb2)
      have HR := Lib.hid fun t (ht : Fits t) W (hW : Strs W A7 x) => has_any (a && b) x A7 c7 t W hW (by have := LX.out; have := NL.out; omega) ht
      have HO := Lib.hid fun t (ht : Fits t) W (hW : Strs W A8 y) => has_any (!a) y A8 c8 t W hW (by have := LY.out; have := NL.out; omega) ht
      unfold wset at HR HO
      clear hb2 hbw GX GY LX LY FX FY NL HT
      obtain ⟨z1, m0, m1⟩ := K1.out
      obtain ⟨z2, n0, n1⟩ := K2.out
      go_upto_region 5 with (first
        | (go_at_call 12; (with_reducible refine Calls.mono (AS.out _ hbW) ?_); rintro e W6 ⟨A6, c6, rfl, h6, hb3⟩; have S6 := Lib.hid h6; have hbY := hb3; clear h6 hb3))
      have hbW := hbW.trans hbY
      have K1 := Lib.hid (K1.out.keep hbY)
      have K2 := Lib.hid (K2.out.keep hbY)
      have K7 := Lib.hid (K7.out.keep hbY)
      have K8 := Lib.hid (K8.out.keep hbY)
      have S7 := Lib.hid (S7.out.keep hbY)
      have S8 := Lib.hid (S8.out.keep hbY)
      clear m0 m1 n0 n1 z1 z2 hbY AS
      generalize hLL : askl s l m = L at S6 AF AL ⊢
      generalize hn6 : L.length = n6
      have HN6 := Lib.hid (And.intro hn6 (show n6 ≤ 46 from by rw [← hn6]; exact AL.out))
      have i0 : (n6 : Int) ≤ 46 := by have := HN6.out.2; omega
      clear hn6 hLL AL
      go_wp2
      go_loopg [10] n6 (fun g i wr => ∃ k : Nat, i = .int .i64 k ∧ k ≤ n6 ∧ Hid (g = n6 - k) ∧ Bel W6 wr)
      case atStart => exact ⟨0, rfl, Nat.zero_le _, rfl, Bel.refl _⟩
      case round =>
        obtain ⟨k, rfl, hk, hh, hb3⟩ := hrel
        by_cases hlt : k < n6
        · obtain ⟨b6, off, rfl, hltb, hat⟩ := S6.out.blk (by rw [HN6.out.1]; omega)
          obtain ⟨t, hxk⟩ : ∃ t, L[k]? = some t := ⟨_, List.getElem?_eq_getElem (by rw [HN6.out.1]; exact hlt)⟩
          have hcell := (hb3.cells _ (off + k) hltb).trans (hat k t hxk)
          have hft := AF.out t (List.mem_of_getElem? hxk)
          have i1 : (k : Int) < n6 := by omega
          have i2 : (0 : Int) ≤ (k : Int) := by omega
          have z4 := Nat.lt_of_lt_of_le hltb hb3.size
          obtain ⟨z1, m0, m1⟩ := K1.out.keep hb3
          obtain ⟨z2, n0, n1⟩ := K2.out.keep hb3
          obtain ⟨z7, p0, p1⟩ := K7.out.keep hb3
          obtain ⟨z8, q0, q1⟩ := K8.out.keep hb3
          have T7 := Lib.hid (S7.out.keep hb3)
          have T8 := Lib.hid (S8.out.keep hb3)
          have hbX := hbW.trans hb3
          have WD := Lib.hid fun v q W (h : (v = .agg #[.bool a, .slice A l.length c] ∧ q = hasw a l t) ∨ (v = .agg #[.bool b, .slice A2 m.length c2] ∧ q = hasw b m t)) (h1 : Bel w W) => (show Calls Tryd.prog 13 #[v, .string t] W fun e w' => e = .returned (.bool q) ∧ Bel W w' from by
            rcases h with ⟨rfl, rfl⟩ | ⟨rfl, rfl⟩
            · exact WA.out t hft W h1
            · exact WB.out t hft W h1)
          have HH := Lib.hid fun v q W (h : (v = .agg #[.bool (a && b), .slice A7 x.length c7] ∧ q = (hasw a l t && hasw b m t)) ∨ (v = .agg #[.bool !a, .slice A8 y.length c8] ∧ q = (!hasw a l t && okw t))) (h7 : Strs W A7 x) (h8 : Strs W A8 y) => (show Calls Tryd.prog 14 #[v, .string t] W fun e w' => e = .returned (.bool q) ∧ Bel W w' from by
            rcases h with ⟨rfl, rfl⟩ | ⟨rfl, rfl⟩
            · have := HR.out t hft W h7
              rw [KH.out] at this
              exact this
            · have := HO.out t hft W h8
              rw [KO.out] at this
              exact this)
          have WR := Lib.hid fun W => rword_any t hft W
          generalize hasw a l t = qa at WD HH
          generalize hasw b m t = qb at WD HH
          generalize okw t = qo at HH WR
          have WD1 := Lib.hid fun w' (hS : Bel wr w' ∧ (∀ b o, b < wr.heap.size → w'.cell? ⟨b, o, none⟩ = wr.cell? ⟨b, o, none⟩)) v q h => WD.out v q w' h (hbX.trans hS.1)
          clear hat hxk WD HR HO KH KO WA WB K1 K2 K7 K8 S7 S8 hltb
          go_wp2_with fail
          refine wp_region_uni (S := (fun w' => Bel wr w' ∧ (∀ b o, b < wr.heap.size → w'.cell? ⟨b, o, none⟩ = wr.cell? ⟨b, o, none⟩))) (by kernel_rfl) (by kernel_rfl) keep0 ?_
          repeat (first | (refine wpUni_skip (by rfl) ?_; (try simp only [Act.put, List.setIfInBounds_toArray, List.set_cons_zero, List.set_cons_succ]))
                                                            | (refine wpUni_value (by rfl) (fun w hS => by (try dsimp only at hS); go_simp; first | done | with_reducible rfl) ?_; (try simp only [Act.put, List.setIfInBounds_toArray, List.set_cons_zero, List.set_cons_succ]))
                                                            | (refine wpUni_call (f := 13) (by rfl) (fun w => by go_simp; first | done | with_reducible rfl) (fun w hS => (WD1.out w hS (.agg #[.bool a, .slice A l.length c]) qa (.inl ⟨rfl, rfl⟩)).mono fun e w' ⟨he, hb⟩ => ⟨he, keep1 hS hb⟩) ?_; (try simp only [Act.put, List.setIfInBounds_toArray, List.set_cons_zero, List.set_cons_succ]))
                                                            | (refine wpUni_call (f := 13) (by rfl) (fun w => by go_simp; first | done | with_reducible rfl) (fun w hS => (WD1.out w hS (.agg #[.bool b, .slice A2 m.length c2]) qb (.inr ⟨rfl, rfl⟩)).mono fun e w' ⟨he, hb⟩ => ⟨he, keep1 hS hb⟩) ?_; (try simp only [Act.put, List.setIfInBounds_toArray, List.set_cons_zero, List.set_cons_succ])))
          refine wpUni_nil fun W8 hS => ?_
          have hb8 := hS.1
          clear hS WD1
          have m0 := (hb8.cells _ _ z1).trans m0
          have p0 := (hb8.cells _ _ z7).trans p0
          have p1 := (hb8.cells _ _ z7).trans p1
          have q0 := (hb8.cells _ _ z8).trans q0
          have q1 := (hb8.cells _ _ z8).trans q1
          have hcell := (hb8.cells _ _ z4).trans hcell
          have z7 := Nat.lt_of_lt_of_le z7 hb8.size
          have z8 := Nat.lt_of_lt_of_le z8 hb8.size
          have z4 := Nat.lt_of_lt_of_le z4 hb8.size
          have HH1 := Lib.hid fun w' (hS : Bel W8 w' ∧ (∀ b o, b < W8.heap.size → w'.cell? ⟨b, o, none⟩ = W8.cell? ⟨b, o, none⟩)) v q h => HH.out v q w' h (T7.out.keep (hb8.trans hS.1)) (T8.out.keep (hb8.trans hS.1))
          have hb8 := hb3.trans hb8
          clear HH T7 T8 n0 n1 m0 m1 z1 z2 hbX
          go_wp2_with fail
          obtain ⟨q1v, hq1⟩ : ∃ q, q = (qa && qb) := ⟨_, rfl⟩
          obtain ⟨q2v, hq2⟩ : ∃ q, q = (!qa && qo) := ⟨_, rfl⟩
          rw [← hq1, ← hq2] at HH1
          cases qa <;> cases qb <;> cases qo
          all_goals
            simp only [Bool.and_self, Bool.and_true, Bool.and_false, Bool.true_and, Bool.false_and, Bool.not_true, Bool.not_false] at hq1 hq2
            subst hq1 hq2
            refine wp_region_uni (S := (fun w' => Bel W8 w' ∧ (∀ b o, b < W8.heap.size → w'.cell? ⟨b, o, none⟩ = W8.cell? ⟨b, o, none⟩))) (by kernel_rfl) (by kernel_rfl) keep0 ?_
            repeat (first | (refine wpUni_skip (by rfl) ?_; (try simp only [Act.put, List.setIfInBounds_toArray, List.set_cons_zero, List.set_cons_succ]))
                                                            | (refine wpUni_value (by rfl) (fun w hS => by (try dsimp only at hS); go_simp; first | done | with_reducible rfl) ?_; (try simp only [Act.put, List.setIfInBounds_toArray, List.set_cons_zero, List.set_cons_succ]))
                                                            | (refine wpUni_call (f := 14) (by rfl) (fun w => by go_simp; first | done | with_reducible rfl) (fun w hS => (HH1.out w hS (.agg #[.bool (a && b), .slice A7 x.length c7]) _ (.inl ⟨rfl, rfl⟩)).mono fun e w' ⟨he, hb⟩ => ⟨he, keep1 hS hb⟩) ?_; (try simp only [Act.put, List.setIfInBounds_toArray, List.set_cons_zero, List.set_cons_succ]))
                                                            | (refine wpUni_call (f := 14) (by rfl) (fun w => by go_simp; first | done | with_reducible rfl) (fun w hS => (HH1.out w hS (.agg #[.bool !a, .slice A8 y.length c8]) _ (.inr ⟨rfl, rfl⟩)).mono fun e w' ⟨he, hb⟩ => ⟨he, keep1 hS hb⟩) ?_; (try simp only [Act.put, List.setIfInBounds_toArray, List.set_cons_zero, List.set_cons_succ]))
                                                            | (refine wpUni_call (f := 17) (by rfl) (fun w => by go_simp; first | done | with_reducible rfl) (fun w hS => (WR.out w).mono fun e w' ⟨he, hb⟩ => ⟨he, keep1 hS hb⟩) ?_; (try simp only [Act.put, List.setIfInBounds_toArray, List.set_cons_zero, List.set_cons_succ])))
            refine wpUni_nil fun W9 hS => ?_
            have hb9 := hb8.trans hS.1
            clear hS
            go_wp2_with fail
            go_roundg (n6 - (k + 1))
            case measure => have := hh.out; omega
            case rel => exact ⟨k + 1, by go_num, by omega, rfl, hb9⟩
        · obtain rfl : k = n6 := by omega
          go_wp2
          go_ret
          exact ⟨rfl, hbW.trans hb3⟩
end Go.Proofs.YtemciabindjkeaaDoor
