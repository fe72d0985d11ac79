import Derived.Test.YtemciabindjkeaaDoorWds
namespace Go.Proofs.YtemciabindjkeaaDoor
set_option linter.unusedSimpArgs false
set_option linter.unusedVariables false
open Go.RowKit Go.Lib

/-! Words: the law on what is in one and not in another. -/
theorem split_has (a : Bool) (l : List ByteArray) (b : Bool) (m : List ByteArray) (s : ByteArray) : hasw (a && !b) (meetl a l (!b) (keptl okw m)) s = (hasw a l s && !hasw b m s) := by
  rw [meet_has, other_has]
  unfold hasw
  cases okw s <;> simp
theorem split_none (a : Bool) (l : List ByteArray) (b : Bool) (m : List ByteArray) : meetl (a && b) (meetl a l b m) (a && !b) (meetl a l (!b) (keptl okw m)) = [] := by
  refine srt_empty fun s hs => ?_
  have ho := ((meetl_goods _ _ _ _).2 s hs)
  have h := meet_has (a && b) (meetl a l b m) (a && !b) (meetl a l (!b) (keptl okw m)) s
  have hf : ((a && b) && (a && !b)) = false := by cases a <;> cases b <;> rfl
  have e1 := meet_has a l b m s
  have e2 := split_has a l b m s
  rw [hf, e1, e2] at h
  unfold hasw at h
  rw [(inl_iff _ s).2 hs, ho] at h
  generalize (inl l s != a) = p at h
  generalize (inl m s != b) = q at h
  cases p <;> cases q <;> simp at h
set_option maxRecDepth 100000 in
set_option maxHeartbeats 8000000 in
theorem law_Split (a : Bool) (l : List ByteArray) (A : Option Addr) (c : Nat) (b : Bool) (m : List ByteArray) (A2 : Option Addr) (c2 : Nat) (s : ByteArray) (w : World) (ht : Tab w) (hl : Strs w A l) (hm : Strs w A2 m) (hA : A = none → c = 0) (hA2 : A2 = none → c2 = 0)
    (hn : l.length ≤ 1048576) (hn2 : m.length ≤ 1048576) (hs : ∀ s ∈ l, Fits s) (hs2 : ∀ s ∈ m, Fits s) (hfs : Fits s) :
    Calls Tryd.prog 7 #[.agg #[.bool a, .slice A l.length c], .agg #[.bool b, .slice A2 m.length c2], .string s] w fun e w' => e = .returned (.bool true) ∧ Bel w w' := by
  have HT := Lib.hid ht
  have me := fun W (hW : Bel w W) => meet_any a l A c b m A2 c2 W (hl.keep hW) (hm.keep hW) hA hA2 (by omega) (by omega) (fun _ _ => by omega) hs hs2
  have ot := fun W (hW : Bel w W) => other_any b m A2 c2 W (hm.keep hW) (by omega) hs2
  have lo := keptl_len okw m
  have my := fun W Ao co (hW : Bel w W) (hS : Strs W Ao (keptl okw m)) (hN : Ao = none → co = 0) => meet_any a l A c (!b) (keptl okw m) Ao co W (hl.keep hW) hS hA hN (by omega) (by omega) (fun _ _ => by omega) hs (kept_fits hs2)
  unfold wset at me ot my
  have KH := Lib.hid (meet_has a l b m)
  have KY := Lib.hid (split_has a l b m)
  have KN := Lib.hid (split_none a l b m)
  have LX := Lib.hid (meetl_len a l b m)
  have LY := Lib.hid (show (meetl a l (!b) (keptl okw m)).length ≤ l.length + m.length from by have := meetl_len a l (!b) (keptl okw m); omega)
  have FX := Lib.hid (meetl_fits (a := a) (b := b) hs hs2)
  have FY := Lib.hid (meetl_fits (a := a) (b := !b) hs (kept_fits (p := okw) hs2))
  have AS := Lib.hid fun W (hW : Bel w W) => asks_any s l A c m A2 c2 W (hl.keep hW) (hm.keep hW) (by omega) (by omega)
  have AF := Lib.hid (askl_fits hfs hs hs2)
  have AL := Lib.hid (askl_len s l m)
  have HA := Lib.hid fun t (ht : Fits t) W (hW : Bel w W) => has_any a l A c t W (hl.keep hW) (by omega) ht
  unfold wset at HA
  have NL := Lib.hid (And.intro hn hn2)
  generalize meetl a l b m = x at me KH KN LX FX
  generalize meetl a l (!b) (keptl okw m) = y at my KY KN LY FY
  generalize keptl okw m = o at ot my lo
  go_enter Tryd.func7, Tryd.ntmps7
  go_upto_region 1 with fail
  refine under_name (((Bel.refl w).alloc _).alloc _) fun W hc hf hz hb => ?_
  have m0 : W.cell? ⟨w.heap.size, 0, none⟩ = some (.bool a) := by simp [hc, go_sem]
  have m1 : W.cell? ⟨w.heap.size, 1, none⟩ = some (.slice A l.length c) := by simp [hc, go_sem]
  have n0 : W.cell? ⟨w.heap.size + 1, 0, none⟩ = some (.bool b) := by simp [hc, go_sem]
  have n1 : W.cell? ⟨w.heap.size + 1, 1, none⟩ = some (.slice A2 m.length c2) := by simp [hc, go_sem]
  have z0 : w.heap.size + 1 < W.heap.size := by simp [hz]
  have z1 : w.heap.size < W.heap.size := by omega
  clear hc hf hz
  generalize hB1 : w.heap.size + 1 = B1 at n0 n1 z0 ⊢
  generalize w.heap.size = B0 at m0 m1 z1 hB1 ⊢
  clear hB1
  go_cut [7, 8] (fun v7 v8 wx => Two wx v7 v8 (a && b) (a && !b) x y ∧ Bel W wx)
  case first =>
    have ME := Lib.hid fun X (hX : Bel W X) => (me X (hb.trans hX)).mono fun e w' h => h.v
    have OT := Lib.hid fun X (hX : Bel W X) => (ot X (hb.trans hX)).mono fun e w' h => h.v
    have MY := Lib.hid fun X Ao co (hX : Bel W X) hS hN => (my X Ao co (hb.trans hX) hS hN).mono fun e w' h => h.v
    have RD := Lib.hid fun X (hX : Bel W X) => And.intro ((hX.cells _ 0 z1).trans m0) (And.intro ((hX.cells _ 1 z1).trans m1) (And.intro ((hX.cells _ 0 z0).trans n0) ((hX.cells _ 1 z0).trans n1)))
    clear me ot my lo m0 m1 n0 n1 z0 z1 hb hl hm hs hs2 hA hA2 hn hn2 ht KH KY KN LX LY FX FY AS AF AL HA NL HT hfs
    refine wp_region_noPanic ?_
    refine wp_region_held (S := fun X => Bel W X) (by kernel_rfl) ?_
    have hX0 : Bel W { W with drawn := W.drawn + 1 } := (Bel.refl W).drew
    generalize { W with drawn := W.drawn + 1 } = X0 at hX0 ⊢
    refine wpAnyH_take (i := 0) (oi := { dst := some 11, op := Op.load 24 (Operand.tmp 3), type := 24, pos := "law.go:106", after := #[], guard := none }) (v := .agg #[.bool a, .slice A l.length c]) rfl (by kernel_rfl) (by kernel_rfl) (by kernel_rfl) (fun _ _ _ h => h) (.inl ⟨by rfl, fun X hS => by
        obtain ⟨k0, k1, k2, k3⟩ := RD.out X hS
        go_simp; first | done | with_reducible rfl | rfl⟩) hX0 ?_
    (try simp only [Act.put, List.setIfInBounds_toArray, List.set_cons_zero, List.set_cons_succ])
    refine wpAnyH_take (i := 1) (oi := { dst := some 12, op := Op.load 24 (Operand.tmp 4), type := 24, pos := "law.go:106", after := #[], guard := none }) (v := .agg #[.bool b, .slice A2 m.length c2]) rfl (by kernel_rfl) (by kernel_rfl) (by kernel_rfl) (fun _ _ _ h => h) (.inl ⟨by rfl, fun X hS => by
        obtain ⟨k0, k1, k2, k3⟩ := RD.out X hS
        go_simp; first | done | with_reducible rfl | rfl⟩) hX0 ?_
    (try simp only [Act.put, List.setIfInBounds_toArray, List.set_cons_zero, List.set_cons_succ])
    refine wpAnyH_take (i := 3) (oi := { dst := some 14, op := Op.load 24 (Operand.tmp 3), type := 24, pos := "law.go:106", after := #[], guard := none }) (v := .agg #[.bool a, .slice A l.length c]) rfl (by kernel_rfl) (by kernel_rfl) (by kernel_rfl) (fun _ _ _ h => h) (.inl ⟨by rfl, fun X hS => by
        obtain ⟨k0, k1, k2, k3⟩ := RD.out X hS
        go_simp; first | done | with_reducible rfl | rfl⟩) hX0 ?_
    (try simp only [Act.put, List.setIfInBounds_toArray, List.set_cons_zero, List.set_cons_succ])
    refine wpAnyH_take (i := 4) (oi := { dst := some 15, op := Op.load 24 (Operand.tmp 4), type := 24, pos := "law.go:106", after := #[], guard := none }) (v := .agg #[.bool b, .slice A2 m.length c2]) rfl (by kernel_rfl) (by kernel_rfl) (by kernel_rfl) (fun _ _ _ h => h) (.inl ⟨by rfl, fun X hS => by
        obtain ⟨k0, k1, k2, k3⟩ := RD.out X hS
        go_simp; first | done | with_reducible rfl | rfl⟩) hX0 ?_
    (try simp only [Act.put, List.setIfInBounds_toArray, List.set_cons_zero, List.set_cons_succ])
    refine wpAnyH_all (rs := [2, 7, 8]) (by kernel_rfl) (by simp) ?_
    intro i hi
    simp only [List.mem_cons, List.not_mem_nil, or_false] at hi
    rcases hi with rfl | rfl | rfl
    · refine wpOp_enter (o := { dst := some 13, op := Op.call { callee := Callee.value (Operand.func 15), args := #[Operand.tmp 11, Operand.tmp 12], argTypes := #[24, 24] }, type := 24, pos := "law.go:106", after := #[{ on := 0, ground := Ground.data }, { on := 1, ground := Ground.data }], guard := none }) (R := MadeV X0 (fun v => .agg #[.bool (a && b), v]) x) rfl (by rfl) (by go_simp; first | done | with_reducible rfl | rfl) (ME.out X0 hX0) ?_
      rintro v X1 ⟨Ax, cx, rfl, Sx, Nx, Gx, hb'⟩
      refine ⟨hX0.trans hb', ?_⟩
      (try simp only [Act.put, List.setIfInBounds_toArray, List.set_cons_zero, List.set_cons_succ])
      have hX1 := hX0.trans hb'
      have Ox := own1_of Gx
      clear hb' Gx
      refine wpAnyH_all (rs := [5, 7, 8]) (by kernel_rfl) (by simp) ?_
      intro i hi
      simp only [List.mem_cons, List.not_mem_nil, or_false] at hi
      rcases hi with rfl | rfl | rfl
      · refine wpOp_enter (o := { dst := some 16, op := Op.call { callee := Callee.value (Operand.func 16), args := #[Operand.tmp 15], argTypes := #[24] }, type := 24, pos := "law.go:106", after := #[{ on := 4, ground := Ground.data }, { on := 2, ground := Ground.chain }], guard := none }) (R := MadeV X1 (fun v => .agg #[.bool !b, v]) o) rfl (by rfl) (by go_simp; first | done | with_reducible rfl | rfl) (OT.out X1 hX1) ?_
        rintro v X2 ⟨Ao, co, rfl, So, No, Go, hb'⟩
        refine ⟨hX1.trans hb', ?_⟩
        (try simp only [Act.put, List.setIfInBounds_toArray, List.set_cons_zero, List.set_cons_succ])
        have hX2 := hX1.trans hb'
        have Oo := own1_of Go
        have Sx := Sx.keep hb'
        clear hb' Go
        refine wpAnyH_all (rs := [6, 7, 8]) (by kernel_rfl) (by simp) ?_
        intro i hi
        simp only [List.mem_cons, List.not_mem_nil, or_false] at hi
        rcases hi with rfl | rfl | rfl
        · refine wpOp_enter (o := { dst := some 17, op := Op.call { callee := Callee.value (Operand.func 15), args := #[Operand.tmp 14, Operand.tmp 16], argTypes := #[24, 24] }, type := 24, pos := "law.go:106", after := #[{ on := 3, ground := Ground.data }, { on := 5, ground := Ground.data }, { on := 5, ground := Ground.chain }], guard := none }) (R := MadeV X2 (fun v => .agg #[.bool (a && !b), v]) y) rfl (by rfl) (by go_simp; first | done | with_reducible rfl | rfl) (MY.out X2 Ao co hX2 So No) ?_
          rintro v X3 ⟨Ay, cy, rfl, Sy, Ny, Gy, hb'⟩
          refine ⟨hX2.trans hb', ?_⟩
          (try simp only [Act.put, List.setIfInBounds_toArray, List.set_cons_zero, List.set_cons_succ])
          have hX3 := hX2.trans hb'
          have Oy := own1_of Gy
          have Sx := Sx.keep hb'
          have So := So.keep hb'
          clear hb' Gy
          refine wpAnyH_all (rs := [7, 8]) (by kernel_rfl) (by simp) ?_
          intro i hi
          simp only [List.mem_cons, List.not_mem_nil, or_false] at hi
          rcases hi with rfl | rfl
          · refine wpOp_value (o := { dst := some 7, op := Op.alloc 24, type := 0, pos := "law.go:106", after := #[], guard := none }) (v := .pointer (some ⟨X3.heap.size, 0, none⟩)) (w' := X3.alloc (.cells #[.bool false, .slice none 0 0] 24)) rfl (by rfl) (by go_simp; first | done | with_reducible rfl | rfl) ?_
            have hb' : Bel X3 (X3.alloc (.cells #[.bool false, .slice none 0 0] 24)) := (Bel.refl _).alloc _
            refine ⟨hX3.trans hb', ?_⟩
            (try simp only [Act.put, List.setIfInBounds_toArray, List.set_cons_zero, List.set_cons_succ])
            have F7 := FreeW.new X3
            have L7 : W.heap.size ≤ X3.heap.size := hX3.size
            generalize X3.alloc (.cells #[.bool false, .slice none 0 0] 24) = X4 at hb' F7 ⊢
            have hX4 := hX3.trans hb'
            have Px7 := apart_new Sx Ox
            have Sx := Sx.keep hb'
            have Po7 := apart_new So Oo
            have So := So.keep hb'
            have Py7 := apart_new Sy Oy
            have Sy := Sy.keep hb'
            clear hb'
            generalize X3.heap.size = B7 at F7 L7 Px7 Po7 Py7 ⊢
            refine wpAnyH_all (rs := [8]) (by kernel_rfl) (by simp) ?_
            intro i hi
            simp only [List.mem_cons, List.not_mem_nil, or_false] at hi
            subst hi
            refine wpOp_value (o := { dst := some 8, op := Op.alloc 24, type := 0, pos := "law.go:106", after := #[], guard := none }) (v := .pointer (some ⟨X4.heap.size, 0, none⟩)) (w' := X4.alloc (.cells #[.bool false, .slice none 0 0] 24)) rfl (by rfl) (by go_simp; first | done | with_reducible rfl | rfl) ?_
            have hb' : Bel X4 (X4.alloc (.cells #[.bool false, .slice none 0 0] 24)) := (Bel.refl _).alloc _
            refine ⟨hX4.trans hb', ?_⟩
            (try simp only [Act.put, List.setIfInBounds_toArray, List.set_cons_zero, List.set_cons_succ])
            have F8 := FreeW.new X4
            have L8 : W.heap.size ≤ X4.heap.size := hX4.size
            generalize X4.alloc (.cells #[.bool false, .slice none 0 0] 24) = X5 at hb' F8 ⊢
            have hX5 := hX4.trans hb'
            have Px8 := apart_new Sx Ox
            have Sx := Sx.keep hb'
            have Po8 := apart_new So Oo
            have So := So.keep hb'
            have Py8 := apart_new Sy Oy
            have Sy := Sy.keep hb'
            have NE : B7 ≠ X4.heap.size := Nat.ne_of_lt F7.1
            have F7 := F7.keep hb'
            clear hb'
            generalize X4.heap.size = B8 at F8 L8 Px8 Po8 Py8 NE ⊢
            refine wpAnyH_all (rs := [9]) (by kernel_rfl) (by simp) ?_
            intro i hi
            simp only [List.mem_cons, List.not_mem_nil, or_false] at hi
            subst hi
            refine wpOp_skip (o := { dst := none, op := Op.store 24 (Operand.tmp 7) (Operand.tmp 13), type := 0, pos := "law.go:106", after := #[{ on := 7, ground := Ground.data }, { on := 2, ground := Ground.data }, { on := 6, ground := Ground.chain }, { on := 0, ground := Ground.phase }, { on := 1, ground := Ground.phase }, { on := 2, ground := Ground.phase }, { on := 3, ground := Ground.textOnly Departure.lateStores }, { on := 4, ground := Ground.textOnly Departure.lateStores }, { on := 5, ground := Ground.textOnly Departure.lateStoresUnsure }, { on := 6, ground := Ground.textOnly Departure.lateStoresUnsure }, { on := 7, ground := Ground.phase }, { on := 8, ground := Ground.phase }], guard := none }) (w' := putW X5 B7 (a && b) (.slice Ax x.length cx)) rfl (by rfl) (by obtain ⟨f0, f1, f2, f3, f4⟩ := F7; unfold putW; go_simp; first | done | with_reducible rfl | rfl) ?_
            have hX6 : Bel W (putW X5 B7 (a && b) (.slice Ax x.length cx)) := putW_bel hX5 L7
            refine ⟨hX6, ?_⟩
            (try simp only [Act.put, List.setIfInBounds_toArray, List.set_cons_zero, List.set_cons_succ])
            have K7 := putW_at (A := Ax) (n := x.length) (c := cx) (a && b) F7
            have F8 := F8.putW (all := a && b) (v := .slice Ax x.length cx) NE.symm
            have Sx := Sx.putW (all := a && b) (v := .slice Ax x.length cx) Px7
            have Sy := Sy.putW (all := a && b) (v := .slice Ax x.length cx) Py7
            generalize putW X5 B7 (a && b) (.slice Ax x.length cx) = X6 at hX6 K7 F8 Sx Sy ⊢
            refine wpAnyH_all (rs := [10]) (by kernel_rfl) (by simp) ?_
            intro i hi
            simp only [List.mem_cons, List.not_mem_nil, or_false] at hi
            subst hi
            refine wpOp_skip (o := { dst := none, op := Op.store 24 (Operand.tmp 8) (Operand.tmp 17), type := 0, pos := "law.go:106", after := #[{ on := 8, ground := Ground.data }, { on := 6, ground := Ground.data }, { on := 9, ground := Ground.chain }, { on := 0, ground := Ground.phase }, { on := 1, ground := Ground.phase }, { on := 2, ground := Ground.phase }, { on := 3, ground := Ground.phase }, { on := 4, ground := Ground.phase }, { on := 5, ground := Ground.phase }, { on := 6, ground := Ground.phase }, { on := 7, ground := Ground.phase }, { on := 8, ground := Ground.phase }, { on := 9, ground := Ground.phase }], guard := none }) (w' := putW X6 B8 (a && !b) (.slice Ay y.length cy)) rfl (by rfl) (by obtain ⟨f0, f1, f2, f3, f4⟩ := F8; unfold putW; go_simp; first | done | with_reducible rfl | rfl) ?_
            have hX7 : Bel W (putW X6 B8 (a && !b) (.slice Ay y.length cy)) := putW_bel hX6 L8
            refine ⟨hX7, ?_⟩
            (try simp only [Act.put, List.setIfInBounds_toArray, List.set_cons_zero, List.set_cons_succ])
            have K8 := putW_at (A := Ay) (n := y.length) (c := cy) (a && !b) F8
            have K7 := K7.putW (all := a && !b) (v := .slice Ay y.length cy) NE
            have Sx := Sx.putW (all := a && !b) (v := .slice Ay y.length cy) Px8
            have Sy := Sy.putW (all := a && !b) (v := .slice Ay y.length cy) Py8
            generalize putW X6 B8 (a && !b) (.slice Ay y.length cy) = X7 at hX7 K8 K7 Sx Sy ⊢
            refine wpAnyH_done (by kernel_rfl) ?_ _
            refine NoPanic.normal ?_
            go_wp2
            go_meet
            exact ⟨⟨B7, B8, Ax, Ay, cx, cy, rfl, rfl, K7, K8, Sx, Sy, Nx, Ny⟩, hX7⟩
          · refine wpOp_value (o := { dst := some 8, op := Op.alloc 24, type := 0, pos := "law.go:106", after := #[], guard := none }) (v := .pointer (some ⟨X3.heap.size, 0, none⟩)) (w' := X3.alloc (.cells #[.bool false, .slice none 0 0] 24)) rfl (by rfl) (by go_simp; first | done | with_reducible rfl | rfl) ?_
            have hb' : Bel X3 (X3.alloc (.cells #[.bool false, .slice none 0 0] 24)) := (Bel.refl _).alloc _
            refine ⟨hX3.trans hb', ?_⟩
            (try simp only [Act.put, List.setIfInBounds_toArray, List.set_cons_zero, List.set_cons_succ])
            have F8 := FreeW.new X3
            have L8 : W.heap.size ≤ X3.heap.size := hX3.size
            generalize X3.alloc (.cells #[.bool false, .slice none 0 0] 24) = X4 at hb' F8 ⊢
            have hX4 := hX3.trans hb'
            have Px8 := apart_new Sx Ox
            have Sx := Sx.keep hb'
            have Po8 := apart_new So Oo
            have So := So.keep hb'
            have Py8 := apart_new Sy Oy
            have Sy := Sy.keep hb'
            clear hb'
            generalize X3.heap.size = B8 at F8 L8 Px8 Po8 Py8 ⊢
            refine wpAnyH_all (rs := [7]) (by kernel_rfl) (by simp) ?_
            intro i hi
            simp only [List.mem_cons, List.not_mem_nil, or_false] at hi
            subst hi
            refine wpOp_value (o := { dst := some 7, op := Op.alloc 24, type := 0, pos := "law.go:106", after := #[], guard := none }) (v := .pointer (some ⟨X4.heap.size, 0, none⟩)) (w' := X4.alloc (.cells #[.bool false, .slice none 0 0] 24)) rfl (by rfl) (by go_simp; first | done | with_reducible rfl | rfl) ?_
            have hb' : Bel X4 (X4.alloc (.cells #[.bool false, .slice none 0 0] 24)) := (Bel.refl _).alloc _
            refine ⟨hX4.trans hb', ?_⟩
            (try simp only [Act.put, List.setIfInBounds_toArray, List.set_cons_zero, List.set_cons_succ])
            have F7 := FreeW.new X4
            have L7 : W.heap.size ≤ X4.heap.size := hX4.size
            generalize X4.alloc (.cells #[.bool false, .slice none 0 0] 24) = X5 at hb' F7 ⊢
            have hX5 := hX4.trans hb'
            have Px7 := apart_new Sx Ox
            have Sx := Sx.keep hb'
            have Po7 := apart_new So Oo
            have So := So.keep hb'
            have Py7 := apart_new Sy Oy
            have Sy := Sy.keep hb'
            have NE : B8 ≠ X4.heap.size := Nat.ne_of_lt F8.1
            have F8 := F8.keep hb'
            clear hb'
            generalize X4.heap.size = B7 at F7 L7 Px7 Po7 Py7 NE ⊢
            have NE := NE.symm
            refine wpAnyH_all (rs := [9]) (by kernel_rfl) (by simp) ?_
            intro i hi
            simp only [List.mem_cons, List.not_mem_nil, or_false] at hi
            subst hi
            refine wpOp_skip (o := { dst := none, op := Op.store 24 (Operand.tmp 7) (Operand.tmp 13), type := 0, pos := "law.go:106", after := #[{ on := 7, ground := Ground.data }, { on := 2, ground := Ground.data }, { on := 6, ground := Ground.chain }, { on := 0, ground := Ground.phase }, { on := 1, ground := Ground.phase }, { on := 2, ground := Ground.phase }, { on := 3, ground := Ground.textOnly Departure.lateStores }, { on := 4, ground := Ground.textOnly Departure.lateStores }, { on := 5, ground := Ground.textOnly Departure.lateStoresUnsure }, { on := 6, ground := Ground.textOnly Departure.lateStoresUnsure }, { on := 7, ground := Ground.phase }, { on := 8, ground := Ground.phase }], guard := none }) (w' := putW X5 B7 (a && b) (.slice Ax x.length cx)) rfl (by rfl) (by obtain ⟨f0, f1, f2, f3, f4⟩ := F7; unfold putW; go_simp; first | done | with_reducible rfl | rfl) ?_
            have hX6 : Bel W (putW X5 B7 (a && b) (.slice Ax x.length cx)) := putW_bel hX5 L7
            refine ⟨hX6, ?_⟩
            (try simp only [Act.put, List.setIfInBounds_toArray, List.set_cons_zero, List.set_cons_succ])
            have K7 := putW_at (A := Ax) (n := x.length) (c := cx) (a && b) F7
            have F8 := F8.putW (all := a && b) (v := .slice Ax x.length cx) NE.symm
            have Sx := Sx.putW (all := a && b) (v := .slice Ax x.length cx) Px7
            have Sy := Sy.putW (all := a && b) (v := .slice Ax x.length cx) Py7
            generalize putW X5 B7 (a && b) (.slice Ax x.length cx) = X6 at hX6 K7 F8 Sx Sy ⊢
            refine wpAnyH_all (rs := [10]) (by kernel_rfl) (by simp) ?_
            intro i hi
            simp only [List.mem_cons, List.not_mem_nil, or_false] at hi
            subst hi
            refine wpOp_skip (o := { dst := none, op := Op.store 24 (Operand.tmp 8) (Operand.tmp 17), type := 0, pos := "law.go:106", after := #[{ on := 8, ground := Ground.data }, { on := 6, ground := Ground.data }, { on := 9, ground := Ground.chain }, { on := 0, ground := Ground.phase }, { on := 1, ground := Ground.phase }, { on := 2, ground := Ground.phase }, { on := 3, ground := Ground.phase }, { on := 4, ground := Ground.phase }, { on := 5, ground := Ground.phase }, { on := 6, ground := Ground.phase }, { on := 7, ground := Ground.phase }, { on := 8, ground := Ground.phase }, { on := 9, ground := Ground.phase }], guard := none }) (w' := putW X6 B8 (a && !b) (.slice Ay y.length cy)) rfl (by rfl) (by obtain ⟨f0, f1, f2, f3, f4⟩ := F8; unfold putW; go_simp; first | done | with_reducible rfl | rfl) ?_
            have hX7 : Bel W (putW X6 B8 (a && !b) (.slice Ay y.length cy)) := putW_bel hX6 L8
            refine ⟨hX7, ?_⟩
            (try simp only [Act.put, List.setIfInBounds_toArray, List.set_cons_zero, List.set_cons_succ])
            have K8 := putW_at (A := Ay) (n := y.length) (c := cy) (a && !b) F8
            have K7 := K7.putW (all := a && !b) (v := .slice Ay y.length cy) NE
            have Sx := Sx.putW (all := a && !b) (v := .slice Ay y.length cy) Px8
            have Sy := Sy.putW (all := a && !b) (v := .slice Ay y.length cy) Py8
            generalize putW X6 B8 (a && !b) (.slice Ay y.length cy) = X7 at hX7 K8 K7 Sx Sy ⊢
            refine wpAnyH_done (by kernel_rfl) ?_ _
            refine NoPanic.normal ?_
            go_wp2
            go_meet
            exact ⟨⟨B7, B8, Ax, Ay, cx, cy, rfl, rfl, K7, K8, Sx, Sy, Nx, Ny⟩, hX7⟩
        · refine wpOp_value (o := { dst := some 7, op := Op.alloc 24, type := 0, pos := "law.go:106", after := #[], guard := none }) (v := .pointer (some ⟨X2.heap.size, 0, none⟩)) (w' := X2.alloc (.cells #[.bool false, .slice none 0 0] 24)) rfl (by rfl) (by go_simp; first | done | with_reducible rfl | rfl) ?_
          have hb' : Bel X2 (X2.alloc (.cells #[.bool false, .slice none 0 0] 24)) := (Bel.refl _).alloc _
          refine ⟨hX2.trans hb', ?_⟩
          (try simp only [Act.put, List.setIfInBounds_toArray, List.set_cons_zero, List.set_cons_succ])
          have F7 := FreeW.new X2
          have L7 : W.heap.size ≤ X2.heap.size := hX2.size
          generalize X2.alloc (.cells #[.bool false, .slice none 0 0] 24) = X3 at hb' F7 ⊢
          have hX3 := hX2.trans hb'
          have Px7 := apart_new Sx Ox
          have Sx := Sx.keep hb'
          have Po7 := apart_new So Oo
          have So := So.keep hb'
          clear hb'
          generalize X2.heap.size = B7 at F7 L7 Px7 Po7 ⊢
          refine wpAnyH_all (rs := [6, 8]) (by kernel_rfl) (by simp) ?_
          intro i hi
          simp only [List.mem_cons, List.not_mem_nil, or_false] at hi
          rcases hi with rfl | rfl
          · refine wpOp_enter (o := { dst := some 17, op := Op.call { callee := Callee.value (Operand.func 15), args := #[Operand.tmp 14, Operand.tmp 16], argTypes := #[24, 24] }, type := 24, pos := "law.go:106", after := #[{ on := 3, ground := Ground.data }, { on := 5, ground := Ground.data }, { on := 5, ground := Ground.chain }], guard := none }) (R := MadeV X3 (fun v => .agg #[.bool (a && !b), v]) y) rfl (by rfl) (by go_simp; first | done | with_reducible rfl | rfl) (MY.out X3 Ao co hX3 So No) ?_
            rintro v X4 ⟨Ay, cy, rfl, Sy, Ny, Gy, hb'⟩
            refine ⟨hX3.trans hb', ?_⟩
            (try simp only [Act.put, List.setIfInBounds_toArray, List.set_cons_zero, List.set_cons_succ])
            have hX4 := hX3.trans hb'
            have Oy := own1_of Gy
            have Sx := Sx.keep hb'
            have So := So.keep hb'
            have Py7 := apart_old Gy F7.1
            have F7 := F7.keep hb'
            clear hb' Gy
            refine wpAnyH_all (rs := [8]) (by kernel_rfl) (by simp) ?_
            intro i hi
            simp only [List.mem_cons, List.not_mem_nil, or_false] at hi
            subst hi
            refine wpOp_value (o := { dst := some 8, op := Op.alloc 24, type := 0, pos := "law.go:106", after := #[], guard := none }) (v := .pointer (some ⟨X4.heap.size, 0, none⟩)) (w' := X4.alloc (.cells #[.bool false, .slice none 0 0] 24)) rfl (by rfl) (by go_simp; first | done | with_reducible rfl | rfl) ?_
            have hb' : Bel X4 (X4.alloc (.cells #[.bool false, .slice none 0 0] 24)) := (Bel.refl _).alloc _
            refine ⟨hX4.trans hb', ?_⟩
            (try simp only [Act.put, List.setIfInBounds_toArray, List.set_cons_zero, List.set_cons_succ])
            have F8 := FreeW.new X4
            have L8 : W.heap.size ≤ X4.heap.size := hX4.size
            generalize X4.alloc (.cells #[.bool false, .slice none 0 0] 24) = X5 at hb' F8 ⊢
            have hX5 := hX4.trans hb'
            have Px8 := apart_new Sx Ox
            have Sx := Sx.keep hb'
            have Po8 := apart_new So Oo
            have So := So.keep hb'
            have Py8 := apart_new Sy Oy
            have Sy := Sy.keep hb'
            have NE : B7 ≠ X4.heap.size := Nat.ne_of_lt F7.1
            have F7 := F7.keep hb'
            clear hb'
            generalize X4.heap.size = B8 at F8 L8 Px8 Po8 Py8 NE ⊢
            refine wpAnyH_all (rs := [9]) (by kernel_rfl) (by simp) ?_
            intro i hi
            simp only [List.mem_cons, List.not_mem_nil, or_false] at hi
            subst hi
            refine wpOp_skip (o := { dst := none, op := Op.store 24 (Operand.tmp 7) (Operand.tmp 13), type := 0, pos := "law.go:106", after := #[{ on := 7, ground := Ground.data }, { on := 2, ground := Ground.data }, { on := 6, ground := Ground.chain }, { on := 0, ground := Ground.phase }, { on := 1, ground := Ground.phase }, { on := 2, ground := Ground.phase }, { on := 3, ground := Ground.textOnly Departure.lateStores }, { on := 4, ground := Ground.textOnly Departure.lateStores }, { on := 5, ground := Ground.textOnly Departure.lateStoresUnsure }, { on := 6, ground := Ground.textOnly Departure.lateStoresUnsure }, { on := 7, ground := Ground.phase }, { on := 8, ground := Ground.phase }], guard := none }) (w' := putW X5 B7 (a && b) (.slice Ax x.length cx)) rfl (by rfl) (by obtain ⟨f0, f1, f2, f3, f4⟩ := F7; unfold putW; go_simp; first | done | with_reducible rfl | rfl) ?_
            have hX6 : Bel W (putW X5 B7 (a && b) (.slice Ax x.length cx)) := putW_bel hX5 L7
            refine ⟨hX6, ?_⟩
            (try simp only [Act.put, List.setIfInBounds_toArray, List.set_cons_zero, List.set_cons_succ])
            have K7 := putW_at (A := Ax) (n := x.length) (c := cx) (a && b) F7
            have F8 := F8.putW (all := a && b) (v := .slice Ax x.length cx) NE.symm
            have Sx := Sx.putW (all := a && b) (v := .slice Ax x.length cx) Px7
            have Sy := Sy.putW (all := a && b) (v := .slice Ax x.length cx) Py7
            generalize putW X5 B7 (a && b) (.slice Ax x.length cx) = X6 at hX6 K7 F8 Sx Sy ⊢
            refine wpAnyH_all (rs := [10]) (by kernel_rfl) (by simp) ?_
            intro i hi
            simp only [List.mem_cons, List.not_mem_nil, or_false] at hi
            subst hi
            refine wpOp_skip (o := { dst := none, op := Op.store 24 (Operand.tmp 8) (Operand.tmp 17), type := 0, pos := "law.go:106", after := #[{ on := 8, ground := Ground.data }, { on := 6, ground := Ground.data }, { on := 9, ground := Ground.chain }, { on := 0, ground := Ground.phase }, { on := 1, ground := Ground.phase }, { on := 2, ground := Ground.phase }, { on := 3, ground := Ground.phase }, { on := 4, ground := Ground.phase }, { on := 5, ground := Ground.phase }, { on := 6, ground := Ground.phase }, { on := 7, ground := Ground.phase }, { on := 8, ground := Ground.phase }, { on := 9, ground := Ground.phase }], guard := none }) (w' := putW X6 B8 (a && !b) (.slice Ay y.length cy)) rfl (by rfl) (by obtain ⟨f0, f1, f2, f3, f4⟩ := F8; unfold putW; go_simp; first | done | with_reducible rfl | rfl) ?_
            have hX7 : Bel W (putW X6 B8 (a && !b) (.slice Ay y.length cy)) := putW_bel hX6 L8
            refine ⟨hX7, ?_⟩
            (try simp only [Act.put, List.setIfInBounds_toArray, List.set_cons_zero, List.set_cons_succ])
            have K8 := putW_at (A := Ay) (n := y.length) (c := cy) (a && !b) F8
            have K7 := K7.putW (all := a && !b) (v := .slice Ay y.length cy) NE
            have Sx := Sx.putW (all := a && !b) (v := .slice Ay y.length cy) Px8
            have Sy := Sy.putW (all := a && !b) (v := .slice Ay y.length cy) Py8
            generalize putW X6 B8 (a && !b) (.slice Ay y.length cy) = X7 at hX7 K8 K7 Sx Sy ⊢
            refine wpAnyH_done (by kernel_rfl) ?_ _
            refine NoPanic.normal ?_
            go_wp2
            go_meet
            exact ⟨⟨B7, B8, Ax, Ay, cx, cy, rfl, rfl, K7, K8, Sx, Sy, Nx, Ny⟩, hX7⟩
          · refine wpOp_value (o := { dst := some 8, op := Op.alloc 24, type := 0, pos := "law.go:106", after := #[], guard := none }) (v := .pointer (some ⟨X3.heap.size, 0, none⟩)) (w' := X3.alloc (.cells #[.bool false, .slice none 0 0] 24)) rfl (by rfl) (by go_simp; first | done | with_reducible rfl | rfl) ?_
            have hb' : Bel X3 (X3.alloc (.cells #[.bool false, .slice none 0 0] 24)) := (Bel.refl _).alloc _
            refine ⟨hX3.trans hb', ?_⟩
            (try simp only [Act.put, List.setIfInBounds_toArray, List.set_cons_zero, List.set_cons_succ])
            have F8 := FreeW.new X3
            have L8 : W.heap.size ≤ X3.heap.size := hX3.size
            generalize X3.alloc (.cells #[.bool false, .slice none 0 0] 24) = X4 at hb' F8 ⊢
            have hX4 := hX3.trans hb'
            have Px8 := apart_new Sx Ox
            have Sx := Sx.keep hb'
            have Po8 := apart_new So Oo
            have So := So.keep hb'
            have NE : B7 ≠ X3.heap.size := Nat.ne_of_lt F7.1
            have F7 := F7.keep hb'
            clear hb'
            generalize X3.heap.size = B8 at F8 L8 Px8 Po8 NE ⊢
            refine wpAnyH_all (rs := [6]) (by kernel_rfl) (by simp) ?_
            intro i hi
            simp only [List.mem_cons, List.not_mem_nil, or_false] at hi
            subst hi
            refine wpOp_enter (o := { dst := some 17, op := Op.call { callee := Callee.value (Operand.func 15), args := #[Operand.tmp 14, Operand.tmp 16], argTypes := #[24, 24] }, type := 24, pos := "law.go:106", after := #[{ on := 3, ground := Ground.data }, { on := 5, ground := Ground.data }, { on := 5, ground := Ground.chain }], guard := none }) (R := MadeV X4 (fun v => .agg #[.bool (a && !b), v]) y) rfl (by rfl) (by go_simp; first | done | with_reducible rfl | rfl) (MY.out X4 Ao co hX4 So No) ?_
            rintro v X5 ⟨Ay, cy, rfl, Sy, Ny, Gy, hb'⟩
            refine ⟨hX4.trans hb', ?_⟩
            (try simp only [Act.put, List.setIfInBounds_toArray, List.set_cons_zero, List.set_cons_succ])
            have hX5 := hX4.trans hb'
            have Oy := own1_of Gy
            have Sx := Sx.keep hb'
            have So := So.keep hb'
            have Py7 := apart_old Gy F7.1
            have F7 := F7.keep hb'
            have Py8 := apart_old Gy F8.1
            have F8 := F8.keep hb'
            clear hb' Gy
            refine wpAnyH_all (rs := [9]) (by kernel_rfl) (by simp) ?_
            intro i hi
            simp only [List.mem_cons, List.not_mem_nil, or_false] at hi
            subst hi
            refine wpOp_skip (o := { dst := none, op := Op.store 24 (Operand.tmp 7) (Operand.tmp 13), type := 0, pos := "law.go:106", after := #[{ on := 7, ground := Ground.data }, { on := 2, ground := Ground.data }, { on := 6, ground := Ground.chain }, { on := 0, ground := Ground.phase }, { on := 1, ground := Ground.phase }, { on := 2, ground := Ground.phase }, { on := 3, ground := Ground.textOnly Departure.lateStores }, { on := 4, ground := Ground.textOnly Departure.lateStores }, { on := 5, ground := Ground.textOnly Departure.lateStoresUnsure }, { on := 6, ground := Ground.textOnly Departure.lateStoresUnsure }, { on := 7, ground := Ground.phase }, { on := 8, ground := Ground.phase }], guard := none }) (w' := putW X5 B7 (a && b) (.slice Ax x.length cx)) rfl (by rfl) (by obtain ⟨f0, f1, f2, f3, f4⟩ := F7; unfold putW; go_simp; first | done | with_reducible rfl | rfl) ?_
            have hX6 : Bel W (putW X5 B7 (a && b) (.slice Ax x.length cx)) := putW_bel hX5 L7
            refine ⟨hX6, ?_⟩
            (try simp only [Act.put, List.setIfInBounds_toArray, List.set_cons_zero, List.set_cons_succ])
            have K7 := putW_at (A := Ax) (n := x.length) (c := cx) (a && b) F7
            have F8 := F8.putW (all := a && b) (v := .slice Ax x.length cx) NE.symm
            have Sx := Sx.putW (all := a && b) (v := .slice Ax x.length cx) Px7
            have Sy := Sy.putW (all := a && b) (v := .slice Ax x.length cx) Py7
            generalize putW X5 B7 (a && b) (.slice Ax x.length cx) = X6 at hX6 K7 F8 Sx Sy ⊢
            refine wpAnyH_all (rs := [10]) (by kernel_rfl) (by simp) ?_
            intro i hi
            simp only [List.mem_cons, List.not_mem_nil, or_false] at hi
            subst hi
            refine wpOp_skip (o := { dst := none, op := Op.store 24 (Operand.tmp 8) (Operand.tmp 17), type := 0, pos := "law.go:106", after := #[{ on := 8, ground := Ground.data }, { on := 6, ground := Ground.data }, { on := 9, ground := Ground.chain }, { on := 0, ground := Ground.phase }, { on := 1, ground := Ground.phase }, { on := 2, ground := Ground.phase }, { on := 3, ground := Ground.phase }, { on := 4, ground := Ground.phase }, { on := 5, ground := Ground.phase }, { on := 6, ground := Ground.phase }, { on := 7, ground := Ground.phase }, { on := 8, ground := Ground.phase }, { on := 9, ground := Ground.phase }], guard := none }) (w' := putW X6 B8 (a && !b) (.slice Ay y.length cy)) rfl (by rfl) (by obtain ⟨f0, f1, f2, f3, f4⟩ := F8; unfold putW; go_simp; first | done | with_reducible rfl | rfl) ?_
            have hX7 : Bel W (putW X6 B8 (a && !b) (.slice Ay y.length cy)) := putW_bel hX6 L8
            refine ⟨hX7, ?_⟩
            (try simp only [Act.put, List.setIfInBounds_toArray, List.set_cons_zero, List.set_cons_succ])
            have K8 := putW_at (A := Ay) (n := y.length) (c := cy) (a && !b) F8
            have K7 := K7.putW (all := a && !b) (v := .slice Ay y.length cy) NE
            have Sx := Sx.putW (all := a && !b) (v := .slice Ay y.length cy) Px8
            have Sy := Sy.putW (all := a && !b) (v := .slice Ay y.length cy) Py8
            generalize putW X6 B8 (a && !b) (.slice Ay y.length cy) = X7 at hX7 K8 K7 Sx Sy ⊢
            refine wpAnyH_done (by kernel_rfl) ?_ _
            refine NoPanic.normal ?_
            go_wp2
            go_meet
            exact ⟨⟨B7, B8, Ax, Ay, cx, cy, rfl, rfl, K7, K8, Sx, Sy, Nx, Ny⟩, hX7⟩
        · refine wpOp_value (o := { dst := some 8, op := Op.alloc 24, type := 0, pos := "law.go:106", after := #[], guard := none }) (v := .pointer (some ⟨X2.heap.size, 0, none⟩)) (w' := X2.alloc (.cells #[.bool false, .slice none 0 0] 24)) rfl (by rfl) (by go_simp; first | done | with_reducible rfl | rfl) ?_
          have hb' : Bel X2 (X2.alloc (.cells #[.bool false, .slice none 0 0] 24)) := (Bel.refl _).alloc _
          refine ⟨hX2.trans hb', ?_⟩
          (try simp only [Act.put, List.setIfInBounds_toArray, List.set_cons_zero, List.set_cons_succ])
          have F8 := FreeW.new X2
          have L8 : W.heap.size ≤ X2.heap.size := hX2.size
          generalize X2.alloc (.cells #[.bool false, .slice none 0 0] 24) = X3 at hb' F8 ⊢
          have hX3 := hX2.trans hb'
          have Px8 := apart_new Sx Ox
          have Sx := Sx.keep hb'
          have Po8 := apart_new So Oo
          have So := So.keep hb'
          clear hb'
          generalize X2.heap.size = B8 at F8 L8 Px8 Po8 ⊢
          refine wpAnyH_all (rs := [6, 7]) (by kernel_rfl) (by simp) ?_
          intro i hi
          simp only [List.mem_cons, List.not_mem_nil, or_false] at hi
          rcases hi with rfl | rfl
          · refine wpOp_enter (o := { dst := some 17, op := Op.call { callee := Callee.value (Operand.func 15), args := #[Operand.tmp 14, Operand.tmp 16], argTypes := #[24, 24] }, type := 24, pos := "law.go:106", after := #[{ on := 3, ground := Ground.data }, { on := 5, ground := Ground.data }, { on := 5, ground := Ground.chain }], guard := none }) (R := MadeV X3 (fun v => .agg #[.bool (a && !b), v]) y) rfl (by rfl) (by go_simp; first | done | with_reducible rfl | rfl) (MY.out X3 Ao co hX3 So No) ?_
            rintro v X4 ⟨Ay, cy, rfl, Sy, Ny, Gy, hb'⟩
            refine ⟨hX3.trans hb', ?_⟩
            (try simp only [Act.put, List.setIfInBounds_toArray, List.set_cons_zero, List.set_cons_succ])
            have hX4 := hX3.trans hb'
            have Oy := own1_of Gy
            have Sx := Sx.keep hb'
            have So := So.keep hb'
            have Py8 := apart_old Gy F8.1
            have F8 := F8.keep hb'
            clear hb' Gy
            refine wpAnyH_all (rs := [7]) (by kernel_rfl) (by simp) ?_
            intro i hi
            simp only [List.mem_cons, List.not_mem_nil, or_false] at hi
            subst hi
            refine wpOp_value (o := { dst := some 7, op := Op.alloc 24, type := 0, pos := "law.go:106", after := #[], guard := none }) (v := .pointer (some ⟨X4.heap.size, 0, none⟩)) (w' := X4.alloc (.cells #[.bool false, .slice none 0 0] 24)) rfl (by rfl) (by go_simp; first | done | with_reducible rfl | rfl) ?_
            have hb' : Bel X4 (X4.alloc (.cells #[.bool false, .slice none 0 0] 24)) := (Bel.refl _).alloc _
            refine ⟨hX4.trans hb', ?_⟩
            (try simp only [Act.put, List.setIfInBounds_toArray, List.set_cons_zero, List.set_cons_succ])
            have F7 := FreeW.new X4
            have L7 : W.heap.size ≤ X4.heap.size := hX4.size
            generalize X4.alloc (.cells #[.bool false, .slice none 0 0] 24) = X5 at hb' F7 ⊢
            have hX5 := hX4.trans hb'
            have Px7 := apart_new Sx Ox
            have Sx := Sx.keep hb'
            have Po7 := apart_new So Oo
            have So := So.keep hb'
            have Py7 := apart_new Sy Oy
            have Sy := Sy.keep hb'
            have NE : B8 ≠ X4.heap.size := Nat.ne_of_lt F8.1
            have F8 := F8.keep hb'
            clear hb'
            generalize X4.heap.size = B7 at F7 L7 Px7 Po7 Py7 NE ⊢
            have NE := NE.symm
            refine wpAnyH_all (rs := [9]) (by kernel_rfl) (by simp) ?_
            intro i hi
            simp only [List.mem_cons, List.not_mem_nil, or_false] at hi
            subst hi
            refine wpOp_skip (o := { dst := none, op := Op.store 24 (Operand.tmp 7) (Operand.tmp 13), type := 0, pos := "law.go:106", after := #[{ on := 7, ground := Ground.data }, { on := 2, ground := Ground.data }, { on := 6, ground := Ground.chain }, { on := 0, ground := Ground.phase }, { on := 1, ground := Ground.phase }, { on := 2, ground := Ground.phase }, { on := 3, ground := Ground.textOnly Departure.lateStores }, { on := 4, ground := Ground.textOnly Departure.lateStores }, { on := 5, ground := Ground.textOnly Departure.lateStoresUnsure }, { on := 6, ground := Ground.textOnly Departure.lateStoresUnsure }, { on := 7, ground := Ground.phase }, { on := 8, ground := Ground.phase }], guard := none }) (w' := putW X5 B7 (a && b) (.slice Ax x.length cx)) rfl (by rfl) (by obtain ⟨f0, f1, f2, f3, f4⟩ := F7; unfold putW; go_simp; first | done | with_reducible rfl | rfl) ?_
            have hX6 : Bel W (putW X5 B7 (a && b) (.slice Ax x.length cx)) := putW_bel hX5 L7
            refine ⟨hX6, ?_⟩
            (try simp only [Act.put, List.setIfInBounds_toArray, List.set_cons_zero, List.set_cons_succ])
            have K7 := putW_at (A := Ax) (n := x.length) (c := cx) (a && b) F7
            have F8 := F8.putW (all := a && b) (v := .slice Ax x.length cx) NE.symm
            have Sx := Sx.putW (all := a && b) (v := .slice Ax x.length cx) Px7
            have Sy := Sy.putW (all := a && b) (v := .slice Ax x.length cx) Py7
            generalize putW X5 B7 (a && b) (.slice Ax x.length cx) = X6 at hX6 K7 F8 Sx Sy ⊢
            refine wpAnyH_all (rs := [10]) (by kernel_rfl) (by simp) ?_
            intro i hi
            simp only [List.mem_cons, List.not_mem_nil, or_false] at hi
            subst hi
            refine wpOp_skip (o := { dst := none, op := Op.store 24 (Operand.tmp 8) (Operand.tmp 17), type := 0, pos := "law.go:106", after := #[{ on := 8, ground := Ground.data }, { on := 6, ground := Ground.data }, { on := 9, ground := Ground.chain }, { on := 0, ground := Ground.phase }, { on := 1, ground := Ground.phase }, { on := 2, ground := Ground.phase }, { on := 3, ground := Ground.phase }, { on := 4, ground := Ground.phase }, { on := 5, ground := Ground.phase }, { on := 6, ground := Ground.phase }, { on := 7, ground := Ground.phase }, { on := 8, ground := Ground.phase }, { on := 9, ground := Ground.phase }], guard := none }) (w' := putW X6 B8 (a && !b) (.slice Ay y.length cy)) rfl (by rfl) (by obtain ⟨f0, f1, f2, f3, f4⟩ := F8; unfold putW; go_simp; first | done | with_reducible rfl | rfl) ?_
            have hX7 : Bel W (putW X6 B8 (a && !b) (.slice Ay y.length cy)) := putW_bel hX6 L8
            refine ⟨hX7, ?_⟩
            (try simp only [Act.put, List.setIfInBounds_toArray, List.set_cons_zero, List.set_cons_succ])
            have K8 := putW_at (A := Ay) (n := y.length) (c := cy) (a && !b) F8
            have K7 := K7.putW (all := a && !b) (v := .slice Ay y.length cy) NE
            have Sx := Sx.putW (all := a && !b) (v := .slice Ay y.length cy) Px8
            have Sy := Sy.putW (all := a && !b) (v := .slice Ay y.length cy) Py8
            generalize putW X6 B8 (a && !b) (.slice Ay y.length cy) = X7 at hX7 K8 K7 Sx Sy ⊢
            refine wpAnyH_done (by kernel_rfl) ?_ _
            refine NoPanic.normal ?_
            go_wp2
            go_meet
            exact ⟨⟨B7, B8, Ax, Ay, cx, cy, rfl, rfl, K7, K8, Sx, Sy, Nx, Ny⟩, hX7⟩
          · refine wpOp_value (o := { dst := some 7, op := Op.alloc 24, type := 0, pos := "law.go:106", after := #[], guard := none }) (v := .pointer (some ⟨X3.heap.size, 0, none⟩)) (w' := X3.alloc (.cells #[.bool false, .slice none 0 0] 24)) rfl (by rfl) (by go_simp; first | done | with_reducible rfl | rfl) ?_
            have hb' : Bel X3 (X3.alloc (.cells #[.bool false, .slice none 0 0] 24)) := (Bel.refl _).alloc _
            refine ⟨hX3.trans hb', ?_⟩
            (try simp only [Act.put, List.setIfInBounds_toArray, List.set_cons_zero, List.set_cons_succ])
            have F7 := FreeW.new X3
            have L7 : W.heap.size ≤ X3.heap.size := hX3.size
            generalize X3.alloc (.cells #[.bool false, .slice none 0 0] 24) = X4 at hb' F7 ⊢
            have hX4 := hX3.trans hb'
            have Px7 := apart_new Sx Ox
            have Sx := Sx.keep hb'
            have Po7 := apart_new So Oo
            have So := So.keep hb'
            have NE : B8 ≠ X3.heap.size := Nat.ne_of_lt F8.1
            have F8 := F8.keep hb'
            clear hb'
            generalize X3.heap.size = B7 at F7 L7 Px7 Po7 NE ⊢
            have NE := NE.symm
            refine wpAnyH_all (rs := [6]) (by kernel_rfl) (by simp) ?_
            intro i hi
            simp only [List.mem_cons, List.not_mem_nil, or_false] at hi
            subst hi
            refine wpOp_enter (o := { dst := some 17, op := Op.call { callee := Callee.value (Operand.func 15), args := #[Operand.tmp 14, Operand.tmp 16], argTypes := #[24, 24] }, type := 24, pos := "law.go:106", after := #[{ on := 3, ground := Ground.data }, { on := 5, ground := Ground.data }, { on := 5, ground := Ground.chain }], guard := none }) (R := MadeV X4 (fun v => .agg #[.bool (a && !b), v]) y) rfl (by rfl) (by go_simp; first | done | with_reducible rfl | rfl) (MY.out X4 Ao co hX4 So No) ?_
            rintro v X5 ⟨Ay, cy, rfl, Sy, Ny, Gy, hb'⟩
            refine ⟨hX4.trans hb', ?_⟩
            (try simp only [Act.put, List.setIfInBounds_toArray, List.set_cons_zero, List.set_cons_succ])
            have hX5 := hX4.trans hb'
            have Oy := own1_of Gy
            have Sx := Sx.keep hb'
            have So := So.keep hb'
            have Py7 := apart_old Gy F7.1
            have F7 := F7.keep hb'
            have Py8 := apart_old Gy F8.1
            have F8 := F8.keep hb'
            clear hb' Gy
            refine wpAnyH_all (rs := [9]) (by kernel_rfl) (by simp) ?_
            intro i hi
            simp only [List.mem_cons, List.not_mem_nil, or_false] at hi
            subst hi
            refine wpOp_skip (o := { dst := none, op := Op.store 24 (Operand.tmp 7) (Operand.tmp 13), type := 0, pos := "law.go:106", after := #[{ on := 7, ground := Ground.data }, { on := 2, ground := Ground.data }, { on := 6, ground := Ground.chain }, { on := 0, ground := Ground.phase }, { on := 1, ground := Ground.phase }, { on := 2, ground := Ground.phase }, { on := 3, ground := Ground.textOnly Departure.lateStores }, { on := 4, ground := Ground.textOnly Departure.lateStores }, { on := 5, ground := Ground.textOnly Departure.lateStoresUnsure }, { on := 6, ground := Ground.textOnly Departure.lateStoresUnsure }, { on := 7, ground := Ground.phase }, { on := 8, ground := Ground.phase }], guard := none }) (w' := putW X5 B7 (a && b) (.slice Ax x.length cx)) rfl (by rfl) (by obtain ⟨f0, f1, f2, f3, f4⟩ := F7; unfold putW; go_simp; first | done | with_reducible rfl | rfl) ?_
            have hX6 : Bel W (putW X5 B7 (a && b) (.slice Ax x.length cx)) := putW_bel hX5 L7
            refine ⟨hX6, ?_⟩
            (try simp only [Act.put, List.setIfInBounds_toArray, List.set_cons_zero, List.set_cons_succ])
            have K7 := putW_at (A := Ax) (n := x.length) (c := cx) (a && b) F7
            have F8 := F8.putW (all := a && b) (v := .slice Ax x.length cx) NE.symm
            have Sx := Sx.putW (all := a && b) (v := .slice Ax x.length cx) Px7
            have Sy := Sy.putW (all := a && b) (v := .slice Ax x.length cx) Py7
            generalize putW X5 B7 (a && b) (.slice Ax x.length cx) = X6 at hX6 K7 F8 Sx Sy ⊢
            refine wpAnyH_all (rs := [10]) (by kernel_rfl) (by simp) ?_
            intro i hi
            simp only [List.mem_cons, List.not_mem_nil, or_false] at hi
            subst hi
            refine wpOp_skip (o := { dst := none, op := Op.store 24 (Operand.tmp 8) (Operand.tmp 17), type := 0, pos := "law.go:106", after := #[{ on := 8, ground := Ground.data }, { on := 6, ground := Ground.data }, { on := 9, ground := Ground.chain }, { on := 0, ground := Ground.phase }, { on := 1, ground := Ground.phase }, { on := 2, ground := Ground.phase }, { on := 3, ground := Ground.phase }, { on := 4, ground := Ground.phase }, { on := 5, ground := Ground.phase }, { on := 6, ground := Ground.phase }, { on := 7, ground := Ground.phase }, { on := 8, ground := Ground.phase }, { on := 9, ground := Ground.phase }], guard := none }) (w' := putW X6 B8 (a && !b) (.slice Ay y.length cy)) rfl (by rfl) (by obtain ⟨f0, f1, f2, f3, f4⟩ := F8; unfold putW; go_simp; first | done | with_reducible rfl | rfl) ?_
            have hX7 : Bel W (putW X6 B8 (a && !b) (.slice Ay y.length cy)) := putW_bel hX6 L8
            refine ⟨hX7, ?_⟩
            (try simp only [Act.put, List.setIfInBounds_toArray, List.set_cons_zero, List.set_cons_succ])
            have K8 := putW_at (A := Ay) (n := y.length) (c := cy) (a && !b) F8
            have K7 := K7.putW (all := a && !b) (v := .slice Ay y.length cy) NE
            have Sx := Sx.putW (all := a && !b) (v := .slice Ay y.length cy) Px8
            have Sy := Sy.putW (all := a && !b) (v := .slice Ay y.length cy) Py8
            generalize putW X6 B8 (a && !b) (.slice Ay y.length cy) = X7 at hX7 K8 K7 Sx Sy ⊢
            refine wpAnyH_done (by kernel_rfl) ?_ _
            refine NoPanic.normal ?_
            go_wp2
            go_meet
            exact ⟨⟨B7, B8, Ax, Ay, cx, cy, rfl, rfl, K7, K8, Sx, Sy, Nx, Ny⟩, hX7⟩
      · refine wpOp_value (o := { dst := some 7, op := Op.alloc 24, type := 0, pos := "law.go:106", after := #[], guard := none }) (v := .pointer (some ⟨X1.heap.size, 0, none⟩)) (w' := X1.alloc (.cells #[.bool false, .slice none 0 0] 24)) rfl (by rfl) (by go_simp; first | done | with_reducible rfl | rfl) ?_
        have hb' : Bel X1 (X1.alloc (.cells #[.bool false, .slice none 0 0] 24)) := (Bel.refl _).alloc _
        refine ⟨hX1.trans hb', ?_⟩
        (try simp only [Act.put, List.setIfInBounds_toArray, List.set_cons_zero, List.set_cons_succ])
        have F7 := FreeW.new X1
        have L7 : W.heap.size ≤ X1.heap.size := hX1.size
        generalize X1.alloc (.cells #[.bool false, .slice none 0 0] 24) = X2 at hb' F7 ⊢
        have hX2 := hX1.trans hb'
        have Px7 := apart_new Sx Ox
        have Sx := Sx.keep hb'
        clear hb'
        generalize X1.heap.size = B7 at F7 L7 Px7 ⊢
        refine wpAnyH_all (rs := [5, 8]) (by kernel_rfl) (by simp) ?_
        intro i hi
        simp only [List.mem_cons, List.not_mem_nil, or_false] at hi
        rcases hi with rfl | rfl
        · refine wpOp_enter (o := { dst := some 16, op := Op.call { callee := Callee.value (Operand.func 16), args := #[Operand.tmp 15], argTypes := #[24] }, type := 24, pos := "law.go:106", after := #[{ on := 4, ground := Ground.data }, { on := 2, ground := Ground.chain }], guard := none }) (R := MadeV X2 (fun v => .agg #[.bool !b, v]) o) rfl (by rfl) (by go_simp; first | done | with_reducible rfl | rfl) (OT.out X2 hX2) ?_
          rintro v X3 ⟨Ao, co, rfl, So, No, Go, hb'⟩
          refine ⟨hX2.trans hb', ?_⟩
          (try simp only [Act.put, List.setIfInBounds_toArray, List.set_cons_zero, List.set_cons_succ])
          have hX3 := hX2.trans hb'
          have Oo := own1_of Go
          have Sx := Sx.keep hb'
          have Po7 := apart_old Go F7.1
          have F7 := F7.keep hb'
          clear hb' Go
          refine wpAnyH_all (rs := [6, 8]) (by kernel_rfl) (by simp) ?_
          intro i hi
          simp only [List.mem_cons, List.not_mem_nil, or_false] at hi
          rcases hi with rfl | rfl
          · refine wpOp_enter (o := { dst := some 17, op := Op.call { callee := Callee.value (Operand.func 15), args := #[Operand.tmp 14, Operand.tmp 16], argTypes := #[24, 24] }, type := 24, pos := "law.go:106", after := #[{ on := 3, ground := Ground.data }, { on := 5, ground := Ground.data }, { on := 5, ground := Ground.chain }], guard := none }) (R := MadeV X3 (fun v => .agg #[.bool (a && !b), v]) y) rfl (by rfl) (by go_simp; first | done | with_reducible rfl | rfl) (MY.out X3 Ao co hX3 So No) ?_
            rintro v X4 ⟨Ay, cy, rfl, Sy, Ny, Gy, hb'⟩
            refine ⟨hX3.trans hb', ?_⟩
            (try simp only [Act.put, List.setIfInBounds_toArray, List.set_cons_zero, List.set_cons_succ])
            have hX4 := hX3.trans hb'
            have Oy := own1_of Gy
            have Sx := Sx.keep hb'
            have So := So.keep hb'
            have Py7 := apart_old Gy F7.1
            have F7 := F7.keep hb'
            clear hb' Gy
            refine wpAnyH_all (rs := [8]) (by kernel_rfl) (by simp) ?_
            intro i hi
            simp only [List.mem_cons, List.not_mem_nil, or_false] at hi
            subst hi
            refine wpOp_value (o := { dst := some 8, op := Op.alloc 24, type := 0, pos := "law.go:106", after := #[], guard := none }) (v := .pointer (some ⟨X4.heap.size, 0, none⟩)) (w' := X4.alloc (.cells #[.bool false, .slice none 0 0] 24)) rfl (by rfl) (by go_simp; first | done | with_reducible rfl | rfl) ?_
            have hb' : Bel X4 (X4.alloc (.cells #[.bool false, .slice none 0 0] 24)) := (Bel.refl _).alloc _
            refine ⟨hX4.trans hb', ?_⟩
            (try simp only [Act.put, List.setIfInBounds_toArray, List.set_cons_zero, List.set_cons_succ])
            have F8 := FreeW.new X4
            have L8 : W.heap.size ≤ X4.heap.size := hX4.size
            generalize X4.alloc (.cells #[.bool false, .slice none 0 0] 24) = X5 at hb' F8 ⊢
            have hX5 := hX4.trans hb'
            have Px8 := apart_new Sx Ox
            have Sx := Sx.keep hb'
            have Po8 := apart_new So Oo
            have So := So.keep hb'
            have Py8 := apart_new Sy Oy
            have Sy := Sy.keep hb'
            have NE : B7 ≠ X4.heap.size := Nat.ne_of_lt F7.1
            have F7 := F7.keep hb'
            clear hb'
            generalize X4.heap.size = B8 at F8 L8 Px8 Po8 Py8 NE ⊢
            refine wpAnyH_all (rs := [9]) (by kernel_rfl) (by simp) ?_
            intro i hi
            simp only [List.mem_cons, List.not_mem_nil, or_false] at hi
            subst hi
            refine wpOp_skip (o := { dst := none, op := Op.store 24 (Operand.tmp 7) (Operand.tmp 13), type := 0, pos := "law.go:106", after := #[{ on := 7, ground := Ground.data }, { on := 2, ground := Ground.data }, { on := 6, ground := Ground.chain }, { on := 0, ground := Ground.phase }, { on := 1, ground := Ground.phase }, { on := 2, ground := Ground.phase }, { on := 3, ground := Ground.textOnly Departure.lateStores }, { on := 4, ground := Ground.textOnly Departure.lateStores }, { on := 5, ground := Ground.textOnly Departure.lateStoresUnsure }, { on := 6, ground := Ground.textOnly Departure.lateStoresUnsure }, { on := 7, ground := Ground.phase }, { on := 8, ground := Ground.phase }], guard := none }) (w' := putW X5 B7 (a && b) (.slice Ax x.length cx)) rfl (by rfl) (by obtain ⟨f0, f1, f2, f3, f4⟩ := F7; unfold putW; go_simp; first | done | with_reducible rfl | rfl) ?_
            have hX6 : Bel W (putW X5 B7 (a && b) (.slice Ax x.length cx)) := putW_bel hX5 L7
            refine ⟨hX6, ?_⟩
            (try simp only [Act.put, List.setIfInBounds_toArray, List.set_cons_zero, List.set_cons_succ])
            have K7 := putW_at (A := Ax) (n := x.length) (c := cx) (a && b) F7
            have F8 := F8.putW (all := a && b) (v := .slice Ax x.length cx) NE.symm
            have Sx := Sx.putW (all := a && b) (v := .slice Ax x.length cx) Px7
            have Sy := Sy.putW (all := a && b) (v := .slice Ax x.length cx) Py7
            generalize putW X5 B7 (a && b) (.slice Ax x.length cx) = X6 at hX6 K7 F8 Sx Sy ⊢
            refine wpAnyH_all (rs := [10]) (by kernel_rfl) (by simp) ?_
            intro i hi
            simp only [List.mem_cons, List.not_mem_nil, or_false] at hi
            subst hi
            refine wpOp_skip (o := { dst := none, op := Op.store 24 (Operand.tmp 8) (Operand.tmp 17), type := 0, pos := "law.go:106", after := #[{ on := 8, ground := Ground.data }, { on := 6, ground := Ground.data }, { on := 9, ground := Ground.chain }, { on := 0, ground := Ground.phase }, { on := 1, ground := Ground.phase }, { on := 2, ground := Ground.phase }, { on := 3, ground := Ground.phase }, { on := 4, ground := Ground.phase }, { on := 5, ground := Ground.phase }, { on := 6, ground := Ground.phase }, { on := 7, ground := Ground.phase }, { on := 8, ground := Ground.phase }, { on := 9, ground := Ground.phase }], guard := none }) (w' := putW X6 B8 (a && !b) (.slice Ay y.length cy)) rfl (by rfl) (by obtain ⟨f0, f1, f2, f3, f4⟩ := F8; unfold putW; go_simp; first | done | with_reducible rfl | rfl) ?_
            have hX7 : Bel W (putW X6 B8 (a && !b) (.slice Ay y.length cy)) := putW_bel hX6 L8
            refine ⟨hX7, ?_⟩
            (try simp only [Act.put, List.setIfInBounds_toArray, List.set_cons_zero, List.set_cons_succ])
            have K8 := putW_at (A := Ay) (n := y.length) (c := cy) (a && !b) F8
            have K7 := K7.putW (all := a && !b) (v := .slice Ay y.length cy) NE
            have Sx := Sx.putW (all := a && !b) (v := .slice Ay y.length cy) Px8
            have Sy := Sy.putW (all := a && !b) (v := .slice Ay y.length cy) Py8
            generalize putW X6 B8 (a && !b) (.slice Ay y.length cy) = X7 at hX7 K8 K7 Sx Sy ⊢
            refine wpAnyH_done (by kernel_rfl) ?_ _
            refine NoPanic.normal ?_
            go_wp2
            go_meet
            exact ⟨⟨B7, B8, Ax, Ay, cx, cy, rfl, rfl, K7, K8, Sx, Sy, Nx, Ny⟩, hX7⟩
          · refine wpOp_value (o := { dst := some 8, op := Op.alloc 24, type := 0, pos := "law.go:106", after := #[], guard := none }) (v := .pointer (some ⟨X3.heap.size, 0, none⟩)) (w' := X3.alloc (.cells #[.bool false, .slice none 0 0] 24)) rfl (by rfl) (by go_simp; first | done | with_reducible rfl | rfl) ?_
            have hb' : Bel X3 (X3.alloc (.cells #[.bool false, .slice none 0 0] 24)) := (Bel.refl _).alloc _
            refine ⟨hX3.trans hb', ?_⟩
            (try simp only [Act.put, List.setIfInBounds_toArray, List.set_cons_zero, List.set_cons_succ])
            have F8 := FreeW.new X3
            have L8 : W.heap.size ≤ X3.heap.size := hX3.size
            generalize X3.alloc (.cells #[.bool false, .slice none 0 0] 24) = X4 at hb' F8 ⊢
            have hX4 := hX3.trans hb'
            have Px8 := apart_new Sx Ox
            have Sx := Sx.keep hb'
            have Po8 := apart_new So Oo
            have So := So.keep hb'
            have NE : B7 ≠ X3.heap.size := Nat.ne_of_lt F7.1
            have F7 := F7.keep hb'
            clear hb'
            generalize X3.heap.size = B8 at F8 L8 Px8 Po8 NE ⊢
            refine wpAnyH_all (rs := [6]) (by kernel_rfl) (by simp) ?_
            intro i hi
            simp only [List.mem_cons, List.not_mem_nil, or_false] at hi
            subst hi
            refine wpOp_enter (o := { dst := some 17, op := Op.call { callee := Callee.value (Operand.func 15), args := #[Operand.tmp 14, Operand.tmp 16], argTypes := #[24, 24] }, type := 24, pos := "law.go:106", after := #[{ on := 3, ground := Ground.data }, { on := 5, ground := Ground.data }, { on := 5, ground := Ground.chain }], guard := none }) (R := MadeV X4 (fun v => .agg #[.bool (a && !b), v]) y) rfl (by rfl) (by go_simp; first | done | with_reducible rfl | rfl) (MY.out X4 Ao co hX4 So No) ?_
            rintro v X5 ⟨Ay, cy, rfl, Sy, Ny, Gy, hb'⟩
            refine ⟨hX4.trans hb', ?_⟩
            (try simp only [Act.put, List.setIfInBounds_toArray, List.set_cons_zero, List.set_cons_succ])
            have hX5 := hX4.trans hb'
            have Oy := own1_of Gy
            have Sx := Sx.keep hb'
            have So := So.keep hb'
            have Py7 := apart_old Gy F7.1
            have F7 := F7.keep hb'
            have Py8 := apart_old Gy F8.1
            have F8 := F8.keep hb'
            clear hb' Gy
            refine wpAnyH_all (rs := [9]) (by kernel_rfl) (by simp) ?_
            intro i hi
            simp only [List.mem_cons, List.not_mem_nil, or_false] at hi
            subst hi
            refine wpOp_skip (o := { dst := none, op := Op.store 24 (Operand.tmp 7) (Operand.tmp 13), type := 0, pos := "law.go:106", after := #[{ on := 7, ground := Ground.data }, { on := 2, ground := Ground.data }, { on := 6, ground := Ground.chain }, { on := 0, ground := Ground.phase }, { on := 1, ground := Ground.phase }, { on := 2, ground := Ground.phase }, { on := 3, ground := Ground.textOnly Departure.lateStores }, { on := 4, ground := Ground.textOnly Departure.lateStores }, { on := 5, ground := Ground.textOnly Departure.lateStoresUnsure }, { on := 6, ground := Ground.textOnly Departure.lateStoresUnsure }, { on := 7, ground := Ground.phase }, { on := 8, ground := Ground.phase }], guard := none }) (w' := putW X5 B7 (a && b) (.slice Ax x.length cx)) rfl (by rfl) (by obtain ⟨f0, f1, f2, f3, f4⟩ := F7; unfold putW; go_simp; first | done | with_reducible rfl | rfl) ?_
            have hX6 : Bel W (putW X5 B7 (a && b) (.slice Ax x.length cx)) := putW_bel hX5 L7
            refine ⟨hX6, ?_⟩
            (try simp only [Act.put, List.setIfInBounds_toArray, List.set_cons_zero, List.set_cons_succ])
            have K7 := putW_at (A := Ax) (n := x.length) (c := cx) (a && b) F7
            have F8 := F8.putW (all := a && b) (v := .slice Ax x.length cx) NE.symm
            have Sx := Sx.putW (all := a && b) (v := .slice Ax x.length cx) Px7
            have Sy := Sy.putW (all := a && b) (v := .slice Ax x.length cx) Py7
            generalize putW X5 B7 (a && b) (.slice Ax x.length cx) = X6 at hX6 K7 F8 Sx Sy ⊢
            refine wpAnyH_all (rs := [10]) (by kernel_rfl) (by simp) ?_
            intro i hi
            simp only [List.mem_cons, List.not_mem_nil, or_false] at hi
            subst hi
            refine wpOp_skip (o := { dst := none, op := Op.store 24 (Operand.tmp 8) (Operand.tmp 17), type := 0, pos := "law.go:106", after := #[{ on := 8, ground := Ground.data }, { on := 6, ground := Ground.data }, { on := 9, ground := Ground.chain }, { on := 0, ground := Ground.phase }, { on := 1, ground := Ground.phase }, { on := 2, ground := Ground.phase }, { on := 3, ground := Ground.phase }, { on := 4, ground := Ground.phase }, { on := 5, ground := Ground.phase }, { on := 6, ground := Ground.phase }, { on := 7, ground := Ground.phase }, { on := 8, ground := Ground.phase }, { on := 9, ground := Ground.phase }], guard := none }) (w' := putW X6 B8 (a && !b) (.slice Ay y.length cy)) rfl (by rfl) (by obtain ⟨f0, f1, f2, f3, f4⟩ := F8; unfold putW; go_simp; first | done | with_reducible rfl | rfl) ?_
            have hX7 : Bel W (putW X6 B8 (a && !b) (.slice Ay y.length cy)) := putW_bel hX6 L8
            refine ⟨hX7, ?_⟩
            (try simp only [Act.put, List.setIfInBounds_toArray, List.set_cons_zero, List.set_cons_succ])
            have K8 := putW_at (A := Ay) (n := y.length) (c := cy) (a && !b) F8
            have K7 := K7.putW (all := a && !b) (v := .slice Ay y.length cy) NE
            have Sx := Sx.putW (all := a && !b) (v := .slice Ay y.length cy) Px8
            have Sy := Sy.putW (all := a && !b) (v := .slice Ay y.length cy) Py8
            generalize putW X6 B8 (a && !b) (.slice Ay y.length cy) = X7 at hX7 K8 K7 Sx Sy ⊢
            refine wpAnyH_done (by kernel_rfl) ?_ _
            refine NoPanic.normal ?_
            go_wp2
            go_meet
            exact ⟨⟨B7, B8, Ax, Ay, cx, cy, rfl, rfl, K7, K8, Sx, Sy, Nx, Ny⟩, hX7⟩
        · refine wpOp_value (o := { dst := some 8, op := Op.alloc 24, type := 0, pos := "law.go:106", after := #[], guard := none }) (v := .pointer (some ⟨X2.heap.size, 0, none⟩)) (w' := X2.alloc (.cells #[.bool false, .slice none 0 0] 24)) rfl (by rfl) (by go_simp; first | done | with_reducible rfl | rfl) ?_
          have hb' : Bel X2 (X2.alloc (.cells #[.bool false, .slice none 0 0] 24)) := (Bel.refl _).alloc _
          refine ⟨hX2.trans hb', ?_⟩
          (try simp only [Act.put, List.setIfInBounds_toArray, List.set_cons_zero, List.set_cons_succ])
          have F8 := FreeW.new X2
          have L8 : W.heap.size ≤ X2.heap.size := hX2.size
          generalize X2.alloc (.cells #[.bool false, .slice none 0 0] 24) = X3 at hb' F8 ⊢
          have hX3 := hX2.trans hb'
          have Px8 := apart_new Sx Ox
          have Sx := Sx.keep hb'
          have NE : B7 ≠ X2.heap.size := Nat.ne_of_lt F7.1
          have F7 := F7.keep hb'
          clear hb'
          generalize X2.heap.size = B8 at F8 L8 Px8 NE ⊢
          refine wpAnyH_all (rs := [5]) (by kernel_rfl) (by simp) ?_
          intro i hi
          simp only [List.mem_cons, List.not_mem_nil, or_false] at hi
          subst hi
          refine wpOp_enter (o := { dst := some 16, op := Op.call { callee := Callee.value (Operand.func 16), args := #[Operand.tmp 15], argTypes := #[24] }, type := 24, pos := "law.go:106", after := #[{ on := 4, ground := Ground.data }, { on := 2, ground := Ground.chain }], guard := none }) (R := MadeV X3 (fun v => .agg #[.bool !b, v]) o) rfl (by rfl) (by go_simp; first | done | with_reducible rfl | rfl) (OT.out X3 hX3) ?_
          rintro v X4 ⟨Ao, co, rfl, So, No, Go, hb'⟩
          refine ⟨hX3.trans hb', ?_⟩
          (try simp only [Act.put, List.setIfInBounds_toArray, List.set_cons_zero, List.set_cons_succ])
          have hX4 := hX3.trans hb'
          have Oo := own1_of Go
          have Sx := Sx.keep hb'
          have Po7 := apart_old Go F7.1
          have F7 := F7.keep hb'
          have Po8 := apart_old Go F8.1
          have F8 := F8.keep hb'
          clear hb' Go
          refine wpAnyH_all (rs := [6]) (by kernel_rfl) (by simp) ?_
          intro i hi
          simp only [List.mem_cons, List.not_mem_nil, or_false] at hi
          subst hi
          refine wpOp_enter (o := { dst := some 17, op := Op.call { callee := Callee.value (Operand.func 15), args := #[Operand.tmp 14, Operand.tmp 16], argTypes := #[24, 24] }, type := 24, pos := "law.go:106", after := #[{ on := 3, ground := Ground.data }, { on := 5, ground := Ground.data }, { on := 5, ground := Ground.chain }], guard := none }) (R := MadeV X4 (fun v => .agg #[.bool (a && !b), v]) y) rfl (by rfl) (by go_simp; first | done | with_reducible rfl | rfl) (MY.out X4 Ao co hX4 So No) ?_
          rintro v X5 ⟨Ay, cy, rfl, Sy, Ny, Gy, hb'⟩
          refine ⟨hX4.trans hb', ?_⟩
          (try simp only [Act.put, List.setIfInBounds_toArray, List.set_cons_zero, List.set_cons_succ])
          have hX5 := hX4.trans hb'
          have Oy := own1_of Gy
          have Sx := Sx.keep hb'
          have So := So.keep hb'
          have Py7 := apart_old Gy F7.1
          have F7 := F7.keep hb'
          have Py8 := apart_old Gy F8.1
          have F8 := F8.keep hb'
          clear hb' Gy
          refine wpAnyH_all (rs := [9]) (by kernel_rfl) (by simp) ?_
          intro i hi
          simp only [List.mem_cons, List.not_mem_nil, or_false] at hi
          subst hi
          refine wpOp_skip (o := { dst := none, op := Op.store 24 (Operand.tmp 7) (Operand.tmp 13), type := 0, pos := "law.go:106", after := #[{ on := 7, ground := Ground.data }, { on := 2, ground := Ground.data }, { on := 6, ground := Ground.chain }, { on := 0, ground := Ground.phase }, { on := 1, ground := Ground.phase }, { on := 2, ground := Ground.phase }, { on := 3, ground := Ground.textOnly Departure.lateStores }, { on := 4, ground := Ground.textOnly Departure.lateStores }, { on := 5, ground := Ground.textOnly Departure.lateStoresUnsure }, { on := 6, ground := Ground.textOnly Departure.lateStoresUnsure }, { on := 7, ground := Ground.phase }, { on := 8, ground := Ground.phase }], guard := none }) (w' := putW X5 B7 (a && b) (.slice Ax x.length cx)) rfl (by rfl) (by obtain ⟨f0, f1, f2, f3, f4⟩ := F7; unfold putW; go_simp; first | done | with_reducible rfl | rfl) ?_
          have hX6 : Bel W (putW X5 B7 (a && b) (.slice Ax x.length cx)) := putW_bel hX5 L7
          refine ⟨hX6, ?_⟩
          (try simp only [Act.put, List.setIfInBounds_toArray, List.set_cons_zero, List.set_cons_succ])
          have K7 := putW_at (A := Ax) (n := x.length) (c := cx) (a && b) F7
          have F8 := F8.putW (all := a && b) (v := .slice Ax x.length cx) NE.symm
          have Sx := Sx.putW (all := a && b) (v := .slice Ax x.length cx) Px7
          have Sy := Sy.putW (all := a && b) (v := .slice Ax x.length cx) Py7
          generalize putW X5 B7 (a && b) (.slice Ax x.length cx) = X6 at hX6 K7 F8 Sx Sy ⊢
          refine wpAnyH_all (rs := [10]) (by kernel_rfl) (by simp) ?_
          intro i hi
          simp only [List.mem_cons, List.not_mem_nil, or_false] at hi
          subst hi
          refine wpOp_skip (o := { dst := none, op := Op.store 24 (Operand.tmp 8) (Operand.tmp 17), type := 0, pos := "law.go:106", after := #[{ on := 8, ground := Ground.data }, { on := 6, ground := Ground.data }, { on := 9, ground := Ground.chain }, { on := 0, ground := Ground.phase }, { on := 1, ground := Ground.phase }, { on := 2, ground := Ground.phase }, { on := 3, ground := Ground.phase }, { on := 4, ground := Ground.phase }, { on := 5, ground := Ground.phase }, { on := 6, ground := Ground.phase }, { on := 7, ground := Ground.phase }, { on := 8, ground := Ground.phase }, { on := 9, ground := Ground.phase }], guard := none }) (w' := putW X6 B8 (a && !b) (.slice Ay y.length cy)) rfl (by rfl) (by obtain ⟨f0, f1, f2, f3, f4⟩ := F8; unfold putW; go_simp; first | done | with_reducible rfl | rfl) ?_
          have hX7 : Bel W (putW X6 B8 (a && !b) (.slice Ay y.length cy)) := putW_bel hX6 L8
          refine ⟨hX7, ?_⟩
          (try simp only [Act.put, List.setIfInBounds_toArray, List.set_cons_zero, List.set_cons_succ])
          have K8 := putW_at (A := Ay) (n := y.length) (c := cy) (a && !b) F8
          have K7 := K7.putW (all := a && !b) (v := .slice Ay y.length cy) NE
          have Sx := Sx.putW (all := a && !b) (v := .slice Ay y.length cy) Px8
          have Sy := Sy.putW (all := a && !b) (v := .slice Ay y.length cy) Py8
          generalize putW X6 B8 (a && !b) (.slice Ay y.length cy) = X7 at hX7 K8 K7 Sx Sy ⊢
          refine wpAnyH_done (by kernel_rfl) ?_ _
          refine NoPanic.normal ?_
          go_wp2
          go_meet
          exact ⟨⟨B7, B8, Ax, Ay, cx, cy, rfl, rfl, K7, K8, Sx, Sy, Nx, Ny⟩, hX7⟩
      · refine wpOp_value (o := { dst := some 8, op := Op.alloc 24, type := 0, pos := "law.go:106", after := #[], guard := none }) (v := .pointer (some ⟨X1.heap.size, 0, none⟩)) (w' := X1.alloc (.cells #[.bool false, .slice none 0 0] 24)) rfl (by rfl) (by go_simp; first | done | with_reducible rfl | rfl) ?_
        have hb' : Bel X1 (X1.alloc (.cells #[.bool false, .slice none 0 0] 24)) := (Bel.refl _).alloc _
        refine ⟨hX1.trans hb', ?_⟩
        (try simp only [Act.put, List.setIfInBounds_toArray, List.set_cons_zero, List.set_cons_succ])
        have F8 := FreeW.new X1
        have L8 : W.heap.size ≤ X1.heap.size := hX1.size
        generalize X1.alloc (.cells #[.bool false, .slice none 0 0] 24) = X2 at hb' F8 ⊢
        have hX2 := hX1.trans hb'
        have Px8 := apart_new Sx Ox
        have Sx := Sx.keep hb'
        clear hb'
        generalize X1.heap.size = B8 at F8 L8 Px8 ⊢
        refine wpAnyH_all (rs := [5, 7]) (by kernel_rfl) (by simp) ?_
        intro i hi
        simp only [List.mem_cons, List.not_mem_nil, or_false] at hi
        rcases hi with rfl | rfl
        · refine wpOp_enter (o := { dst := some 16, op := Op.call { callee := Callee.value (Operand.func 16), args := #[Operand.tmp 15], argTypes := #[24] }, type := 24, pos := "law.go:106", after := #[{ on := 4, ground := Ground.data }, { on := 2, ground := Ground.chain }], guard := none }) (R := MadeV X2 (fun v => .agg #[.bool !b, v]) o) rfl (by rfl) (by go_simp; first | done | with_reducible rfl | rfl) (OT.out X2 hX2) ?_
          rintro v X3 ⟨Ao, co, rfl, So, No, Go, hb'⟩
          refine ⟨hX2.trans hb', ?_⟩
          (try simp only [Act.put, List.setIfInBounds_toArray, List.set_cons_zero, List.set_cons_succ])
          have hX3 := hX2.trans hb'
          have Oo := own1_of Go
          have Sx := Sx.keep hb'
          have Po8 := apart_old Go F8.1
          have F8 := F8.keep hb'
          clear hb' Go
          refine wpAnyH_all (rs := [6, 7]) (by kernel_rfl) (by simp) ?_
          intro i hi
          simp only [List.mem_cons, List.not_mem_nil, or_false] at hi
          rcases hi with rfl | rfl
          · refine wpOp_enter (o := { dst := some 17, op := Op.call { callee := Callee.value (Operand.func 15), args := #[Operand.tmp 14, Operand.tmp 16], argTypes := #[24, 24] }, type := 24, pos := "law.go:106", after := #[{ on := 3, ground := Ground.data }, { on := 5, ground := Ground.data }, { on := 5, ground := Ground.chain }], guard := none }) (R := MadeV X3 (fun v => .agg #[.bool (a && !b), v]) y) rfl (by rfl) (by go_simp; first | done | with_reducible rfl | rfl) (MY.out X3 Ao co hX3 So No) ?_
            rintro v X4 ⟨Ay, cy, rfl, Sy, Ny, Gy, hb'⟩
            refine ⟨hX3.trans hb', ?_⟩
            (try simp only [Act.put, List.setIfInBounds_toArray, List.set_cons_zero, List.set_cons_succ])
            have hX4 := hX3.trans hb'
            have Oy := own1_of Gy
            have Sx := Sx.keep hb'
            have So := So.keep hb'
            have Py8 := apart_old Gy F8.1
            have F8 := F8.keep hb'
            clear hb' Gy
            refine wpAnyH_all (rs := [7]) (by kernel_rfl) (by simp) ?_
            intro i hi
            simp only [List.mem_cons, List.not_mem_nil, or_false] at hi
            subst hi
            refine wpOp_value (o := { dst := some 7, op := Op.alloc 24, type := 0, pos := "law.go:106", after := #[], guard := none }) (v := .pointer (some ⟨X4.heap.size, 0, none⟩)) (w' := X4.alloc (.cells #[.bool false, .slice none 0 0] 24)) rfl (by rfl) (by go_simp; first | done | with_reducible rfl | rfl) ?_
            have hb' : Bel X4 (X4.alloc (.cells #[.bool false, .slice none 0 0] 24)) := (Bel.refl _).alloc _
            refine ⟨hX4.trans hb', ?_⟩
            (try simp only [Act.put, List.setIfInBounds_toArray, List.set_cons_zero, List.set_cons_succ])
            have F7 := FreeW.new X4
            have L7 : W.heap.size ≤ X4.heap.size := hX4.size
            generalize X4.alloc (.cells #[.bool false, .slice none 0 0] 24) = X5 at hb' F7 ⊢
            have hX5 := hX4.trans hb'
            have Px7 := apart_new Sx Ox
            have Sx := Sx.keep hb'
            have Po7 := apart_new So Oo
            have So := So.keep hb'
            have Py7 := apart_new Sy Oy
            have Sy := Sy.keep hb'
            have NE : B8 ≠ X4.heap.size := Nat.ne_of_lt F8.1
            have F8 := F8.keep hb'
            clear hb'
            generalize X4.heap.size = B7 at F7 L7 Px7 Po7 Py7 NE ⊢
            have NE := NE.symm
            refine wpAnyH_all (rs := [9]) (by kernel_rfl) (by simp) ?_
            intro i hi
            simp only [List.mem_cons, List.not_mem_nil, or_false] at hi
            subst hi
            refine wpOp_skip (o := { dst := none, op := Op.store 24 (Operand.tmp 7) (Operand.tmp 13), type := 0, pos := "law.go:106", after := #[{ on := 7, ground := Ground.data }, { on := 2, ground := Ground.data }, { on := 6, ground := Ground.chain }, { on := 0, ground := Ground.phase }, { on := 1, ground := Ground.phase }, { on := 2, ground := Ground.phase }, { on := 3, ground := Ground.textOnly Departure.lateStores }, { on := 4, ground := Ground.textOnly Departure.lateStores }, { on := 5, ground := Ground.textOnly Departure.lateStoresUnsure }, { on := 6, ground := Ground.textOnly Departure.lateStoresUnsure }, { on := 7, ground := Ground.phase }, { on := 8, ground := Ground.phase }], guard := none }) (w' := putW X5 B7 (a && b) (.slice Ax x.length cx)) rfl (by rfl) (by obtain ⟨f0, f1, f2, f3, f4⟩ := F7; unfold putW; go_simp; first | done | with_reducible rfl | rfl) ?_
            have hX6 : Bel W (putW X5 B7 (a && b) (.slice Ax x.length cx)) := putW_bel hX5 L7
            refine ⟨hX6, ?_⟩
            (try simp only [Act.put, List.setIfInBounds_toArray, List.set_cons_zero, List.set_cons_succ])
            have K7 := putW_at (A := Ax) (n := x.length) (c := cx) (a && b) F7
            have F8 := F8.putW (all := a && b) (v := .slice Ax x.length cx) NE.symm
            have Sx := Sx.putW (all := a && b) (v := .slice Ax x.length cx) Px7
            have Sy := Sy.putW (all := a && b) (v := .slice Ax x.length cx) Py7
            generalize putW X5 B7 (a && b) (.slice Ax x.length cx) = X6 at hX6 K7 F8 Sx Sy ⊢
            refine wpAnyH_all (rs := [10]) (by kernel_rfl) (by simp) ?_
            intro i hi
            simp only [List.mem_cons, List.not_mem_nil, or_false] at hi
            subst hi
            refine wpOp_skip (o := { dst := none, op := Op.store 24 (Operand.tmp 8) (Operand.tmp 17), type := 0, pos := "law.go:106", after := #[{ on := 8, ground := Ground.data }, { on := 6, ground := Ground.data }, { on := 9, ground := Ground.chain }, { on := 0, ground := Ground.phase }, { on := 1, ground := Ground.phase }, { on := 2, ground := Ground.phase }, { on := 3, ground := Ground.phase }, { on := 4, ground := Ground.phase }, { on := 5, ground := Ground.phase }, { on := 6, ground := Ground.phase }, { on := 7, ground := Ground.phase }, { on := 8, ground := Ground.phase }, { on := 9, ground := Ground.phase }], guard := none }) (w' := putW X6 B8 (a && !b) (.slice Ay y.length cy)) rfl (by rfl) (by obtain ⟨f0, f1, f2, f3, f4⟩ := F8; unfold putW; go_simp; first | done | with_reducible rfl | rfl) ?_
            have hX7 : Bel W (putW X6 B8 (a && !b) (.slice Ay y.length cy)) := putW_bel hX6 L8
            refine ⟨hX7, ?_⟩
            (try simp only [Act.put, List.setIfInBounds_toArray, List.set_cons_zero, List.set_cons_succ])
            have K8 := putW_at (A := Ay) (n := y.length) (c := cy) (a && !b) F8
            have K7 := K7.putW (all := a && !b) (v := .slice Ay y.length cy) NE
            have Sx := Sx.putW (all := a && !b) (v := .slice Ay y.length cy) Px8
            have Sy := Sy.putW (all := a && !b) (v := .slice Ay y.length cy) Py8
            generalize putW X6 B8 (a && !b) (.slice Ay y.length cy) = X7 at hX7 K8 K7 Sx Sy ⊢
            refine wpAnyH_done (by kernel_rfl) ?_ _
            refine NoPanic.normal ?_
            go_wp2
            go_meet
            exact ⟨⟨B7, B8, Ax, Ay, cx, cy, rfl, rfl, K7, K8, Sx, Sy, Nx, Ny⟩, hX7⟩
          · refine wpOp_value (o := { dst := some 7, op := Op.alloc 24, type := 0, pos := "law.go:106", after := #[], guard := none }) (v := .pointer (some ⟨X3.heap.size, 0, none⟩)) (w' := X3.alloc (.cells #[.bool false, .slice none 0 0] 24)) rfl (by rfl) (by go_simp; first | done | with_reducible rfl | rfl) ?_
            have hb' : Bel X3 (X3.alloc (.cells #[.bool false, .slice none 0 0] 24)) := (Bel.refl _).alloc _
            refine ⟨hX3.trans hb', ?_⟩
            (try simp only [Act.put, List.setIfInBounds_toArray, List.set_cons_zero, List.set_cons_succ])
            have F7 := FreeW.new X3
            have L7 : W.heap.size ≤ X3.heap.size := hX3.size
            generalize X3.alloc (.cells #[.bool false, .slice none 0 0] 24) = X4 at hb' F7 ⊢
            have hX4 := hX3.trans hb'
            have Px7 := apart_new Sx Ox
            have Sx := Sx.keep hb'
            have Po7 := apart_new So Oo
            have So := So.keep hb'
            have NE : B8 ≠ X3.heap.size := Nat.ne_of_lt F8.1
            have F8 := F8.keep hb'
            clear hb'
            generalize X3.heap.size = B7 at F7 L7 Px7 Po7 NE ⊢
            have NE := NE.symm
            refine wpAnyH_all (rs := [6]) (by kernel_rfl) (by simp) ?_
            intro i hi
            simp only [List.mem_cons, List.not_mem_nil, or_false] at hi
            subst hi
            refine wpOp_enter (o := { dst := some 17, op := Op.call { callee := Callee.value (Operand.func 15), args := #[Operand.tmp 14, Operand.tmp 16], argTypes := #[24, 24] }, type := 24, pos := "law.go:106", after := #[{ on := 3, ground := Ground.data }, { on := 5, ground := Ground.data }, { on := 5, ground := Ground.chain }], guard := none }) (R := MadeV X4 (fun v => .agg #[.bool (a && !b), v]) y) rfl (by rfl) (by go_simp; first | done | with_reducible rfl | rfl) (MY.out X4 Ao co hX4 So No) ?_
            rintro v X5 ⟨Ay, cy, rfl, Sy, Ny, Gy, hb'⟩
            refine ⟨hX4.trans hb', ?_⟩
            (try simp only [Act.put, List.setIfInBounds_toArray, List.set_cons_zero, List.set_cons_succ])
            have hX5 := hX4.trans hb'
            have Oy := own1_of Gy
            have Sx := Sx.keep hb'
            have So := So.keep hb'
            have Py7 := apart_old Gy F7.1
            have F7 := F7.keep hb'
            have Py8 := apart_old Gy F8.1
            have F8 := F8.keep hb'
            clear hb' Gy
            refine wpAnyH_all (rs := [9]) (by kernel_rfl) (by simp) ?_
            intro i hi
            simp only [List.mem_cons, List.not_mem_nil, or_false] at hi
            subst hi
            refine wpOp_skip (o := { dst := none, op := Op.store 24 (Operand.tmp 7) (Operand.tmp 13), type := 0, pos := "law.go:106", after := #[{ on := 7, ground := Ground.data }, { on := 2, ground := Ground.data }, { on := 6, ground := Ground.chain }, { on := 0, ground := Ground.phase }, { on := 1, ground := Ground.phase }, { on := 2, ground := Ground.phase }, { on := 3, ground := Ground.textOnly Departure.lateStores }, { on := 4, ground := Ground.textOnly Departure.lateStores }, { on := 5, ground := Ground.textOnly Departure.lateStoresUnsure }, { on := 6, ground := Ground.textOnly Departure.lateStoresUnsure }, { on := 7, ground := Ground.phase }, { on := 8, ground := Ground.phase }], guard := none }) (w' := putW X5 B7 (a && b) (.slice Ax x.length cx)) rfl (by rfl) (by obtain ⟨f0, f1, f2, f3, f4⟩ := F7; unfold putW; go_simp; first | done | with_reducible rfl | rfl) ?_
            have hX6 : Bel W (putW X5 B7 (a && b) (.slice Ax x.length cx)) := putW_bel hX5 L7
            refine ⟨hX6, ?_⟩
            (try simp only [Act.put, List.setIfInBounds_toArray, List.set_cons_zero, List.set_cons_succ])
            have K7 := putW_at (A := Ax) (n := x.length) (c := cx) (a && b) F7
            have F8 := F8.putW (all := a && b) (v := .slice Ax x.length cx) NE.symm
            have Sx := Sx.putW (all := a && b) (v := .slice Ax x.length cx) Px7
            have Sy := Sy.putW (all := a && b) (v := .slice Ax x.length cx) Py7
            generalize putW X5 B7 (a && b) (.slice Ax x.length cx) = X6 at hX6 K7 F8 Sx Sy ⊢
            refine wpAnyH_all (rs := [10]) (by kernel_rfl) (by simp) ?_
            intro i hi
            simp only [List.mem_cons, List.not_mem_nil, or_false] at hi
            subst hi
            refine wpOp_skip (o := { dst := none, op := Op.store 24 (Operand.tmp 8) (Operand.tmp 17), type := 0, pos := "law.go:106", after := #[{ on := 8, ground := Ground.data }, { on := 6, ground := Ground.data }, { on := 9, ground := Ground.chain }, { on := 0, ground := Ground.phase }, { on := 1, ground := Ground.phase }, { on := 2, ground := Ground.phase }, { on := 3, ground := Ground.phase }, { on := 4, ground := Ground.phase }, { on := 5, ground := Ground.phase }, { on := 6, ground := Ground.phase }, { on := 7, ground := Ground.phase }, { on := 8, ground := Ground.phase }, { on := 9, ground := Ground.phase }], guard := none }) (w' := putW X6 B8 (a && !b) (.slice Ay y.length cy)) rfl (by rfl) (by obtain ⟨f0, f1, f2, f3, f4⟩ := F8; unfold putW; go_simp; first | done | with_reducible rfl | rfl) ?_
            have hX7 : Bel W (putW X6 B8 (a && !b) (.slice Ay y.length cy)) := putW_bel hX6 L8
            refine ⟨hX7, ?_⟩
            (try simp only [Act.put, List.setIfInBounds_toArray, List.set_cons_zero, List.set_cons_succ])
            have K8 := putW_at (A := Ay) (n := y.length) (c := cy) (a && !b) F8
            have K7 := K7.putW (all := a && !b) (v := .slice Ay y.length cy) NE
            have Sx := Sx.putW (all := a && !b) (v := .slice Ay y.length cy) Px8
            have Sy := Sy.putW (all := a && !b) (v := .slice Ay y.length cy) Py8
            generalize putW X6 B8 (a && !b) (.slice Ay y.length cy) = X7 at hX7 K8 K7 Sx Sy ⊢
            refine wpAnyH_done (by kernel_rfl) ?_ _
            refine NoPanic.normal ?_
            go_wp2
            go_meet
            exact ⟨⟨B7, B8, Ax, Ay, cx, cy, rfl, rfl, K7, K8, Sx, Sy, Nx, Ny⟩, hX7⟩
        · refine wpOp_value (o := { dst := some 7, op := Op.alloc 24, type := 0, pos := "law.go:106", after := #[], guard := none }) (v := .pointer (some ⟨X2.heap.size, 0, none⟩)) (w' := X2.alloc (.cells #[.bool false, .slice none 0 0] 24)) rfl (by rfl) (by go_simp; first | done | with_reducible rfl | rfl) ?_
          have hb' : Bel X2 (X2.alloc (.cells #[.bool false, .slice none 0 0] 24)) := (Bel.refl _).alloc _
          refine ⟨hX2.trans hb', ?_⟩
          (try simp only [Act.put, List.setIfInBounds_toArray, List.set_cons_zero, List.set_cons_succ])
          have F7 := FreeW.new X2
          have L7 : W.heap.size ≤ X2.heap.size := hX2.size
          generalize X2.alloc (.cells #[.bool false, .slice none 0 0] 24) = X3 at hb' F7 ⊢
          have hX3 := hX2.trans hb'
          have Px7 := apart_new Sx Ox
          have Sx := Sx.keep hb'
          have NE : B8 ≠ X2.heap.size := Nat.ne_of_lt F8.1
          have F8 := F8.keep hb'
          clear hb'
          generalize X2.heap.size = B7 at F7 L7 Px7 NE ⊢
          have NE := NE.symm
          refine wpAnyH_all (rs := [5]) (by kernel_rfl) (by simp) ?_
          intro i hi
          simp only [List.mem_cons, List.not_mem_nil, or_false] at hi
          subst hi
          refine wpOp_enter (o := { dst := some 16, op := Op.call { callee := Callee.value (Operand.func 16), args := #[Operand.tmp 15], argTypes := #[24] }, type := 24, pos := "law.go:106", after := #[{ on := 4, ground := Ground.data }, { on := 2, ground := Ground.chain }], guard := none }) (R := MadeV X3 (fun v => .agg #[.bool !b, v]) o) rfl (by rfl) (by go_simp; first | done | with_reducible rfl | rfl) (OT.out X3 hX3) ?_
          rintro v X4 ⟨Ao, co, rfl, So, No, Go, hb'⟩
          refine ⟨hX3.trans hb', ?_⟩
          (try simp only [Act.put, List.setIfInBounds_toArray, List.set_cons_zero, List.set_cons_succ])
          have hX4 := hX3.trans hb'
          have Oo := own1_of Go
          have Sx := Sx.keep hb'
          have Po7 := apart_old Go F7.1
          have F7 := F7.keep hb'
          have Po8 := apart_old Go F8.1
          have F8 := F8.keep hb'
          clear hb' Go
          refine wpAnyH_all (rs := [6]) (by kernel_rfl) (by simp) ?_
          intro i hi
          simp only [List.mem_cons, List.not_mem_nil, or_false] at hi
          subst hi
          refine wpOp_enter (o := { dst := some 17, op := Op.call { callee := Callee.value (Operand.func 15), args := #[Operand.tmp 14, Operand.tmp 16], argTypes := #[24, 24] }, type := 24, pos := "law.go:106", after := #[{ on := 3, ground := Ground.data }, { on := 5, ground := Ground.data }, { on := 5, ground := Ground.chain }], guard := none }) (R := MadeV X4 (fun v => .agg #[.bool (a && !b), v]) y) rfl (by rfl) (by go_simp; first | done | with_reducible rfl | rfl) (MY.out X4 Ao co hX4 So No) ?_
          rintro v X5 ⟨Ay, cy, rfl, Sy, Ny, Gy, hb'⟩
          refine ⟨hX4.trans hb', ?_⟩
          (try simp only [Act.put, List.setIfInBounds_toArray, List.set_cons_zero, List.set_cons_succ])
          have hX5 := hX4.trans hb'
          have Oy := own1_of Gy
          have Sx := Sx.keep hb'
          have So := So.keep hb'
          have Py7 := apart_old Gy F7.1
          have F7 := F7.keep hb'
          have Py8 := apart_old Gy F8.1
          have F8 := F8.keep hb'
          clear hb' Gy
          refine wpAnyH_all (rs := [9]) (by kernel_rfl) (by simp) ?_
          intro i hi
          simp only [List.mem_cons, List.not_mem_nil, or_false] at hi
          subst hi
          refine wpOp_skip (o := { dst := none, op := Op.store 24 (Operand.tmp 7) (Operand.tmp 13), type := 0, pos := "law.go:106", after := #[{ on := 7, ground := Ground.data }, { on := 2, ground := Ground.data }, { on := 6, ground := Ground.chain }, { on := 0, ground := Ground.phase }, { on := 1, ground := Ground.phase }, { on := 2, ground := Ground.phase }, { on := 3, ground := Ground.textOnly Departure.lateStores }, { on := 4, ground := Ground.textOnly Departure.lateStores }, { on := 5, ground := Ground.textOnly Departure.lateStoresUnsure }, { on := 6, ground := Ground.textOnly Departure.lateStoresUnsure }, { on := 7, ground := Ground.phase }, { on := 8, ground := Ground.phase }], guard := none }) (w' := putW X5 B7 (a && b) (.slice Ax x.length cx)) rfl (by rfl) (by obtain ⟨f0, f1, f2, f3, f4⟩ := F7; unfold putW; go_simp; first | done | with_reducible rfl | rfl) ?_
          have hX6 : Bel W (putW X5 B7 (a && b) (.slice Ax x.length cx)) := putW_bel hX5 L7
          refine ⟨hX6, ?_⟩
          (try simp only [Act.put, List.setIfInBounds_toArray, List.set_cons_zero, List.set_cons_succ])
          have K7 := putW_at (A := Ax) (n := x.length) (c := cx) (a && b) F7
          have F8 := F8.putW (all := a && b) (v := .slice Ax x.length cx) NE.symm
          have Sx := Sx.putW (all := a && b) (v := .slice Ax x.length cx) Px7
          have Sy := Sy.putW (all := a && b) (v := .slice Ax x.length cx) Py7
          generalize putW X5 B7 (a && b) (.slice Ax x.length cx) = X6 at hX6 K7 F8 Sx Sy ⊢
          refine wpAnyH_all (rs := [10]) (by kernel_rfl) (by simp) ?_
          intro i hi
          simp only [List.mem_cons, List.not_mem_nil, or_false] at hi
          subst hi
          refine wpOp_skip (o := { dst := none, op := Op.store 24 (Operand.tmp 8) (Operand.tmp 17), type := 0, pos := "law.go:106", after := #[{ on := 8, ground := Ground.data }, { on := 6, ground := Ground.data }, { on := 9, ground := Ground.chain }, { on := 0, ground := Ground.phase }, { on := 1, ground := Ground.phase }, { on := 2, ground := Ground.phase }, { on := 3, ground := Ground.phase }, { on := 4, ground := Ground.phase }, { on := 5, ground := Ground.phase }, { on := 6, ground := Ground.phase }, { on := 7, ground := Ground.phase }, { on := 8, ground := Ground.phase }, { on := 9, ground := Ground.phase }], guard := none }) (w' := putW X6 B8 (a && !b) (.slice Ay y.length cy)) rfl (by rfl) (by obtain ⟨f0, f1, f2, f3, f4⟩ := F8; unfold putW; go_simp; first | done | with_reducible rfl | rfl) ?_
          have hX7 : Bel W (putW X6 B8 (a && !b) (.slice Ay y.length cy)) := putW_bel hX6 L8
          refine ⟨hX7, ?_⟩
          (try simp only [Act.put, List.setIfInBounds_toArray, List.set_cons_zero, List.set_cons_succ])
          have K8 := putW_at (A := Ay) (n := y.length) (c := cy) (a && !b) F8
          have K7 := K7.putW (all := a && !b) (v := .slice Ay y.length cy) NE
          have Sx := Sx.putW (all := a && !b) (v := .slice Ay y.length cy) Px8
          have Sy := Sy.putW (all := a && !b) (v := .slice Ay y.length cy) Py8
          generalize putW X6 B8 (a && !b) (.slice Ay y.length cy) = X7 at hX7 K8 K7 Sx Sy ⊢
          refine wpAnyH_done (by kernel_rfl) ?_ _
          refine NoPanic.normal ?_
          go_wp2
          go_meet
          exact ⟨⟨B7, B8, Ax, Ay, cx, cy, rfl, rfl, K7, K8, Sx, Sy, Nx, Ny⟩, hX7⟩
    · refine wpOp_value (o := { dst := some 7, op := Op.alloc 24, type := 0, pos := "law.go:106", after := #[], guard := none }) (v := .pointer (some ⟨X0.heap.size, 0, none⟩)) (w' := X0.alloc (.cells #[.bool false, .slice none 0 0] 24)) rfl (by rfl) (by go_simp; first | done | with_reducible rfl | rfl) ?_
      have hb' : Bel X0 (X0.alloc (.cells #[.bool false, .slice none 0 0] 24)) := (Bel.refl _).alloc _
      refine ⟨hX0.trans hb', ?_⟩
      (try simp only [Act.put, List.setIfInBounds_toArray, List.set_cons_zero, List.set_cons_succ])
      have F7 := FreeW.new X0
      have L7 : W.heap.size ≤ X0.heap.size := hX0.size
      generalize X0.alloc (.cells #[.bool false, .slice none 0 0] 24) = X1 at hb' F7 ⊢
      have hX1 := hX0.trans hb'
      clear hb'
      generalize X0.heap.size = B7 at F7 L7 ⊢
      refine wpAnyH_all (rs := [2, 8]) (by kernel_rfl) (by simp) ?_
      intro i hi
      simp only [List.mem_cons, List.not_mem_nil, or_false] at hi
      rcases hi with rfl | rfl
      · refine wpOp_enter (o := { dst := some 13, op := Op.call { callee := Callee.value (Operand.func 15), args := #[Operand.tmp 11, Operand.tmp 12], argTypes := #[24, 24] }, type := 24, pos := "law.go:106", after := #[{ on := 0, ground := Ground.data }, { on := 1, ground := Ground.data }], guard := none }) (R := MadeV X1 (fun v => .agg #[.bool (a && b), v]) x) rfl (by rfl) (by go_simp; first | done | with_reducible rfl | rfl) (ME.out X1 hX1) ?_
        rintro v X2 ⟨Ax, cx, rfl, Sx, Nx, Gx, hb'⟩
        refine ⟨hX1.trans hb', ?_⟩
        (try simp only [Act.put, List.setIfInBounds_toArray, List.set_cons_zero, List.set_cons_succ])
        have hX2 := hX1.trans hb'
        have Ox := own1_of Gx
        have Px7 := apart_old Gx F7.1
        have F7 := F7.keep hb'
        clear hb' Gx
        refine wpAnyH_all (rs := [5, 8]) (by kernel_rfl) (by simp) ?_
        intro i hi
        simp only [List.mem_cons, List.not_mem_nil, or_false] at hi
        rcases hi with rfl | rfl
        · refine wpOp_enter (o := { dst := some 16, op := Op.call { callee := Callee.value (Operand.func 16), args := #[Operand.tmp 15], argTypes := #[24] }, type := 24, pos := "law.go:106", after := #[{ on := 4, ground := Ground.data }, { on := 2, ground := Ground.chain }], guard := none }) (R := MadeV X2 (fun v => .agg #[.bool !b, v]) o) rfl (by rfl) (by go_simp; first | done | with_reducible rfl | rfl) (OT.out X2 hX2) ?_
          rintro v X3 ⟨Ao, co, rfl, So, No, Go, hb'⟩
          refine ⟨hX2.trans hb', ?_⟩
          (try simp only [Act.put, List.setIfInBounds_toArray, List.set_cons_zero, List.set_cons_succ])
          have hX3 := hX2.trans hb'
          have Oo := own1_of Go
          have Sx := Sx.keep hb'
          have Po7 := apart_old Go F7.1
          have F7 := F7.keep hb'
          clear hb' Go
          refine wpAnyH_all (rs := [6, 8]) (by kernel_rfl) (by simp) ?_
          intro i hi
          simp only [List.mem_cons, List.not_mem_nil, or_false] at hi
          rcases hi with rfl | rfl
          · refine wpOp_enter (o := { dst := some 17, op := Op.call { callee := Callee.value (Operand.func 15), args := #[Operand.tmp 14, Operand.tmp 16], argTypes := #[24, 24] }, type := 24, pos := "law.go:106", after := #[{ on := 3, ground := Ground.data }, { on := 5, ground := Ground.data }, { on := 5, ground := Ground.chain }], guard := none }) (R := MadeV X3 (fun v => .agg #[.bool (a && !b), v]) y) rfl (by rfl) (by go_simp; first | done | with_reducible rfl | rfl) (MY.out X3 Ao co hX3 So No) ?_
            rintro v X4 ⟨Ay, cy, rfl, Sy, Ny, Gy, hb'⟩
            refine ⟨hX3.trans hb', ?_⟩
            (try simp only [Act.put, List.setIfInBounds_toArray, List.set_cons_zero, List.set_cons_succ])
            have hX4 := hX3.trans hb'
            have Oy := own1_of Gy
            have Sx := Sx.keep hb'
            have So := So.keep hb'
            have Py7 := apart_old Gy F7.1
            have F7 := F7.keep hb'
            clear hb' Gy
            refine wpAnyH_all (rs := [8]) (by kernel_rfl) (by simp) ?_
            intro i hi
            simp only [List.mem_cons, List.not_mem_nil, or_false] at hi
            subst hi
            refine wpOp_value (o := { dst := some 8, op := Op.alloc 24, type := 0, pos := "law.go:106", after := #[], guard := none }) (v := .pointer (some ⟨X4.heap.size, 0, none⟩)) (w' := X4.alloc (.cells #[.bool false, .slice none 0 0] 24)) rfl (by rfl) (by go_simp; first | done | with_reducible rfl | rfl) ?_
            have hb' : Bel X4 (X4.alloc (.cells #[.bool false, .slice none 0 0] 24)) := (Bel.refl _).alloc _
            refine ⟨hX4.trans hb', ?_⟩
            (try simp only [Act.put, List.setIfInBounds_toArray, List.set_cons_zero, List.set_cons_succ])
            have F8 := FreeW.new X4
            have L8 : W.heap.size ≤ X4.heap.size := hX4.size
            generalize X4.alloc (.cells #[.bool false, .slice none 0 0] 24) = X5 at hb' F8 ⊢
            have hX5 := hX4.trans hb'
            have Px8 := apart_new Sx Ox
            have Sx := Sx.keep hb'
            have Po8 := apart_new So Oo
            have So := So.keep hb'
            have Py8 := apart_new Sy Oy
            have Sy := Sy.keep hb'
            have NE : B7 ≠ X4.heap.size := Nat.ne_of_lt F7.1
            have F7 := F7.keep hb'
            clear hb'
            generalize X4.heap.size = B8 at F8 L8 Px8 Po8 Py8 NE ⊢
            refine wpAnyH_all (rs := [9]) (by kernel_rfl) (by simp) ?_
            intro i hi
            simp only [List.mem_cons, List.not_mem_nil, or_false] at hi
            subst hi
            refine wpOp_skip (o := { dst := none, op := Op.store 24 (Operand.tmp 7) (Operand.tmp 13), type := 0, pos := "law.go:106", after := #[{ on := 7, ground := Ground.data }, { on := 2, ground := Ground.data }, { on := 6, ground := Ground.chain }, { on := 0, ground := Ground.phase }, { on := 1, ground := Ground.phase }, { on := 2, ground := Ground.phase }, { on := 3, ground := Ground.textOnly Departure.lateStores }, { on := 4, ground := Ground.textOnly Departure.lateStores }, { on := 5, ground := Ground.textOnly Departure.lateStoresUnsure }, { on := 6, ground := Ground.textOnly Departure.lateStoresUnsure }, { on := 7, ground := Ground.phase }, { on := 8, ground := Ground.phase }], guard := none }) (w' := putW X5 B7 (a && b) (.slice Ax x.length cx)) rfl (by rfl) (by obtain ⟨f0, f1, f2, f3, f4⟩ := F7; unfold putW; go_simp; first | done | with_reducible rfl | rfl) ?_
            have hX6 : Bel W (putW X5 B7 (a && b) (.slice Ax x.length cx)) := putW_bel hX5 L7
            refine ⟨hX6, ?_⟩
            (try simp only [Act.put, List.setIfInBounds_toArray, List.set_cons_zero, List.set_cons_succ])
            have K7 := putW_at (A := Ax) (n := x.length) (c := cx) (a && b) F7
            have F8 := F8.putW (all := a && b) (v := .slice Ax x.length cx) NE.symm
            have Sx := Sx.putW (all := a && b) (v := .slice Ax x.length cx) Px7
            have Sy := Sy.putW (all := a && b) (v := .slice Ax x.length cx) Py7
            generalize putW X5 B7 (a && b) (.slice Ax x.length cx) = X6 at hX6 K7 F8 Sx Sy ⊢
            refine wpAnyH_all (rs := [10]) (by kernel_rfl) (by simp) ?_
            intro i hi
            simp only [List.mem_cons, List.not_mem_nil, or_false] at hi
            subst hi
            refine wpOp_skip (o := { dst := none, op := Op.store 24 (Operand.tmp 8) (Operand.tmp 17), type := 0, pos := "law.go:106", after := #[{ on := 8, ground := Ground.data }, { on := 6, ground := Ground.data }, { on := 9, ground := Ground.chain }, { on := 0, ground := Ground.phase }, { on := 1, ground := Ground.phase }, { on := 2, ground := Ground.phase }, { on := 3, ground := Ground.phase }, { on := 4, ground := Ground.phase }, { on := 5, ground := Ground.phase }, { on := 6, ground := Ground.phase }, { on := 7, ground := Ground.phase }, { on := 8, ground := Ground.phase }, { on := 9, ground := Ground.phase }], guard := none }) (w' := putW X6 B8 (a && !b) (.slice Ay y.length cy)) rfl (by rfl) (by obtain ⟨f0, f1, f2, f3, f4⟩ := F8; unfold putW; go_simp; first | done | with_reducible rfl | rfl) ?_
            have hX7 : Bel W (putW X6 B8 (a && !b) (.slice Ay y.length cy)) := putW_bel hX6 L8
            refine ⟨hX7, ?_⟩
            (try simp only [Act.put, List.setIfInBounds_toArray, List.set_cons_zero, List.set_cons_succ])
            have K8 := putW_at (A := Ay) (n := y.length) (c := cy) (a && !b) F8
            have K7 := K7.putW (all := a && !b) (v := .slice Ay y.length cy) NE
            have Sx := Sx.putW (all := a && !b) (v := .slice Ay y.length cy) Px8
            have Sy := Sy.putW (all := a && !b) (v := .slice Ay y.length cy) Py8
            generalize putW X6 B8 (a && !b) (.slice Ay y.length cy) = X7 at hX7 K8 K7 Sx Sy ⊢
            refine wpAnyH_done (by kernel_rfl) ?_ _
            refine NoPanic.normal ?_
            go_wp2
            go_meet
            exact ⟨⟨B7, B8, Ax, Ay, cx, cy, rfl, rfl, K7, K8, Sx, Sy, Nx, Ny⟩, hX7⟩
          · refine wpOp_value (o := { dst := some 8, op := Op.alloc 24, type := 0, pos := "law.go:106", after := #[], guard := none }) (v := .pointer (some ⟨X3.heap.size, 0, none⟩)) (w' := X3.alloc (.cells #[.bool false, .slice none 0 0] 24)) rfl (by rfl) (by go_simp; first | done | with_reducible rfl | rfl) ?_
            have hb' : Bel X3 (X3.alloc (.cells #[.bool false, .slice none 0 0] 24)) := (Bel.refl _).alloc _
            refine ⟨hX3.trans hb', ?_⟩
            (try simp only [Act.put, List.setIfInBounds_toArray, List.set_cons_zero, List.set_cons_succ])
            have F8 := FreeW.new X3
            have L8 : W.heap.size ≤ X3.heap.size := hX3.size
            generalize X3.alloc (.cells #[.bool false, .slice none 0 0] 24) = X4 at hb' F8 ⊢
            have hX4 := hX3.trans hb'
            have Px8 := apart_new Sx Ox
            have Sx := Sx.keep hb'
            have Po8 := apart_new So Oo
            have So := So.keep hb'
            have NE : B7 ≠ X3.heap.size := Nat.ne_of_lt F7.1
            have F7 := F7.keep hb'
            clear hb'
            generalize X3.heap.size = B8 at F8 L8 Px8 Po8 NE ⊢
            refine wpAnyH_all (rs := [6]) (by kernel_rfl) (by simp) ?_
            intro i hi
            simp only [List.mem_cons, List.not_mem_nil, or_false] at hi
            subst hi
            refine wpOp_enter (o := { dst := some 17, op := Op.call { callee := Callee.value (Operand.func 15), args := #[Operand.tmp 14, Operand.tmp 16], argTypes := #[24, 24] }, type := 24, pos := "law.go:106", after := #[{ on := 3, ground := Ground.data }, { on := 5, ground := Ground.data }, { on := 5, ground := Ground.chain }], guard := none }) (R := MadeV X4 (fun v => .agg #[.bool (a && !b), v]) y) rfl (by rfl) (by go_simp; first | done | with_reducible rfl | rfl) (MY.out X4 Ao co hX4 So No) ?_
            rintro v X5 ⟨Ay, cy, rfl, Sy, Ny, Gy, hb'⟩
            refine ⟨hX4.trans hb', ?_⟩
            (try simp only [Act.put, List.setIfInBounds_toArray, List.set_cons_zero, List.set_cons_succ])
            have hX5 := hX4.trans hb'
            have Oy := own1_of Gy
            have Sx := Sx.keep hb'
            have So := So.keep hb'
            have Py7 := apart_old Gy F7.1
            have F7 := F7.keep hb'
            have Py8 := apart_old Gy F8.1
            have F8 := F8.keep hb'
            clear hb' Gy
            refine wpAnyH_all (rs := [9]) (by kernel_rfl) (by simp) ?_
            intro i hi
            simp only [List.mem_cons, List.not_mem_nil, or_false] at hi
            subst hi
            refine wpOp_skip (o := { dst := none, op := Op.store 24 (Operand.tmp 7) (Operand.tmp 13), type := 0, pos := "law.go:106", after := #[{ on := 7, ground := Ground.data }, { on := 2, ground := Ground.data }, { on := 6, ground := Ground.chain }, { on := 0, ground := Ground.phase }, { on := 1, ground := Ground.phase }, { on := 2, ground := Ground.phase }, { on := 3, ground := Ground.textOnly Departure.lateStores }, { on := 4, ground := Ground.textOnly Departure.lateStores }, { on := 5, ground := Ground.textOnly Departure.lateStoresUnsure }, { on := 6, ground := Ground.textOnly Departure.lateStoresUnsure }, { on := 7, ground := Ground.phase }, { on := 8, ground := Ground.phase }], guard := none }) (w' := putW X5 B7 (a && b) (.slice Ax x.length cx)) rfl (by rfl) (by obtain ⟨f0, f1, f2, f3, f4⟩ := F7; unfold putW; go_simp; first | done | with_reducible rfl | rfl) ?_
            have hX6 : Bel W (putW X5 B7 (a && b) (.slice Ax x.length cx)) := putW_bel hX5 L7
            refine ⟨hX6, ?_⟩
            (try simp only [Act.put, List.setIfInBounds_toArray, List.set_cons_zero, List.set_cons_succ])
            have K7 := putW_at (A := Ax) (n := x.length) (c := cx) (a && b) F7
            have F8 := F8.putW (all := a && b) (v := .slice Ax x.length cx) NE.symm
            have Sx := Sx.putW (all := a && b) (v := .slice Ax x.length cx) Px7
            have Sy := Sy.putW (all := a && b) (v := .slice Ax x.length cx) Py7
            generalize putW X5 B7 (a && b) (.slice Ax x.length cx) = X6 at hX6 K7 F8 Sx Sy ⊢
            refine wpAnyH_all (rs := [10]) (by kernel_rfl) (by simp) ?_
            intro i hi
            simp only [List.mem_cons, List.not_mem_nil, or_false] at hi
            subst hi
            refine wpOp_skip (o := { dst := none, op := Op.store 24 (Operand.tmp 8) (Operand.tmp 17), type := 0, pos := "law.go:106", after := #[{ on := 8, ground := Ground.data }, { on := 6, ground := Ground.data }, { on := 9, ground := Ground.chain }, { on := 0, ground := Ground.phase }, { on := 1, ground := Ground.phase }, { on := 2, ground := Ground.phase }, { on := 3, ground := Ground.phase }, { on := 4, ground := Ground.phase }, { on := 5, ground := Ground.phase }, { on := 6, ground := Ground.phase }, { on := 7, ground := Ground.phase }, { on := 8, ground := Ground.phase }, { on := 9, ground := Ground.phase }], guard := none }) (w' := putW X6 B8 (a && !b) (.slice Ay y.length cy)) rfl (by rfl) (by obtain ⟨f0, f1, f2, f3, f4⟩ := F8; unfold putW; go_simp; first | done | with_reducible rfl | rfl) ?_
            have hX7 : Bel W (putW X6 B8 (a && !b) (.slice Ay y.length cy)) := putW_bel hX6 L8
            refine ⟨hX7, ?_⟩
            (try simp only [Act.put, List.setIfInBounds_toArray, List.set_cons_zero, List.set_cons_succ])
            have K8 := putW_at (A := Ay) (n := y.length) (c := cy) (a && !b) F8
            have K7 := K7.putW (all := a && !b) (v := .slice Ay y.length cy) NE
            have Sx := Sx.putW (all := a && !b) (v := .slice Ay y.length cy) Px8
            have Sy := Sy.putW (all := a && !b) (v := .slice Ay y.length cy) Py8
            generalize putW X6 B8 (a && !b) (.slice Ay y.length cy) = X7 at hX7 K8 K7 Sx Sy ⊢
            refine wpAnyH_done (by kernel_rfl) ?_ _
            refine NoPanic.normal ?_
            go_wp2
            go_meet
            exact ⟨⟨B7, B8, Ax, Ay, cx, cy, rfl, rfl, K7, K8, Sx, Sy, Nx, Ny⟩, hX7⟩
        · refine wpOp_value (o := { dst := some 8, op := Op.alloc 24, type := 0, pos := "law.go:106", after := #[], guard := none }) (v := .pointer (some ⟨X2.heap.size, 0, none⟩)) (w' := X2.alloc (.cells #[.bool false, .slice none 0 0] 24)) rfl (by rfl) (by go_simp; first | done | with_reducible rfl | rfl) ?_
          have hb' : Bel X2 (X2.alloc (.cells #[.bool false, .slice none 0 0] 24)) := (Bel.refl _).alloc _
          refine ⟨hX2.trans hb', ?_⟩
          (try simp only [Act.put, List.setIfInBounds_toArray, List.set_cons_zero, List.set_cons_succ])
          have F8 := FreeW.new X2
          have L8 : W.heap.size ≤ X2.heap.size := hX2.size
          generalize X2.alloc (.cells #[.bool false, .slice none 0 0] 24) = X3 at hb' F8 ⊢
          have hX3 := hX2.trans hb'
          have Px8 := apart_new Sx Ox
          have Sx := Sx.keep hb'
          have NE : B7 ≠ X2.heap.size := Nat.ne_of_lt F7.1
          have F7 := F7.keep hb'
          clear hb'
          generalize X2.heap.size = B8 at F8 L8 Px8 NE ⊢
          refine wpAnyH_all (rs := [5]) (by kernel_rfl) (by simp) ?_
          intro i hi
          simp only [List.mem_cons, List.not_mem_nil, or_false] at hi
          subst hi
          refine wpOp_enter (o := { dst := some 16, op := Op.call { callee := Callee.value (Operand.func 16), args := #[Operand.tmp 15], argTypes := #[24] }, type := 24, pos := "law.go:106", after := #[{ on := 4, ground := Ground.data }, { on := 2, ground := Ground.chain }], guard := none }) (R := MadeV X3 (fun v => .agg #[.bool !b, v]) o) rfl (by rfl) (by go_simp; first | done | with_reducible rfl | rfl) (OT.out X3 hX3) ?_
          rintro v X4 ⟨Ao, co, rfl, So, No, Go, hb'⟩
          refine ⟨hX3.trans hb', ?_⟩
          (try simp only [Act.put, List.setIfInBounds_toArray, List.set_cons_zero, List.set_cons_succ])
          have hX4 := hX3.trans hb'
          have Oo := own1_of Go
          have Sx := Sx.keep hb'
          have Po7 := apart_old Go F7.1
          have F7 := F7.keep hb'
          have Po8 := apart_old Go F8.1
          have F8 := F8.keep hb'
          clear hb' Go
          refine wpAnyH_all (rs := [6]) (by kernel_rfl) (by simp) ?_
          intro i hi
          simp only [List.mem_cons, List.not_mem_nil, or_false] at hi
          subst hi
          refine wpOp_enter (o := { dst := some 17, op := Op.call { callee := Callee.value (Operand.func 15), args := #[Operand.tmp 14, Operand.tmp 16], argTypes := #[24, 24] }, type := 24, pos := "law.go:106", after := #[{ on := 3, ground := Ground.data }, { on := 5, ground := Ground.data }, { on := 5, ground := Ground.chain }], guard := none }) (R := MadeV X4 (fun v => .agg #[.bool (a && !b), v]) y) rfl (by rfl) (by go_simp; first | done | with_reducible rfl | rfl) (MY.out X4 Ao co hX4 So No) ?_
          rintro v X5 ⟨Ay, cy, rfl, Sy, Ny, Gy, hb'⟩
          refine ⟨hX4.trans hb', ?_⟩
          (try simp only [Act.put, List.setIfInBounds_toArray, List.set_cons_zero, List.set_cons_succ])
          have hX5 := hX4.trans hb'
          have Oy := own1_of Gy
          have Sx := Sx.keep hb'
          have So := So.keep hb'
          have Py7 := apart_old Gy F7.1
          have F7 := F7.keep hb'
          have Py8 := apart_old Gy F8.1
          have F8 := F8.keep hb'
          clear hb' Gy
          refine wpAnyH_all (rs := [9]) (by kernel_rfl) (by simp) ?_
          intro i hi
          simp only [List.mem_cons, List.not_mem_nil, or_false] at hi
          subst hi
          refine wpOp_skip (o := { dst := none, op := Op.store 24 (Operand.tmp 7) (Operand.tmp 13), type := 0, pos := "law.go:106", after := #[{ on := 7, ground := Ground.data }, { on := 2, ground := Ground.data }, { on := 6, ground := Ground.chain }, { on := 0, ground := Ground.phase }, { on := 1, ground := Ground.phase }, { on := 2, ground := Ground.phase }, { on := 3, ground := Ground.textOnly Departure.lateStores }, { on := 4, ground := Ground.textOnly Departure.lateStores }, { on := 5, ground := Ground.textOnly Departure.lateStoresUnsure }, { on := 6, ground := Ground.textOnly Departure.lateStoresUnsure }, { on := 7, ground := Ground.phase }, { on := 8, ground := Ground.phase }], guard := none }) (w' := putW X5 B7 (a && b) (.slice Ax x.length cx)) rfl (by rfl) (by obtain ⟨f0, f1, f2, f3, f4⟩ := F7; unfold putW; go_simp; first | done | with_reducible rfl | rfl) ?_
          have hX6 : Bel W (putW X5 B7 (a && b) (.slice Ax x.length cx)) := putW_bel hX5 L7
          refine ⟨hX6, ?_⟩
          (try simp only [Act.put, List.setIfInBounds_toArray, List.set_cons_zero, List.set_cons_succ])
          have K7 := putW_at (A := Ax) (n := x.length) (c := cx) (a && b) F7
          have F8 := F8.putW (all := a && b) (v := .slice Ax x.length cx) NE.symm
          have Sx := Sx.putW (all := a && b) (v := .slice Ax x.length cx) Px7
          have Sy := Sy.putW (all := a && b) (v := .slice Ax x.length cx) Py7
          generalize putW X5 B7 (a && b) (.slice Ax x.length cx) = X6 at hX6 K7 F8 Sx Sy ⊢
          refine wpAnyH_all (rs := [10]) (by kernel_rfl) (by simp) ?_
          intro i hi
          simp only [List.mem_cons, List.not_mem_nil, or_false] at hi
          subst hi
          refine wpOp_skip (o := { dst := none, op := Op.store 24 (Operand.tmp 8) (Operand.tmp 17), type := 0, pos := "law.go:106", after := #[{ on := 8, ground := Ground.data }, { on := 6, ground := Ground.data }, { on := 9, ground := Ground.chain }, { on := 0, ground := Ground.phase }, { on := 1, ground := Ground.phase }, { on := 2, ground := Ground.phase }, { on := 3, ground := Ground.phase }, { on := 4, ground := Ground.phase }, { on := 5, ground := Ground.phase }, { on := 6, ground := Ground.phase }, { on := 7, ground := Ground.phase }, { on := 8, ground := Ground.phase }, { on := 9, ground := Ground.phase }], guard := none }) (w' := putW X6 B8 (a && !b) (.slice Ay y.length cy)) rfl (by rfl) (by obtain ⟨f0, f1, f2, f3, f4⟩ := F8; unfold putW; go_simp; first | done | with_reducible rfl | rfl) ?_
          have hX7 : Bel W (putW X6 B8 (a && !b) (.slice Ay y.length cy)) := putW_bel hX6 L8
          refine ⟨hX7, ?_⟩
          (try simp only [Act.put, List.setIfInBounds_toArray, List.set_cons_zero, List.set_cons_succ])
          have K8 := putW_at (A := Ay) (n := y.length) (c := cy) (a && !b) F8
          have K7 := K7.putW (all := a && !b) (v := .slice Ay y.length cy) NE
          have Sx := Sx.putW (all := a && !b) (v := .slice Ay y.length cy) Px8
          have Sy := Sy.putW (all := a && !b) (v := .slice Ay y.length cy) Py8
          generalize putW X6 B8 (a && !b) (.slice Ay y.length cy) = X7 at hX7 K8 K7 Sx Sy ⊢
          refine wpAnyH_done (by kernel_rfl) ?_ _
          refine NoPanic.normal ?_
          go_wp2
          go_meet
          exact ⟨⟨B7, B8, Ax, Ay, cx, cy, rfl, rfl, K7, K8, Sx, Sy, Nx, Ny⟩, hX7⟩
      · refine wpOp_value (o := { dst := some 8, op := Op.alloc 24, type := 0, pos := "law.go:106", after := #[], guard := none }) (v := .pointer (some ⟨X1.heap.size, 0, none⟩)) (w' := X1.alloc (.cells #[.bool false, .slice none 0 0] 24)) rfl (by rfl) (by go_simp; first | done | with_reducible rfl | rfl) ?_
        have hb' : Bel X1 (X1.alloc (.cells #[.bool false, .slice none 0 0] 24)) := (Bel.refl _).alloc _
        refine ⟨hX1.trans hb', ?_⟩
        (try simp only [Act.put, List.setIfInBounds_toArray, List.set_cons_zero, List.set_cons_succ])
        have F8 := FreeW.new X1
        have L8 : W.heap.size ≤ X1.heap.size := hX1.size
        generalize X1.alloc (.cells #[.bool false, .slice none 0 0] 24) = X2 at hb' F8 ⊢
        have hX2 := hX1.trans hb'
        have NE : B7 ≠ X1.heap.size := Nat.ne_of_lt F7.1
        have F7 := F7.keep hb'
        clear hb'
        generalize X1.heap.size = B8 at F8 L8 NE ⊢
        refine wpAnyH_all (rs := [2]) (by kernel_rfl) (by simp) ?_
        intro i hi
        simp only [List.mem_cons, List.not_mem_nil, or_false] at hi
        subst hi
        refine wpOp_enter (o := { dst := some 13, op := Op.call { callee := Callee.value (Operand.func 15), args := #[Operand.tmp 11, Operand.tmp 12], argTypes := #[24, 24] }, type := 24, pos := "law.go:106", after := #[{ on := 0, ground := Ground.data }, { on := 1, ground := Ground.data }], guard := none }) (R := MadeV X2 (fun v => .agg #[.bool (a && b), v]) x) rfl (by rfl) (by go_simp; first | done | with_reducible rfl | rfl) (ME.out X2 hX2) ?_
        rintro v X3 ⟨Ax, cx, rfl, Sx, Nx, Gx, hb'⟩
        refine ⟨hX2.trans hb', ?_⟩
        (try simp only [Act.put, List.setIfInBounds_toArray, List.set_cons_zero, List.set_cons_succ])
        have hX3 := hX2.trans hb'
        have Ox := own1_of Gx
        have Px7 := apart_old Gx F7.1
        have F7 := F7.keep hb'
        have Px8 := apart_old Gx F8.1
        have F8 := F8.keep hb'
        clear hb' Gx
        refine wpAnyH_all (rs := [5]) (by kernel_rfl) (by simp) ?_
        intro i hi
        simp only [List.mem_cons, List.not_mem_nil, or_false] at hi
        subst hi
        refine wpOp_enter (o := { dst := some 16, op := Op.call { callee := Callee.value (Operand.func 16), args := #[Operand.tmp 15], argTypes := #[24] }, type := 24, pos := "law.go:106", after := #[{ on := 4, ground := Ground.data }, { on := 2, ground := Ground.chain }], guard := none }) (R := MadeV X3 (fun v => .agg #[.bool !b, v]) o) rfl (by rfl) (by go_simp; first | done | with_reducible rfl | rfl) (OT.out X3 hX3) ?_
        rintro v X4 ⟨Ao, co, rfl, So, No, Go, hb'⟩
        refine ⟨hX3.trans hb', ?_⟩
        (try simp only [Act.put, List.setIfInBounds_toArray, List.set_cons_zero, List.set_cons_succ])
        have hX4 := hX3.trans hb'
        have Oo := own1_of Go
        have Sx := Sx.keep hb'
        have Po7 := apart_old Go F7.1
        have F7 := F7.keep hb'
        have Po8 := apart_old Go F8.1
        have F8 := F8.keep hb'
        clear hb' Go
        refine wpAnyH_all (rs := [6]) (by kernel_rfl) (by simp) ?_
        intro i hi
        simp only [List.mem_cons, List.not_mem_nil, or_false] at hi
        subst hi
        refine wpOp_enter (o := { dst := some 17, op := Op.call { callee := Callee.value (Operand.func 15), args := #[Operand.tmp 14, Operand.tmp 16], argTypes := #[24, 24] }, type := 24, pos := "law.go:106", after := #[{ on := 3, ground := Ground.data }, { on := 5, ground := Ground.data }, { on := 5, ground := Ground.chain }], guard := none }) (R := MadeV X4 (fun v => .agg #[.bool (a && !b), v]) y) rfl (by rfl) (by go_simp; first | done | with_reducible rfl | rfl) (MY.out X4 Ao co hX4 So No) ?_
        rintro v X5 ⟨Ay, cy, rfl, Sy, Ny, Gy, hb'⟩
        refine ⟨hX4.trans hb', ?_⟩
        (try simp only [Act.put, List.setIfInBounds_toArray, List.set_cons_zero, List.set_cons_succ])
        have hX5 := hX4.trans hb'
        have Oy := own1_of Gy
        have Sx := Sx.keep hb'
        have So := So.keep hb'
        have Py7 := apart_old Gy F7.1
        have F7 := F7.keep hb'
        have Py8 := apart_old Gy F8.1
        have F8 := F8.keep hb'
        clear hb' Gy
        refine wpAnyH_all (rs := [9]) (by kernel_rfl) (by simp) ?_
        intro i hi
        simp only [List.mem_cons, List.not_mem_nil, or_false] at hi
        subst hi
        refine wpOp_skip (o := { dst := none, op := Op.store 24 (Operand.tmp 7) (Operand.tmp 13), type := 0, pos := "law.go:106", after := #[{ on := 7, ground := Ground.data }, { on := 2, ground := Ground.data }, { on := 6, ground := Ground.chain }, { on := 0, ground := Ground.phase }, { on := 1, ground := Ground.phase }, { on := 2, ground := Ground.phase }, { on := 3, ground := Ground.textOnly Departure.lateStores }, { on := 4, ground := Ground.textOnly Departure.lateStores }, { on := 5, ground := Ground.textOnly Departure.lateStoresUnsure }, { on := 6, ground := Ground.textOnly Departure.lateStoresUnsure }, { on := 7, ground := Ground.phase }, { on := 8, ground := Ground.phase }], guard := none }) (w' := putW X5 B7 (a && b) (.slice Ax x.length cx)) rfl (by rfl) (by obtain ⟨f0, f1, f2, f3, f4⟩ := F7; unfold putW; go_simp; first | done | with_reducible rfl | rfl) ?_
        have hX6 : Bel W (putW X5 B7 (a && b) (.slice Ax x.length cx)) := putW_bel hX5 L7
        refine ⟨hX6, ?_⟩
        (try simp only [Act.put, List.setIfInBounds_toArray, List.set_cons_zero, List.set_cons_succ])
        have K7 := putW_at (A := Ax) (n := x.length) (c := cx) (a && b) F7
        have F8 := F8.putW (all := a && b) (v := .slice Ax x.length cx) NE.symm
        have Sx := Sx.putW (all := a && b) (v := .slice Ax x.length cx) Px7
        have Sy := Sy.putW (all := a && b) (v := .slice Ax x.length cx) Py7
        generalize putW X5 B7 (a && b) (.slice Ax x.length cx) = X6 at hX6 K7 F8 Sx Sy ⊢
        refine wpAnyH_all (rs := [10]) (by kernel_rfl) (by simp) ?_
        intro i hi
        simp only [List.mem_cons, List.not_mem_nil, or_false] at hi
        subst hi
        refine wpOp_skip (o := { dst := none, op := Op.store 24 (Operand.tmp 8) (Operand.tmp 17), type := 0, pos := "law.go:106", after := #[{ on := 8, ground := Ground.data }, { on := 6, ground := Ground.data }, { on := 9, ground := Ground.chain }, { on := 0, ground := Ground.phase }, { on := 1, ground := Ground.phase }, { on := 2, ground := Ground.phase }, { on := 3, ground := Ground.phase }, { on := 4, ground := Ground.phase }, { on := 5, ground := Ground.phase }, { on := 6, ground := Ground.phase }, { on := 7, ground := Ground.phase }, { on := 8, ground := Ground.phase }, { on := 9, ground := Ground.phase }], guard := none }) (w' := putW X6 B8 (a && !b) (.slice Ay y.length cy)) rfl (by rfl) (by obtain ⟨f0, f1, f2, f3, f4⟩ := F8; unfold putW; go_simp; first | done | with_reducible rfl | rfl) ?_
        have hX7 : Bel W (putW X6 B8 (a && !b) (.slice Ay y.length cy)) := putW_bel hX6 L8
        refine ⟨hX7, ?_⟩
        (try simp only [Act.put, List.setIfInBounds_toArray, List.set_cons_zero, List.set_cons_succ])
        have K8 := putW_at (A := Ay) (n := y.length) (c := cy) (a && !b) F8
        have K7 := K7.putW (all := a && !b) (v := .slice Ay y.length cy) NE
        have Sx := Sx.putW (all := a && !b) (v := .slice Ay y.length cy) Px8
        have Sy := Sy.putW (all := a && !b) (v := .slice Ay y.length cy) Py8
        generalize putW X6 B8 (a && !b) (.slice Ay y.length cy) = X7 at hX7 K8 K7 Sx Sy ⊢
        refine wpAnyH_done (by kernel_rfl) ?_ _
        refine NoPanic.normal ?_
        go_wp2
        go_meet
        exact ⟨⟨B7, B8, Ax, Ay, cx, cy, rfl, rfl, K7, K8, Sx, Sy, Nx, Ny⟩, hX7⟩
    · refine wpOp_value (o := { dst := some 8, op := Op.alloc 24, type := 0, pos := "law.go:106", after := #[], guard := none }) (v := .pointer (some ⟨X0.heap.size, 0, none⟩)) (w' := X0.alloc (.cells #[.bool false, .slice none 0 0] 24)) rfl (by rfl) (by go_simp; first | done | with_reducible rfl | rfl) ?_
      have hb' : Bel X0 (X0.alloc (.cells #[.bool false, .slice none 0 0] 24)) := (Bel.refl _).alloc _
      refine ⟨hX0.trans hb', ?_⟩
      (try simp only [Act.put, List.setIfInBounds_toArray, List.set_cons_zero, List.set_cons_succ])
      have F8 := FreeW.new X0
      have L8 : W.heap.size ≤ X0.heap.size := hX0.size
      generalize X0.alloc (.cells #[.bool false, .slice none 0 0] 24) = X1 at hb' F8 ⊢
      have hX1 := hX0.trans hb'
      clear hb'
      generalize X0.heap.size = B8 at F8 L8 ⊢
      refine wpAnyH_all (rs := [2, 7]) (by kernel_rfl) (by simp) ?_
      intro i hi
      simp only [List.mem_cons, List.not_mem_nil, or_false] at hi
      rcases hi with rfl | rfl
      · refine wpOp_enter (o := { dst := some 13, op := Op.call { callee := Callee.value (Operand.func 15), args := #[Operand.tmp 11, Operand.tmp 12], argTypes := #[24, 24] }, type := 24, pos := "law.go:106", after := #[{ on := 0, ground := Ground.data }, { on := 1, ground := Ground.data }], guard := none }) (R := MadeV X1 (fun v => .agg #[.bool (a && b), v]) x) rfl (by rfl) (by go_simp; first | done | with_reducible rfl | rfl) (ME.out X1 hX1) ?_
        rintro v X2 ⟨Ax, cx, rfl, Sx, Nx, Gx, hb'⟩
        refine ⟨hX1.trans hb', ?_⟩
        (try simp only [Act.put, List.setIfInBounds_toArray, List.set_cons_zero, List.set_cons_succ])
        have hX2 := hX1.trans hb'
        have Ox := own1_of Gx
        have Px8 := apart_old Gx F8.1
        have F8 := F8.keep hb'
        clear hb' Gx
        refine wpAnyH_all (rs := [5, 7]) (by kernel_rfl) (by simp) ?_
        intro i hi
        simp only [List.mem_cons, List.not_mem_nil, or_false] at hi
        rcases hi with rfl | rfl
        · refine wpOp_enter (o := { dst := some 16, op := Op.call { callee := Callee.value (Operand.func 16), args := #[Operand.tmp 15], argTypes := #[24] }, type := 24, pos := "law.go:106", after := #[{ on := 4, ground := Ground.data }, { on := 2, ground := Ground.chain }], guard := none }) (R := MadeV X2 (fun v => .agg #[.bool !b, v]) o) rfl (by rfl) (by go_simp; first | done | with_reducible rfl | rfl) (OT.out X2 hX2) ?_
          rintro v X3 ⟨Ao, co, rfl, So, No, Go, hb'⟩
          refine ⟨hX2.trans hb', ?_⟩
          (try simp only [Act.put, List.setIfInBounds_toArray, List.set_cons_zero, List.set_cons_succ])
          have hX3 := hX2.trans hb'
          have Oo := own1_of Go
          have Sx := Sx.keep hb'
          have Po8 := apart_old Go F8.1
          have F8 := F8.keep hb'
          clear hb' Go
          refine wpAnyH_all (rs := [6, 7]) (by kernel_rfl) (by simp) ?_
          intro i hi
          simp only [List.mem_cons, List.not_mem_nil, or_false] at hi
          rcases hi with rfl | rfl
          · refine wpOp_enter (o := { dst := some 17, op := Op.call { callee := Callee.value (Operand.func 15), args := #[Operand.tmp 14, Operand.tmp 16], argTypes := #[24, 24] }, type := 24, pos := "law.go:106", after := #[{ on := 3, ground := Ground.data }, { on := 5, ground := Ground.data }, { on := 5, ground := Ground.chain }], guard := none }) (R := MadeV X3 (fun v => .agg #[.bool (a && !b), v]) y) rfl (by rfl) (by go_simp; first | done | with_reducible rfl | rfl) (MY.out X3 Ao co hX3 So No) ?_
            rintro v X4 ⟨Ay, cy, rfl, Sy, Ny, Gy, hb'⟩
            refine ⟨hX3.trans hb', ?_⟩
            (try simp only [Act.put, List.setIfInBounds_toArray, List.set_cons_zero, List.set_cons_succ])
            have hX4 := hX3.trans hb'
            have Oy := own1_of Gy
            have Sx := Sx.keep hb'
            have So := So.keep hb'
            have Py8 := apart_old Gy F8.1
            have F8 := F8.keep hb'
            clear hb' Gy
            refine wpAnyH_all (rs := [7]) (by kernel_rfl) (by simp) ?_
            intro i hi
            simp only [List.mem_cons, List.not_mem_nil, or_false] at hi
            subst hi
            refine wpOp_value (o := { dst := some 7, op := Op.alloc 24, type := 0, pos := "law.go:106", after := #[], guard := none }) (v := .pointer (some ⟨X4.heap.size, 0, none⟩)) (w' := X4.alloc (.cells #[.bool false, .slice none 0 0] 24)) rfl (by rfl) (by go_simp; first | done | with_reducible rfl | rfl) ?_
            have hb' : Bel X4 (X4.alloc (.cells #[.bool false, .slice none 0 0] 24)) := (Bel.refl _).alloc _
            refine ⟨hX4.trans hb', ?_⟩
            (try simp only [Act.put, List.setIfInBounds_toArray, List.set_cons_zero, List.set_cons_succ])
            have F7 := FreeW.new X4
            have L7 : W.heap.size ≤ X4.heap.size := hX4.size
            generalize X4.alloc (.cells #[.bool false, .slice none 0 0] 24) = X5 at hb' F7 ⊢
            have hX5 := hX4.trans hb'
            have Px7 := apart_new Sx Ox
            have Sx := Sx.keep hb'
            have Po7 := apart_new So Oo
            have So := So.keep hb'
            have Py7 := apart_new Sy Oy
            have Sy := Sy.keep hb'
            have NE : B8 ≠ X4.heap.size := Nat.ne_of_lt F8.1
            have F8 := F8.keep hb'
            clear hb'
            generalize X4.heap.size = B7 at F7 L7 Px7 Po7 Py7 NE ⊢
            have NE := NE.symm
            refine wpAnyH_all (rs := [9]) (by kernel_rfl) (by simp) ?_
            intro i hi
            simp only [List.mem_cons, List.not_mem_nil, or_false] at hi
            subst hi
            refine wpOp_skip (o := { dst := none, op := Op.store 24 (Operand.tmp 7) (Operand.tmp 13), type := 0, pos := "law.go:106", after := #[{ on := 7, ground := Ground.data }, { on := 2, ground := Ground.data }, { on := 6, ground := Ground.chain }, { on := 0, ground := Ground.phase }, { on := 1, ground := Ground.phase }, { on := 2, ground := Ground.phase }, { on := 3, ground := Ground.textOnly Departure.lateStores }, { on := 4, ground := Ground.textOnly Departure.lateStores }, { on := 5, ground := Ground.textOnly Departure.lateStoresUnsure }, { on := 6, ground := Ground.textOnly Departure.lateStoresUnsure }, { on := 7, ground := Ground.phase }, { on := 8, ground := Ground.phase }], guard := none }) (w' := putW X5 B7 (a && b) (.slice Ax x.length cx)) rfl (by rfl) (by obtain ⟨f0, f1, f2, f3, f4⟩ := F7; unfold putW; go_simp; first | done | with_reducible rfl | rfl) ?_
            have hX6 : Bel W (putW X5 B7 (a && b) (.slice Ax x.length cx)) := putW_bel hX5 L7
            refine ⟨hX6, ?_⟩
            (try simp only [Act.put, List.setIfInBounds_toArray, List.set_cons_zero, List.set_cons_succ])
            have K7 := putW_at (A := Ax) (n := x.length) (c := cx) (a && b) F7
            have F8 := F8.putW (all := a && b) (v := .slice Ax x.length cx) NE.symm
            have Sx := Sx.putW (all := a && b) (v := .slice Ax x.length cx) Px7
            have Sy := Sy.putW (all := a && b) (v := .slice Ax x.length cx) Py7
            generalize putW X5 B7 (a && b) (.slice Ax x.length cx) = X6 at hX6 K7 F8 Sx Sy ⊢
            refine wpAnyH_all (rs := [10]) (by kernel_rfl) (by simp) ?_
            intro i hi
            simp only [List.mem_cons, List.not_mem_nil, or_false] at hi
            subst hi
            refine wpOp_skip (o := { dst := none, op := Op.store 24 (Operand.tmp 8) (Operand.tmp 17), type := 0, pos := "law.go:106", after := #[{ on := 8, ground := Ground.data }, { on := 6, ground := Ground.data }, { on := 9, ground := Ground.chain }, { on := 0, ground := Ground.phase }, { on := 1, ground := Ground.phase }, { on := 2, ground := Ground.phase }, { on := 3, ground := Ground.phase }, { on := 4, ground := Ground.phase }, { on := 5, ground := Ground.phase }, { on := 6, ground := Ground.phase }, { on := 7, ground := Ground.phase }, { on := 8, ground := Ground.phase }, { on := 9, ground := Ground.phase }], guard := none }) (w' := putW X6 B8 (a && !b) (.slice Ay y.length cy)) rfl (by rfl) (by obtain ⟨f0, f1, f2, f3, f4⟩ := F8; unfold putW; go_simp; first | done | with_reducible rfl | rfl) ?_
            have hX7 : Bel W (putW X6 B8 (a && !b) (.slice Ay y.length cy)) := putW_bel hX6 L8
            refine ⟨hX7, ?_⟩
            (try simp only [Act.put, List.setIfInBounds_toArray, List.set_cons_zero, List.set_cons_succ])
            have K8 := putW_at (A := Ay) (n := y.length) (c := cy) (a && !b) F8
            have K7 := K7.putW (all := a && !b) (v := .slice Ay y.length cy) NE
            have Sx := Sx.putW (all := a && !b) (v := .slice Ay y.length cy) Px8
            have Sy := Sy.putW (all := a && !b) (v := .slice Ay y.length cy) Py8
            generalize putW X6 B8 (a && !b) (.slice Ay y.length cy) = X7 at hX7 K8 K7 Sx Sy ⊢
            refine wpAnyH_done (by kernel_rfl) ?_ _
            refine NoPanic.normal ?_
            go_wp2
            go_meet
            exact ⟨⟨B7, B8, Ax, Ay, cx, cy, rfl, rfl, K7, K8, Sx, Sy, Nx, Ny⟩, hX7⟩
          · refine wpOp_value (o := { dst := some 7, op := Op.alloc 24, type := 0, pos := "law.go:106", after := #[], guard := none }) (v := .pointer (some ⟨X3.heap.size, 0, none⟩)) (w' := X3.alloc (.cells #[.bool false, .slice none 0 0] 24)) rfl (by rfl) (by go_simp; first | done | with_reducible rfl | rfl) ?_
            have hb' : Bel X3 (X3.alloc (.cells #[.bool false, .slice none 0 0] 24)) := (Bel.refl _).alloc _
            refine ⟨hX3.trans hb', ?_⟩
            (try simp only [Act.put, List.setIfInBounds_toArray, List.set_cons_zero, List.set_cons_succ])
            have F7 := FreeW.new X3
            have L7 : W.heap.size ≤ X3.heap.size := hX3.size
            generalize X3.alloc (.cells #[.bool false, .slice none 0 0] 24) = X4 at hb' F7 ⊢
            have hX4 := hX3.trans hb'
            have Px7 := apart_new Sx Ox
            have Sx := Sx.keep hb'
            have Po7 := apart_new So Oo
            have So := So.keep hb'
            have NE : B8 ≠ X3.heap.size := Nat.ne_of_lt F8.1
            have F8 := F8.keep hb'
            clear hb'
            generalize X3.heap.size = B7 at F7 L7 Px7 Po7 NE ⊢
            have NE := NE.symm
            refine wpAnyH_all (rs := [6]) (by kernel_rfl) (by simp) ?_
            intro i hi
            simp only [List.mem_cons, List.not_mem_nil, or_false] at hi
            subst hi
            refine wpOp_enter (o := { dst := some 17, op := Op.call { callee := Callee.value (Operand.func 15), args := #[Operand.tmp 14, Operand.tmp 16], argTypes := #[24, 24] }, type := 24, pos := "law.go:106", after := #[{ on := 3, ground := Ground.data }, { on := 5, ground := Ground.data }, { on := 5, ground := Ground.chain }], guard := none }) (R := MadeV X4 (fun v => .agg #[.bool (a && !b), v]) y) rfl (by rfl) (by go_simp; first | done | with_reducible rfl | rfl) (MY.out X4 Ao co hX4 So No) ?_
            rintro v X5 ⟨Ay, cy, rfl, Sy, Ny, Gy, hb'⟩
            refine ⟨hX4.trans hb', ?_⟩
            (try simp only [Act.put, List.setIfInBounds_toArray, List.set_cons_zero, List.set_cons_succ])
            have hX5 := hX4.trans hb'
            have Oy := own1_of Gy
            have Sx := Sx.keep hb'
            have So := So.keep hb'
            have Py7 := apart_old Gy F7.1
            have F7 := F7.keep hb'
            have Py8 := apart_old Gy F8.1
            have F8 := F8.keep hb'
            clear hb' Gy
            refine wpAnyH_all (rs := [9]) (by kernel_rfl) (by simp) ?_
            intro i hi
            simp only [List.mem_cons, List.not_mem_nil, or_false] at hi
            subst hi
            refine wpOp_skip (o := { dst := none, op := Op.store 24 (Operand.tmp 7) (Operand.tmp 13), type := 0, pos := "law.go:106", after := #[{ on := 7, ground := Ground.data }, { on := 2, ground := Ground.data }, { on := 6, ground := Ground.chain }, { on := 0, ground := Ground.phase }, { on := 1, ground := Ground.phase }, { on := 2, ground := Ground.phase }, { on := 3, ground := Ground.textOnly Departure.lateStores }, { on := 4, ground := Ground.textOnly Departure.lateStores }, { on := 5, ground := Ground.textOnly Departure.lateStoresUnsure }, { on := 6, ground := Ground.textOnly Departure.lateStoresUnsure }, { on := 7, ground := Ground.phase }, { on := 8, ground := Ground.phase }], guard := none }) (w' := putW X5 B7 (a && b) (.slice Ax x.length cx)) rfl (by rfl) (by obtain ⟨f0, f1, f2, f3, f4⟩ := F7; unfold putW; go_simp; first | done | with_reducible rfl | rfl) ?_
            have hX6 : Bel W (putW X5 B7 (a && b) (.slice Ax x.length cx)) := putW_bel hX5 L7
            refine ⟨hX6, ?_⟩
            (try simp only [Act.put, List.setIfInBounds_toArray, List.set_cons_zero, List.set_cons_succ])
            have K7 := putW_at (A := Ax) (n := x.length) (c := cx) (a && b) F7
            have F8 := F8.putW (all := a && b) (v := .slice Ax x.length cx) NE.symm
            have Sx := Sx.putW (all := a && b) (v := .slice Ax x.length cx) Px7
            have Sy := Sy.putW (all := a && b) (v := .slice Ax x.length cx) Py7
            generalize putW X5 B7 (a && b) (.slice Ax x.length cx) = X6 at hX6 K7 F8 Sx Sy ⊢
            refine wpAnyH_all (rs := [10]) (by kernel_rfl) (by simp) ?_
            intro i hi
            simp only [List.mem_cons, List.not_mem_nil, or_false] at hi
            subst hi
            refine wpOp_skip (o := { dst := none, op := Op.store 24 (Operand.tmp 8) (Operand.tmp 17), type := 0, pos := "law.go:106", after := #[{ on := 8, ground := Ground.data }, { on := 6, ground := Ground.data }, { on := 9, ground := Ground.chain }, { on := 0, ground := Ground.phase }, { on := 1, ground := Ground.phase }, { on := 2, ground := Ground.phase }, { on := 3, ground := Ground.phase }, { on := 4, ground := Ground.phase }, { on := 5, ground := Ground.phase }, { on := 6, ground := Ground.phase }, { on := 7, ground := Ground.phase }, { on := 8, ground := Ground.phase }, { on := 9, ground := Ground.phase }], guard := none }) (w' := putW X6 B8 (a && !b) (.slice Ay y.length cy)) rfl (by rfl) (by obtain ⟨f0, f1, f2, f3, f4⟩ := F8; unfold putW; go_simp; first | done | with_reducible rfl | rfl) ?_
            have hX7 : Bel W (putW X6 B8 (a && !b) (.slice Ay y.length cy)) := putW_bel hX6 L8
            refine ⟨hX7, ?_⟩
            (try simp only [Act.put, List.setIfInBounds_toArray, List.set_cons_zero, List.set_cons_succ])
            have K8 := putW_at (A := Ay) (n := y.length) (c := cy) (a && !b) F8
            have K7 := K7.putW (all := a && !b) (v := .slice Ay y.length cy) NE
            have Sx := Sx.putW (all := a && !b) (v := .slice Ay y.length cy) Px8
            have Sy := Sy.putW (all := a && !b) (v := .slice Ay y.length cy) Py8
            generalize putW X6 B8 (a && !b) (.slice Ay y.length cy) = X7 at hX7 K8 K7 Sx Sy ⊢
            refine wpAnyH_done (by kernel_rfl) ?_ _
            refine NoPanic.normal ?_
            go_wp2
            go_meet
            exact ⟨⟨B7, B8, Ax, Ay, cx, cy, rfl, rfl, K7, K8, Sx, Sy, Nx, Ny⟩, hX7⟩
        · refine wpOp_value (o := { dst := some 7, op := Op.alloc 24, type := 0, pos := "law.go:106", after := #[], guard := none }) (v := .pointer (some ⟨X2.heap.size, 0, none⟩)) (w' := X2.alloc (.cells #[.bool false, .slice none 0 0] 24)) rfl (by rfl) (by go_simp; first | done | with_reducible rfl | rfl) ?_
          have hb' : Bel X2 (X2.alloc (.cells #[.bool false, .slice none 0 0] 24)) := (Bel.refl _).alloc _
          refine ⟨hX2.trans hb', ?_⟩
          (try simp only [Act.put, List.setIfInBounds_toArray, List.set_cons_zero, List.set_cons_succ])
          have F7 := FreeW.new X2
          have L7 : W.heap.size ≤ X2.heap.size := hX2.size
          generalize X2.alloc (.cells #[.bool false, .slice none 0 0] 24) = X3 at hb' F7 ⊢
          have hX3 := hX2.trans hb'
          have Px7 := apart_new Sx Ox
          have Sx := Sx.keep hb'
          have NE : B8 ≠ X2.heap.size := Nat.ne_of_lt F8.1
          have F8 := F8.keep hb'
          clear hb'
          generalize X2.heap.size = B7 at F7 L7 Px7 NE ⊢
          have NE := NE.symm
          refine wpAnyH_all (rs := [5]) (by kernel_rfl) (by simp) ?_
          intro i hi
          simp only [List.mem_cons, List.not_mem_nil, or_false] at hi
          subst hi
          refine wpOp_enter (o := { dst := some 16, op := Op.call { callee := Callee.value (Operand.func 16), args := #[Operand.tmp 15], argTypes := #[24] }, type := 24, pos := "law.go:106", after := #[{ on := 4, ground := Ground.data }, { on := 2, ground := Ground.chain }], guard := none }) (R := MadeV X3 (fun v => .agg #[.bool !b, v]) o) rfl (by rfl) (by go_simp; first | done | with_reducible rfl | rfl) (OT.out X3 hX3) ?_
          rintro v X4 ⟨Ao, co, rfl, So, No, Go, hb'⟩
          refine ⟨hX3.trans hb', ?_⟩
          (try simp only [Act.put, List.setIfInBounds_toArray, List.set_cons_zero, List.set_cons_succ])
          have hX4 := hX3.trans hb'
          have Oo := own1_of Go
          have Sx := Sx.keep hb'
          have Po7 := apart_old Go F7.1
          have F7 := F7.keep hb'
          have Po8 := apart_old Go F8.1
          have F8 := F8.keep hb'
          clear hb' Go
          refine wpAnyH_all (rs := [6]) (by kernel_rfl) (by simp) ?_
          intro i hi
          simp only [List.mem_cons, List.not_mem_nil, or_false] at hi
          subst hi
          refine wpOp_enter (o := { dst := some 17, op := Op.call { callee := Callee.value (Operand.func 15), args := #[Operand.tmp 14, Operand.tmp 16], argTypes := #[24, 24] }, type := 24, pos := "law.go:106", after := #[{ on := 3, ground := Ground.data }, { on := 5, ground := Ground.data }, { on := 5, ground := Ground.chain }], guard := none }) (R := MadeV X4 (fun v => .agg #[.bool (a && !b), v]) y) rfl (by rfl) (by go_simp; first | done | with_reducible rfl | rfl) (MY.out X4 Ao co hX4 So No) ?_
          rintro v X5 ⟨Ay, cy, rfl, Sy, Ny, Gy, hb'⟩
          refine ⟨hX4.trans hb', ?_⟩
          (try simp only [Act.put, List.setIfInBounds_toArray, List.set_cons_zero, List.set_cons_succ])
          have hX5 := hX4.trans hb'
          have Oy := own1_of Gy
          have Sx := Sx.keep hb'
          have So := So.keep hb'
          have Py7 := apart_old Gy F7.1
          have F7 := F7.keep hb'
          have Py8 := apart_old Gy F8.1
          have F8 := F8.keep hb'
          clear hb' Gy
          refine wpAnyH_all (rs := [9]) (by kernel_rfl) (by simp) ?_
          intro i hi
          simp only [List.mem_cons, List.not_mem_nil, or_false] at hi
          subst hi
          refine wpOp_skip (o := { dst := none, op := Op.store 24 (Operand.tmp 7) (Operand.tmp 13), type := 0, pos := "law.go:106", after := #[{ on := 7, ground := Ground.data }, { on := 2, ground := Ground.data }, { on := 6, ground := Ground.chain }, { on := 0, ground := Ground.phase }, { on := 1, ground := Ground.phase }, { on := 2, ground := Ground.phase }, { on := 3, ground := Ground.textOnly Departure.lateStores }, { on := 4, ground := Ground.textOnly Departure.lateStores }, { on := 5, ground := Ground.textOnly Departure.lateStoresUnsure }, { on := 6, ground := Ground.textOnly Departure.lateStoresUnsure }, { on := 7, ground := Ground.phase }, { on := 8, ground := Ground.phase }], guard := none }) (w' := putW X5 B7 (a && b) (.slice Ax x.length cx)) rfl (by rfl) (by obtain ⟨f0, f1, f2, f3, f4⟩ := F7; unfold putW; go_simp; first | done | with_reducible rfl | rfl) ?_
          have hX6 : Bel W (putW X5 B7 (a && b) (.slice Ax x.length cx)) := putW_bel hX5 L7
          refine ⟨hX6, ?_⟩
          (try simp only [Act.put, List.setIfInBounds_toArray, List.set_cons_zero, List.set_cons_succ])
          have K7 := putW_at (A := Ax) (n := x.length) (c := cx) (a && b) F7
          have F8 := F8.putW (all := a && b) (v := .slice Ax x.length cx) NE.symm
          have Sx := Sx.putW (all := a && b) (v := .slice Ax x.length cx) Px7
          have Sy := Sy.putW (all := a && b) (v := .slice Ax x.length cx) Py7
          generalize putW X5 B7 (a && b) (.slice Ax x.length cx) = X6 at hX6 K7 F8 Sx Sy ⊢
          refine wpAnyH_all (rs := [10]) (by kernel_rfl) (by simp) ?_
          intro i hi
          simp only [List.mem_cons, List.not_mem_nil, or_false] at hi
          subst hi
          refine wpOp_skip (o := { dst := none, op := Op.store 24 (Operand.tmp 8) (Operand.tmp 17), type := 0, pos := "law.go:106", after := #[{ on := 8, ground := Ground.data }, { on := 6, ground := Ground.data }, { on := 9, ground := Ground.chain }, { on := 0, ground := Ground.phase }, { on := 1, ground := Ground.phase }, { on := 2, ground := Ground.phase }, { on := 3, ground := Ground.phase }, { on := 4, ground := Ground.phase }, { on := 5, ground := Ground.phase }, { on := 6, ground := Ground.phase }, { on := 7, ground := Ground.phase }, { on := 8, ground := Ground.phase }, { on := 9, ground := Ground.phase }], guard := none }) (w' := putW X6 B8 (a && !b) (.slice Ay y.length cy)) rfl (by rfl) (by obtain ⟨f0, f1, f2, f3, f4⟩ := F8; unfold putW; go_simp; first | done | with_reducible rfl | rfl) ?_
          have hX7 : Bel W (putW X6 B8 (a && !b) (.slice Ay y.length cy)) := putW_bel hX6 L8
          refine ⟨hX7, ?_⟩
          (try simp only [Act.put, List.setIfInBounds_toArray, List.set_cons_zero, List.set_cons_succ])
          have K8 := putW_at (A := Ay) (n := y.length) (c := cy) (a && !b) F8
          have K7 := K7.putW (all := a && !b) (v := .slice Ay y.length cy) NE
          have Sx := Sx.putW (all := a && !b) (v := .slice Ay y.length cy) Px8
          have Sy := Sy.putW (all := a && !b) (v := .slice Ay y.length cy) Py8
          generalize putW X6 B8 (a && !b) (.slice Ay y.length cy) = X7 at hX7 K8 K7 Sx Sy ⊢
          refine wpAnyH_done (by kernel_rfl) ?_ _
          refine NoPanic.normal ?_
          go_wp2
          go_meet
          exact ⟨⟨B7, B8, Ax, Ay, cx, cy, rfl, rfl, K7, K8, Sx, Sy, Nx, Ny⟩, hX7⟩
      · refine wpOp_value (o := { dst := some 7, op := Op.alloc 24, type := 0, pos := "law.go:106", after := #[], guard := none }) (v := .pointer (some ⟨X1.heap.size, 0, none⟩)) (w' := X1.alloc (.cells #[.bool false, .slice none 0 0] 24)) rfl (by rfl) (by go_simp; first | done | with_reducible rfl | rfl) ?_
        have hb' : Bel X1 (X1.alloc (.cells #[.bool false, .slice none 0 0] 24)) := (Bel.refl _).alloc _
        refine ⟨hX1.trans hb', ?_⟩
        (try simp only [Act.put, List.setIfInBounds_toArray, List.set_cons_zero, List.set_cons_succ])
        have F7 := FreeW.new X1
        have L7 : W.heap.size ≤ X1.heap.size := hX1.size
        generalize X1.alloc (.cells #[.bool false, .slice none 0 0] 24) = X2 at hb' F7 ⊢
        have hX2 := hX1.trans hb'
        have NE : B8 ≠ X1.heap.size := Nat.ne_of_lt F8.1
        have F8 := F8.keep hb'
        clear hb'
        generalize X1.heap.size = B7 at F7 L7 NE ⊢
        have NE := NE.symm
        refine wpAnyH_all (rs := [2]) (by kernel_rfl) (by simp) ?_
        intro i hi
        simp only [List.mem_cons, List.not_mem_nil, or_false] at hi
        subst hi
        refine wpOp_enter (o := { dst := some 13, op := Op.call { callee := Callee.value (Operand.func 15), args := #[Operand.tmp 11, Operand.tmp 12], argTypes := #[24, 24] }, type := 24, pos := "law.go:106", after := #[{ on := 0, ground := Ground.data }, { on := 1, ground := Ground.data }], guard := none }) (R := MadeV X2 (fun v => .agg #[.bool (a && b), v]) x) rfl (by rfl) (by go_simp; first | done | with_reducible rfl | rfl) (ME.out X2 hX2) ?_
        rintro v X3 ⟨Ax, cx, rfl, Sx, Nx, Gx, hb'⟩
        refine ⟨hX2.trans hb', ?_⟩
        (try simp only [Act.put, List.setIfInBounds_toArray, List.set_cons_zero, List.set_cons_succ])
        have hX3 := hX2.trans hb'
        have Ox := own1_of Gx
        have Px7 := apart_old Gx F7.1
        have F7 := F7.keep hb'
        have Px8 := apart_old Gx F8.1
        have F8 := F8.keep hb'
        clear hb' Gx
        refine wpAnyH_all (rs := [5]) (by kernel_rfl) (by simp) ?_
        intro i hi
        simp only [List.mem_cons, List.not_mem_nil, or_false] at hi
        subst hi
        refine wpOp_enter (o := { dst := some 16, op := Op.call { callee := Callee.value (Operand.func 16), args := #[Operand.tmp 15], argTypes := #[24] }, type := 24, pos := "law.go:106", after := #[{ on := 4, ground := Ground.data }, { on := 2, ground := Ground.chain }], guard := none }) (R := MadeV X3 (fun v => .agg #[.bool !b, v]) o) rfl (by rfl) (by go_simp; first | done | with_reducible rfl | rfl) (OT.out X3 hX3) ?_
        rintro v X4 ⟨Ao, co, rfl, So, No, Go, hb'⟩
        refine ⟨hX3.trans hb', ?_⟩
        (try simp only [Act.put, List.setIfInBounds_toArray, List.set_cons_zero, List.set_cons_succ])
        have hX4 := hX3.trans hb'
        have Oo := own1_of Go
        have Sx := Sx.keep hb'
        have Po7 := apart_old Go F7.1
        have F7 := F7.keep hb'
        have Po8 := apart_old Go F8.1
        have F8 := F8.keep hb'
        clear hb' Go
        refine wpAnyH_all (rs := [6]) (by kernel_rfl) (by simp) ?_
        intro i hi
        simp only [List.mem_cons, List.not_mem_nil, or_false] at hi
        subst hi
        refine wpOp_enter (o := { dst := some 17, op := Op.call { callee := Callee.value (Operand.func 15), args := #[Operand.tmp 14, Operand.tmp 16], argTypes := #[24, 24] }, type := 24, pos := "law.go:106", after := #[{ on := 3, ground := Ground.data }, { on := 5, ground := Ground.data }, { on := 5, ground := Ground.chain }], guard := none }) (R := MadeV X4 (fun v => .agg #[.bool (a && !b), v]) y) rfl (by rfl) (by go_simp; first | done | with_reducible rfl | rfl) (MY.out X4 Ao co hX4 So No) ?_
        rintro v X5 ⟨Ay, cy, rfl, Sy, Ny, Gy, hb'⟩
        refine ⟨hX4.trans hb', ?_⟩
        (try simp only [Act.put, List.setIfInBounds_toArray, List.set_cons_zero, List.set_cons_succ])
        have hX5 := hX4.trans hb'
        have Oy := own1_of Gy
        have Sx := Sx.keep hb'
        have So := So.keep hb'
        have Py7 := apart_old Gy F7.1
        have F7 := F7.keep hb'
        have Py8 := apart_old Gy F8.1
        have F8 := F8.keep hb'
        clear hb' Gy
        refine wpAnyH_all (rs := [9]) (by kernel_rfl) (by simp) ?_
        intro i hi
        simp only [List.mem_cons, List.not_mem_nil, or_false] at hi
        subst hi
        refine wpOp_skip (o := { dst := none, op := Op.store 24 (Operand.tmp 7) (Operand.tmp 13), type := 0, pos := "law.go:106", after := #[{ on := 7, ground := Ground.data }, { on := 2, ground := Ground.data }, { on := 6, ground := Ground.chain }, { on := 0, ground := Ground.phase }, { on := 1, ground := Ground.phase }, { on := 2, ground := Ground.phase }, { on := 3, ground := Ground.textOnly Departure.lateStores }, { on := 4, ground := Ground.textOnly Departure.lateStores }, { on := 5, ground := Ground.textOnly Departure.lateStoresUnsure }, { on := 6, ground := Ground.textOnly Departure.lateStoresUnsure }, { on := 7, ground := Ground.phase }, { on := 8, ground := Ground.phase }], guard := none }) (w' := putW X5 B7 (a && b) (.slice Ax x.length cx)) rfl (by rfl) (by obtain ⟨f0, f1, f2, f3, f4⟩ := F7; unfold putW; go_simp; first | done | with_reducible rfl | rfl) ?_
        have hX6 : Bel W (putW X5 B7 (a && b) (.slice Ax x.length cx)) := putW_bel hX5 L7
        refine ⟨hX6, ?_⟩
        (try simp only [Act.put, List.setIfInBounds_toArray, List.set_cons_zero, List.set_cons_succ])
        have K7 := putW_at (A := Ax) (n := x.length) (c := cx) (a && b) F7
        have F8 := F8.putW (all := a && b) (v := .slice Ax x.length cx) NE.symm
        have Sx := Sx.putW (all := a && b) (v := .slice Ax x.length cx) Px7
        have Sy := Sy.putW (all := a && b) (v := .slice Ax x.length cx) Py7
        generalize putW X5 B7 (a && b) (.slice Ax x.length cx) = X6 at hX6 K7 F8 Sx Sy ⊢
        refine wpAnyH_all (rs := [10]) (by kernel_rfl) (by simp) ?_
        intro i hi
        simp only [List.mem_cons, List.not_mem_nil, or_false] at hi
        subst hi
        refine wpOp_skip (o := { dst := none, op := Op.store 24 (Operand.tmp 8) (Operand.tmp 17), type := 0, pos := "law.go:106", after := #[{ on := 8, ground := Ground.data }, { on := 6, ground := Ground.data }, { on := 9, ground := Ground.chain }, { on := 0, ground := Ground.phase }, { on := 1, ground := Ground.phase }, { on := 2, ground := Ground.phase }, { on := 3, ground := Ground.phase }, { on := 4, ground := Ground.phase }, { on := 5, ground := Ground.phase }, { on := 6, ground := Ground.phase }, { on := 7, ground := Ground.phase }, { on := 8, ground := Ground.phase }, { on := 9, ground := Ground.phase }], guard := none }) (w' := putW X6 B8 (a && !b) (.slice Ay y.length cy)) rfl (by rfl) (by obtain ⟨f0, f1, f2, f3, f4⟩ := F8; unfold putW; go_simp; first | done | with_reducible rfl | rfl) ?_
        have hX7 : Bel W (putW X6 B8 (a && !b) (.slice Ay y.length cy)) := putW_bel hX6 L8
        refine ⟨hX7, ?_⟩
        (try simp only [Act.put, List.setIfInBounds_toArray, List.set_cons_zero, List.set_cons_succ])
        have K8 := putW_at (A := Ay) (n := y.length) (c := cy) (a && !b) F8
        have K7 := K7.putW (all := a && !b) (v := .slice Ay y.length cy) NE
        have Sx := Sx.putW (all := a && !b) (v := .slice Ay y.length cy) Px8
        have Sy := Sy.putW (all := a && !b) (v := .slice Ay y.length cy) Py8
        generalize putW X6 B8 (a && !b) (.slice Ay y.length cy) = X7 at hX7 K8 K7 Sx Sy ⊢
        refine wpAnyH_done (by kernel_rfl) ?_ _
        refine NoPanic.normal ?_
        go_wp2
        go_meet
        exact ⟨⟨B7, B8, Ax, Ay, cx, cy, rfl, rfl, K7, K8, Sx, Sy, Nx, Ny⟩, hX7⟩
  case rest =>
    clear me ot my lo hl hm hs hs2 hA hA2 hn hn2 ht hfs
    obtain ⟨⟨B7, B8, A7, A8, c7, c8, rfl, rfl, K7, K8, S7, S8, N7, N8⟩, hbc⟩ := hcut
    have hbw := hb.trans hbc
    have K1 := Lib.hid (show WAt W B0 a A l.length c from ⟨z1, m0, m1⟩)
    have K2 := Lib.hid (show WAt W B1 b A2 m.length c2 from ⟨z0, n0, n1⟩)
    have K1 := Lib.hid (K1.out.keep hbc)
    have K2 := Lib.hid (K2.out.keep hbc)
    have NN := Lib.hid (And.intro N7 N8)
    have K7 := Lib.hid K7
    have K8 := Lib.hid K8
    have S7 := Lib.hid S7
    have S8 := Lib.hid S8
    have hbW := hbw
    clear m0 m1 n0 n1 z0 z1 hbc hb N7 N8
    go_upto_region 2 with fail
    go_cut [26] (fun v26 wx => v26 = .bool false ∧ Bel wc wx)
    case first =>
      have MX := Lib.hid fun W (h7 : Strs W A7 x) (h8 : Strs W A8 y) => (show Calls Tryd.prog 15 #[.agg #[.bool (a && b), .slice A7 x.length c7], .agg #[.bool (a && !b), .slice A8 y.length c8]] W fun e w' => ∃ A9 c9, e = .returned (.agg #[.bool false, .slice A9 0 c9]) ∧ Bel W w' from
        (meet_any (a && b) x A7 c7 (a && !b) y A8 c8 W h7 h8 NN.out.1 NN.out.2 (by have := LX.out; have := NL.out; omega) (by have := LY.out; have := NL.out; omega) (fun h1 h2 => by have := LX.out; have := LY.out; have := NL.out; omega) FX.out FY.out).mono fun e w' ⟨A9, c9, h1, _, _, _, h5⟩ => by
          rw [KN.out] at h1
          have hf : ((a && b) && (a && !b)) = false := by cases a <;> cases b <;> rfl
          rw [hf] at h1
          exact ⟨A9, c9, h1, h5⟩)
      have EM := Lib.hid (show ∀ W A9 c9, Calls Tryd.prog 11 #[.agg #[.bool false, .slice A9 0 c9]] W fun e w' => e = .returned (.bool true) ∧ Bel W w' from fun W A9 c9 => empty_any false [] A9 c9 W Strs.nil (by simp) (by simp))
      obtain ⟨z7, p0, p1⟩ := K7.out
      obtain ⟨z8, q0, q1⟩ := K8.out
      generalize hp : (a && b) = p at p0 MX
      generalize hq : (a && !b) = q at q0 MX
      clear K1 K2 K7 K8 KH KY KN FX FY AS AF AL HA LX LY NL NN hp hq
      go_wp2_with (first
        | (go_at_call 9; (with_reducible refine Calls.mono (awake_any _ (HT.out.keep hbW)) ?_); rintro e W5 ⟨rfl, hb5⟩; have p0 := (hb5.cells _ _ z7).trans p0; have p1 := (hb5.cells _ _ z7).trans p1; have q0 := (hb5.cells _ _ z8).trans q0; have q1 := (hb5.cells _ _ z8).trans q1; have S7 := Lib.hid (S7.out.keep hb5); have S8 := Lib.hid (S8.out.keep hb5); have hbY := hb5; clear hb5)
        | (go_at_call 15; (with_reducible refine Calls.mono (MX.out _ S7.out S8.out) ?_); rintro e W6 ⟨A9, c9, rfl, hb5⟩; have hbY := hbY.trans hb5; clear hb5)
        | (go_at_call 11; (with_reducible refine Calls.mono (EM.out _ _ _) ?_); rintro e W7 ⟨rfl, hb5⟩; have hbY := hbY.trans hb5; clear hb5))
      go_meet
      exact ⟨rfl, hbY⟩
    case rest =>
      obtain ⟨rfl, hb2⟩ := hcut
      have hbW := hbW.trans hb2
      have K1 := Lib.hid (K1.out.keep hb2)
      have K2 := Lib.hid (K2.out.keep hb2)
      have K7 := Lib.hid (K7.out.keep hb2)
      have K8 := Lib.hid (K8.out.keep hb2)
      have S7 := Lib.hid (S7.out.keep hb2)
      have S8 := Lib.hid (S8.out.keep hb2)
      have HR := Lib.hid fun t (ht : Fits t) W (hW : Strs W A7 x) => has_any (a && b) x A7 c7 t W hW (by have := LX.out; have := NL.out; omega) ht
      have HO := Lib.hid fun t (ht : Fits t) W (hW : Strs W A8 y) => has_any (a && !b) y A8 c8 t W hW (by have := LY.out; have := NL.out; omega) ht
      unfold wset at HR HO
      clear hb2 hbw LX LY FX FY NL HT NN KN
      obtain ⟨z1, m0, m1⟩ := K1.out
      obtain ⟨z2, n0, n1⟩ := K2.out
      go_upto_region 5 with (first
        | (go_at_call 12; (with_reducible refine Calls.mono (AS.out _ hbW) ?_); rintro e W6 ⟨A6, c6, rfl, h6, hb3⟩; have S6 := Lib.hid h6; have hbY := hb3; clear h6 hb3))
      have hbW := hbW.trans hbY
      have K1 := Lib.hid (K1.out.keep hbY)
      have K7 := Lib.hid (K7.out.keep hbY)
      have K8 := Lib.hid (K8.out.keep hbY)
      have S7 := Lib.hid (S7.out.keep hbY)
      have S8 := Lib.hid (S8.out.keep hbY)
      clear m0 m1 n0 n1 z1 z2 hbY AS K2
      generalize hLL : askl s l m = L at S6 AF AL ⊢
      generalize hn6 : L.length = n6
      have HN6 := Lib.hid (And.intro hn6 (show n6 ≤ 46 from by rw [← hn6]; exact AL.out))
      have i0 : (n6 : Int) ≤ 46 := by have := HN6.out.2; omega
      clear hn6 hLL AL
      go_wp2
      go_loopg [10] n6 (fun g i wr => ∃ k : Nat, i = .int .i64 k ∧ k ≤ n6 ∧ Hid (g = n6 - k) ∧ Bel W6 wr)
      case atStart => exact ⟨0, rfl, Nat.zero_le _, rfl, Bel.refl _⟩
      case round =>
        obtain ⟨k, rfl, hk, hh, hb3⟩ := hrel
        by_cases hlt : k < n6
        · obtain ⟨b6, off, rfl, hltb, hat⟩ := S6.out.blk (by rw [HN6.out.1]; omega)
          obtain ⟨t, hxk⟩ : ∃ t, L[k]? = some t := ⟨_, List.getElem?_eq_getElem (by rw [HN6.out.1]; exact hlt)⟩
          have hcell := (hb3.cells _ (off + k) hltb).trans (hat k t hxk)
          have hft := AF.out t (List.mem_of_getElem? hxk)
          have i1 : (k : Int) < n6 := by omega
          have i2 : (0 : Int) ≤ (k : Int) := by omega
          have z4 := Nat.lt_of_lt_of_le hltb hb3.size
          obtain ⟨z1, m0, m1⟩ := K1.out.keep hb3
          obtain ⟨z7, p0, p1⟩ := K7.out.keep hb3
          obtain ⟨z8, q0, q1⟩ := K8.out.keep hb3
          have T7 := Lib.hid (S7.out.keep hb3)
          have T8 := Lib.hid (S8.out.keep hb3)
          have hbX := hbW.trans hb3
          have HH := Lib.hid fun v q W (h : (v = .agg #[.bool (a && b), .slice A7 x.length c7] ∧ q = (hasw a l t && hasw b m t)) ∨ (v = .agg #[.bool (a && !b), .slice A8 y.length c8] ∧ q = (hasw a l t && !hasw b m t)) ∨ (v = .agg #[.bool a, .slice A l.length c] ∧ q = hasw a l t)) (h0 : Bel w W) (h7 : Strs W A7 x) (h8 : Strs W A8 y) => (show Calls Tryd.prog 14 #[v, .string t] W fun e w' => e = .returned (.bool q) ∧ Bel W w' from by
            rcases h with ⟨rfl, rfl⟩ | ⟨rfl, rfl⟩ | ⟨rfl, rfl⟩
            · have := HR.out t hft W h7
              rw [KH.out] at this
              exact this
            · have := HO.out t hft W h8
              rw [KY.out] at this
              exact this
            · exact HA.out t hft W h0)
          generalize hasw a l t = qa at HH
          generalize hasw b m t = qb at HH
          have HH1 := Lib.hid fun w' (hS : Bel wr w' ∧ (∀ b o, b < wr.heap.size → w'.cell? ⟨b, o, none⟩ = wr.cell? ⟨b, o, none⟩)) v q h => HH.out v q w' h (hbX.trans hS.1) (T7.out.keep hS.1) (T8.out.keep hS.1)
          clear hat hxk HR HO KH KY HA K1 K7 K8 S7 S8 hltb HH T7 T8
          go_wp2_with fail
          obtain ⟨q1v, hq1⟩ : ∃ q, q = (qa && qb) := ⟨_, rfl⟩
          obtain ⟨q2v, hq2⟩ : ∃ q, q = (qa && !qb) := ⟨_, rfl⟩
          rw [← hq1, ← hq2] at HH1
          cases qa <;> cases qb
          all_goals
            simp only [Bool.and_self, Bool.and_true, Bool.and_false, Bool.true_and, Bool.false_and, Bool.not_true, Bool.not_false] at hq1 hq2
            subst hq1 hq2
            refine wp_region_uni (S := (fun w' => Bel wr w' ∧ (∀ b o, b < wr.heap.size → w'.cell? ⟨b, o, none⟩ = wr.cell? ⟨b, o, none⟩))) (by kernel_rfl) (by kernel_rfl) keep0 ?_
            repeat (first | (refine wpUni_skip (by rfl) ?_; (try simp only [Act.put, List.setIfInBounds_toArray, List.set_cons_zero, List.set_cons_succ]))
                                                            | (refine wpUni_value (by rfl) (fun w hS => by (try dsimp only at hS); go_simp; first | done | with_reducible rfl) ?_; (try simp only [Act.put, List.setIfInBounds_toArray, List.set_cons_zero, List.set_cons_succ]))
                                                            | (refine wpUni_call (f := 14) (by rfl) (fun w => by go_simp; first | done | with_reducible rfl) (fun w hS => (HH1.out w hS (.agg #[.bool (a && b), .slice A7 x.length c7]) _ (.inl ⟨rfl, rfl⟩)).mono fun e w' ⟨he, hb⟩ => ⟨he, keep1 hS hb⟩) ?_; (try simp only [Act.put, List.setIfInBounds_toArray, List.set_cons_zero, List.set_cons_succ]))
                                                            | (refine wpUni_call (f := 14) (by rfl) (fun w => by go_simp; first | done | with_reducible rfl) (fun w hS => (HH1.out w hS (.agg #[.bool (a && !b), .slice A8 y.length c8]) _ (.inr (.inl ⟨rfl, rfl⟩))).mono fun e w' ⟨he, hb⟩ => ⟨he, keep1 hS hb⟩) ?_; (try simp only [Act.put, List.setIfInBounds_toArray, List.set_cons_zero, List.set_cons_succ]))
                                                            | (refine wpUni_call (f := 14) (by rfl) (fun w => by go_simp; first | done | with_reducible rfl) (fun w hS => (HH1.out w hS (.agg #[.bool a, .slice A l.length c]) _ (.inr (.inr ⟨rfl, rfl⟩))).mono fun e w' ⟨he, hb⟩ => ⟨he, keep1 hS hb⟩) ?_; (try simp only [Act.put, List.setIfInBounds_toArray, List.set_cons_zero, List.set_cons_succ])))
            refine wpUni_nil fun W9 hS => ?_
            have hb9 := hb3.trans hS.1
            clear hS
            go_wp2_with fail
            go_roundg (n6 - (k + 1))
            case measure => have := hh.out; omega
            case rel => exact ⟨k + 1, by go_num, by omega, rfl, hb9⟩
        · obtain rfl : k = n6 := by omega
          go_wp2
          go_ret
          exact ⟨rfl, hbW.trans hb3⟩
end Go.Proofs.YtemciabindjkeaaDoor
