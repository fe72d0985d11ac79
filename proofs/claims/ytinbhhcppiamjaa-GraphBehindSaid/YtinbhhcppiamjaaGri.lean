import Derived.Test.YtinbhhcppiamjaaGrh
namespace Go.Proofs.Ytinbhhcppiamjaa
set_option linter.unusedSimpArgs false
set_option linter.unusedVariables false
open Go.RowKit Go.Lib Go.Maps

/-! Order: the program's answer. -/
theorem enter16 : ∀ args w, (callFunc 16 args).run Try.prog w = .ok (.enter 16 args) w := enters_of Try.func16 (by kernel_rfl) rfl
theorem enter17 : ∀ args w, (callFunc 17 args).run Try.prog w = .ok (.enter 17 args) w := enters_of Try.func17 (by kernel_rfl) rfl
/-- The least that waits for none: there is none. -/
theorem least_none {g : Nat → List Nat} {n : Nat} {os : List Nat} {b nn s : Nat} {w : World} (hM : MapI w b nn (leftM g n os) s) (h : nxt g n os = none) :
    Calls Try.prog 15 #[.map (some b), .func (.func 16) #[] #[]] w fun e w' => e = .returned (.tuple #[.int .i64 0, .bool false]) ∧ Bel w w' := by
  refine (least_any (fun v => v == 0) 16 enter16 zero_any b nn s _ w hM).mono fun e w' ⟨best, found, he, hB, hb⟩ => ?_
  have hB' := hB
  rcases best_next hB with ⟨rfl, _⟩ | ⟨i, _, _, _, _, h2⟩
  · rcases hB' with ⟨_, h0, _⟩ | ⟨h1, _⟩
    · rw [h0] at he; exact ⟨he, hb⟩
    · cases h1
  · rw [h] at h2; cases h2
theorem least_some {g : Nat → List Nat} {n i : Nat} {os : List Nat} {b nn s : Nat} {w : World} (hM : MapI w b nn (leftM g n os) s) (h : nxt g n os = some i) :
    Calls Try.prog 15 #[.map (some b), .func (.func 16) #[] #[]] w fun e w' => e = .returned (.tuple #[.int .i64 i, .bool true]) ∧ Bel w w' := by
  refine (least_any (fun v => v == 0) 16 enter16 zero_any b nn s _ w hM).mono fun e w' ⟨best, found, he, hB, hb⟩ => ?_
  rcases best_next hB with ⟨rfl, h2⟩ | ⟨j, rfl, rfl, _, _, h2⟩
  · rw [h] at h2; cases h2
  · rw [h] at h2; cases h2; exact ⟨he, hb⟩
theorem least_first {g : Nat → List Nat} {n : Nat} {os : List Nat} {b nn s : Nat} {w : World} (hM : MapI w b nn (leftM g n os) s) (h : ∃ i, i < n ∧ i ∉ os) :
    Calls Try.prog 15 #[.map (some b), .func (.func 17) #[] #[]] w fun e w' => e = .returned (.tuple #[.int .i64 (fst0 n os : Int), .bool true]) ∧ Bel w w' := by
  refine (least_any (fun _ => true) 17 enter17 true_any b nn s _ w hM).mono fun e w' ⟨best, found, he, hB, hb⟩ => ?_
  obtain ⟨rfl, rfl⟩ := best_first hB h
  exact ⟨he, hb⟩
theorem nat_lt_of {a b : Nat} (h : a < b) : (a : Int) < b := by omega
set_option maxRecDepth 100000 in
set_option maxHeartbeats 8000000 in
theorem order_any (d : Sl) (A : Option Addr) (c : Nat) (ls : List Sl) (w : World) (hd : SlOk w d) (hn : Nds w A ls) (hz0 : d.l.length ≤ 60) (hz : ls.length ≤ 60) (hz2 : ∀ d ∈ ls, d.l.length ≤ 60) :
    Calls Try.prog 9 #[d.val, .slice A ls.length c] w fun e w' => OrdOut d.l (nsOf ls) w w' e := by
  by_cases h0 : (chk d.l (nsOf ls)).2 = 0
  · have HR := Lib.hid (res_good d A c ls w hd hn hz0 hz hz2 h0)
    have HC := Lib.hid h0
    obtain ⟨A0, c0, l⟩ := d
    simp only at hz0 HR HC
    simp only [Sl.val] at HR ⊢
    generalize hns : nsOf ls = ns at HR HC ⊢
    clear h0 hd hn hz2 hns
    have hli : (l.length : Int) ≤ 60 := by omega
    have hmm := @run_makeMap Try.prog
    have hmk := make_rows l.length (by omega)
    have Hgr := Lib.hid (show (∀ i, (gr l ns i).Nodup) ∧ (∀ i, ∀ k ∈ gr l ns i, k < l.length) ∧ ∀ i, (gr l ns i).length ≤ l.length from ⟨gr_nodup l ns, gr_lt, fun i => nodup_le (gr_nodup l ns i) (gr_lt i)⟩)
    have HWL := Lib.hid fun os i => waits_le (l := l) (ns := ns) os i
    have HFull := Lib.hid fun h => ord_full (l := l) (ns := ns) HC.out h
    have HStuck := Lib.hid fun k hk h => ord_stuck (l := l) (ns := ns) (k := k) HC.out hk h
    generalize hg : gr l ns = g at HR Hgr HWL HFull HStuck
    go_enter Try.func9, Try.ntmps9
    go_wp2_with (first
      | (go_at_call 14; refine HR.out.mono ?_; rintro e w1 ⟨b, f, rfl, hwb, hGb, hb1⟩)
      | go_in)
    have hO := HoldsM.made (P := Try.prog) (kt := 3) (vt := 3) (k := kI) w1
    rw [← leftI_0 g] at hO
    have hU := Grp.made (w1.alloc (.map #[] 0)) l.length 26 3
    have hD : (w1.alloc (.map #[] 0)).heap.size = w1.heap.size + 1 := by simp
    have hO2 := hO.keep ((Bel.refl _).alloc (.cells (madeCells #[.slice none 0 0] l.length) 26))
    have hb2 := ((Bel.refl w1).alloc (.map #[] 0)).alloc (.cells (madeCells #[.slice none 0 0] l.length) 26)
    rw [hD] at hU
    have hu0 : (fun _ => []) = fun j => natsI (users g 0 j) := by funext j; simp [users, natsI]
    rw [hu0] at hU
    have HGb := Lib.hid hGb
    have HW1 := Lib.hid (And.intro hwb hb1)
    generalize hC : w1.heap.size = C at hO2 hU ⊢
    generalize hw2 : (w1.alloc (.map #[] 0)).alloc (.cells (madeCells #[.slice none 0 0] l.length) 26) = w2 at hO2 hU hb2 ⊢
    have HCe := Lib.hid hC
    have hbC : b < C := by rw [← hC]; exact hGb.1.1
    clear hw2 hO hD hu0 hGb hwb hb1 hmm hmk hC
    go_loopg [40] l.length (fun gg i wr => ∃ (k nn : Nat) (fu : Nat → Value), i = .int .i64 k ∧ k ≤ l.length ∧ Hid (gg = l.length - k) ∧ Hid (nn ≤ k ∧ MapI wr C nn (leftI g k) k) ∧ Hid (Grp wr (C + 1) l.length 3 fu (fun j => natsI (users g k j))) ∧ Bel w1 wr)
    case atStart => exact ⟨0, 0, _, rfl, Nat.zero_le _, rfl, ⟨by omega, hO2⟩, hU, hb2⟩
    case round =>
      clear hO2 hU hb2
      clear w2
      obtain ⟨k, nn, fu, rfl, hk, hg1, hO, hU, hb⟩ := hrel
      by_cases hlt : k < l.length
      · obtain ⟨d1, d2⟩ := (HGb.out.keep hb).1.2 k hlt
        obtain ⟨Ak, ck, hfk, -⟩ := own_row ((HGb.out.keep hb).2 k hlt).1
        rw [natsI_len] at hfk
        rw [hfk] at d1
        have Hk := Lib.hid hfk
        have hgl := Hgr.out.2.2 k
        have i1 : (k : Int) < l.length := by omega
        have i2 : (0 : Int) ≤ (k : Int) := by omega
        have i3 : ((g k).length : Int) ≤ 60 := by omega
        have HST := Lib.hid (HoldsM.store hO.out.2 keyI Try.underlying38 Try.underlying3 kI_key kI_inj (by have := hO.out.1; unfold maxLen; omega) (keyOfI (in64n (by omega : k ≤ 1000))) (wfI (in64n (by omega : (g k).length ≤ 1000))))
        clear hfk
        go_wp2_with (first
          | (at_mapUpdate; refine wpList_putM rfl _ _ _ rfl rfl rfl rfl HST.out ?_; rintro w3 ⟨hO3, hg3⟩)
          | go_in)
        rw [leftI_none] at hO3
        have hO4 : MapI w3 C (nn + 1) (leftI g (k + 1)) (k + 1) := by rw [← leftI_succ]; exact hO3
        have hU4 : Grp w3 (C + 1) l.length 3 fu (uset g k 0) := by
          rw [uset_0]
          exact hU.out.far hg3 (by omega) fun j hj e => by have := hU.out.lt hj e; omega
        have hb4 : Bel w1 w3 := Below.grown hb hg3 hb.size (fun j hj => by cases hj; have := HCe.out; omega)
        have HNN := Lib.hid hO.out.1
        clear hO3 hg3 HST hO hU hb d1 d2
        clear wr
        go_loopg [51] (g k).length (fun gg i wr => ∃ (t : Nat) (fu : Nat → Value), i = .int .i64 t ∧ t ≤ (g k).length ∧ Hid (gg = (g k).length - t) ∧ Hid (MapI wr C (nn + 1) (leftI g (k + 1)) (k + 1)) ∧ Hid (Grp wr (C + 1) l.length 3 fu (uset g k t)) ∧ Bel w1 wr)
        case atStart => exact ⟨0, fu, rfl, Nat.zero_le _, rfl, hO4, hU4, hb4⟩
        case round =>
          clear hO4 hU4 hb4
          clear w3 fu
          obtain ⟨t, fu, rfl, ht, hgt, hO, hU, hb⟩ := hrel
          by_cases hltt : t < (g k).length
          · obtain ⟨A', c', e', hrow, -⟩ := own_row ((HGb.out.keep hb).2 k hlt).1
            rw [natsI_len, Hk.out] at e'
            cases e'
            obtain ⟨b9, off9, rfl, hb9, hc9⟩ := hrow (by simp [nums, natsI]; omega)
            obtain ⟨u, huk⟩ : ∃ u, (g k)[t]? = some u := ⟨_, List.getElem?_eq_getElem hltt⟩
            have hcell9 := hc9 t _ (show (nums (natsI (g k)))[t]? = some (.int .i64 ((u : Nat) : Int)) by simp [nums, natsI, huk])
            have hul := Hgr.out.2.1 k u (List.mem_of_getElem? huk)
            obtain ⟨us1, us2⟩ := uset_succ huk (Hgr.out.1 k)
            obtain ⟨d1, d2⟩ := hU.out.1.2 u hul
            have hkk : (users g k u).length ≤ 60 := by
              have := nodup_le (N := k) (users_nodup g k u) (fun x hx => (users_lt hx).1)
              omega
            have HA := Lib.hid fun ty => app_grp hU.out hul us1 (k : Int) (by rw [natsI_len]; omega) ty
            have HG2 := Lib.hid (hU.out.keep ((Bel.refl wr).alloc (.cells #[.int .i64 (k : Int)] 3)))
            have HQQ := Lib.hid fun q (hq : (fu u).ownBlock = some q) => (hU.out.lt hul hq).1
            have HUS := Lib.hid us2
            have j1 : (t : Int) < (g k).length := by omega
            have j2 : (0 : Int) ≤ (t : Int) := by omega
            have j3 : (u : Int) < l.length := by omega
            have j4 : (0 : Int) ≤ (u : Int) := by omega
            clear hrow hc9 huk us1 us2 hU
            go_wp2_with (first
              | (at_builtin; refine wpList_app (by rfl) (.tmp 60) (.tmp 62) _ rfl (HA.out _) ?_; rintro v7 w7 ⟨A7, c7, rfl, o7, g7, a7⟩
                 obtain ⟨d3, d4⟩ := (HG2.out.1.kept g7 (fun e => by have := HQQ.out _ e.symm; omega)).2 u hul)
              | go_in)
            have hn7 : ∀ z, z = C ∨ z = C + 1 → some z ≠ (fu u).ownBlock := fun z hz e => by have := HQQ.out _ e.symm; omega
            have hCl := HCe.out
            go_roundg ((g k).length - (t + 1))
            case measure => have := hgt.out; omega
            case rel =>
              refine ⟨t + 1, vset fu u (.slice A7 ((natsI (users g k u)).length + 1) c7), by go_num, by omega, rfl, ?_, ?_, ?_⟩
              · exact ((hO.out.kept (World.grownBy_alloc wr _ none) (by simp)).kept g7 (hn7 _ (by simp))).kept (grownBy_setV w7 (C + 1) u _) (by simp)
              · have := HG2.out.app hul g7 o7 (by rcases a7 with e | e; exact .inl e; exact .inr (by rw [e]; simp))
                rw [HUS.out] at this
                exact this
              · have hb2 := hb.alloc (.cells #[.int .i64 (k : Int)] 3)
                have hb3 : Bel w1 w7 := Below.grown hb2 g7 hb2.size (fun j hj => by have := HQQ.out _ hj; omega)
                exact hb3.setCell (by show _ ≤ C + 1; omega) _
          · obtain rfl : t = (g k).length := by omega
            clear hltt ht hgt
            go_wp2
            go_roundg (l.length - (k + 1))
            case measure => have := hg1.out; omega
            case rel =>
              refine ⟨k + 1, nn + 1, fu, by go_num, by omega, rfl, ⟨by have := HNN.out; omega, hO.out⟩, ?_, hb⟩
              have := hU.out
              rw [uset_end] at this
              exact this
      · obtain rfl : k = l.length := by omega
        have hO1 := hO.out.2
        rw [leftI_end] at hO1
        have HNN := Lib.hid hO.out.1
        have hU1 := hU.out
        clear hO hU hg1 hlt hk
        go_wp2
        obtain ⟨wo, rfl⟩ : ∃ wo : World, wo = wr := ⟨_, rfl⟩
        have HFU := Lib.hid fun j (hj : j < l.length) q (hq : (fu j).ownBlock = some q) => hU1.lt hj hq
        have HCH := Lib.hid hU1.1.1
        generalize hH : wo.heap.size = H at HFU HCH
        have hO2 : MapI wo C nn (leftM g l.length (ord g l.length 0)) (l.length - 0) := hO1
        have hv2 : wo.ownsRow H 3 1 (.slice none 0 0) 0 (nums (natsI (ord g l.length 0))) := ⟨rfl, .inl ⟨rfl, rfl⟩⟩
        have hHw : H ≤ wo.heap.size := by omega
        clear hO1 hH
        go_loopg [16] l.length (fun gg v wr => ∃ (k nn s : Nat), k ≤ l.length ∧ Hid (gg = l.length - k) ∧ Hid (s = l.length - k) ∧ Hid (nn ≤ 100 + 100 * k) ∧ Hid (MapI wr C nn (leftM g l.length (ord g l.length k)) s) ∧ Hid (wr.ownsRow H 3 1 v k (nums (natsI (ord g l.length k)))) ∧ Hid (∀ j, j < k → nxt g l.length (ord g l.length j) ≠ none) ∧ Hid (Grp wr (C + 1) l.length 3 fu (fun j => natsI (users g l.length j))) ∧ H ≤ wr.heap.size ∧ Bel w1 wr)
        case atStart => exact ⟨0, nn, l.length, Nat.zero_le _, rfl, rfl, by have := HNN.out; show _ ≤ _; omega, hO2, hv2, (fun j hj => absurd hj (Nat.not_lt_zero _)), hU1, hHw, hb⟩
        case round =>
          clear hO2 hv2 hU1 hb hHw HNN
          clear wo nn
          obtain ⟨k, nn, s, hk, hg1, hs, hnn, hO, hv, hnx, hU, hHw, hb⟩ := hrel
          by_cases hlt : k < l.length
          · have hs0 : 0 < s := by have := hs.out; omega
            have hs1 : (0 : Int) < (s : Int) := by omega
            have hs2 : (s : Int) ≤ 60 := by have := hs.out; omega
            cases hnk : nxt g l.length (ord g l.length k) with
            | none =>
              have HL := Lib.hid (least_none hO.out hnk)
              have HF := Lib.hid fun W (hW : Bel wr W) => least_first (hO.out.keep hW) (miss (ord_ok (g := g) (N := l.length) k).1 (ord_ok k).2.1 (by have := (ord_ok (g := g) (N := l.length) k).2.2; omega))
              have HS := Lib.hid (HStuck.out k hlt hnk)
              have HM := Lib.hid (And.intro hO.out (HW1.out.2.trans hb))
              generalize (fst0 l.length (ord g l.length k) : Int) = z at HF HS
              clear hO hv hU hnk hb
              go_wp2_with (first
                | (at_len; refine wpList_lenM rfl _ rfl Try.underlying38 rfl HM.out.1 ?_)
                | (go_at_call 15; (with_reducible refine Calls.mono HL.out ?_); rintro e w4 ⟨rfl, hb4⟩)
                | (go_at_call 15; (with_reducible refine Calls.mono (HF.out _ hb4) ?_); rintro e w5 ⟨rfl, hb5⟩)
                | go_in)
              refine bodyPost_ret (by simp [results, Try.results9, go_sem]; try rfl) rfl ⟨none, 0, by rw [HS.out]; rfl, by rw [HS.out]; exact ints_nil, (HM.out.2.trans hb4).trans hb5⟩
            | some i =>
              obtain ⟨hil, hio, hig⟩ := nxt_some hnk
              have HL := Lib.hid (least_some hO.out hnk)
              have HM := Lib.hid (And.intro hO.out (HW1.out.2.trans hb))
              have HV := Lib.hid hv.out
              have HUU := Lib.hid hU.out
              have HBB := Lib.hid hb
              have HNK := Lib.hid (And.intro hnk hio)
              have HNX := Lib.hid (upto_succ hnx.out (show nxt g l.length (ord g l.length k) ≠ none from by rw [hnk]; simp))
              have HAp := Lib.hid fun W (hW : Bel wr W) (ty : TypeId) => app_own (w := W) (own_keep hv.out hW) (i : Int) (Nat.le_trans hHw hW.size) (by rw [natsI_len]; have := (ord_ok (g := g) (N := l.length) k).2.2; omega) ty
              have hi64 : In64 (i : Int) := in64n (by omega)
              have HD := Lib.hid fun W (hW : MapI W C nn (leftM g l.length (ord g l.length k)) s) ty => HoldsM.drop hW keyI Try.underlying38 kI_inj (keyOfI hi64) ty
              have hvq := Lib.hid fun q (hq : u16.ownBlock = some q) => (World.ownsRow.lt hv.out q hq).1
              obtain ⟨Ai, ci, hfi, -⟩ := own_row (hU.out.2 i hil).1
              rw [natsI_len] at hfi
              obtain ⟨d1, d2⟩ := hU.out.1.2 i hil
              rw [hfi] at d1
              have Hfi := Lib.hid hfi
              have HD1 := Lib.hid (And.intro d1 hU.out.1.1)
              have i1 : (i : Int) < l.length := by omega
              have i2 : (0 : Int) ≤ (i : Int) := by omega
              have hul : (users g l.length i).length ≤ 60 := by
                have := nodup_le (N := l.length) (users_nodup g l.length i) (fun x hx => (users_lt hx).1)
                omega
              have hul2 : ((users g l.length i).length : Int) ≤ 60 := by omega
              clear hO hv hU hnk hb hio hig d1 d2 hfi
              have hCH := HCH.out
              go_wp2_with (first
                | (at_len; refine wpList_lenM rfl _ rfl Try.underlying38 rfl HM.out.1 ?_)
                | (go_at_call 15; (with_reducible refine Calls.mono HL.out ?_); rintro e w4 ⟨rfl, hb4⟩)
                | (at_builtin; refine wpList_app (by rfl) (.tmp 83) (.tmp 85) _ rfl (HAp.out w4 hb4 _) ?_; rintro v7 w7 ⟨A7, c7, rfl, o7, g7, hl7⟩
                   have hM7 := ((HM.out.1.keep hb4).kept (World.grownBy_alloc w4 (.cells #[.int .i64 (i : Int)] 3) none) (by simp)).kept g7 (fun e => by have := hvq.out _ e.symm; omega)
                   have hU7 := ((HUU.out.keep hb4).keep ((Bel.refl w4).alloc (.cells #[.int .i64 (i : Int)] 3))).kept g7 (fun e => by have := hvq.out _ e.symm; omega) (fun j hj => by
                     cases hq : (fu j).ownBlock with
                     | none => exact .inl rfl
                     | some q => exact .inr (fun e => by have := (HFU.out j hj q hq).2; have := hvq.out _ e.symm; omega)))
                | (at_delete; refine wpList_delM rfl _ _ rfl rfl rfl (HD.out _ hM7 _) ?_; rintro w8 ⟨hM8, g8⟩
                   have hU8 := hU7.far g8 (by omega) (fun j hj e => by have := (HFU.out j hj _ e).1; omega)
                   obtain ⟨d1, d2⟩ := hU8.1.2 i hil
                   rw [Hfi.out] at d1)
                | go_in)
              have hCl := HCe.out
              have hqH : ∀ q, u16.ownBlock = some q → H ≤ q := hvq.out
              have hM9 : MapI w8 C nn (leftT g l.length (ord g l.length k) i 0) (s - 1) := by
                have := hM8
                rw [leftM_in hil HNK.out.2] at this
                rw [← leftT_0]
                exact this
              have hV9 : w8.ownsRow H 3 1 (.slice A7 (k + 1) c7) (k + 1) (nums (natsI (ord g l.length (k + 1)))) := by
                rw [ord_succ_some HNK.out.1]
                have e : natsI (ord g l.length k ++ [i]) = natsI (ord g l.length k) ++ [(i : Int)] := by simp [natsI]
                rw [e]
                refine o7.kept g8 ?_
                cases hq : Value.ownBlock (.slice A7 (k + 1) c7) with
                | none => exact .inl rfl
                | some q => exact .inr (fun e => by cases e; have := (World.ownsRow.lt o7 _ hq).1; omega)
              have hb5 : Bel w1 (w4.alloc (.cells #[.int .i64 (i : Int)] 3)) := (HBB.out.trans hb4).alloc _
              have hb7 : Bel w1 w7 := Below.grown hb5 g7 hb5.size (fun q hq => by have := hqH q hq; omega)
              have hb9 : Bel w1 w8 := Below.grown hb7 g8 hb7.size (fun q hq => by cases hq; omega)
              have hH9 : H ≤ w8.heap.size := by have := g8.size; have := hb4.size; omega
              have HUo := Lib.hid fun u (hu : u ∈ users g l.length i) => user_out HNK.out.1 hu
              have HSc := Lib.hid (ord_succ_some HNK.out.1)
              obtain ⟨wo, rfl⟩ : ∃ wo : World, wo = wr := ⟨_, rfl⟩
              clear hM8 hU7 hM7 o7 g7 g8 hb4 hb5 hb7 HBB HM HV HUU HAp HD HL d1 d2 hqH hvq hHw hl7 HD1
              go_loopg [94] (users g l.length i).length (fun gg tv wr => ∃ (t n2 : Nat), tv = .int .i64 t ∧ t ≤ (users g l.length i).length ∧ Hid (gg = (users g l.length i).length - t) ∧ Hid (n2 ≤ nn + t) ∧ Hid (MapI wr C n2 (leftT g l.length (ord g l.length k) i t) (s - 1)) ∧ Hid (wr.ownsRow H 3 1 (.slice A7 (k + 1) c7) (k + 1) (nums (natsI (ord g l.length (k + 1))))) ∧ Hid (Grp wr (C + 1) l.length 3 fu (fun j => natsI (users g l.length j))) ∧ H ≤ wr.heap.size ∧ Bel w1 wr)
              case atStart => exact ⟨0, nn, rfl, Nat.zero_le _, rfl, Nat.le_refl _, hM9, hV9, hU8, hH9, hb9⟩
              case round =>
                clear hM9 hV9 hU8 hH9 hb9
                obtain ⟨t, n2, rfl, ht, hgt, hn2, hM, hV, hU, hHw, hb⟩ := hrel
                by_cases hltt : t < (users g l.length i).length
                · obtain ⟨A', c', e', hrow, -⟩ := own_row (hU.out.2 i hil).1
                  rw [natsI_len, Hfi.out] at e'
                  cases e'
                  obtain ⟨b9, off9, rfl, hb9, hc9⟩ := hrow (by simp [nums, natsI]; omega)
                  obtain ⟨u, huk⟩ : ∃ u, (users g l.length i)[t]? = some u := ⟨_, List.getElem?_eq_getElem hltt⟩
                  have hcell9 := hc9 t _ (show (nums (natsI (users g l.length i)))[t]? = some (.int .i64 ((u : Nat) : Int)) by simp [nums, natsI, huk])
                  have hum : u ∈ users g l.length i := List.mem_of_getElem? huk
                  have hul1 := (users_lt hum).1
                  obtain ⟨us1, us2⟩ := leftT_succ huk (HUo.out u hum)
                  have hwl := HWL.out (ord g l.length k) u
                  have HG := HoldsM.get hM.out keyI Try.underlying38 Try.underlying3 (zeroI wr) (keyOfI (in64n (by omega : u ≤ 1000))) us1
                  have HST := Lib.hid (HoldsM.store hM.out keyI Try.underlying38 Try.underlying3 kI_key kI_inj (by have := hn2.out; have := hnn.out; unfold maxLen; omega) (keyOfI (in64n (by omega : u ≤ 1000))) (wfI (x := (waits g (ord g l.length k) u : Int) - 1) ⟨by omega, by omega⟩))
                  rw [us1] at HST
                  have HUS := Lib.hid us2
                  have w1b : (0 : Int) ≤ (waits g (ord g l.length k) u : Int) := by omega
                  have w2b : (waits g (ord g l.length k) u : Int) ≤ 60 := by omega
                  have j1 : (t : Int) < (users g l.length i).length := by omega
                  have j2 : (0 : Int) ≤ (t : Int) := by omega
                  clear hrow hc9 huk us1 us2 hM hwl
                  generalize (waits g (ord g l.length k) u : Int) = z at HG HST HUS w1b w2b
                  go_wp2_with (first
                    | (at_lookup; refine wpList_getM rfl _ _ rfl rfl rfl HG ?_)
                    | (at_mapUpdate; refine wpList_putM rfl _ _ _ rfl rfl rfl rfl HST.out ?_; rintro w9 ⟨hM9, g9⟩)
                    | go_in)
                  have hCl := HCe.out
                  have hCH := HCH.out
                  go_roundg ((users g l.length i).length - (t + 1))
                  case measure => have := hgt.out; omega
                  case rel =>
                    refine ⟨t + 1, n2 + 1, by go_num, by omega, rfl, by have := hn2.out; show _ ≤ _; omega, ?_, ?_, ?_, by have := g9.size; omega, Below.grown hb g9 hb.size (fun q hq => by cases hq; omega)⟩
                    · have E := HUS.out
                      show MapI w9 C (n2 + 1) (leftT g l.length (ord g l.length k) i (t + 1)) (s - 1)
                      rw [← E]
                      exact hM9
                    · refine hV.out.kept g9 ?_
                      cases hq : Value.ownBlock (.slice A7 (k + 1) c7) with
                      | none => exact .inl rfl
                      | some q => exact .inr (fun e => by cases e; have := (World.ownsRow.lt hV.out _ hq).1; omega)
                    · exact hU.out.far g9 (by omega) (fun j hj e => by have := (HFU.out j hj _ e).1; omega)
                · obtain rfl : t = (users g l.length i).length := by omega
                  have hMe := hM.out
                  rw [leftT_end Hgr.out.1 HNK.out.2, ← HSc.out] at hMe
                  have HMe := Lib.hid hMe
                  clear hMe hM
                  go_wp2
                  go_roundg (l.length - (k + 1))
                  case measure => have := hg1.out; omega
                  case rel =>
                    exact ⟨k + 1, n2, s - 1, by omega, rfl, (by show _ = _; have := hs.out; omega), (by have := hn2.out; have := hnn.out; show _ ≤ _; omega), HMe.out, hV.out, HNX.out, hU.out, hHw, hb⟩
          · obtain rfl : k = l.length := by omega
            obtain rfl : s = 0 := by have := hs.out; omega
            have HF := Lib.hid (HFull.out hnx.out)
            have HM := Lib.hid hO.out
            obtain ⟨Av, cv, hve, hvr, -⟩ := own_row hv.out
            have HE := Lib.hid (And.intro hvr (HW1.out.2.trans hb))
            have HLen := Lib.hid (ord_len hnx.out)
            subst hve
            clear hO hv hU hb hvr
            go_wp2_with (first
              | (at_len; refine wpList_lenM rfl _ rfl Try.underlying38 rfl HM.out ?_)
              | go_in)
            refine bodyPost_ret (by simp [results, Try.results9, go_sem]; try rfl) rfl ⟨Av, cv, by rw [HF.out]; simp only; rw [HLen.out], by rw [HF.out]; exact HE.out.1, HE.out.2⟩
  · have HR := Lib.hid (res_bad d A c ls w hd hn hz0 hz hz2 h0)
    have HO := Lib.hid (ord_bad h0)
    generalize hns : nsOf ls = ns at HR HO h0 ⊢
    obtain ⟨A0, c0, l⟩ := d
    simp only at h0 HR HO
    simp only [Sl.val] at HR ⊢
    generalize (chk l ns).1 = z at HR HO
    generalize (chk l ns).2 = q at HR HO h0
    have e1 : (q != 0) = true := by simpa using h0
    clear h0 hd hn hz2 hz0
    go_enter Try.func9, Try.ntmps9
    go_wp2_with (first
      | (go_at_call 14; refine HR.out.mono ?_; rintro e w1 ⟨rfl, hb1⟩)
      | go_in)
    refine bodyPost_ret (by simp [results, Try.results9, go_sem]; try rfl) rfl ⟨none, 0, by rw [HO.out]; rfl, by rw [HO.out]; exact ints_nil, hb1⟩
end Go.Proofs.Ytinbhhcppiamjaa
