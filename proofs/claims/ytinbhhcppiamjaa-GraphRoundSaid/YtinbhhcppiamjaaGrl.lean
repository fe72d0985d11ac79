import Derived.Test.YtinbhhcppiamjaaGrk
namespace Go.Proofs.Ytinbhhcppiamjaa
set_option linter.unusedSimpArgs false
set_option linter.unusedVariables false
open Go.RowKit Go.Lib Go.Maps

set_option maxRecDepth 100000 in
set_option maxHeartbeats 8000000 in
theorem above_any (d : Sl) (A : Option Addr) (c : Nat) (ls : List Sl) (m : Int) (w : World) (hd : SlOk w d) (hn : Nds w A ls) (hz0 : d.l.length ≤ 60) (hz : ls.length ≤ 60) (hz2 : ∀ d ∈ ls, d.l.length ≤ 60) (hm64 : In64 m) :
    Calls Try.prog 12 #[d.val, .slice A ls.length c, .int .i64 m] w fun e w' => AbOut d.l (nsOf ls) m w w' e := by
  by_cases h0 : (chk d.l (nsOf ls)).2 = 0
  · have HR := Lib.hid (res_good d A c ls w hd hn hz0 hz hz2 h0)
    have HC := Lib.hid h0
    obtain ⟨A0, c0, l⟩ := d
    simp only at hz0 HR HC
    simp only [Sl.val] at HR ⊢
    generalize hns : nsOf ls = ns at HR HC ⊢
    clear h0 hd hn hz2 hns
    have hli : (l.length : Int) ≤ 60 := by omega
    have hmm := @run_makeMap Try.prog
    by_cases hmr : m < 0 ∨ (l.length : Int) ≤ m
    · have HA := Lib.hid (ab_arg HC.out hmr)
      rcases hmr with hm1 | hm1
      · go_enter Try.func12, Try.ntmps12
        go_wp2_with (first
          | (go_at_call 14; refine HR.out.mono ?_; rintro e w1 ⟨b, f, rfl, hwb, hGb, hb1⟩)
          | go_in)
        refine bodyPost_ret (by simp [results, Try.results12, go_sem]; try rfl) rfl ⟨none, 0, by rw [HA.out]; rfl, by rw [HA.out]; exact ints_nil, hb1⟩
      · have hm2 : ¬ m < 0 := by omega
        have hm3 : (0 : Int) ≤ m := by omega
        go_enter Try.func12, Try.ntmps12
        go_wp2_with (first
          | (go_at_call 14; refine HR.out.mono ?_; rintro e w1 ⟨b, f, rfl, hwb, hGb, hb1⟩)
          | go_in)
        refine bodyPost_ret (by simp [results, Try.results12, go_sem]; try rfl) rfl ⟨none, 0, by rw [HA.out]; rfl, by rw [HA.out]; exact ints_nil, hb1⟩
    · obtain ⟨q, rfl⟩ : ∃ q : Nat, m = (q : Int) := ⟨m.toNat, by omega⟩
      have hql : q < l.length := by omega
      have hqi : (q : Int) < l.length := by omega
      have hq0 : (0 : Int) ≤ (q : Int) := by omega
      have hq1 : decide ((q : Int) < 0) = false := by simp
      have hq2 : decide (l.length ≤ q) = false := by simpa using hql
      have HAb := Lib.hid (ab_ok (ns := ns) HC.out hql)
      have HGl := Lib.hid (gr_lt (l := l) (ns := ns))
      have HGn := Lib.hid fun i => nodup_le (gr_nodup l ns i) (gr_lt (l := l) (ns := ns) i)
      clear hmr hm64
      generalize hg : gr l ns = g at HR HAb HGl HGn
      go_enter Try.func12, Try.ntmps12
      go_wp2_with (first
        | (go_at_call 14; refine HR.out.mono ?_; rintro e w1 ⟨b, f, rfl, hwb, hGb, hb1⟩)
        | go_in)
      have hO := HoldsM.made (P := Try.prog) (kt := 3) (vt := 3) (k := kI) w1
      have hD : (w1.alloc (.map #[] 0)).heap.size = w1.heap.size + 1 := by simp
      have hW := World.ownsRow_lit (base := w1.heap.size + 1) (e := 3) (size := 1) (w1.alloc (.map #[] 0)) #[.int .i64 (q : Int)] 1 (by simp) (by unfold maxLen; omega) (by simp)
      rw [hD] at hW
      have hO2 := hO.keep ((Bel.refl _).alloc (.cells #[.int .i64 (q : Int)] 3))
      have hb2 := ((Bel.refl w1).alloc (.map #[] 0)).alloc (.cells #[.int .i64 (q : Int)] 3)
      have HGb := Lib.hid hGb
      have HW1 := Lib.hid (And.intro hwb hb1)
      have hW2 : ((w1.alloc (.map #[] 0)).alloc (.cells #[.int .i64 (q : Int)] 3)).ownsRow (w1.heap.size + 1) 3 1 (.slice (some ⟨w1.heap.size + 1, 0, none⟩) 1 1) 1 (nums (natsI [q])) := by simpa [natsI, nums] using hW
      generalize hC : w1.heap.size = C at hO2 hW2 ⊢
      generalize hw2 : (w1.alloc (.map #[] 0)).alloc (.cells #[.int .i64 (q : Int)] 3) = w2 at hO2 hW2 hb2 ⊢
      have HCe := Lib.hid hC
      have hbC : b < C := by rw [← hC]; exact hGb.1.1
      clear hw2 hO hD hW hGb hwb hb1 hmm hC
      go_loopg [12] (2 * l.length + 1) (fun gg v wr => ∃ (ws : List Nat) (p : Nat → Bool) (M : Int → Option Int) (s : Nat), Hid (2 * (l.length - cnt l.length p) + ws.length = gg ∧ gg ≤ 2 * l.length + 1) ∧ Hid (wr.ownsRow (C + 1) 3 1 v ws.length (nums (natsI ws))) ∧ Hid (MapI wr C (cnt l.length p) M s) ∧ Hid (Found M l.length p) ∧ Hid (Up g l.length q p ws []) ∧ Bel w1 wr)
      case atStart =>
        refine ⟨[q], fun _ => false, fun _ => none, 0, ?_, hW2, ?_, Found.nil _, Up.start g hql, hb2⟩
        · show _ ∧ _
          rw [cnt_none]
          simp
        · rw [cnt_none]
          exact hO2
      case round =>
        clear hO2 hW2 hb2
        clear w2
        obtain ⟨ws, p, M, s, hgg, hv, hO, hF, hU, hb⟩ := hrel
        obtain ⟨Av, cv, hve, hvr, -⟩ := own_row hv.out
        have HV := Lib.hid hv.out
        have HVR := Lib.hid hvr
        clear hv hvr
        subst hve
        rcases snoc_cases ws with rfl | ⟨ws, u, rfl⟩
        · have hE := hU.out.ends hql HGl.out
          have HE := Lib.hid hE
          have HFd := Lib.hid hF.out
          have hO1 := hO.out
          have hsz := Lib.hid (Nat.le_trans hO1.size_le (cnt_le l.length p))
          clear hE HV HVR hU hF hO hgg
          go_wp2_with (first
            | (at_range; refine wpList_rangeM rfl _ rfl keyI Try.underlying38 rfl hO1 ?_; intro w0 hrg0 hg0 hs0)
            | go_in)
          go_frame
          have HCR := Lib.hid hO1.lt
          have hb0 : Bel w1 w0 := Below.grown hb hg0 hb.size (fun j hj => by cases hj)
          generalize hRR : wr.heap.size = R at hrg0 HCR ⊢
          have HRb := Lib.hid (show w1.heap.size ≤ R from by rw [← hRR]; exact hb.size)
          have hR0 : R < w0.heap.size := by omega
          clear hO1 hb hg0 hs0 hRR
          go_loopg [18] s (fun gg v wr => ∃ (zs : List Int) (ahead : Int → Bool), RanI wr C R (cnt l.length p) M ahead gg ∧ Hid (wr.ownsRow (R + 1) 3 1 v zs.length (nums zs)) ∧ Hid (zs.Nodup ∧ (∀ x, x ∈ zs ↔ (M x).isSome = true ∧ ahead x = false) ∧ zs.length + gg ≤ 60) ∧ R < wr.heap.size ∧ Bel w1 wr)
          case atStart =>
            refine ⟨[], _, hrg0, ⟨rfl, .inl ⟨rfl, rfl⟩⟩, ⟨List.nodup_nil, fun x => ?_, by have := hsz.out; simp; omega⟩, hR0, hb0⟩
            simp only [List.not_mem_nil, false_iff, not_and]
            intro h e
            rw [h] at e
            cases e
          case round =>
            clear hrg0 hb0 hR0
            clear w0
            obtain ⟨zs, ahead, hrg, hv, hzs, hRl, hb⟩ := hrel
            go_wp2_with (first
              | (at_next; refine wpList_nextM rfl _ rfl keyI Try.underlying3 Try.underlying3 rfl hrg ?_ ?_)
              | go_in)
            · intro h0
              have HZ := Lib.hid (sort_nats (L := above g l.length q) hzs.out.1 (by rw [HE.out]; exact rising_filter p) (fun x => by
                rw [hzs.out.2.1, h0]
                rw [HFd.out, HE.out]
                simp only [and_true, List.mem_filter, List.mem_range]
                exact ⟨fun ⟨k, h1, h2, h3⟩ => ⟨k, ⟨h2, h3⟩, h1⟩, fun ⟨k, ⟨h2, h3⟩, h1⟩ => ⟨k, h1, h2, h3⟩⟩))
              have HSort := Lib.hid (sort_own hv.out (by have := hzs.out.2.2; omega))
              have hvq := Lib.hid fun z (hz : u18.ownBlock = some z) => (World.ownsRow.lt hv.out z hz).1
              clear h0 hrg hv
              go_wp2_with (go_at_call 20; refine HSort.out.mono ?_; rintro e w5 ⟨rfl, ho5, hg5⟩)
              rw [HZ.out] at ho5
              have hb5 : Bel w1 w5 := Below.grown hb hg5 hb.size (fun z hz => by have := hvq.out z hz; have := HRb.out; omega)
              have hb6 := HW1.out.2.trans hb5
              obtain ⟨A5, c5, e5, hr5, -⟩ := own_row ho5
              rw [List.length_map] at e5
              clear hvq HSort hg5 ho5
              subst e5
              refine bodyPost_ret (by simp [results, Try.results12, go_sem]; try rfl) rfl ⟨A5, c5, by rw [HAb.out], by rw [HAb.out]; exact hr5, hb6⟩
            · intro x c2 w3 k1 hwx hax hMx hrg1 hlt1 hg1 hs1 hen
              have hx64 := in64_of hwx
              unfold In64 at hx64
              obtain ⟨x1, x2⟩ := hx64
              have hb1 : Bel w1 w3 := Below.grown hb hg1 hb.size (fun j hj => by cases hj; exact HRb.out)
              have hvq := Lib.hid fun z (hz : u18.ownBlock = some z) => (World.ownsRow.lt hv.out z hz).1
              have hv1 : w3.ownsRow (R + 1) 3 1 u18 zs.length (nums zs) := hv.out.kept hg1 (by
                cases hq : u18.ownBlock with
                | none => exact .inl rfl
                | some z => exact .inr (fun e => by cases e; have := hvq.out _ hq; omega))
              have HAp := Lib.hid fun ty => app_own hv1 x (by rw [hs1]; omega) (by have := hzs.out.2.2; omega) ty
              have HMX := Lib.hid (And.intro hMx (And.intro hax hlt1))
              have HRg := Lib.hid (And.intro hrg1 (And.intro hb1 hs1))
              clear hMx hax hlt1 hwx hg1 hrg hrg1 hv hv1 hb hb1 hs1
              go_wp2_with (first
                | (at_builtin; refine wpList_app (by rfl) (.tmp 86) (.tmp 88) _ rfl (HAp.out _) ?_; rintro v7 w7 ⟨A7, c7, rfl, o7, g7, hl7⟩)
                | go_in)
              have hCR := HCR.out
              go_roundg k1
              case measure => exact HMX.out.2.2
              case rel =>
                refine ⟨zs ++ [x], fun y => ahead y && !decide (y = x), ?_, ?_, ⟨?_, fun y => ?_, ?_⟩, by have := HRg.out.2.2; omega, ?_⟩
                · exact (HRg.out.1.kept (World.grownBy_alloc w3 _ none) (by simp) (by simp)).kept g7 (fun e => by have := hvq.out _ e.symm; omega) (fun e => by have := hvq.out _ e.symm; omega)
                · rw [List.length_append]; exact o7
                · refine List.nodup_append.2 ⟨hzs.out.1, by simp, fun y hy z hz e => ?_⟩
                  simp only [List.mem_singleton] at hz
                  have := ((hzs.out.2.1 y).1 hy).2
                  rw [e, hz, HMX.out.2.1] at this
                  cases this
                · rw [List.mem_append, List.mem_singleton, hzs.out.2.1]
                  constructor
                  · rintro (⟨h1, h2⟩ | rfl)
                    · exact ⟨h1, by simp [h2]⟩
                    · exact ⟨by rw [HMX.out.1]; rfl, by simp⟩
                  · rintro ⟨h1, h2⟩
                    rcases ahead_case h2 with h | h
                    · exact .inl ⟨h1, h⟩
                    · exact .inr h
                · have := hzs.out.2.2
                  have := HMX.out.2.2
                  simp
                  omega
                · have hb2 := HRg.out.2.1.alloc (.cells #[.int .i64 x] 3)
                  have := HRb.out
                  exact Below.grown hb2 g7 hb2.size (fun z hz => by have := hvq.out z hz; omega)
        · have hk : (ws ++ [u]).length = ws.length + 1 := by simp
          rw [hk] at HV ⊢
          have hgg2 : Hid (2 * (l.length - cnt l.length p) + ws.length + 1 = gk) := by show _ = _; have := hgg.out.1; rw [hk] at this; omega
          have HGK := Lib.hid hgg.out.2
          obtain ⟨b9, off9, rfl, hb9, hc9⟩ := HVR.out (by simp [nums, natsI])
          have hcell9 := hc9 ws.length _ (show (nums (natsI (ws ++ [u])))[ws.length]? = some (.int .i64 ((u : Nat) : Int)) by simp [nums, natsI])
          obtain ⟨hcap, hcm⟩ := own_cap HV.out (by omega)
          unfold maxLen at hcm
          have hul := (hU.out.ws u (List.mem_append.2 (.inr (by simp)))).1
          have HRe := Lib.hid fun k (hk : k ∈ g u) => hU.out.reach hk
          have HUp := Lib.hid hU.out.pop
          have hVp := own_pop HV.out
          have hnt : (nums (natsI (ws ++ [u]))).take ws.length = nums (natsI ws) := by simp [nums, natsI]
          rw [hnt] at hVp
          have HVp := Lib.hid hVp
          obtain ⟨d1, d2⟩ := (HGb.out.keep hb).1.2 u hul
          obtain ⟨Au, cu, hfu, -⟩ := own_row ((HGb.out.keep hb).2 u hul).1
          rw [natsI_len] at hfu
          rw [hfu] at d1
          have Hfu := Lib.hid hfu
          have hgl := HGn.out u
          have i1 : (u : Int) < l.length := by omega
          have i2 : (0 : Int) ≤ (u : Int) := by omega
          have i3 : ((g u).length : Int) ≤ 60 := by omega
          have i4 : (ws.length : Int) + 1 ≤ 9223372036854775807 := by omega
          have i5 : (ws.length : Int) + 1 ≤ cv := by omega
          clear hU HV HVR hVp hnt hfu hc9 hgg hk
          go_wp2
          obtain ⟨wo, rfl⟩ : ∃ wo : World, wo = wr := ⟨_, rfl⟩
          go_loopg [12, 60] (g u).length (fun gt v kk wr => ∃ (t : Nat) (ws : List Nat) (p : Nat → Bool) (M : Int → Option Int) (s : Nat), kk = .int .i64 t ∧ t ≤ (g u).length ∧ Hid (gt = (g u).length - t) ∧ Hid (2 * (l.length - cnt l.length p) + ws.length + 1 ≤ gk) ∧ Hid (wr.ownsRow (C + 1) 3 1 v ws.length (nums (natsI ws))) ∧ Hid (MapI wr C (cnt l.length p) M s) ∧ Hid (Found M l.length p) ∧ Hid (Up g l.length q p ws [u]) ∧ Hid (∀ k ∈ (g u).take t, p k = true) ∧ Bel w1 wr)
          case atStart => exact ⟨0, ws, p, M, s, rfl, Nat.zero_le _, rfl, Nat.le_of_eq hgg2.out, HVp.out, hO.out, hF.out, HUp.out, (fun k hk => by simp at hk), hb⟩
          case round =>
            clear HVp HUp hO hF hgg2 hb
            obtain ⟨t, ws, p, M, s, rfl, ht, hgt, hgg, hv, hO, hF, hU, hpt, hb⟩ := hrel
            by_cases hltt : t < (g u).length
            · obtain ⟨A', c', e', hrow, -⟩ := own_row ((HGb.out.keep hb).2 u hul).1
              rw [natsI_len, Hfu.out] at e'
              cases e'
              obtain ⟨b8, off8, rfl, hb8, hc8⟩ := hrow (by simp [nums, natsI]; omega)
              obtain ⟨x, hxk⟩ : ∃ x, (g u)[t]? = some x := ⟨_, List.getElem?_eq_getElem hltt⟩
              have hcell8 := hc8 t _ (show (nums (natsI (g u)))[t]? = some (.int .i64 ((x : Nat) : Int)) by simp [nums, natsI, hxk])
              have hxm := List.mem_of_getElem? hxk
              have hxl := HGl.out u x hxm
              have HXr := Lib.hid (HRe.out x hxm)
              have HTk := Lib.hid (show (g u).take (t + 1) = (g u).take t ++ [x] by rw [List.take_add_one, hxk]; rfl)
              obtain ⟨vv, hlook, _⟩ := HoldsM.look hO.out keyI Try.underlying38 Try.underlying3 (zeroI wr) (keyOfI (in64n (by omega : x ≤ 1000)))
              rw [hF.out.at hxl] at hlook
              have hcn := cnt_le l.length p
              have HST := Lib.hid (HoldsM.store hO.out keyI Try.underlying38 Try.underlying3 kI_key kI_inj (by unfold maxLen; omega) (keyOfI (in64n (by omega : x ≤ 1000))) (wfI (in64n (by omega : u ≤ 1000))))
              have j1 : (t : Int) < (g u).length := by omega
              have j2 : (0 : Int) ≤ (t : Int) := by omega
              clear hrow hc8 hxk hxm
              cases hq : p x with
              | true =>
                rw [hq] at hlook
                have HQ := Lib.hid hq
                clear hq
                go_wp2_with (first
                  | (at_lookup; refine wpList_lookM rfl _ _ rfl rfl rfl hlook ?_)
                  | go_in)
                go_roundg ((g u).length - (t + 1))
                case measure => have := hgt.out; omega
                case rel =>
                  refine ⟨t + 1, ws, p, M, s, by go_num, by omega, rfl, hgg.out, hv.out, hO.out, hF.out, hU.out, fun k hk => ?_, hb⟩
                  rw [HTk.out] at hk
                  rcases List.mem_append.1 hk with h | h
                  · exact hpt.out k h
                  · simp at h; rw [h]; exact HQ.out
              | false =>
                rw [hq] at hlook
                have HQ := Lib.hid hq
                clear hq
                have HVW := Lib.hid hv.out
                have hvq := Lib.hid fun z (hz : u12.ownBlock = some z) => (World.ownsRow.lt hv.out z hz).1
                have HAp := Lib.hid fun W (hW : wr.grownBy W (some C)) (ty : TypeId) => app_own (w := W) (v := u12) (n := ws.length) (l := natsI ws) (hv.out.kept hW (by
                  cases hq : u12.ownBlock with
                  | none => exact .inl rfl
                  | some z => exact .inr (fun e => by cases e; have := hvq.out _ hq; omega))) (x : Int) (by have := hW.size; have := HoldsM.lt hO.out; omega) (by rw [natsI_len]; have := hgg.out; have := HGK.out; omega) ty
                have hcl := Lib.hid (HoldsM.lt hO.out)
                clear hv hO
                go_wp2_with (first
                  | (at_lookup; refine wpList_lookM rfl _ _ rfl rfl rfl hlook ?_)
                  | (at_mapUpdate; refine wpList_putM rfl _ _ _ rfl rfl rfl rfl HST.out ?_; rintro w6 ⟨hO6, g6⟩)
                  | (at_builtin; refine wpList_app (by rfl) (.tmp 75) (.tmp 77) _ rfl (HAp.out _ g6 _) ?_; rintro v7 w7 ⟨A7, c7, rfl, o7, g7, hl7⟩)
                  | go_in)
                have hCl := HCe.out
                go_roundg ((g u).length - (t + 1))
                case measure => have := hgt.out; omega
                case rel =>
                  refine ⟨t + 1, ws ++ [x], fun i => if i = x then true else p i, mput M (x : Int) u, (if (M (x : Int)).isSome then s else s + 1), by go_num, by omega, rfl, ?_, ?_, ?_, hF.out.put hxl u, hU.out.push hxl HXr.out, fun k hk => ?_, ?_⟩
                  rotate_left 2
                  · rw [cnt_set hxl HQ.out]
                    exact (hO6.kept (World.grownBy_alloc w6 (.cells #[.int .i64 (x : Int)] 3) none) (by simp)).kept g7 (fun e => by have := hvq.out _ e.symm; omega)
                  · rw [HTk.out] at hk
                    rcases List.mem_append.1 hk with h | h
                    · have := hpt.out k h
                      by_cases e : k = x <;> simp [e, this]
                    · simp at h; rw [h]; simp
                  · have hb6 : Bel w1 w6 := Below.grown hb g6 hb.size (fun z hz => by cases hz; omega)
                    have hb65 := hb6.alloc (.cells #[.int .i64 (x : Int)] 3)
                    exact Below.grown hb65 g7 hb65.size (fun z hz => by have := hvq.out z hz; omega)
                  · show _ ≤ _
                    rw [cnt_set hxl HQ.out]
                    have := hgg.out
                    have h9 := cnt_le l.length (fun i => if i = x then true else p i)
                    rw [cnt_set hxl HQ.out] at h9
                    simp
                    omega
                  · have e : natsI (ws ++ [x]) = natsI ws ++ [(x : Int)] := by simp [natsI]
                    rw [e, List.length_append]
                    exact o7
            · obtain rfl : t = (g u).length := by omega
              have HUd := Lib.hid (hU.out.done (by have := hpt.out; rwa [List.take_length] at this))
              clear hU hpt hltt ht hgt
              go_wp2
              go_roundg (2 * (l.length - cnt l.length p) + ws.length)
              case measure => have := hgg.out; omega
              case rel => exact ⟨ws, p, M, s, ⟨rfl, by have := hgg.out; have := HGK.out; omega⟩, hv.out, hO.out, hF.out, HUd.out, hb⟩
  · have HR := Lib.hid (res_bad d A c ls w hd hn hz0 hz hz2 h0)
    have HO := Lib.hid (ab_bad (m := m) h0)
    generalize hns : nsOf ls = ns at HR HO h0 ⊢
    obtain ⟨A0, c0, l⟩ := d
    simp only at h0 HR HO
    simp only [Sl.val] at HR ⊢
    generalize (chk l ns).1 = z at HR
    generalize (chk l ns).2 = q at HR HO h0
    have e1 : (q != 0) = true := by simpa using h0
    clear h0 hd hn hz2 hz0
    go_enter Try.func12, Try.ntmps12
    go_wp2_with (first
      | (go_at_call 14; refine HR.out.mono ?_; rintro e w1 ⟨rfl, hb1⟩)
      | go_in)
    refine bodyPost_ret (by simp [results, Try.results12, go_sem]; try rfl) rfl ⟨none, 0, by rw [HO.out]; rfl, by rw [HO.out]; exact ints_nil, hb1⟩
end Go.Proofs.Ytinbhhcppiamjaa
