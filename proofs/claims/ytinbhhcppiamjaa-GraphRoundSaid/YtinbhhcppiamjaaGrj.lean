import Derived.Test.YtinbhhcppiamjaaGri
namespace Go.Proofs.Ytinbhhcppiamjaa
set_option linter.unusedSimpArgs false
set_option linter.unusedVariables false
open Go.RowKit Go.Lib Go.Maps

/-! Order: the document's answer. -/
theorem infoB : (Try.prog.info? 4).map (fun i => (i.zero, i.size, i.bytes)) = some (some (.bool false), 1, 1) := by kernel_rfl
theorem make_bools (n : Nat) (hn : n ≤ 1000) (w : World) : (Instr.makeSlice 44 (.int .i64 n) (.int .i64 n)).run Try.prog w = .ok (.slice (some ⟨w.heap.size, 0, none⟩) n n) (w.alloc (.cells (madeCells #[.bool false] n) 4)) :=
  run_make_row' 44 4 (.bool false) 1 Try.underlying44 infoB rfl .i64 .i64 n (by omega) (by omega) w
/-- Which of the first names stand. -/
def doneV (os : List Nat) : Nat → Value := fun j => .bool (os.contains j)
theorem doneV_snoc (os : List Nat) (i : Nat) : vset (doneV os) i (.bool true) = doneV (os ++ [i]) := by
  funext j
  unfold vset doneV
  by_cases e : j = i
  · subst e; rw [if_pos rfl]; simp
  · rw [if_neg e]; congr 1; rw [Bool.eq_iff_iff]; simp [e]
/-- All names so far stand. -/
def stand (l : List ByteArray) (os : List Nat) (m : List ByteArray) : Bool := m.all fun s => match idx l s with | some j => os.contains j | none => false
theorem stand_succ {l : List ByteArray} {os : List Nat} {m : List ByteArray} {t j : Nat} {s : ByteArray} (h : m[t]? = some s) (hj : idx l s = some j) : stand l os (m.take (t + 1)) = (stand l os (m.take t) && os.contains j) := by
  unfold stand
  rw [List.take_add_one, h, List.all_append]
  simp [hj]
theorem stand_ready {l : List ByteArray} {ns : List (List ByteArray)} {os : List Nat} {i : Nat} {m : List ByteArray} (hm : ns_at ns i = m) (hi : ∀ s ∈ m, (idx l s).isSome = true) (ho : os.contains i = false) : ready (gr l ns) os i = stand l os m := by
  subst hm
  rw [Bool.eq_iff_iff, ready_iff]
  unfold stand
  rw [List.all_eq_true]
  constructor
  · rintro ⟨_, h⟩ s hs
    obtain ⟨j, hj⟩ := Option.isSome_iff_exists.1 (hi s hs)
    rw [hj]
    simpa using h j (mem_gr.2 ⟨s, hs, hj⟩)
  · intro h
    refine ⟨by simpa using ho, fun k hk => ?_⟩
    obtain ⟨s, hs, hj⟩ := mem_gr.1 hk
    have := h s hs
    rw [hj] at this
    simpa using this
theorem ready_done {g : Nat → List Nat} {os : List Nat} {i : Nat} (ho : os.contains i = true) : ready g os i = false := by
  unfold ready; rw [ho]; rfl
theorem not_lost {l m : List ByteArray} {ns : List (List ByteArray)} {i : Nat} (h : lost l ns i = false) (hm : ns[i]? = some m) : ∀ s ∈ m, (idx l s).isSome = true := by
  intro s hs
  unfold lost at h
  rw [hm] at h
  simp only [List.any_eq_false] at h
  have := h s hs
  cases hi : idx l s with
  | none => rw [hi] at this; simp at this
  | some k => rfl
theorem idxI_some {l : List ByteArray} {s : ByteArray} {j : Nat} (h : idx l s = some j) : idxI l s = j := by
  unfold idxI; rw [h]
set_option maxRecDepth 100000 in
set_option maxHeartbeats 8000000 in
theorem rorder_any (d : Sl) (A : Option Addr) (c : Nat) (ls : List Sl) (w : World) (hd : SlOk w d) (hn : Nds w A ls) (hz0 : d.l.length ≤ 60) (hz : ls.length ≤ 60) (hz2 : ∀ d ∈ ls, d.l.length ≤ 60) :
    Calls Try.prog 10 #[d.val, .slice A ls.length c] w fun e w' => OrdOut d.l (nsOf ls) w w' e := by
  have HR := Lib.hid (check_any d A c ls w hd hn (by omega))
  by_cases h0 : (chk d.l (nsOf ls)).2 = 0
  · have h00 := chk_zero1 h0
    rw [h0, h00] at HR
    have HF := Lib.hid fun s W (hW : Bel w W) => find_any d s W (hd.keep hW)
    obtain ⟨A0, c0, l⟩ := d
    simp only at hz0 HR h0 HF
    simp only [Sl.val] at HR HF ⊢
    have HZ := Lib.hid (chk_zero h0)
    have HFull := Lib.hid fun h => ord_full (l := l) (ns := nsOf ls) h0 h
    have HStuck := Lib.hid fun k hk h => ord_stuck (l := l) (ns := nsOf ls) (k := k) h0 hk h
    have HN := Lib.hid (show l.length = ls.length from by have := (chk_zero h0).1; rwa [nsOf_len] at this)
    have HZ2 := Lib.hid hz2
    clear h0 h00 hd hz2
    have hli : (l.length : Int) ≤ 60 := by omega
    have hzi : (ls.length : Int) ≤ 60 := by omega
    have hmk := make_bools l.length (by omega)
    go_enter Try.func10, Try.ntmps10
    go_wp2_with (first
      | (go_at_call 18; refine HR.out.mono ?_; rintro e w1 ⟨rfl, h1⟩; obtain rfl : w = w1 := h1.symm)
      | go_in)
    have hDn := VRow.made w (.bool false) l.length 4
    have hDs : (w.alloc (.cells (madeCells #[.bool false] l.length) 4)).heap.size = w.heap.size + 1 := by simp
    have hOn := World.ownsRow_lit (base := w.heap.size + 1) (e := 3) (size := 1) (w.alloc (.cells (madeCells #[.bool false] l.length) 4)) #[] 0 (by simp) (by unfold maxLen; omega) (by simp)
    rw [hDs] at hOn
    have hD2 := hDn.keep ((Bel.refl _).alloc (.cells #[] 3))
    have hb2 := ((Bel.refl w).alloc (.cells (madeCells #[.bool false] l.length) 4)).alloc (.cells #[] 3)
    have hd0 : (fun _ : Nat => Value.bool false) = doneV (ord (gr l (nsOf ls)) l.length 0) := by funext j; simp [doneV, ord]
    rw [hd0] at hD2
    have hO2 : ((w.alloc (.cells (madeCells #[.bool false] l.length) 4)).alloc (.cells #[] 3)).ownsRow (w.heap.size + 1) 3 1 (.slice (some ⟨w.heap.size + 1, 0, none⟩) 0 0) 0 (nums (natsI (ord (gr l (nsOf ls)) l.length 0))) := by simpa [ord, natsI, nums] using hOn
    have HOut := Lib.hid (show ∀ W e, OrdOut l (nsOf ls) w W e = OrdOut l (nsOf ls) w W e from fun _ _ => rfl)
    generalize hD : w.heap.size = D at hD2 hO2 ⊢
    generalize hw2 : (w.alloc (.cells (madeCells #[.bool false] l.length) 4)).alloc (.cells #[] 3) = w2 at hD2 hO2 hb2 ⊢
    have HDe := Lib.hid hD
    have Hgl := Lib.hid (gr_lt (l := l) (ns := nsOf ls))
    have HRdy := Lib.hid fun (os : List Nat) i m (hm : ns_at (nsOf ls) i = m) hi ho => stand_ready (l := l) (ns := nsOf ls) (os := os) (i := i) (m := m) hm hi ho
    generalize hg : gr l (nsOf ls) = g at hD2 hO2 HFull HStuck Hgl HRdy ⊢
    clear hw2 hDn hDs hOn hd0 hmk hD
    go_loopg [10] l.length (fun gg v wr => ∃ (k : Nat), k ≤ l.length ∧ Hid (gg = l.length - k) ∧ Hid (wr.ownsRow (D + 1) 3 1 v k (nums (natsI (ord g l.length k)))) ∧ Hid (∀ j, j < k → nxt g l.length (ord g l.length j) ≠ none) ∧ Hid (VRow wr D l.length (doneV (ord g l.length k))) ∧ Bel w wr)
    case atStart => exact ⟨0, Nat.zero_le _, rfl, hO2, (fun j hj => absurd hj (Nat.not_lt_zero _)), hD2, hb2⟩
    case round =>
      clear hO2 hD2 hb2
      clear w2
      obtain ⟨k, hk, hg1, hv, hnx, hDv, hb⟩ := hrel
      obtain ⟨Av, cv, hve, hvr, -⟩ := own_row hv.out
      have HV := Lib.hid hv.out
      clear hv
      subst hve
      by_cases hlt : k < l.length
      · clear hvr
        have hlt1 : (k : Int) < l.length := by omega
        go_wp2
        have HOL := Lib.hid (ord_ok (g := g) (N := l.length) k)
        have HLn := Lib.hid (ord_len hnx.out)
        obtain ⟨wo, rfl⟩ : ∃ wo : World, wo = wr := ⟨_, rfl⟩
        go_loopg [11, 12, 13] l.length (fun gg nx fs i wr => ∃ (m : Nat) (x y : Int), nx = .int .i64 x ∧ fs = .int .i64 y ∧ i = .int .i64 ((m : Int) - 1) ∧ m ≤ l.length ∧ Hid (gg = m) ∧ Hid (Lst (ready g (ord g l.length k)) l.length m x ∧ -1 ≤ x ∧ x < l.length) ∧ Hid (Lst (fun i => !(ord g l.length k).contains i) l.length m y ∧ -1 ≤ y ∧ y < l.length) ∧ wo = wr)
        case atStart => exact ⟨l.length, -1, -1, rfl, rfl, rfl, Nat.le_refl _, rfl, ⟨Lst.start _ _, by omega, by omega⟩, ⟨Lst.start _ _, by omega, by omega⟩, rfl⟩
        case round =>
          obtain ⟨m, x, y, rfl, rfl, rfl, hm, hgm, hx, hy, rfl⟩ := hrel
          cases m with
          | succ m =>
            have em : ((m + 1 : Nat) : Int) - 1 = (m : Int) := by omega
            rw [em]
            clear em
            have hml : m < l.length := by omega
            obtain ⟨d1, d2⟩ := hDv.out.2 m hml
            unfold doneV at d1
            have i1 : (m : Int) < l.length := by omega
            have i2 : (0 : Int) ≤ (m : Int) := by omega
            cases hc : (ord g l.length k).contains m with
            | true =>
              rw [hc] at d1
              have HC := Lib.hid hc
              clear hc
              go_wp2
              go_roundg m
              case measure => have := hgm.out; omega
              case rel => exact ⟨m, x, y, rfl, rfl, rfl, by omega, rfl, ⟨hx.out.1.miss (ready_done HC.out), hx.out.2⟩, ⟨hy.out.1.miss (by rw [HC.out]; rfl), hy.out.2⟩, rfl⟩
            | false =>
              rw [hc] at d1
              have HC := Lib.hid hc
              clear hc
              have hml2 : m < ls.length := by have := HN.out; omega
              obtain ⟨blk, off, rfl, hltb, hat⟩ := (hn.keep hb).blk (by omega)
              obtain ⟨yy, hyk⟩ : ∃ yy, ls[m]? = some yy := ⟨_, List.getElem?_eq_getElem hml2⟩
              have hcell := hat m yy hyk
              have hyo := (hn.keep hb).ok yy (List.mem_of_getElem? hyk)
              have HY := Lib.hid (nsOf_at hyk)
              have hm60 := HZ2.out yy (List.mem_of_getElem? hyk)
              obtain ⟨A1, c1, mm⟩ := yy
              have hmm := hyo.strs
              simp only at hmm hcell HY hm60
              have hmi : (mm.length : Int) ≤ 60 := by omega
              have i3 : (m : Int) < ls.length := by omega
              have HMN := Lib.hid (show ns_at (nsOf ls) m = mm from by unfold ns_at; rw [List.getD_eq_getElem?_getD, HY.out]; rfl)
              have HNL := Lib.hid (not_lost (HZ.out.2.2.2 m (by omega)) HY.out)
              clear hat hyo hyk hn
              go_wp2
              go_loopg [14, 15] mm.length (fun gg rd kk wr => ∃ (t : Nat) (acc : Bool), rd = .bool acc ∧ kk = .int .i64 t ∧ t ≤ mm.length ∧ Hid (gg = mm.length - t) ∧ Hid (acc = stand l (ord g l.length k) (mm.take t)) ∧ wo = wr)
              case atStart => exact ⟨0, true, rfl, rfl, Nat.zero_le _, rfl, rfl, rfl⟩
              case round =>
                obtain ⟨t, acc, rfl, rfl, ht, hgt, hacc, rfl⟩ := hrel
                by_cases hltt : t < mm.length
                · obtain ⟨b2, off2, rfl, hltb2, hat2⟩ := hmm.blk (by omega)
                  obtain ⟨s, hsk⟩ : ∃ s, mm[t]? = some s := ⟨_, List.getElem?_eq_getElem hltt⟩
                  have hcell2 := hat2 t s hsk
                  obtain ⟨j, hj⟩ := Option.isSome_iff_exists.1 (HNL.out s (List.mem_of_getElem? hsk))
                  have hjl := (idx_some hj).1
                  have HFx := HF.out s wo hb
                  rw [idxI_some hj] at HFx
                  have HST := Lib.hid (stand_succ (os := ord g l.length k) hsk hj)
                  obtain ⟨d3, d4⟩ := hDv.out.2 j hjl
                  unfold doneV at d3
                  generalize (ord g l.length k).contains j = q at d3 HST
                  have j1 : (t : Int) < mm.length := by omega
                  have j2 : (0 : Int) ≤ (t : Int) := by omega
                  have j3 : (j : Int) < l.length := by omega
                  have j4 : (0 : Int) ≤ (j : Int) := by omega
                  clear hat2 hsk hj
                  cases acc with
                  | true =>
                    go_wp2_with (first
                      | (go_at_call 19; refine HFx.mono ?_; rintro e w' ⟨rfl, h1⟩; obtain rfl : wo = w' := h1.symm)
                      | go_in)
                    go_roundg (mm.length - (t + 1))
                    case measure => have := hgt.out; omega
                    case rel => exact ⟨t + 1, q, rfl, by go_num, by omega, rfl, (by show _ = _; rw [HST.out, ← hacc.out]; rfl), rfl⟩
                  | false =>
                    go_wp2
                    go_roundg (mm.length - (t + 1))
                    case measure => have := hgt.out; omega
                    case rel => exact ⟨t + 1, false, rfl, by go_num, by omega, rfl, (by show _ = _; rw [HST.out, ← hacc.out]; rfl), rfl⟩
                · obtain rfl : t = mm.length := by omega
                  have HRd := Lib.hid (HRdy.out _ m mm HMN.out HNL.out HC.out)
                  have hacc2 := hacc.out
                  rw [List.take_length, ← HRd.out] at hacc2
                  have HA := Lib.hid hacc2
                  clear hacc hacc2 hltt ht hgt
                  cases acc with
                  | true =>
                    go_wp2
                    go_roundg m
                    case measure => have := hgm.out; omega
                    case rel => exact ⟨m, m, m, rfl, rfl, rfl, by omega, rfl, ⟨Lst.hit (x := 0) hml HA.out.symm, by omega, by omega⟩, ⟨Lst.hit (x := 0) hml (by rw [HC.out]; rfl), by omega, by omega⟩, rfl⟩
                  | false =>
                    go_wp2
                    go_roundg m
                    case measure => have := hgm.out; omega
                    case rel => exact ⟨m, x, m, rfl, rfl, rfl, by omega, rfl, ⟨hx.out.1.miss HA.out.symm, hx.out.2⟩, ⟨Lst.hit (x := 0) hml (by rw [HC.out]; rfl), by omega, by omega⟩, rfl⟩
          | zero =>
            clear hgm hm
            have em : ((0 : Nat) : Int) - 1 = -1 := by omega
            rw [em]
            clear em
            rcases nxt_lst hx.out.1 with ⟨rfl, hnk⟩ | ⟨i, rfl, hil, hnk⟩
            · have HS := Lib.hid (HStuck.out k hlt hnk)
              have HY := Lib.hid (fst_lst hy.out.1 (miss HOL.out.1 HOL.out.2.1 (by have := HOL.out.2.2; omega)))
              clear hnk hx
              go_wp2
              refine bodyPost_ret (by simp [results, Try.results10, go_sem]; try rfl) rfl ⟨none, 0, by rw [HS.out, HY.out]; rfl, by rw [HS.out]; exact ints_nil, hb⟩
            · obtain ⟨_, hio, _⟩ := nxt_some hnk
              have HNX := Lib.hid (upto_succ hnx.out (show nxt g l.length (ord g l.length k) ≠ none from by rw [hnk]; simp))
              have HSc := Lib.hid (ord_succ_some hnk)
              obtain ⟨d1, d2⟩ := hDv.out.2 i hil
              have HP := Lib.hid (hDv.out.put i (.bool true) hil)
              have hOw : (wo.setCell ⟨D, i, none⟩ (.bool true)).ownsRow (D + 1) 3 1 (.slice Av k cv) k (nums (natsI (ord g l.length k))) := by
                refine HV.out.kept (grownBy_setV wo D i _) ?_
                cases hq : Value.ownBlock (.slice Av k cv) with
                | none => exact .inl rfl
                | some q => exact .inr (fun e => by cases e; have := (World.ownsRow.lt HV.out _ hq).1; omega)
              have HQ := Lib.hid fun q (hq : Value.ownBlock (.slice Av k cv) = some q) => (World.ownsRow.lt HV.out q hq).1
              have HAp := Lib.hid fun ty => app_own hOw (i : Int) (by have := hDv.out.1; simp; omega) (by rw [natsI_len]; have := HOL.out.2.2; omega) ty
              have i1 : (i : Int) < l.length := by omega
              have i2 : (0 : Int) ≤ (i : Int) := by omega
              have hs1 : wo.heap.size = (wo.setCell ⟨D, i, none⟩ (.bool true)).heap.size := by simp
              have HS1 := Lib.hid hs1
              have hb5 : Bel w (wo.setCell ⟨D, i, none⟩ (.bool true)) := hb.setCell (by show _ ≤ D; have := HDe.out; omega) _
              clear hOw hnk hx hio hs1
              go_upto_region 23 with (fail)
              generalize wo.setCell ⟨D, i, none⟩ (.bool true) = W at HP HAp HS1 hb5 ⊢
              go_wp2_with (first
                | (at_builtin; refine wpList_app (by rfl) (.tmp 79) (.tmp 81) _ rfl (HAp.out _) ?_; rintro v7 w7 ⟨A7, c7, rfl, o7, g7, hl7⟩)
                | go_in)
              go_roundg (l.length - (k + 1))
              case measure => have := hg1.out; omega
              case rel =>
                have hDd := HDe.out
                have hb6 := hb5.alloc (.cells #[.int .i64 (i : Int)] 3)
                refine ⟨k + 1, by omega, rfl, ?_, HNX.out, ?_, Below.grown hb6 g7 hb6.size (fun q hq => by have := HQ.out q hq; omega)⟩
                · rw [HSc.out]
                  have e : natsI (ord g l.length k ++ [i]) = natsI (ord g l.length k) ++ [(i : Int)] := by simp [natsI]
                  rw [e]
                  exact o7
                · rw [HSc.out, ← doneV_snoc]
                  exact (HP.out.keep ((Bel.refl _).alloc (.cells #[.int .i64 (i : Int)] 3))).kept g7 (fun e => by have := HQ.out _ e.symm; omega)
      · obtain rfl : k = l.length := by omega
        have HF := Lib.hid (HFull.out hnx.out)
        have HLen := Lib.hid (ord_len hnx.out)
        have HE := Lib.hid (And.intro hvr hb)
        clear hvr hb hlt hDv
        go_wp2
        refine bodyPost_ret (by simp [results, Try.results10, go_sem]; try rfl) rfl ⟨Av, cv, by rw [HF.out]; simp only; rw [HLen.out], by rw [HF.out]; exact HE.out.1, HE.out.2⟩
  · have HO := Lib.hid (ord_bad h0)
    obtain ⟨A0, c0, l⟩ := d
    simp only at h0 HR HO
    simp only [Sl.val] at HR ⊢
    generalize nsOf ls = ns at HR HO h0 ⊢
    generalize (chk l ns).1 = z at HR HO
    generalize (chk l ns).2 = q at HR HO h0
    have e1 : (q != 0) = true := by simpa using h0
    clear h0 hd hn hz2 hz0
    go_enter Try.func10, Try.ntmps10
    go_wp2_with (first
      | (go_at_call 18; refine HR.out.mono ?_; rintro e w1 ⟨rfl, rfl⟩)
      | go_in)
    refine bodyPost_ret (by simp [results, Try.results10, go_sem]; try rfl) rfl ⟨none, 0, by rw [HO.out]; rfl, by rw [HO.out]; exact ints_nil, Bel.refl _⟩
end Go.Proofs.Ytinbhhcppiamjaa
