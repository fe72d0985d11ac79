import Derived.Test.YtinbhhcppiamjaaGrl
namespace Go.Proofs.Ytinbhhcppiamjaa
set_option linter.unusedSimpArgs false
set_option linter.unusedVariables false
open Go.RowKit Go.Lib Go.Maps

/-! Above: the document's answer. -/
def boolV (p : Nat → Bool) : Nat → Value := fun j => .bool (p j)
def bset (p : Nat → Bool) (x : Nat) : Nat → Bool := fun i => if i = x then true else p i
theorem boolV_set (p : Nat → Bool) (j : Nat) : vset (boolV p) j (.bool true) = boolV (bset p j) := by
  funext i
  unfold vset boolV bset
  by_cases e : i = j
  · rw [if_pos e, if_pos e]
  · rw [if_neg e, if_neg e]
theorem bset_same {p : Nat → Bool} {x : Nat} (h : p x = true) : bset p x = p := cnt_same (n := 0) h
theorem bset_cnt {p : Nat → Bool} {n x : Nat} (hx : x < n) (h : p x = false) : cnt n (bset p x) = cnt n p + 1 := cnt_set hx h
/-- All that the first i need is in, or something has been added. -/
def Step (g : Nat → List Nat) (N m c0 i : Nat) (p : Nat → Bool) (a : Bool) (us : List Nat) : Prop :=
  (a = false ∧ cnt N p = c0 ∧ (∀ y, y < i → (p y = true ∨ y = m) → ∀ k ∈ g y, p k = true) ∧ ∀ k ∈ us, p k = true) ∨ (a = true ∧ c0 < cnt N p)
theorem Step.start (g : Nat → List Nat) (N m : Nat) (p : Nat → Bool) : Step g N m (cnt N p) 0 p false [] :=
  .inl ⟨rfl, rfl, fun y h => absurd h (Nat.not_lt_zero _), fun k hk => by cases hk⟩
theorem Step.skip {g : Nat → List Nat} {N m c0 i : Nat} {p : Nat → Bool} {a : Bool} {us : List Nat} (h : Step g N m c0 i p a us) (hp : p i = false) (hm : i ≠ m) : Step g N m c0 (i + 1) p a [] := by
  rcases h with ⟨h1, h2, h3, _⟩ | h
  · refine .inl ⟨h1, h2, fun y hy hp2 => ?_, fun k hk => by cases hk⟩
    rcases Nat.lt_or_ge y i with h4 | h4
    · exact h3 y h4 hp2
    · have : y = i := by omega
      subst this
      rcases hp2 with h5 | h5
      · rw [hp] at h5; cases h5
      · exact absurd h5 hm
  · exact .inr h
theorem Step.next {g : Nat → List Nat} {N m c0 i : Nat} {p : Nat → Bool} {a : Bool} {us : List Nat} (h : Step g N m c0 i p a us) (hu : ∀ k ∈ g i, k ∈ us) : Step g N m c0 (i + 1) p a [] := by
  rcases h with ⟨h1, h2, h3, h0⟩ | h
  · refine .inl ⟨h1, h2, fun y hy hp2 => ?_, fun k hk => by cases hk⟩
    rcases Nat.lt_or_ge y i with h4 | h4
    · exact h3 y h4 hp2
    · have : y = i := by omega
      subst this
      exact fun k hk => h0 k (hu k hk)
  · exact .inr h
theorem Step.old {g : Nat → List Nat} {N m c0 i x : Nat} {p : Nat → Bool} {a : Bool} {us : List Nat} (h : Step g N m c0 i p a us) (hp : p x = true) : Step g N m c0 i p a (us ++ [x]) := by
  rcases h with ⟨h1, h2, h3, h0⟩ | h
  · refine .inl ⟨h1, h2, h3, fun k hk => ?_⟩
    rcases List.mem_append.1 hk with h4 | h4
    · exact h0 k h4
    · simp at h4; rw [h4]; exact hp
  · exact .inr h
theorem Step.new {g : Nat → List Nat} {N m c0 i x : Nat} {p : Nat → Bool} {a : Bool} {us us2 : List Nat} (h : Step g N m c0 i p a us) (hx : x < N) (hp : p x = false) : Step g N m c0 i (bset p x) true us2 := by
  refine .inr ⟨rfl, ?_⟩
  rw [bset_cnt hx hp]
  rcases h with ⟨h1, h2, _⟩ | ⟨_, h2⟩ <;> omega
/-- What is in is above. -/
def Snd (g : Nat → List Nat) (N m : Nat) (p : Nat → Bool) : Prop := ∀ x, x < N → p x = true → Reach g m x
theorem Snd.set {g : Nat → List Nat} {N m i x : Nat} {p : Nat → Bool} (h : Snd g N m p) (hi : i < N) (hp : p i = true ∨ i = m) (hx : x ∈ g i) : Snd g N m (bset p x) := fun y hy hpy => by
  unfold bset at hpy
  by_cases e : y = x
  · rw [e]
    rcases hp with hp | rfl
    · exact (h i hi hp).more hx
    · exact .one hx
  · rw [if_neg e] at hpy
    exact h y hy hpy
/-- The numbers of the first names. -/
def idxs (l : List ByteArray) (m : List ByteArray) : List Nat := m.filterMap (idx l)
theorem idxs_succ {l m : List ByteArray} {t j : Nat} {s : ByteArray} (h : m[t]? = some s) (hj : idx l s = some j) : idxs l (m.take (t + 1)) = idxs l (m.take t) ++ [j] := by
  unfold idxs
  rw [List.take_add_one, h, List.filterMap_append]
  simp [hj]
theorem idxs_gr {l m : List ByteArray} {ns : List (List ByteArray)} {i k : Nat} (hm : ns_at ns i = m) : k ∈ gr l ns i ↔ k ∈ idxs l m := by
  subst hm
  rw [mem_gr]
  unfold idxs ns_at
  rw [List.mem_filterMap]
theorem filt_succ (p : Nat → Bool) (i : Nat) : (List.range (i + 1)).filter p = (List.range i).filter p ++ if p i = true then [i] else [] := by
  rw [List.range_succ, List.filter_append]
  simp [List.filter_cons]
set_option maxRecDepth 100000 in
set_option maxHeartbeats 8000000 in
theorem rabove_any (d : Sl) (A : Option Addr) (c : Nat) (ls : List Sl) (m : Int) (w : World) (hd : SlOk w d) (hn : Nds w A ls) (hz0 : d.l.length ≤ 60) (hz : ls.length ≤ 60) (hz2 : ∀ d ∈ ls, d.l.length ≤ 60) (hm64 : In64 m) :
    Calls Try.prog 13 #[d.val, .slice A ls.length c, .int .i64 m] w fun e w' => AbOut d.l (nsOf ls) m w w' e := by
  have HR := Lib.hid (check_any d A c ls w hd hn (by omega))
  by_cases h0 : (chk d.l (nsOf ls)).2 = 0
  · have h00 := chk_zero1 h0
    rw [h0, h00] at HR
    have HF := Lib.hid fun s W (hW : Bel w W) => find_any d s W (hd.keep hW)
    obtain ⟨A0, c0, l⟩ := d
    simp only at hz0 HR h0 HF
    simp only [Sl.val] at HR HF ⊢
    have HZ := Lib.hid (chk_zero h0)
    have HC := Lib.hid h0
    have HN := Lib.hid (show l.length = ls.length from by have := (chk_zero h0).1; rwa [nsOf_len] at this)
    have HZ2 := Lib.hid hz2
    clear h0 h00 hd hz2
    have hli : (l.length : Int) ≤ 60 := by omega
    have hzi : (ls.length : Int) ≤ 60 := by omega
    have hmk := make_bools l.length (by omega)
    by_cases hmr : m < 0 ∨ (l.length : Int) ≤ m
    · have HA := Lib.hid (ab_arg HC.out hmr)
      rcases hmr with hm1 | hm1
      · go_enter Try.func13, Try.ntmps13
        go_wp2_with (first
          | (go_at_call 18; refine HR.out.mono ?_; rintro e w1 ⟨rfl, h1⟩; obtain rfl : w = w1 := h1.symm)
          | go_in)
        refine bodyPost_ret (by simp [results, Try.results13, go_sem]; try rfl) rfl ⟨none, 0, by rw [HA.out]; rfl, by rw [HA.out]; exact ints_nil, Bel.refl _⟩
      · have hm2 : ¬ m < 0 := by omega
        have hm3 : (0 : Int) ≤ m := by omega
        go_enter Try.func13, Try.ntmps13
        go_wp2_with (first
          | (go_at_call 18; refine HR.out.mono ?_; rintro e w1 ⟨rfl, h1⟩; obtain rfl : w = w1 := h1.symm)
          | go_in)
        refine bodyPost_ret (by simp [results, Try.results13, go_sem]; try rfl) rfl ⟨none, 0, by rw [HA.out]; rfl, by rw [HA.out]; exact ints_nil, Bel.refl _⟩
    · obtain ⟨q, rfl⟩ : ∃ q : Nat, m = (q : Int) := ⟨m.toNat, by omega⟩
      have hql : q < l.length := by omega
      have hqi : (q : Int) < l.length := by omega
      have hq0 : (0 : Int) ≤ (q : Int) := by omega
      have hq1 : decide ((q : Int) < 0) = false := by simp
      have hq2 : decide (l.length ≤ q) = false := by simpa using hql
      have HAb := Lib.hid (ab_ok (ns := nsOf ls) HC.out hql)
      have HGl := Lib.hid (gr_lt (l := l) (ns := nsOf ls))
      have HIx := Lib.hid fun i k mm (h : ns_at (nsOf ls) i = mm) => idxs_gr (l := l) (ns := nsOf ls) (i := i) (k := k) h
      clear hmr hm64
      generalize hg : gr l (nsOf ls) = g at HAb HGl HIx
      go_enter Try.func13, Try.ntmps13
      go_wp2_with (first
        | (go_at_call 18; refine HR.out.mono ?_; rintro e w1 ⟨rfl, h1⟩; obtain rfl : w = w1 := h1.symm)
        | go_in)
      have hDn := VRow.made w (.bool false) l.length 4
      have hb2 := (Bel.refl w).alloc (.cells (madeCells #[.bool false] l.length) 4)
      have hd0 : (fun _ : Nat => Value.bool false) = boolV (fun _ => false) := rfl
      rw [hd0] at hDn
      generalize hD : w.heap.size = D at hDn ⊢
      generalize hw2 : w.alloc (.cells (madeCells #[.bool false] l.length) 4) = w2 at hDn hb2 ⊢
      have HDe := Lib.hid hD
      clear hw2 hd0 hmk hD
      go_loopg [11] (2 * l.length + 1) (fun gg v wr => ∃ (a : Bool) (p : Nat → Bool), v = .bool a ∧ Hid (gg = 2 * (l.length - cnt l.length p) + (if a = true then 1 else 0)) ∧ Hid (VRow wr D l.length (boolV p)) ∧ Hid (Snd g l.length q p) ∧ Hid (a = false → ∀ y, y < l.length → (p y = true ∨ y = q) → ∀ k ∈ g y, p k = true) ∧ Bel w wr)
      case atStart => exact ⟨true, fun _ => false, rfl, by show _ = _; rw [cnt_none]; simp, hDn, (fun x _ h => by cases h), (fun h => by cases h), hb2⟩
      case round =>
        clear hDn hb2
        clear w2
        obtain ⟨a, p, rfl, hgg, hV, hS, hcl, hb⟩ := hrel
        cases a with
        | false =>
          have HE := Lib.hid (above_eq hS.out (hcl.out rfl q hql (.inr rfl)) (fun i hi hp => hcl.out rfl i hi (.inl hp)) HGl.out)
          clear hS hcl hgg
          go_wp2
          obtain ⟨wo, rfl⟩ : ∃ wo : World, wo = wr := ⟨_, rfl⟩
          have hOn := World.ownsRow_lit (base := wo.heap.size) (e := 3) (size := 1) wo #[] 0 (by simp) (by unfold maxLen; omega) (by simp)
          have hO2 : (wo.alloc (.cells #[] 3)).ownsRow wo.heap.size 3 1 (.slice (some ⟨wo.heap.size, 0, none⟩) 0 0) 0 (nums (natsI ((List.range 0).filter p))) := by simpa [natsI, nums] using hOn
          have hV2 := hV.out.keep ((Bel.refl wo).alloc (.cells #[] 3))
          have hb2 := hb.alloc (.cells #[] 3)
          have HDl := Lib.hid hV.out.1
          have HHb := Lib.hid hb.size
          generalize wo.heap.size = H at hO2 HDl HHb ⊢
          generalize wo.alloc (.cells #[] 3) = w2 at hO2 hV2 hb2 ⊢
          clear hV hb hOn
          go_loopg [15, 16] l.length (fun gg v i wr => ∃ (k : Nat), i = .int .i64 k ∧ k ≤ l.length ∧ Hid (gg = l.length - k) ∧ Hid (wr.ownsRow H 3 1 v ((List.range k).filter p).length (nums (natsI ((List.range k).filter p)))) ∧ Hid (VRow wr D l.length (boolV p)) ∧ H ≤ wr.heap.size ∧ Bel w wr)
          case atStart => exact ⟨0, rfl, Nat.zero_le _, rfl, hO2, hV2, by have := World.ownsRow.lt hO2 H rfl; omega, hb2⟩
          case round =>
            clear hO2 hV2 hb2
            clear w2
            obtain ⟨k, rfl, hk, hg1, hv, hV, hHl, hb⟩ := hrel
            by_cases hlt : k < l.length
            · obtain ⟨d1, d2⟩ := hV.out.2 k hlt
              unfold boolV at d1
              have i1 : (k : Int) < l.length := by omega
              have i2 : (0 : Int) ≤ (k : Int) := by omega
              have HFs := Lib.hid (filt_succ p k)
              cases hq : p k with
              | true =>
                rw [hq] at d1 HFs
                have hvq := Lib.hid fun z (hz : u15.ownBlock = some z) => (World.ownsRow.lt hv.out z hz).1
                have hfl : ((List.range k).filter p).length ≤ k := by have := List.length_filter_le p (List.range k); simpa using this
                have HAp := Lib.hid fun ty => app_own hv.out (k : Int) hHl (by rw [natsI_len]; omega) ty
                clear hq hv
                go_wp2_with (first
                  | (at_builtin; refine wpList_app (by rfl) (.tmp 95) (.tmp 97) _ rfl (HAp.out _) ?_; rintro v7 w7 ⟨A7, c7, rfl, o7, g7, hl7⟩)
                  | go_in)
                have hDH := HDl.out
                go_roundg (l.length - (k + 1))
                case measure => have := hg1.out; omega
                case rel =>
                  have hb6 := hb.alloc (.cells #[.int .i64 (k : Int)] 3)
                  have hHb := HHb.out
                  refine ⟨k + 1, by go_num, by omega, rfl, ?_, (hV.out.keep ((Bel.refl _).alloc (.cells #[.int .i64 (k : Int)] 3))).kept g7 (fun e => by have := hvq.out _ e.symm; omega), by omega, Below.grown hb6 g7 hb6.size (fun z hz => by have := hvq.out z hz; omega)⟩
                  show w7.ownsRow _ _ _ _ _ _
                  rw [HFs.out]
                  simp only [if_true, List.length_append]
                  have e : natsI ((List.range k).filter p ++ [k]) = natsI ((List.range k).filter p) ++ [(k : Int)] := by simp [natsI]
                  rw [e]
                  exact o7
              | false =>
                rw [hq] at d1 HFs
                clear hq
                go_wp2
                go_roundg (l.length - (k + 1))
                case measure => have := hg1.out; omega
                case rel =>
                  refine ⟨k + 1, by go_num, by omega, rfl, ?_, hV.out, hHl, hb⟩
                  show World.ownsRow _ _ _ _ _ _ _
                  rw [HFs.out]
                  simpa using hv.out
            · obtain rfl : k = l.length := by omega
              have hv2 := hv.out
              rw [← HE.out] at hv2
              obtain ⟨A5, c5, e5, hr5, -⟩ := own_row hv2
              clear hv hv2 hV hHl hlt
              subst e5
              go_wp2
              refine bodyPost_ret (by simp [results, Try.results13, go_sem]; try rfl) rfl ⟨A5, c5, by rw [HAb.out], by rw [HAb.out]; exact hr5, hb⟩
        | true =>
          go_wp2
          have HS0 := Lib.hid (Step.start g l.length q p)
          have HgK := Lib.hid (show gk = 2 * (l.length - cnt l.length p) + 1 from by have := hgg.out; simpa using this)
          generalize cnt l.length p = cc at HS0 HgK
          obtain ⟨wo, rfl⟩ : ∃ wo : World, wo = wr := ⟨_, rfl⟩
          go_loopg [11, 12] l.length (fun gg v i wr => ∃ (k : Nat) (a : Bool) (p : Nat → Bool), v = .bool a ∧ i = .int .i64 k ∧ k ≤ l.length ∧ Hid (gg = l.length - k) ∧ Hid (VRow wr D l.length (boolV p)) ∧ Hid (Snd g l.length q p) ∧ Hid (Step g l.length q cc k p a []) ∧ Bel w wr)
          case atStart => exact ⟨0, false, p, rfl, rfl, Nat.zero_le _, rfl, hV.out, hS.out, HS0.out, hb⟩
          case round =>
            clear hgg hV hS hcl hb HS0
            obtain ⟨k, a, p, rfl, rfl, hk, hg1, hV, hS, hSt, hb⟩ := hrel
            by_cases hlt : k < l.length
            · have hml2 : k < ls.length := by have := HN.out; omega
              obtain ⟨blk, off, rfl, hltb, hat⟩ := hn.blk (by omega)
              obtain ⟨yy, hyk⟩ : ∃ yy, ls[k]? = some yy := ⟨_, List.getElem?_eq_getElem hml2⟩
              have hcellw := hat k yy hyk
              have hyo := hn.ok yy (List.mem_of_getElem? hyk)
              have HY := Lib.hid (nsOf_at hyk)
              have hm60 := HZ2.out yy (List.mem_of_getElem? hyk)
              obtain ⟨A1, c1, mm⟩ := yy
              have hmm := hyo.strs
              simp only at hmm hcellw HY hm60
              have hmi : (mm.length : Int) ≤ 60 := by omega
              have i1 : (k : Int) < l.length := by omega
              have i2 : (0 : Int) ≤ (k : Int) := by omega
              have i3 : (k : Int) < ls.length := by omega
              have HMN := Lib.hid (show ns_at (nsOf ls) k = mm from by unfold ns_at; rw [List.getD_eq_getElem?_getD, HY.out]; rfl)
              have HNL := Lib.hid (not_lost (HZ.out.2.2.2 k hlt) HY.out)
              have HIm := Lib.hid fun x => HIx.out k x mm HMN.out
              have HCW := Lib.hid (And.intro hcellw (And.intro hltb hmm))
              clear hat hyo hyk hcellw hltb hmm
              go_wp2
              clear wo
              go_loopg [11, 13] mm.length (fun gg v i wr => ∃ (t : Nat) (a : Bool) (p : Nat → Bool), v = .bool a ∧ i = .int .i64 t ∧ t ≤ mm.length ∧ Hid (gg = mm.length - t) ∧ Hid (VRow wr D l.length (boolV p)) ∧ Hid (Snd g l.length q p) ∧ Hid (Step g l.length q cc k p a (idxs l (mm.take t))) ∧ Bel w wr)
              case atStart => exact ⟨0, a, p, rfl, rfl, Nat.zero_le _, rfl, hV.out, hS.out, by show Step _ _ _ _ _ _ _ _; simpa [idxs] using hSt.out, hb⟩
              case round =>
                clear hV hS hSt hb
                obtain ⟨t, a, p, rfl, rfl, ht, hgt, hV, hS, hSt, hb⟩ := hrel
                have hcell := (hb.cells _ (off + k) HCW.out.2.1).trans HCW.out.1
                by_cases hltt : t < mm.length
                · obtain ⟨d1, d2⟩ := hV.out.2 k hlt
                  unfold boolV at d1
                  have j1 : (t : Int) < mm.length := by omega
                  have j2 : (0 : Int) ≤ (t : Int) := by omega
                  by_cases hin : p k = true ∨ k = q
                  · obtain ⟨b2, off2, hA1, hltb2, hat2⟩ := (HCW.out.2.2.keep hb).blk (by omega)
                    obtain ⟨s, hsk⟩ : ∃ s, mm[t]? = some s := ⟨_, List.getElem?_eq_getElem hltt⟩
                    have hcell2 := hat2 t s hsk
                    obtain ⟨j, hj⟩ := Option.isSome_iff_exists.1 (HNL.out s (List.mem_of_getElem? hsk))
                    have hjl := (idx_some hj).1
                    have HFx := HF.out s wr hb
                    rw [idxI_some hj] at HFx
                    have HTk := Lib.hid (idxs_succ hsk hj)
                    have hjg : j ∈ g k := (HIm.out j).2 (List.mem_filterMap.2 ⟨s, List.mem_of_getElem? hsk, hj⟩)
                    have HSn := Lib.hid (hS.out.set hlt hin hjg)
                    obtain ⟨d3, d4⟩ := hV.out.2 j hjl
                    unfold boolV at d3
                    have HP := Lib.hid (hV.out.put j (.bool true) hjl)
                    rw [boolV_set] at HP
                    have HB2 := Lib.hid (hb.setCell (p := ⟨D, j, none⟩) (by show _ ≤ D; have := HDe.out; omega) (.bool true))
                    have j3 : (j : Int) < l.length := by omega
                    have j4 : (0 : Int) ≤ (j : Int) := by omega
                    obtain ⟨a', HA, HStep⟩ : ∃ a', Hid (a' = (a || !p j)) ∧ Hid (Step g l.length q cc k (bset p j) a' (idxs l (mm.take (t + 1)))) := by
                      cases hpj : p j with
                      | true =>
                        refine ⟨a, by show a = (a || !true); cases a <;> rfl, ?_⟩
                        show Step _ _ _ _ _ _ _ _
                        rw [bset_same hpj, HTk.out]
                        exact hSt.out.old hpj
                      | false => exact ⟨true, by show true = (a || !false); cases a <;> rfl, hSt.out.new hjl hpj⟩
                    generalize hpj : p j = pj at d3 HA
                    subst hA1
                    clear hat2 hsk hj hjg hV hS hSt hb
                    have hkq : ((k : Int) == (q : Int)) = decide (k = q) := by
                      rw [Bool.eq_iff_iff, beq_iff_eq, decide_eq_true_eq]; omega
                    rcases hin with hpk | hkq2
                    · rw [hpk] at d1
                      clear hkq hpk hpj
                      cases a <;> cases pj
                      all_goals
                        obtain rfl := HA.out
                        go_wp2_with (first
                          | (go_at_call 19; refine HFx.mono ?_; rintro e w' ⟨rfl, h1⟩; obtain rfl : wr = w' := h1.symm)
                          | go_in)
                        go_roundg (mm.length - (t + 1))
                        case measure => have := hgt.out; omega
                        case rel => exact ⟨t + 1, _, bset p j, rfl, by go_num, by omega, rfl, HP.out, HSn.out, HStep.out, HB2.out⟩
                    · have hkq3 : ((k : Int) == (q : Int)) = true := by rw [hkq]; simpa using hkq2
                      clear hkq hpj hkq2
                      generalize p k = pk at d1
                      cases pk <;> cases a <;> cases pj
                      all_goals
                        obtain rfl := HA.out
                        go_wp2_with (first
                          | (go_at_call 19; refine HFx.mono ?_; rintro e w' ⟨rfl, h1⟩; obtain rfl : wr = w' := h1.symm)
                          | go_in)
                        go_roundg (mm.length - (t + 1))
                        case measure => have := hgt.out; omega
                        case rel => exact ⟨t + 1, _, bset p j, rfl, by go_num, by omega, rfl, HP.out, HSn.out, HStep.out, HB2.out⟩
                  · have hpk : p k = false := by cases h : p k with | false => rfl | true => exact absurd (.inl h) hin
                    have hkq : ((k : Int) == (q : Int)) = false := by
                      rw [Bool.eq_false_iff]; intro h; simp at h; exact hin (.inr (by omega))
                    have HSt := Lib.hid (hSt.out.skip hpk (fun h => hin (.inr h)))
                    rw [hpk] at d1
                    clear hpk hin hSt
                    go_wp2
                    go_roundg (l.length - (k + 1))
                    case measure => have := hg1.out; omega
                    case rel => exact ⟨k + 1, a, p, rfl, by go_num, by omega, rfl, hV.out, hS.out, HSt.out, hb⟩
                · obtain rfl : t = mm.length := by omega
                  have HSt := Lib.hid (hSt.out.next fun x hx => by rw [List.take_length]; exact (HIm.out x).1 hx)
                  clear hSt hltt ht hgt
                  go_wp2
                  go_roundg (l.length - (k + 1))
                  case measure => have := hg1.out; omega
                  case rel => exact ⟨k + 1, a, p, rfl, by go_num, by omega, rfl, hV.out, hS.out, HSt.out, hb⟩
            · obtain rfl : k = l.length := by omega
              clear hlt hk hg1
              go_wp2
              rcases hSt.out with ⟨rfl, h2, h3, _⟩ | ⟨rfl, h2⟩
              · go_roundg (2 * (l.length - cnt l.length p))
                case measure => have := HgK.out; omega
                case rel => exact ⟨false, p, rfl, by show _ = _; simp, hV.out, hS.out, fun _ => h3, hb⟩
              · go_roundg (2 * (l.length - cnt l.length p) + 1)
                case measure => have := HgK.out; have := cnt_le l.length p; omega
                case rel => exact ⟨true, p, rfl, by show _ = _; simp, hV.out, hS.out, (fun h => by cases h), hb⟩
  · have HO := Lib.hid (ab_bad (m := m) h0)
    obtain ⟨A0, c0, l⟩ := d
    simp only at h0 HR HO
    simp only [Sl.val] at HR ⊢
    generalize nsOf ls = ns at HR HO h0 ⊢
    generalize (chk l ns).1 = z at HR
    generalize (chk l ns).2 = q at HR HO h0
    have e1 : (q != 0) = true := by simpa using h0
    clear h0 hd hn hz2 hz0
    go_enter Try.func13, Try.ntmps13
    go_wp2_with (first
      | (go_at_call 18; refine HR.out.mono ?_; rintro e w1 ⟨rfl, rfl⟩)
      | go_in)
    refine bodyPost_ret (by simp [results, Try.results13, go_sem]; try rfl) rfl ⟨none, 0, by rw [HO.out]; rfl, by rw [HO.out]; exact ints_nil, Bel.refl _⟩
end Go.Proofs.Ytinbhhcppiamjaa
