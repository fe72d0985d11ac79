import Derived.Test.YtinbhhcppiamjaaGru
namespace Go.Proofs.Ytinbhhcppiamjaa
set_option linter.unusedSimpArgs false
set_option linter.unusedVariables false
open Go.RowKit Go.Lib Go.Maps

/-! The law GraphBehind: a map of the call's own, from names to truths. -/
theorem zeroB (w : World) : (zeroValue 4).run Try.prog w = .ok (.bool false) w := by kernel_rfl
theorem plain_bool_inv {P : Program} {e : TypeId} (he : P.underlying e = some .bool) {v : Value} {x : Bool} {ps : List MemPlace} (h : plainElem (H := Unit) P e v = some (.lit (.bool x), ps)) : v = .bool x := by
  unfold plainElem at h
  rw [he] at h
  cases v <;> simp at h
  rw [h.1]
/-- What is there. -/
def SetS (w : World) (b n : Nat) (T : ByteArray → Bool) : Prop :=
  ∃ D : DataW Unit, w.ownsMap Try.prog 9 (plainElem Try.prog 4) b n D ∧ IsMap D ∧ ∀ s, D.atKey (kS s) (.lit (.bool false)) = .lit (.bool (T s))
theorem SetS.made (w : World) : SetS (w.alloc (.map #[] 0)) w.heap.size 0 (fun _ => false) :=
  ⟨_, World.ownsMap_made _ _ _ _, isMap_empty, fun s => rfl⟩
theorem SetS.kept {w w' : World} {b n : Nat} {T : ByteArray → Bool} {row : Option Nat} (h : SetS w b n T) (hg : w.grownBy w' row) (hne : some b ≠ row) : SetS w' b n T := by
  obtain ⟨D, ho, h2⟩ := h
  exact ⟨D, ho.kept hg hne, h2⟩
theorem SetS.get {w : World} {b n : Nat} {T : ByteArray → Bool} (h : SetS w b n T) {s : ByteArray} (hs : Fits s) : (Instr.lookup 34 (.map (some b)) (.string s) false).run Try.prog w = .ok (.bool (T s)) w := by
  obtain ⟨D, ho, _, h2⟩ := h
  obtain ⟨v, ps, hrun, hR⟩ := ho.lookup keyS Try.underlying34 (zeroB w) (plainElem_bool Try.underlying4 false) (keyOfS hs)
  rw [h2 s] at hR
  rw [hrun, plain_bool_inv Try.underlying4 hR]
theorem SetS.add {w : World} {b n : Nat} {T : ByteArray → Bool} (h : SetS w b n T) (hn : n < maxLen) {s : ByteArray} (hs : Fits s) :
    ∃ w', (Instr.mapUpdate 34 (.map (some b)) (.string s) (.bool true)).run Try.prog w = .ok () w' ∧ SetS w' b (n + 1) (fun y => if y = s then true else T y) ∧ w.grownBy w' (some b) := by
  obtain ⟨D, ho, hM, h2⟩ := h
  obtain ⟨w', hrun, h3, h4⟩ := ho.update keyS Try.underlying34 hn (keyOfS hs) (plainElem_bool Try.underlying4 true)
  refine ⟨w', hrun, ⟨_, h3, hM.put _ _, fun y => ?_⟩, h4⟩
  show _ = DataW.lit (Lit.bool (if y = s then true else T y))
  by_cases e : y = s
  · subst e
    rw [if_pos rfl]
    exact atKey_put_same hM (kS_key y) _ _
  · rw [if_neg e, atKey_put_other (fun h => e (kS_inj _ _ h))]
    exact h2 y
/-- The names of the first k that stand. -/
def thr (l : List ByteArray) (L : List Nat) (k : Nat) : ByteArray → Bool := fun s => (L.take k).any fun i => decide (l[i]? = some s)
theorem thr_0 (l : List ByteArray) (L : List Nat) : thr l L 0 = fun _ => false := by
  funext s; unfold thr; simp
theorem thr_succ {l : List ByteArray} {L : List Nat} {k i : Nat} {x : ByteArray} (h : L[k]? = some i) (hx : l[i]? = some x) : (fun y => if y = x then true else thr l L k y) = thr l L (k + 1) := by
  funext y
  unfold thr
  rw [List.take_add_one, h, List.any_append]
  by_cases e : y = x
  · subst e
    rw [if_pos rfl]
    simp [hx]
  · rw [if_neg e]
    have : decide (l[i]? = some y) = false := by
      rw [hx, decide_eq_false_iff_not]
      intro h2
      exact e (by injection h2 with h2; exact h2.symm)
    simp [this]
theorem thr_new {l : List ByteArray} {L : List Nat} {k i : Nat} {x : ByteArray} (hn : ∀ j, j < l.length → twice l j = false) (hi : i ∉ L.take k) (hx : l[i]? = some x) : thr l L k x = false := by
  unfold thr
  rw [Bool.eq_false_iff]
  intro h
  obtain ⟨j, hj, hd⟩ := List.any_eq_true.1 h
  have h1 := idx_at hn (k := j) (x := x) (by simpa using hd)
  have h2 := idx_at hn hx
  rw [h1] at h2
  cases h2
  exact hi hj
theorem thr_old {l : List ByteArray} {L : List Nat} {k j : Nat} {s : ByteArray} (hj : j ∈ L.take k) (hs : l[j]? = some s) : thr l L k s = true := by
  unfold thr
  exact List.any_eq_true.2 ⟨j, hj, by simpa using hs⟩
theorem ordOut_cases (l : List ByteArray) (ns : List (List ByteArray)) : ((ordOut l ns).2.2 ≠ 0 ∧ (ordOut l ns).1 = []) ∨ ((chk l ns).2 = 0 ∧ ordOut l ns = (ord (gr l ns) l.length l.length, 0, 0) ∧ (ord (gr l ns) l.length l.length).length = l.length) := by
  unfold ordOut
  split
  · rename_i h
    exact .inl ⟨h, rfl⟩
  · rename_i h
    have h0 : (chk l ns).2 = 0 := by omega
    split
    · rename_i h2
      exact .inr ⟨h0, rfl, h2⟩
    · exact .inl ⟨by simp, rfl⟩
set_option maxRecDepth 100000 in
set_option maxHeartbeats 4000000 in
theorem law_Behind (d : Sl) (A : Option Addr) (c : Nat) (ls : List Sl) (w : World) (hd : SlOk w d) (hn : Nds w A ls) (hz : ls.length ≤ 9223372036854775807) :
    Calls Try.prog 5 #[d.val, .slice A ls.length c] w fun e w' => e = .returned (.bool true) ∧ Bel w w' := by
  have HS := Lib.hid (small_any d A c ls w hd hn hz)
  have HA := Lib.hid fun W => awake_any W
  by_cases hsm : d.l.length ≤ 60 ∧ ls.length ≤ 60 ∧ ∀ d ∈ ls, d.l.length ≤ 60
  · rw [smallB_iff.2 hsm] at HS
    obtain ⟨s1, s2, s3⟩ := hsm
    have H1 := Lib.hid (order_any d A c ls w hd hn s1 s2 s3)
    unfold OrdOut at H1
    rcases ordOut_cases d.l (nsOf ls) with ⟨hq, hL⟩ | ⟨hc, hL, hlen⟩
    · rw [hL] at H1
      generalize (ordOut d.l (nsOf ls)).2.1 = z at H1
      generalize (ordOut d.l (nsOf ls)).2.2 = q at H1 hq
      have e1 : (q != 0) = true := by simpa using hq
      clear s3 hd hn hL hq
      simp only [Sl.val, List.length_nil] at HS H1 ⊢
      go_enter Try.func5, Try.ntmps5
      go_wp2_with (first
        | (go_at_call 7; refine HS.out.mono ?_; rintro e w0 ⟨rfl, h1⟩; obtain rfl : w = w0 := h1.symm)
        | (go_at_call 9; refine H1.out.mono ?_; rintro e w1 ⟨A1, c1, rfl, hi1, hb1⟩; have tok1 : True := trivial)
        | (go_at_call 8; have _t := tok1; clear tok1; refine (HA.out _).mono ?_; rintro e w3 ⟨rfl, hb3⟩)
        | (go_at_call 8; refine (HA.out _).mono ?_; rintro e w4 ⟨rfl, hb4⟩)
        | go_in)
      go_ret
      exact ⟨rfl, (hb1.trans hb3).trans hb4⟩
    · rw [hL] at H1
      have HZ := Lib.hid (chk_zero hc)
      have hmm := @run_makeMap Try.prog
      obtain ⟨A0, c0, l⟩ := d
      have hl := hd.strs
      have HFit := Lib.hid hd.fits
      simp only at s1 hl HFit H1 HZ hlen
      simp only [Sl.val] at HS H1 ⊢
      have HN := Lib.hid (show l.length = ls.length from by have := HZ.out.1; rwa [nsOf_len] at this)
      have HOk := Lib.hid (ord_ok (g := gr l (nsOf ls)) (N := l.length) l.length)
      have HAh := Lib.hid fun m i h => ord_ahead (g := gr l (nsOf ls)) (N := l.length) l.length m i h
      have hli : (l.length : Int) ≤ 60 := by omega
      have hzi : (ls.length : Int) ≤ 60 := by omega
      have HZ2 := Lib.hid s3
      generalize ord (gr l (nsOf ls)) l.length l.length = L at H1 hlen HOk HAh
      rw [hlen] at H1
      have HLen := Lib.hid hlen
      clear s3 hd hL hc hlen
      go_enter Try.func5, Try.ntmps5
      go_wp2_with (first
        | (go_at_call 7; refine HS.out.mono ?_; rintro e w0 ⟨rfl, h1⟩; obtain rfl : w = w0 := h1.symm)
        | (go_at_call 9; refine H1.out.mono ?_; rintro e w1 ⟨A1, c1, rfl, hi1, hb1⟩)
        | (go_at_call 8; refine (HA.out _).mono ?_; rintro e w3 ⟨rfl, hb3⟩)
        | go_in)
      have hM := SetS.made w3
      rw [← thr_0 l L] at hM
      have HI := Lib.hid (hi1.keep hb3)
      have hw0 := (Bel.refl w3).alloc (.map #[] 0)
      have hb0 := (hb1.trans hb3).alloc (.map #[] 0)
      have hCw := (hb1.trans hb3).size
      generalize hCe : w3.heap.size = C at hM hCw ⊢
      generalize hw4 : w3.alloc (.map #[] 0) = w4 at hM hw0 hb0 ⊢
      have HCw := Lib.hid (And.intro hCw hCe)
      clear hw4 hi1 hb1 hb3 hmm hCw hCe
      go_loopg [9] l.length (fun gg i wr => ∃ (k : Nat), i = .int .i64 k ∧ k ≤ l.length ∧ Hid (gg = l.length - k) ∧ Hid (SetS wr C k (thr l L k)) ∧ Bel w3 wr ∧ Bel w wr)
      case atStart => exact ⟨0, rfl, Nat.zero_le _, rfl, hM, hw0, hb0⟩
      case round =>
        clear hM hw0 hb0
        clear w4
        obtain ⟨k, rfl, hk, hg1, hM, hw, hb⟩ := hrel
        by_cases hlt : k < l.length
        · obtain ⟨bI, offI, rfl, hbI, hcI⟩ := (HI.out.keep hw) (by have := HLen.out; simp [nums, natsI]; omega)
          obtain ⟨i, hik⟩ : ∃ i, L[k]? = some i := ⟨_, List.getElem?_eq_getElem (by have := HLen.out; omega)⟩
          have hcell := hcI k _ (show (nums (natsI L))[k]? = some (.int .i64 ((i : Nat) : Int)) by simp [nums, natsI, hik])
          have hil := HOk.out.2.1 i (List.mem_of_getElem? hik)
          have HAi := Lib.hid (HAh.out k i hik)
          have hnew : i ∉ L.take k := fun h => by
            obtain ⟨j, hj⟩ := List.getElem?_of_mem h
            have hjk : j < k := by
              have := (List.getElem?_eq_some_iff.1 hj).1
              simp at this
              omega
            rw [List.getElem?_take_of_lt hjk] at hj
            obtain ⟨a1, a2⟩ := List.getElem?_eq_some_iff.1 hj
            obtain ⟨b1, b2⟩ := List.getElem?_eq_some_iff.1 hik
            exact List.pairwise_iff_getElem.1 (List.nodup_iff_pairwise_ne.1 HOk.out.1) j k a1 b1 hjk (a2.trans b2.symm)
          obtain ⟨b2, off2, rfl, hltb2, hat2⟩ := (hl.keep hb).blk (by omega)
          obtain ⟨x, hxk⟩ : ∃ x, l[i]? = some x := ⟨_, List.getElem?_eq_getElem hil⟩
          have hcell2 := hat2 i x hxk
          have hfx := HFit.out x (List.mem_of_getElem? hxk)
          have hlook := hM.out.get hfx
          rw [thr_new HZ.out.2.2.1 hnew hxk] at hlook
          have HTs := Lib.hid (thr_succ hik hxk)
          have hils : i < ls.length := by have := HN.out; omega
          obtain ⟨blk, off, hAn, hltb, hat⟩ := hn.blk (by omega)
          obtain ⟨yy, hyk⟩ : ∃ yy, ls[i]? = some yy := ⟨_, List.getElem?_eq_getElem hils⟩
          have hcw := hat i yy hyk
          have hyo := hn.ok yy (List.mem_of_getElem? hyk)
          have HY := Lib.hid (nsOf_at hyk)
          have hm60 := HZ2.out yy (List.mem_of_getElem? hyk)
          obtain ⟨A9, c9, mm⟩ := yy
          have hmm := hyo.strs
          have HMF := Lib.hid hyo.fits
          simp only at hmm hcw HY hm60 HMF
          have hmi : (mm.length : Int) ≤ 60 := by omega
          have HNL := Lib.hid (not_lost (HZ.out.2.2.2 i hil) HY.out)
          have HGR := Lib.hid fun s j (hs : s ∈ mm) (hj : idx l s = some j) => HAi.out j (mem_gr.2 ⟨s, by rw [List.getD_eq_getElem?_getD, HY.out]; exact hs, hj⟩)
          have hcell3 := (hb.cells _ (off + i) hltb).trans hcw
          have i1 : (k : Int) < l.length := by omega
          have i2 : (0 : Int) ≤ (k : Int) := by omega
          have i3 : (i : Int) < l.length := by omega
          have i4 : (0 : Int) ≤ (i : Int) := by omega
          have i5 : (i : Int) < ls.length := by omega
          have i6 : decide ((i : Int) < 0) = false := by simp
          have i7 : decide (l.length ≤ i) = false := by simpa using hil
          have HX := Lib.hid hxk
          have HST := Lib.hid (hM.out.add (by unfold maxLen; omega) hfx)
          have HCW := Lib.hid (And.intro hltb (And.intro hcw hmm))
          subst hAn
          clear hik hnew hat2 hxk hat hyo hyk hcw hltb hmm hcI HAi
          go_wp2
          obtain ⟨wo, rfl⟩ : ∃ wo : World, wo = wr := ⟨_, rfl⟩
          go_loopg [10] mm.length (fun gg v wr => ∃ (t : Nat), v = .int .i64 t ∧ t ≤ mm.length ∧ Hid (gg = mm.length - t) ∧ wo = wr)
          case atStart => exact ⟨0, rfl, Nat.zero_le _, rfl, rfl⟩
          case round =>
            obtain ⟨t, rfl, ht, hgt, rfl⟩ := hrel
            by_cases hltt : t < mm.length
            · obtain ⟨b3, off3, rfl, hltb3, hat3⟩ := (HCW.out.2.2.keep hb).blk (by omega)
              obtain ⟨s, hsk⟩ : ∃ s, mm[t]? = some s := ⟨_, List.getElem?_eq_getElem hltt⟩
              have hcell4 := hat3 t s hsk
              have hsm := List.mem_of_getElem? hsk
              obtain ⟨j, hj⟩ := Option.isSome_iff_exists.1 (HNL.out s hsm)
              have hlook2 := hM.out.get (HMF.out s hsm)
              rw [thr_old (HGR.out s j hsm hj) (idx_some hj).2] at hlook2
              have j1 : (t : Int) < mm.length := by omega
              have j2 : (0 : Int) ≤ (t : Int) := by omega
              clear hat3 hsk hsm hj hlook
              go_wp2
              go_roundg (mm.length - (t + 1))
              case measure => have := hgt.out; omega
              case rel => exact ⟨t + 1, by go_num, by omega, rfl, rfl⟩
            · obtain rfl : t = mm.length := by omega
              clear hltt ht hgt hlook
              go_wp2_with (first
                | (at_mapUpdate; refine wpList_putM rfl _ _ _ rfl rfl rfl rfl HST.out ?_; rintro w9 ⟨hM9, g9⟩)
                | go_in)
              have hCw := HCw.out
              go_roundg (l.length - (k + 1))
              case measure => have := hg1.out; omega
              case rel =>
                refine ⟨k + 1, by go_num, by omega, rfl, ?_, Below.grown hw g9 hw.size (fun q hq => by cases hq; omega), Below.grown hb g9 hb.size (fun q hq => by cases hq; omega)⟩
                show SetS w9 C (k + 1) (thr l L (k + 1))
                rw [← HTs.out]
                exact hM9
        · obtain rfl : k = l.length := by omega
          have e5 : ((l.length : Int) == (l.length : Int)) = true := by simp
          clear hM
          go_wp2
          go_ret
          exact ⟨by simp, hb⟩
  · rw [smallB_no hsm] at HS
    clear hsm hd hn
    simp only [Sl.val] at HS ⊢
    go_enter Try.func5, Try.ntmps5
    go_wp2_with (first
      | (go_at_call 7; refine HS.out.mono ?_; rintro e w0 ⟨rfl, h1⟩; obtain rfl : w = w0 := h1.symm)
      | (go_at_call 8; refine (HA.out _).mono ?_; rintro e w3 ⟨rfl, hb3⟩)
      | go_in)
    go_ret
    exact ⟨rfl, hb3⟩
end Go.Proofs.Ytinbhhcppiamjaa
