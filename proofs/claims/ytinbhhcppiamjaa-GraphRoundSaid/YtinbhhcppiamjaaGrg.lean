import Derived.Test.YtinbhhcppiamjaaGrs
import Derived.Deep.CutBlock
namespace Go.Proofs.Ytinbhhcppiamjaa
set_option linter.unusedSimpArgs false
set_option linter.unusedVariables false
open Go.RowKit Go.Lib Go.Maps

/-! What each item needs, by numbers: the program's answer. -/
def natsI (l : List Nat) : List Int := l.map fun k : Nat => (k : Int)
theorem natsI_len (l : List Nat) : (natsI l).length = l.length := by simp [natsI]
/-- What resolved gives. -/
def ResOut (l : List ByteArray) (ns : List (List ByteArray)) (w w' : World) (e : Ending) : Prop :=
  ∃ v, e = .returned (.tuple #[v, .int .i64 (chk l ns).1, .int .i64 (chk l ns).2]) ∧ Bel w w' ∧ ((chk l ns).2 ≠ 0 → v = .slice none 0 0) ∧
    ((chk l ns).2 = 0 → ∃ b f, v = .slice (some ⟨b, 0, none⟩) l.length l.length ∧ w.heap.size ≤ b ∧ Grp w' b l.length 3 f (fun i => natsI (gr l ns i)))
theorem res_wrong {l : List ByteArray} {ns : List (List ByteArray)} {w w' : World} {a b : Int} (h : chk l ns = (a, b)) (hb : b ≠ 0) (hw : Bel w w') : ResOut l ns w w' (.returned (.tuple #[.slice none 0 0, .int .i64 a, .int .i64 b])) := by
  refine ⟨.slice none 0 0, by rw [h], hw, fun _ => rfl, fun h0 => ?_⟩
  rw [h] at h0
  exact absurd h0 hb
theorem nameM_tw {l : List ByteArray} {k : Nat} {x : ByteArray} (h : l[k]? = some x) : (nameM l k x).isSome = twice l k := by
  unfold twice nameM
  rw [h]
  simp only [Option.isSome_map]
theorem nameM_full (l : List ByteArray) (s : ByteArray) : nameM l l.length s = (idx l s).map fun j : Nat => (j : Int) := by
  unfold nameM
  rw [List.take_length]
theorem mput_fn {K : Type} [DecidableEq K] (M : K → Option Int) (x : K) (c : Int) : mput M x c = fun y => if y = x then some c else M y := rfl
theorem in64n {k : Nat} (h : k ≤ 1000) : In64 (k : Int) := ⟨by omega, by omega⟩
def ns_at (ns : List (List ByteArray)) (i : Nat) : List ByteArray := ns.getD i []
/-- The rows while i of them have been laid. -/
def laid (l : List ByteArray) (ns : List (List ByteArray)) (i : Nat) : Nat → List Int := fun j => if j < i then natsI (gr l ns j) else []
theorem laid_0 (l : List ByteArray) (ns : List (List ByteArray)) : laid l ns 0 = fun _ => [] := by
  funext j; unfold laid; rw [if_neg (by omega)]
theorem laid_succ (l : List ByteArray) (ns : List (List ByteArray)) (i : Nat) : vset (laid l ns i) i (natsI (gr l ns i)) = laid l ns (i + 1) := by
  funext j
  unfold laid vset
  by_cases e : j = i
  · subst e; rw [if_pos rfl, if_pos (by omega)]
  · rw [if_neg e]
    show (if j < i then natsI (gr l ns j) else []) = _
    by_cases h : j < i
    · rw [if_pos h, if_pos (by omega)]
    · rw [if_neg h, if_neg (by omega)]
theorem vset_vset {α : Type} (f : Nat → α) (i : Nat) (a b : α) : vset (vset f i a) i b = vset f i b := by
  funext j; unfold vset; by_cases e : j = i
  · rw [if_pos e, if_pos e]
  · rw [if_neg e, if_neg e, if_neg e]
theorem vset_self {α : Type} (f : Nat → α) (i : Nat) : vset f i (f i) = f := by
  funext j; unfold vset; by_cases e : j = i
  · rw [if_pos e, e]
  · rw [if_neg e]
theorem gathered {l : List ByteArray} {ns : List (List ByteArray)} {i : Nat} {m : List ByteArray} {zs : List Int} (hm : ns_at ns i = m) (hn : zs.Nodup) (h : ∀ x, x ∈ zs ↔ (onceM l m i m.length x).isSome = true) : zs.mergeSort (fun x y => decide (x ≤ y)) = natsI (gr l ns i) := by
  subst hm
  unfold ns_at at h
  refine sort_nats hn (rising_filter _) fun x => ?_
  rw [h, onceM_end]
set_option maxRecDepth 100000 in
set_option maxHeartbeats 8000000 in
theorem resolved_any (d : Sl) (A : Option Addr) (c : Nat) (ls : List Sl) (w : World) (hd : SlOk w d) (hn : Nds w A ls) (hz0 : d.l.length ≤ 60) (hz : ls.length ≤ 60) (hz2 : ∀ d ∈ ls, d.l.length ≤ 60) :
    Calls Try.prog 14 #[d.val, .slice A ls.length c] w fun e w' => ResOut d.l (nsOf ls) w w' e := by
  obtain ⟨A0, c0, l⟩ := d
  have hl := hd.strs
  have HFit := Lib.hid hd.fits
  simp only at hl hz0 HFit
  clear hd
  have hli : (l.length : Int) ≤ 60 := by omega
  have hzi : (ls.length : Int) ≤ 60 := by omega
  have HZ2 := Lib.hid hz2
  clear hz2
  simp only [Sl.val]
  have hmm := @run_makeMap Try.prog
  have hmk := make_rows l.length (by omega)
  by_cases h1 : l.length = ls.length
  · have H1 := Lib.hid h1
    have e1 : ((l.length : Int) != (ls.length : Int)) = false := by simp; omega
    have e2 : (l.length : Int) ≤ 4096 := by omega
    have e3 : decide (4096 < l.length) = false := by simp; omega
    clear h1
    go_enter Try.func14, Try.ntmps14
    go_wp2
    have hM0 : MapS (w.alloc (.map #[] 0)) w.heap.size 0 (nameM l 0) 0 := by rw [nameM_0]; exact HoldsM.made w
    have hb0 := (Bel.refl w).alloc (.map #[] 0)
    have hlt0 : w.heap.size < (w.alloc (.map #[] 0)).heap.size := by simp
    generalize hb' : w.heap.size = b at hM0 hlt0 ⊢
    have HB := Lib.hid hb'
    clear hb'
    go_loopg [34] l.length (fun g i wr => ∃ (k s : Nat), i = .int .i64 k ∧ k ≤ l.length ∧ Hid (∀ j, j < k → twice l j = false) ∧ Hid (g = l.length - k) ∧ Hid (MapS wr b k (nameM l k) s) ∧ Bel w wr)
    case atStart => exact ⟨0, 0, rfl, Nat.zero_le _, (fun j hj => absurd hj (Nat.not_lt_zero _)), rfl, hM0, hb0⟩
    case round =>
      clear hM0 hb0 hlt0
      obtain ⟨k, s, rfl, hk, hh, hg, hM, hb⟩ := hrel
      by_cases hlt : k < l.length
      · obtain ⟨blk, off, rfl, hltb, hat⟩ := (hl.keep hb).blk (by omega)
        obtain ⟨x, hxk⟩ : ∃ x, l[k]? = some x := ⟨_, List.getElem?_eq_getElem hlt⟩
        have hcell := hat k x hxk
        have i1 : (k : Int) < l.length := by omega
        have i2 : (0 : Int) ≤ (k : Int) := by omega
        have HX := Lib.hid hxk
        have hfx := HFit.out x (List.mem_of_getElem? hxk)
        obtain ⟨v, hlook, _⟩ := HoldsM.look hM.out keyS Try.underlying47 Try.underlying3 (zeroI wr) (keyOfS hfx)
        rw [nameM_tw hxk] at hlook
        have HST := Lib.hid (HoldsM.store hM.out keyS Try.underlying47 Try.underlying3 kS_key kS_inj (by unfold maxLen; omega) (keyOfS hfx) (wfI (in64n (by omega : k ≤ 1000))))
        clear hat hl hxk hM hmm hmk
        cases hq : twice l k with
        | true =>
          rw [hq] at hlook
          have HK := Lib.hid (chk_dup (ns := nsOf ls) (by rw [nsOf_len]; exact H1.out) (by omega) hlt hq hh.out)
          clear hq
          go_wp2_with (first
            | (at_lookup; refine wpList_lookM rfl _ _ rfl rfl rfl hlook ?_)
            | go_in)
          refine bodyPost_ret (by simp [results, Try.results14, go_sem]; try rfl) rfl (res_wrong HK.out (by omega) hb)
        | false =>
          rw [hq] at hlook
          have HQ := Lib.hid hq
          clear hq
          go_wp2_with (first
            | (at_lookup; refine wpList_lookM rfl _ _ rfl rfl rfl hlook ?_)
            | (at_mapUpdate; refine wpList_putM rfl _ _ _ rfl rfl rfl rfl HST.out ?_; rintro w' ⟨hM', hg'⟩)
            | go_in)
          go_roundg (l.length - (k + 1))
          case measure => have := hg.out; omega
          case rel =>
            refine ⟨k + 1, (if (nameM l k x).isSome then s else s + 1), by go_num, by omega, upto_succ hh.out HQ.out, rfl, ?_, Below.grown hb hg' hb.size (fun j hj => by cases hj; have := HB.out; omega)⟩
            have E := nameM_succ HX.out (by have := HQ.out; unfold twice at this; rw [HX.out] at this; simpa using this)
            show MapS w' b (k + 1) (nameM l (k + 1)) _
            rw [E]
            exact hM'
      · obtain rfl : k = l.length := by omega
        have hM2 := hM.out
        have Hh := Lib.hid hh.out
        clear hg hlt hk hh hl hM
        go_wp2
        have hG0 := Grp.made wr l.length 26 3
        have hM1 := hM2.keep ((Bel.refl wr).alloc (.cells (madeCells #[.slice none 0 0] l.length) 26))
        have hb1 := hb.alloc (.cells (madeCells #[.slice none 0 0] l.length) 26)
        have HBB := Lib.hid (show w.heap.size ≤ b ∧ b < wr.heap.size from ⟨by have := HB.out; omega, hM2.lt⟩)
        rw [← laid_0 l (nsOf ls)] at hG0
        generalize wr.heap.size = B at hG0 HBB ⊢
        generalize hw1 : wr.alloc (.cells (madeCells #[.slice none 0 0] l.length) 26) = w1 at hG0 hM1 hb1 ⊢
        clear hw1 hM2 hb hmk
        clear wr
        go_loopg [56] ls.length (fun g i wr => ∃ (k s : Nat) (f : Nat → Value), i = .int .i64 k ∧ k ≤ ls.length ∧ Hid (∀ j, j < k → lost l (nsOf ls) j = false) ∧ Hid (g = ls.length - k) ∧ Hid (Grp wr B l.length 3 f (laid l (nsOf ls) k)) ∧ Hid (∀ j, k ≤ j → f j = .slice none 0 0) ∧ Hid (MapS wr b l.length (nameM l l.length) s) ∧ Bel w wr)
        case atStart => exact ⟨0, s, _, rfl, Nat.zero_le _, (fun j hj => absurd hj (Nat.not_lt_zero _)), rfl, hG0, fun _ _ => rfl, hM1, hb1⟩
        case round =>
          clear hG0 hM1 hb1
          clear s w1
          obtain ⟨k, s, f, rfl, hk, hlo, hg, hG, hfn, hM, hb⟩ := hrel
          by_cases hlt : k < ls.length
          · obtain ⟨blk, off, rfl, hltb, hat⟩ := (hn.keep hb).blk (by omega)
            obtain ⟨y, hyk⟩ : ∃ y, ls[k]? = some y := ⟨_, List.getElem?_eq_getElem hlt⟩
            have hcell := hat k y hyk
            have hy := hn.ok y (List.mem_of_getElem? hyk)
            have HY := Lib.hid (nsOf_at hyk)
            have hm60 := HZ2.out y (List.mem_of_getElem? hyk)
            obtain ⟨A1, c1, m⟩ := y
            have hm := hy.strs
            have HmF := Lib.hid hy.fits
            simp only at hm HmF hcell HY hm60
            have hmi : (m.length : Int) ≤ 60 := by omega
            have i1 : (k : Int) < ls.length := by omega
            have i2 : (0 : Int) ≤ (k : Int) := by omega
            have hkl : k < l.length := by have := H1.out; omega
            clear hat hy hyk
            go_wp2
            have hO := HoldsM.made (P := Try.prog) (kt := 3) (vt := 3) (k := kI) wr
            rw [← onceM_0 l m k] at hO
            have hG1 := Lib.hid (hG.out.keep ((Bel.refl wr).alloc (.map #[] 0)))
            have hM1 := Lib.hid (hM.out.keep ((Bel.refl wr).alloc (.map #[] 0)))
            have hb1 := hb.alloc (.map #[] 0)
            have HBC := Lib.hid hG.out.1.1
            have HFB := Lib.hid fun j (hj : j < l.length) q (hq : (f j).ownBlock = some q) => hG.out.lt hj hq
            generalize wr.heap.size = C at hO HBC HFB ⊢
            generalize hw1 : wr.alloc (.map #[] 0) = w1 at hO hG1 hM1 hb1 ⊢
            clear hw1 hG hM hb hcell hltb
            clear wr
            go_loopg [64] m.length (fun g i wr => ∃ (t s1 : Nat), i = .int .i64 t ∧ t ≤ m.length ∧ Hid (∀ j, j < t → ∀ x, m[j]? = some x → 0 ≤ idxI l x) ∧ Hid (g = m.length - t) ∧ Hid (MapI wr C t (onceM l m k t) s1) ∧ Hid (Grp wr B l.length 3 f (laid l (nsOf ls) k)) ∧ Hid (MapS wr b l.length (nameM l l.length) s) ∧ Bel w wr)
            case atStart => exact ⟨0, 0, rfl, Nat.zero_le _, (fun j hj => absurd hj (Nat.not_lt_zero _)), rfl, hO, hG1, hM1, hb1⟩
            case round =>
              clear hO hG1 hM1 hb1
              clear w1
              obtain ⟨t, s1, rfl, ht, hp, hgt, hO, hG, hM, hb⟩ := hrel
              by_cases hltt : t < m.length
              · obtain ⟨b2, off2, rfl, hltb2, hat2⟩ := (hm.keep hb).blk (by omega)
                obtain ⟨x, hxk⟩ : ∃ x, m[t]? = some x := ⟨_, List.getElem?_eq_getElem hltt⟩
                have hcell2 := hat2 t x hxk
                have j1 : (t : Int) < m.length := by omega
                have j2 : (0 : Int) ≤ (t : Int) := by omega
                have HX := Lib.hid hxk
                have hfx := HmF.out x (List.mem_of_getElem? hxk)
                obtain ⟨v, hlook, hv⟩ := HoldsM.look hM.out keyS Try.underlying47 Try.underlying3 (zeroI wr) (keyOfS hfx)
                rw [nameM_full] at hlook hv
                clear hat2 hm hxk hn
                cases hq : idx l x with
                | none =>
                  rw [hq] at hlook
                  have hlook2 : (Instr.lookup 47 (.map (some b)) (.string x) true).run Try.prog wr = .ok (.tuple #[.int .i64 v, .bool false]) wr := hlook
                  have HK := Lib.hid (chk_bad (ns := nsOf ls) (by rw [nsOf_len]; exact H1.out) (by omega) Hh.out hkl (lost_yes HY.out HX.out (by unfold idxI; rw [hq]; simp)) hlo.out)
                  clear hq hlook hv
                  go_wp2_with (first
                    | (at_lookup; refine wpList_lookM rfl _ _ rfl rfl rfl hlook2 ?_)
                    | go_in)
                  exact bodyPost_ret (by simp [results, Try.results14, go_sem]; try rfl) rfl (res_wrong HK.out (by omega) hb)
                | some q =>
                  rw [hq] at hlook hv
                  obtain rfl : v = (q : Int) := hv _ rfl
                  have hlook2 : (Instr.lookup 47 (.map (some b)) (.string x) true).run Try.prog wr = .ok (.tuple #[.int .i64 q, .bool true]) wr := hlook
                  have HQ := Lib.hid hq
                  have hq1 := (idx_some hq).1
                  have HST := Lib.hid (HoldsM.store hO.out keyI Try.underlying38 Try.underlying3 kI_key kI_inj (by unfold maxLen; omega) (keyOfI (in64n (by omega : q ≤ 1000))) (wfI (in64n (by omega : k ≤ 1000))))
                  clear hq hlook hv
                  go_wp2_with (first
                    | (at_lookup; refine wpList_lookM rfl _ _ rfl rfl rfl hlook2 ?_)
                    | (at_mapUpdate; refine wpList_putM rfl _ _ _ rfl rfl rfl rfl HST.out ?_; rintro w' ⟨hO', hg'⟩)
                    | go_in)
                  go_roundg (m.length - (t + 1))
                  case measure => have := hgt.out; omega
                  case rel =>
                    have hCB := HBC.out
                    have hbB := HBB.out
                    refine ⟨t + 1, (if (onceM l m k t (q : Int)).isSome then s1 else s1 + 1), by go_num, by omega, upto_succ hp.out (fun y hy => by rw [HX.out] at hy; cases hy; unfold idxI; rw [HQ.out]; simp), rfl, ?_, ?_, ?_, Below.grown hb hg' hb.size (fun j hj => by cases hj; omega)⟩
                    · have E := onceM_succ (i := k) HX.out HQ.out
                      show MapI w' C (t + 1) (onceM l m k (t + 1)) _
                      rw [← E]
                      exact hO'
                    · exact hG.out.far hg' (by omega) fun j hj e => by have := HFB.out j hj _ e; omega
                    · exact hM.out.kept hg' (by simp; omega)
              · obtain rfl : t = m.length := by omega
                have HP := Lib.hid (lost_no HY.out fun j x hj => hp.out j (List.getElem?_eq_some_iff.1 hj).1 x hj)
                have hO2 := hO.out
                have HS1 := Lib.hid (hO2.size_le)
                clear hO hp hgt hltt ht HmF hm
                go_wp2_with (first
                  | (at_range; refine wpList_rangeM rfl _ rfl keyI Try.underlying38 rfl hO2 ?_; intro w0 hrg0 hg0 hs0)
                  | go_in)
                go_frame
                have HCR := Lib.hid hO2.lt
                have hG0 := hG.out.kept hg0 (by simp) fun j _ => by
                  cases hv : (f j).ownBlock with
                  | none => exact .inl rfl
                  | some k => exact .inr (by simp)
                have hM0 := hM.out.kept hg0 (by simp)
                have hb0 : Bel w w0 := Below.grown hb hg0 hb.size (fun j hj => by cases hj)
                generalize wr.heap.size = R at hrg0 HCR ⊢
                clear hO2 hG hM hb hg0 hs0
                clear wr
                have HMN := Lib.hid (show ns_at (nsOf ls) k = m from by unfold ns_at; rw [List.getD_eq_getElem?_getD, HY.out]; rfl)
                have hsk : vset (laid l (nsOf ls) k) k [] = laid l (nsOf ls) k := by
                  have : laid l (nsOf ls) k k = [] := by unfold laid; rw [if_neg (by omega)]
                  rw [← this]; exact vset_self _ _
                go_loopg [20] s1 (fun g _ wr => ∃ (f : Nat → Value) (zs : List Int) (ahead : Int → Bool), RanI wr C R m.length (onceM l m k m.length) ahead g ∧ Hid (Grp wr B l.length 3 f (vset (laid l (nsOf ls) k) k zs)) ∧ Hid (MapS wr b l.length (nameM l l.length) s) ∧ Hid (zs.Nodup ∧ (∀ x, x ∈ zs ↔ (onceM l m k m.length x).isSome = true ∧ ahead x = false) ∧ zs.length + g ≤ 60) ∧ Hid (∀ j, j < l.length → ∀ q, (f j).ownBlock = some q → q ≠ C ∧ q ≠ R) ∧ Hid (∀ j, k + 1 ≤ j → f j = .slice none 0 0) ∧ Bel w wr)
                case atStart =>
                  refine ⟨f, [], _, hrg0, by rw [hsk]; exact hG0, hM0, ⟨List.nodup_nil, fun x => ?_, by have := HS1.out; simp; omega⟩, fun j hj q hq => ?_, fun j hj => hfn.out j (by omega), hb0⟩
                  · simp only [List.not_mem_nil, false_iff, not_and]
                    intro h e
                    rw [h] at e
                    cases e
                  · have := HFB.out j hj q hq
                    have := HCR.out
                    omega
                case round =>
                  clear hrg0 hG0 hM0 hb0 hsk
                  clear w0
                  obtain ⟨f, zs, ahead, hrg, hG, hM, hzs, hfb, hfn2, hb⟩ := hrel
                  go_wp2_with (first
                    | (at_next; refine wpList_nextM rfl _ rfl keyI Try.underlying3 Try.underlying3 rfl hrg ?_ ?_)
                    | go_in)
                  · intro h0
                    have hG2 := hG.out
                    have hj := (hG2.2 k hkl).1
                    rw [vset_at] at hj
                    have HZ := Lib.hid (gathered HMN.out hzs.out.1 (fun x => ⟨fun h => ((hzs.out.2.1 x).1 h).1, fun h => (hzs.out.2.1 x).2 ⟨h, h0 x⟩⟩))
                    have HSort := Lib.hid (sort_own hj (by have := hzs.out.2.2; omega))
                    have HG2 := Lib.hid hG2
                    obtain ⟨d1, d2⟩ := hG2.1.2 k hkl
                    clear hj hG2 hG h0 hrg
                    go_wp2_with (go_at_call 20; refine HSort.out.mono ?_; rintro e w' ⟨rfl, ho', hg'⟩)
                    have hqq : ∀ q, (f k).ownBlock = some q → B < q := fun q hq => (HG2.out.lt hkl hq).1
                    have hbB := HBB.out
                    go_roundg (ls.length - (k + 1))
                    case measure => have := hg.out; omega
                    case rel =>
                      refine ⟨k + 1, s, f, by go_num, by omega, upto_succ hlo.out HP.out, rfl, ?_, fun j hj => hfn2.out j (by omega), hM.out.kept hg' (fun e => by have := hqq _ e.symm; omega), Below.grown hb hg' hb.size (fun j hj => by have := hqq _ hj; omega)⟩
                      rw [HZ.out] at ho'
                      have := HG2.out.turned hkl hg' ho'
                      rw [vset_vset, laid_succ] at this
                      exact this
                  · intro x c w1 k1 hwx hax hMx hrg1 hlt1 hg1 hs1 hen
                    have hbB := HBB.out
                    have hBC := HBC.out
                    have hCR := HCR.out
                    have hG1 := hG.out.kept hg1 (by simp; omega) (fun j hj => by
                      cases hv : (f j).ownBlock with
                      | none => exact .inl rfl
                      | some q => exact .inr (by have := hfb.out j hj q hv; simp; omega))
                    have hqq : ∀ q, (f k).ownBlock = some q → B < q ∧ q ≠ C ∧ q ≠ R := fun q hq => ⟨(hG1.lt hkl hq).1, hfb.out k hkl q hq⟩
                    have HQQ := Lib.hid hqq
                    have hx64 := in64_of hwx
                    unfold In64 at hx64
                    obtain ⟨x1, x2⟩ := hx64
                    have HMX := Lib.hid (And.intro hMx (And.intro hax hlt1))
                    have HA := Lib.hid fun ty => app_grp hG1 hkl (vset_at _ _ _) x (by have := hzs.out.2.2; omega) ty
                    have hG2 := hG1.keep ((Bel.refl w1).alloc (.cells #[.int .i64 x] 3))
                    have hM1 := hM.out.kept hg1 (by simp; omega)
                    have hb1 : Bel w w1 := Below.grown hb hg1 hb.size (fun j hj => by cases hj; omega)
                    obtain ⟨d1, d2⟩ := hG1.1.2 k hkl
                    have HG2 := Lib.hid hG2
                    have HHH := Lib.hid (And.intro hM1 hb1)
                    have HRg := Lib.hid hrg1
                    clear hG1 hG2 hM1 hb1 hG hM hb hrg hqq hMx hax hlt1 hg1 hs1 hwx hrg1 hbB hBC hCR
                    go_wp2_with (first
                      | (at_builtin; refine wpList_app (by rfl) (.tmp 92) (.tmp 94) _ rfl (HA.out _) ?_; rintro v7 w7 ⟨A7, c7, rfl, o7, g7, a7⟩
                         obtain ⟨d3, d4⟩ := (HG2.out.1.kept g7 (fun e => by have := HQQ.out _ e.symm; omega)).2 k hkl)
                      | go_in)
                    have hbB := HBB.out
                    have hBC := HBC.out
                    have hCR := HCR.out
                    have hn7 : ∀ z, z = b ∨ z = B ∨ z = C ∨ z = R → some z ≠ (f k).ownBlock := fun z hz e => by have := HQQ.out _ e.symm; omega
                    have hRl := HRg.out.lt
                    go_roundg k1
                    case measure => exact HMX.out.2.2
                    case rel =>
                      refine ⟨vset f k (.slice A7 (zs.length + 1) c7), zs ++ [x], fun y => ahead y && !decide (y = x), ?_, ?_, ?_, ⟨?_, fun y => ?_, ?_⟩, fun j hj q hq => ?_, fun j hj => ?_, ?_⟩
                      · exact ((HRg.out.kept (World.grownBy_alloc w1 _ none) (by simp) (by simp)).kept g7 (hn7 _ (by simp)) (hn7 _ (by simp))).kept (grownBy_setV w7 B k _) (by simp; omega) (by simp; omega)
                      · have := HG2.out.app hkl g7 o7 (by rcases a7 with e | e; exact .inl e; exact .inr (by rw [e]; simp))
                        rw [vset_vset] at this
                        exact this
                      · exact ((HHH.out.1.kept (World.grownBy_alloc w1 _ none) (by simp)).kept g7 (hn7 _ (by simp))).kept (grownBy_setV w7 B k _) (by simp; omega)
                      · refine List.nodup_append.2 ⟨hzs.out.1, by simp, fun y hy z hz e => ?_⟩
                        simp only [List.mem_singleton] at hz
                        have := ((hzs.out.2.1 y).1 hy).2
                        rw [e, hz, HMX.out.2.1] at this
                        cases this
                      · rw [List.mem_append, List.mem_singleton, hzs.out.2.1]
                        constructor
                        · rintro (⟨h1, h2⟩ | rfl)
                          · exact ⟨h1, by simp [h2]⟩
                          · exact ⟨by rw [HMX.out.1]; rfl, by simp⟩
                        · rintro ⟨h1, h2⟩
                          rcases ahead_case h2 with h | h
                          · exact .inl ⟨h1, h⟩
                          · exact .inr h
                      · have := hzs.out.2.2
                        have := HMX.out.2.2
                        simp
                        omega
                      · by_cases e : j = k
                        · subst e
                          rw [vset_at] at hq
                          rcases a7 with e2 | e2
                          · rw [e2] at hq
                            have := HQQ.out _ hq
                            omega
                          · rw [e2] at hq
                            cases hq
                            omega
                        · rw [vset_ne _ _ _ _ e] at hq
                          exact hfb.out j hj q hq
                      · rw [vset_ne _ _ _ _ (by omega)]
                        exact hfn2.out j hj
                      · have hb2 := HHH.out.2.alloc (.cells #[.int .i64 x] 3)
                        have hb3 : Bel w w7 := Below.grown hb2 g7 hb2.size (fun j hj => by have := HQQ.out _ hj; omega)
                        exact hb3.setCell (by show _ ≤ B; omega) _
          · obtain rfl : k = ls.length := by omega
            have HK := Lib.hid (chk_ok (ns := nsOf ls) (by rw [nsOf_len]; exact H1.out) (by omega) Hh.out (fun j hj => hlo.out j (by have := H1.out; omega)))
            have HGf := Lib.hid (hG.out.ext (L' := fun i => natsI (gr l (nsOf ls) i)) fun j hj => by unfold laid; rw [if_pos (by have := H1.out; omega)])
            clear hG hM hn
            go_wp2
            refine bodyPost_ret (by simp [results, Try.results14, go_sem]; try rfl) rfl ?_
            refine ⟨.slice (some ⟨B, 0, none⟩) l.length l.length, by rw [HK.out], hb, fun h => absurd (by rw [HK.out]) h, fun _ => ⟨B, f, rfl, by have := HBB.out; omega, HGf.out⟩⟩
  · have HK := Lib.hid (chk_len (l := l) (ns := nsOf ls) (.inl (by rw [nsOf_len]; exact h1)))
    have e1 : ((l.length : Int) != (ls.length : Int)) = true := by simp; omega
    clear h1 hmm hmk
    go_enter Try.func14, Try.ntmps14
    go_wp2
    exact bodyPost_ret (by simp [results, Try.results14, go_sem]; try rfl) rfl (res_wrong HK.out (by omega) (Bel.refl _))
end Go.Proofs.Ytinbhhcppiamjaa
