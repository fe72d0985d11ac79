import Derived.Test.YtemciabindjkeaaDoorWdp
namespace Go.Proofs.YtemciabindjkeaaDoor
set_option linter.unusedSimpArgs false
set_option linter.unusedVariables false
open Go.RowKit Go.Lib

/-! Words: the law on Pick. -/
/-- The least of those that may be, so far. -/
def Least (l : List ByteArray) (some : Bool) (m : ByteArray) : Prop :=
  (some = false ∧ m = ⟨#[]⟩ ∧ ∀ s ∈ l, okw s = false) ∨ (some = true ∧ m ∈ l ∧ okw m = true ∧ ∀ s ∈ l, okw s = true → sless s m = false)
theorem least_nil : Least [] false ⟨#[]⟩ := .inl ⟨rfl, rfl, by simp⟩
theorem least_skip {l : List ByteArray} {b : Bool} {m x : ByteArray} (h : Least l b m) (hx : okw x = false) : Least (l ++ [x]) b m := by
  rcases h with ⟨h1, h2, h3⟩ | ⟨h1, h2, h3, h4⟩
  · refine .inl ⟨h1, h2, fun s hs => ?_⟩
    rcases List.mem_append.1 hs with hs | hs
    · exact h3 s hs
    · rw [List.mem_singleton] at hs; rw [hs]; exact hx
  · refine .inr ⟨h1, List.mem_append.2 (.inl h2), h3, fun s hs ho => ?_⟩
    rcases List.mem_append.1 hs with hs | hs
    · exact h4 s hs ho
    · rw [List.mem_singleton] at hs; rw [hs, hx] at ho; cases ho
theorem least_first {l : List ByteArray} {m x : ByteArray} (h : Least l false m) (hx : okw x = true) : Least (l ++ [x]) true x := by
  rcases h with ⟨h1, h2, h3⟩ | ⟨h1, _⟩
  · refine .inr ⟨rfl, by simp, hx, fun s hs ho => ?_⟩
    rcases List.mem_append.1 hs with hs | hs
    · rw [h3 s hs] at ho; cases ho
    · rw [List.mem_singleton] at hs; rw [hs]; exact sless_irr _
  · cases h1
theorem least_less {l : List ByteArray} {m x : ByteArray} (h : Least l true m) (hx : okw x = true) (hl : sless x m = true) : Least (l ++ [x]) true x := by
  rcases h with ⟨h1, _⟩ | ⟨h1, h2, h3, h4⟩
  · cases h1
  · refine .inr ⟨rfl, by simp, hx, fun s hs ho => ?_⟩
    rcases List.mem_append.1 hs with hs | hs
    · cases hq : sless s x with
      | false => rfl
      | true => have := sless_trans hq hl; rw [h4 s hs ho] at this; cases this
    · rw [List.mem_singleton] at hs; rw [hs]; exact sless_irr _
theorem least_more {l : List ByteArray} {m x : ByteArray} (h : Least l true m) (hl : sless x m = false) : Least (l ++ [x]) true m := by
  rcases h with ⟨h1, _⟩ | ⟨h1, h2, h3, h4⟩
  · cases h1
  · refine .inr ⟨rfl, List.mem_append.2 (.inl h2), h3, fun s hs ho => ?_⟩
    rcases List.mem_append.1 hs with hs | hs
    · exact h4 s hs ho
    · rw [List.mem_singleton] at hs; rw [hs]; exact hl
theorem least_none {l : List ByteArray} {m s : ByteArray} {x : Int} (h : Least l false m) (hp : PickOk false l s x) : s = ⟨#[]⟩ ∧ x = 16 ∧ emptyw false l = true := by
  rcases h with ⟨_, _, h3⟩ | ⟨h1, _⟩
  · have he : emptyw false l = true := by
      unfold emptyw
      rw [List.any_eq_false.2 (fun s hs => by simp [h3 s hs])]
      rfl
    rcases hp with ⟨_, _, h, h'⟩ | ⟨_, _, t, h⟩ | ⟨h, _⟩
    · exact ⟨h, h', he⟩
    · have := (keptl_mem okw l s).1 (by rw [h]; simp)
      rw [h3 s this.1] at this
      cases this.2
    · cases h
  · cases h1
theorem least_some {l : List ByteArray} {m s : ByteArray} {x : Int} (h : Least l true m) (hp : PickOk false l s x) : s = m ∧ x = 0 ∧ emptyw false l = false := by
  rcases h with ⟨h1, _⟩ | ⟨_, h2, h3, h4⟩
  · cases h1
  · have he : emptyw false l = false := by
      unfold emptyw
      rw [List.any_eq_true.2 ⟨m, h2, h3⟩]
      rfl
    have hm : m ∈ keptl okw l := (keptl_mem okw l m).2 ⟨h2, h3⟩
    rcases hp with ⟨_, h, _⟩ | ⟨_, hx, t, h⟩ | ⟨h, _⟩
    · rw [h] at hm; cases hm
    · have hs := (keptl_mem okw l s).1 (by rw [h]; simp)
      have a := h4 s hs.1 hs.2
      have b := srt_first (h ▸ keptl_srt okw l) m (h ▸ hm)
      exact ⟨sless_tri a b, hx, he⟩
    · cases h
set_option maxRecDepth 100000 in
set_option maxHeartbeats 4000000 in
theorem law_PicksN (l : List ByteArray) (A : Option Addr) (c : Nat) (w : World) (ht : Tab w) (hl : Strs w A l) (hn : l.length * 16 ≤ 140737488355328) (hs : ∀ s ∈ l, Fits s) :
    Calls Tryd.prog 5 #[wset false A l.length c] w fun e w' => e = .returned (.bool true) ∧ Bel w w' := by
  have HT := Lib.hid ht
  have HL := Lib.hid hl
  have HF := Lib.hid hs
  have PI := Lib.hid fun W (hW : Bel w W) => pick_any false l A c W (ht.keep hW) (hl.keep hW) hn hs
  have EM := Lib.hid fun W (hW : Bel w W) => empty_any false l A c W (hl.keep hW) (by omega) hs
  have LN := Lib.hid (fun m s x => least_none (l := l) (m := m) (s := s) (x := x))
  have LS := Lib.hid (fun m s x => least_some (l := l) (m := m) (s := s) (x := x))
  have hli : (l.length : Int) ≤ 9223372036854775807 := by omega
  unfold wset at PI EM
  generalize emptyw false l = em at EM LN LS
  clear ht hs hl
  unfold wset
  go_enter Tryd.func5, Tryd.ntmps5
  go_upto_region 1 with fail
  refine under_name ((Bel.refl w).alloc _) fun W hc hf hz hb => ?_
  have m0 : W.cell? ⟨w.heap.size, 0, none⟩ = some (.bool false) := by simp [hc, go_sem]
  have m1 : W.cell? ⟨w.heap.size, 1, none⟩ = some (.slice A l.length c) := by simp [hc, go_sem]
  have z0 : w.heap.size < W.heap.size := by simp [hz]
  clear hc hf hz
  generalize w.heap.size = B at m0 m1 z0 ⊢
  go_upto_region 4 with (go_at_call 18; (with_reducible refine Calls.mono (PI.out _ hb) ?_); rintro e W1 ⟨s, x, rfl, hP, hb1⟩; have PO := Lib.hid hP; have m0 := (hb1.cells _ 0 z0).trans m0; have m1 := (hb1.cells _ 1 z0).trans m1; have z0 := Nat.lt_of_lt_of_le z0 hb1.size; have hb := hb.trans hb1; clear hb1 hP)
  go_wp2
  go_loopg [5, 6, 7] l.length (fun g m b i wr => ∃ (k : Nat) (mv : ByteArray) (bv : Bool), i = .int .i64 k ∧ m = .string mv ∧ b = .bool bv ∧ k ≤ l.length ∧ Hid (Least (l.take k) bv mv) ∧ Hid (g = l.length - k) ∧ Bel W1 wr)
  case atStart => exact ⟨0, _, false, rfl, rfl, rfl, Nat.zero_le _, (by show Least _ _ _; rw [List.take_zero]; exact least_nil), rfl, Bel.refl _⟩
  case round =>
    obtain ⟨k, mv, bv, rfl, rfl, rfl, hk, hm, hh, hb3⟩ := hrel
    have j0 := (hb3.cells _ 0 z0).trans m0
    have j1 := (hb3.cells _ 1 z0).trans m1
    have z1 := Nat.lt_of_lt_of_le z0 hb3.size
    have hbX := hb.trans hb3
    by_cases hlt : k < l.length
    · obtain ⟨b, off, rfl, hltb, hat⟩ := HL.out.blk (by omega)
      obtain ⟨y, hyk⟩ : ∃ y, l[k]? = some y := ⟨_, List.getElem?_eq_getElem hlt⟩
      have hcell := (hbX.cells _ (off + k) hltb).trans (hat k y hyk)
      have lt1 := Nat.lt_of_lt_of_le hltb hbX.size
      have WD := Lib.hid fun W => rword_any y (HF.out y (List.mem_of_getElem? hyk)) W
      have HTK := Lib.hid (show l.take (k + 1) = l.take k ++ [y] from by rw [List.take_add_one, hyk]; rfl)
      have i1 : (k : Int) < l.length := by omega
      have i2 : (0 : Int) ≤ (k : Int) := by omega
      clear hat hyk m0 m1 z0
      cases hq : okw y with
      | false =>
        rw [hq] at WD
        have LK := Lib.hid (least_skip hm.out hq)
        clear hq
        go_wp2_with (go_at_call 17; (with_reducible refine Calls.mono (WD.out _) ?_); rintro e W5 ⟨rfl, hb5⟩; have j1 := (hb5.cells _ _ z1).trans j1; have hcell := (hb5.cells _ _ lt1).trans hcell; have hb3 := hb3.trans hb5)
        go_roundg (l.length - (k + 1))
        case measure => have := hh.out; omega
        case rel => exact ⟨k + 1, mv, bv, by go_num, rfl, rfl, by omega, (by show Least _ _ _; rw [HTK.out]; exact LK.out), rfl, hb3⟩
      | true =>
        rw [hq] at WD
        cases bv with
        | false =>
          have LK := Lib.hid (least_first hm.out hq)
          clear hq
          go_wp2_with (go_at_call 17; (with_reducible refine Calls.mono (WD.out _) ?_); rintro e W5 ⟨rfl, hb5⟩; have j1 := (hb5.cells _ _ z1).trans j1; have hcell := (hb5.cells _ _ lt1).trans hcell; have hb3 := hb3.trans hb5)
          go_roundg (l.length - (k + 1))
          case measure => have := hh.out; omega
          case rel => exact ⟨k + 1, y, true, by go_num, rfl, rfl, by omega, (by show Least _ _ _; rw [HTK.out]; exact LK.out), rfl, hb3⟩
        | true =>
          cases hs : sless y mv with
          | true =>
            have LK := Lib.hid (least_less hm.out hq hs)
            have hs' : Op.bytesLess y.toList mv.toList = true := hs
            clear hq hs
            go_wp2_with (go_at_call 17; (with_reducible refine Calls.mono (WD.out _) ?_); rintro e W5 ⟨rfl, hb5⟩; have j1 := (hb5.cells _ _ z1).trans j1; have hcell := (hb5.cells _ _ lt1).trans hcell; have hb3 := hb3.trans hb5)
            go_roundg (l.length - (k + 1))
            case measure => have := hh.out; omega
            case rel => exact ⟨k + 1, y, true, by go_num, rfl, rfl, by omega, (by show Least _ _ _; rw [HTK.out]; exact LK.out), rfl, hb3⟩
          | false =>
            have LK := Lib.hid (least_more hm.out hs)
            have hs' : Op.bytesLess y.toList mv.toList = false := hs
            clear hq hs
            go_wp2_with (go_at_call 17; (with_reducible refine Calls.mono (WD.out _) ?_); rintro e W5 ⟨rfl, hb5⟩; have j1 := (hb5.cells _ _ z1).trans j1; have hcell := (hb5.cells _ _ lt1).trans hcell; have hb3 := hb3.trans hb5)
            go_roundg (l.length - (k + 1))
            case measure => have := hh.out; omega
            case rel => exact ⟨k + 1, mv, true, by go_num, rfl, rfl, by omega, (by show Least _ _ _; rw [HTK.out]; exact LK.out), rfl, hb3⟩
    · obtain rfl : k = l.length := by omega
      have hm := hm.out
      rw [List.take_length] at hm
      cases bv with
      | false =>
        obtain ⟨rfl, rfl, rfl⟩ := LN.out mv s x hm PO.out
        clear hm PO LN LS
        go_wp2_with (first
          | (go_at_call 9; (with_reducible refine Calls.mono (awake_any _ (HT.out.keep hbX)) ?_); rintro e W5 ⟨rfl, hb5⟩; have j0 := (hb5.cells _ _ z1).trans j0; have j1 := (hb5.cells _ _ z1).trans j1; have hbX := hbX.trans hb5; clear hb5)
          | (go_at_call 11; (with_reducible refine Calls.mono (EM.out _ hbX) ?_); rintro e W6 ⟨rfl, hb6⟩; have hbX := hbX.trans hb6; clear hb6))
        go_ret
        exact ⟨rfl, hbX⟩
      | true =>
        obtain ⟨rfl, rfl, rfl⟩ := LS.out mv s x hm PO.out
        clear hm PO LN LS
        go_wp2_with (first
          | (go_at_call 9; (with_reducible refine Calls.mono (awake_any _ (HT.out.keep hbX)) ?_); rintro e W5 ⟨rfl, hb5⟩; have j0 := (hb5.cells _ _ z1).trans j0; have j1 := (hb5.cells _ _ z1).trans j1; have hbX := hbX.trans hb5; clear hb5)
          | (go_at_call 11; (with_reducible refine Calls.mono (EM.out _ hbX) ?_); rintro e W6 ⟨rfl, hb6⟩; have hbX := hbX.trans hb6; clear hb6))
        go_ret
        exact ⟨rfl, hbX⟩
theorem hasw_asn (l : List ByteArray) (k : Nat) (h : k ≤ 256) : hasw true l (asn k) = !inl l (asn k) := by
  unfold hasw
  rw [asn_ok k h]
  cases inl l (asn k) <;> rfl
theorem all_end {l : List ByteArray} {s : ByteArray} {x : Int} (hp : PickOk true l s x) (h : ∀ j, j < 257 → inl l (asn j) = true) : x = 0 ∧ hasw true l s = true ∧ Fits s := by
  rcases hp with ⟨h1, _⟩ | ⟨h1, _⟩ | ⟨_, hx, hp⟩
  · cases h1
  · cases h1
  · refine ⟨hx, ?_⟩
    rcases hp with ⟨n, h1, _, h3, _⟩ | ⟨_, n, h2, h3, h4⟩
    · rw [h n (by omega)] at h3; cases h3
    · rw [h3]
      refine ⟨?_, itn_fits n h2⟩
      unfold hasw
      rw [itn_ok n h2, h4]
      rfl
theorem all_at {l : List ByteArray} {s : ByteArray} {x : Int} {k : Nat} (hp : PickOk true l s x) (hk : k < 257) (h : ∀ j, j < k → inl l (asn j) = true) (hn : inl l (asn k) = false) : x = 0 ∧ s = asn k := by
  rcases hp with ⟨h1, _⟩ | ⟨h1, _⟩ | ⟨_, hx, hp⟩
  · cases h1
  · cases h1
  · refine ⟨hx, ?_⟩
    rcases hp with ⟨n, h1, h2, h3, h4⟩ | ⟨h5, _⟩
    · rcases Nat.lt_trichotomy n k with g | g | g
      · rw [h n g] at h3; cases h3
      · rw [h2, g]
      · rw [h4 k g] at hn; cases hn
    · rw [h5 k hk] at hn; cases hn
set_option maxRecDepth 100000 in
set_option maxHeartbeats 4000000 in
theorem law_PicksA (l : List ByteArray) (A : Option Addr) (c : Nat) (w : World) (ht : Tab w) (hl : Strs w A l) (hn : l.length * 16 ≤ 140737488355328) (hs : ∀ s ∈ l, Fits s) :
    Calls Tryd.prog 5 #[wset true A l.length c] w fun e w' => e = .returned (.bool true) ∧ Bel w w' := by
  have HT := Lib.hid ht
  have PI := Lib.hid fun W (hW : Bel w W) => pick_any true l A c W (ht.keep hW) (hl.keep hW) hn hs
  have RW := Lib.hid fun t (hf : Fits t) W (hW : Bel w W) => rwords_any true l A c t W (hl.keep hW) (by omega) hf
  have AE := Lib.hid (fun s x => all_end (l := l) (s := s) (x := x))
  have AA := Lib.hid (fun s x k => all_at (l := l) (s := s) (x := x) (k := k))
  have HA := Lib.hid (fun k h => hasw_asn l k h)
  unfold wset at PI RW
  clear ht hs hl
  unfold wset
  go_enter Tryd.func5, Tryd.ntmps5
  go_upto_region 1 with fail
  refine under_name ((Bel.refl w).alloc _) fun W hc hf hz hb => ?_
  have m0 : W.cell? ⟨w.heap.size, 0, none⟩ = some (.bool true) := by simp [hc, go_sem]
  have m1 : W.cell? ⟨w.heap.size, 1, none⟩ = some (.slice A l.length c) := by simp [hc, go_sem]
  have z0 : w.heap.size < W.heap.size := by simp [hz]
  clear hc hf hz
  generalize w.heap.size = B at m0 m1 z0 ⊢
  go_upto_region 12 with (go_at_call 18; (with_reducible refine Calls.mono (PI.out _ hb) ?_); rintro e W1 ⟨s, x, rfl, hP, hb1⟩; have PO := Lib.hid hP; have m0 := (hb1.cells _ 0 z0).trans m0; have m1 := (hb1.cells _ 1 z0).trans m1; have z0 := Nat.lt_of_lt_of_le z0 hb1.size; have hb := hb.trans hb1; clear hb1 hP)
  go_wp2
  go_loopg [8] 257 (fun g v wr => ∃ (k : Nat) (t : ByteArray), v = .string t ∧ Hid (t = asn k) ∧ t.size = k ∧ k ≤ 257 ∧ Hid (∀ j, j < k → inl l (asn j) = true) ∧ Hid (g = 257 - k) ∧ Bel W1 wr)
  case atStart => exact ⟨0, _, rfl, rfl, rfl, Nat.zero_le _, (fun j hj => absurd hj (Nat.not_lt_zero _)), rfl, Bel.refl _⟩
  case round =>
    obtain ⟨k, t, rfl, htk, hts, hk, ha, hh, hb3⟩ := hrel
    have j0 := (hb3.cells _ 0 z0).trans m0
    have j1 := (hb3.cells _ 1 z0).trans m1
    have z1 := Nat.lt_of_lt_of_le z0 hb3.size
    have hbX := hb.trans hb3
    clear m0 m1 z0
    by_cases hlt : k < 257
    · have i1 : (t.size : Int) ≤ 256 := by omega
      have i1' : t.size ≤ 256 := by omega
      have i2 : ¬ (t.size : Int) > 256 := by omega
      have R1 := Lib.hid (RW.out t (by rw [htk.out]; exact asn_fits k (by omega)))
      have hv : hasw true l t = !inl l (asn k) := by rw [htk.out]; exact HA.out k (by omega)
      rw [hv] at R1
      clear hv
      cases hq : inl l (asn k) with
      | true =>
        rw [hq] at R1
        have HA2 := Lib.hid (show ∀ j, j < k + 1 → inl l (asn j) = true from fun j hj => by
          by_cases e : j = k
          · rw [e]; exact hq
          · exact ha.out j (by omega))
        have HS := Lib.hid (show t ++ ⟨#[97]⟩ = asn (k + 1) from by rw [htk.out]; exact asn_succ k)
        clear hq
        simp only [Bool.not_true] at R1
        have hts' := Lib.hid hts
        clear hts
        go_wp2_with (go_at_call 13; (with_reducible refine Calls.mono (R1.out _ hbX) ?_); rintro e W5 ⟨rfl, hb5⟩; have hb3 := hb3.trans hb5)
        go_roundg (257 - (k + 1))
        case measure => have := hh.out; omega
        case rel => exact ⟨k + 1, _, rfl, HS.out, (by rw [HS.out]; exact asn_size _), by omega, HA2.out, rfl, hb3⟩
      | false =>
        rw [hq] at R1
        obtain ⟨rfl, hsk⟩ := AA.out s x k PO.out hlt ha.out hq
        have hst : (s.toList == t.toList) = true := by rw [seq_iff]; exact decide_eq_true (by rw [hsk, htk.out])
        simp only [Bool.not_false] at R1
        clear hq hsk hts PO
        go_wp2_with (first
          | (go_at_call 13; (with_reducible refine Calls.mono (R1.out _ hbX) ?_); rintro e W5 ⟨rfl, hb5⟩; have j0 := (hb5.cells _ _ z1).trans j0; have j1 := (hb5.cells _ _ z1).trans j1; have hbX := hbX.trans hb5; clear hb5)
          | (go_at_call 9; (with_reducible refine Calls.mono (awake_any _ (HT.out.keep hbX)) ?_); rintro e W6 ⟨rfl, hb6⟩; have hbX := hbX.trans hb6; clear hb6))
        go_ret
        exact ⟨rfl, hbX⟩
    · obtain rfl : k = 257 := by omega
      have i1 : ¬ (t.size : Int) ≤ 256 := by omega
      have i1' : ¬ t.size ≤ 256 := by omega
      have i2 : (t.size : Int) > 256 := by omega
      obtain ⟨rfl, hw, hfs⟩ := AE.out s x PO.out ha.out
      have R1 := Lib.hid (RW.out s hfs)
      rw [hw] at R1
      have hts' := Lib.hid hts
      clear hw hts PO
      go_wp2_with (first
        | (go_at_call 9; (with_reducible refine Calls.mono (awake_any _ (HT.out.keep hbX)) ?_); rintro e W5 ⟨rfl, hb5⟩; have j0 := (hb5.cells _ _ z1).trans j0; have j1 := (hb5.cells _ _ z1).trans j1; have hbX := hbX.trans hb5; clear hb5)
        | (go_at_call 13; (with_reducible refine Calls.mono (R1.out _ hbX) ?_); rintro e W6 ⟨rfl, hb6⟩; have hbX := hbX.trans hb6; clear hb6))
      go_ret
      exact ⟨rfl, hbX⟩
theorem law_Picks (all : Bool) (l : List ByteArray) (A : Option Addr) (c : Nat) (w : World) (ht : Tab w) (hl : Strs w A l) (hn : l.length * 16 ≤ 140737488355328) (hs : ∀ s ∈ l, Fits s) :
    Calls Tryd.prog 5 #[.agg #[.bool all, .slice A l.length c]] w fun e w' => e = .returned (.bool true) ∧ Bel w w' := by
  cases all with
  | false => exact law_PicksN l A c w ht hl hn hs
  | true => exact law_PicksA l A c w ht hl hn hs
end Go.Proofs.YtemciabindjkeaaDoor
