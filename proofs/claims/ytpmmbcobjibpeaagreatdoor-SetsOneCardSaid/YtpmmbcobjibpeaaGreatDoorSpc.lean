
import Derived.Test.YtpmmbcobjibpeaaGreatDoorSpb
import Derived.Shelf.SlSortCmp.NoneTotal
import Derived.Shelf.SlicesE.Clone
import Derived.Shelf.SlicesG.Cmp
import Derived.Test.YtpmmbcobjibpeaaGreatDoorLay
import Derived.Ground.SlsfProg
import Derived.Ground.SlgnProg
import Derived.Ground.SlgcProg
import Derived.Lib.OwnBridge
namespace Go.Proofs.YtpmmbcobjibpeaaGreatDoor
set_option linter.unusedSimpArgs false
set_option linter.unusedVariables false
open Go.RowKit Go.Lib Go.Sort Go.Shelf

/-! Spans: slices.Clone, slices.SortFunc with the comparison of Join. -/
def encS (x : Sp) : List Value := [.int .i64 x.1, .int .i64 x.2]
def cfS (x y : Sp) : Int := Lib.compareInt x.1 y.1
theorem ltS (x y : Sp) : ltOf cfS x y = decide (x.1 < y.1) := by
  unfold ltOf cfS Lib.compareInt
  rcases Int.lt_trichotomy x.1 y.1 with h | h | h
  · simp [h]
  · simp [h]
  · have h' : ¬ x.1 < y.1 := by omega
    simp [h, h']
theorem swoS : SWO (ltOf cfS) where
  irrefl x := by rw [ltS]; simp
  trans x y z h1 h2 := by rw [ltS] at *; simp at *; omega
  ntrans x y z h1 h2 := by rw [ltS] at *; simp at *; omega
set_option maxHeartbeats 1000000 in
theorem joinCmp_any (x y : Sp) (W : World) : Calls Tryz.prog 76 #[.agg #[.int .i64 x.1, .int .i64 x.2], .agg #[.int .i64 y.1, .int .i64 y.2]] W fun e w' => e = .returned (.int .i64 (cfS x y)) ∧ ∃ q os', w' = grow (W.drewN q) os' := by
  have hcon := fun W' => AnyG.cmp_Compare_int Tryz.cmpI x.1 y.1 W'
  change ∀ W', Calls Tryz.prog 77 _ _ _ at hcon
  unfold cfS
  generalize Lib.compareInt x.1 y.1 = r at hcon ⊢
  go_enter Tryz.func76, Tryz.ntmps76
  go_wp2_with (go_at_call 77; refine (hcon _).mono ?_; rintro e w' ⟨rfl, rfl⟩)
  go_ret
  exact ⟨rfl, 0, _, by rw [alloc_eq_grow, alloc_eq_grow, grow_grow]; rfl⟩
theorem cmpLays_S (b off size : Nat) (w : World) : CmpLays Tryz.prog 76 #[] encS 2 cfS b off size w :=
  fun _ _ _ _ x y => joinCmp_any x y _
theorem flats_enc (xs : List Sp) (j : Nat) (hj : j < xs.length * 2) : (flats xs)[j]? = some (flatK encS 2 xs.toArray)[j]! := by
  rw [get_flatK _ _ _ _ (by simpa using hj)]
  have hi : j / 2 < xs.length := by omega
  obtain ⟨a0, a1⟩ := flats_at xs (j / 2) (xs[j / 2]) (by simp [hi])
  have e : xs.toArray[j / 2]! = xs[j / 2] := by simp [getElem!_pos, hi]
  rw [e]
  have hm : j % 2 < 2 := Nat.mod_lt _ (by omega)
  have hd := Nat.div_add_mod j 2
  have ej : j = j / 2 * 2 + j % 2 := by omega
  clear e
  generalize xs[j / 2] = x at a0 a1 ⊢
  generalize j % 2 = r at hm ej
  rw [ej]
  match r, hm with
  | 0, _ => exact a0
  | 1, _ => exact a1
theorem holdsS_of_own {w : World} {B n : Nat} {v : Value} {xs : List Sp} (h : w.ownsRow B 61 2 v n (flats xs)) (hv : v ≠ .slice none 0 0) :
    ∃ g cap, v = .slice (some ⟨g, 0, none⟩) n cap ∧ B ≤ g ∧ g < w.heap.size ∧ n ≤ cap ∧ cap ≤ maxLen ∧ xs.length = n ∧ HoldsK encS 2 w g 0 xs.toArray := by
  have h' := h
  have hl : xs.length * 2 = n * 2 := by
    have := h.1
    rwa [flats_length] at this
  rcases h.2 with ⟨e0, _⟩ | ⟨g, cap, cur, rfl, hb, hg, hn, hm, hs, ht⟩
  · exact absurd e0 hv
  · have hlt : g < w.heap.size := by
      rcases Nat.lt_or_ge g w.heap.size with h' | h'
      · exact h'
      · rw [Array.getElem?_eq_none h'] at hg; cases hg
    refine ⟨g, cap, rfl, hb, hlt, hn, hm, by omega, fun j hj => ?_⟩
    have hj' : j < xs.length * 2 := by simpa using hj
    have hc := h'.cells (g := g) rfl j _ (flats_enc xs j hj')
    rw [Go.WideShapes.add_plain] at hc
    exact ⟨hc, by simp [World.frozen?, hg]⟩
theorem clone_any (l : List Sp) (b off c : Nat) (w : World) (hl : l.length ≤ 1000000) (hv : Sps w (some ⟨b, off, none⟩) l) :
    Calls Tryz.prog 74 #[.slice (some ⟨b, off, none⟩) l.length c] w fun e w' => ∃ v', e = .returned v' ∧ w'.ownsRow w.heap.size 61 2 v' l.length (flats l) ∧ v' ≠ .slice none 0 0 ∧ Bel w w' := by
  obtain ⟨i0, hi, hz0, hz1, hz2⟩ := infoS'
  have hr := hv.row
  refine AnyE.slices_Clone Tryz.cloneS i0 _ 2 16 hi hz0 hz1 hz2 rfl (by omega) Tryz.sizeOf61 b off l.length c (flats l) w (flats_length l) (by unfold maxLen; omega) (by omega) (fun j u hu => ?_) (flats_one l)
  obtain ⟨b', off', hh, _, hc⟩ := hr (by have := (List.getElem?_eq_some_iff.1 hu).1; omega)
  cases hh
  exact hc j u hu
theorem cloneN_any (n c : Nat) (w : World) : Calls Tryz.prog 74 #[.slice none n c] w fun e w' => e = .returned (.slice none 0 0) ∧ w' = w :=
  AnyE.slices_Clone_nil Tryz.cloneS n c w
theorem sortN_any (p : Option Addr) (c : Nat) (fv : Value) (w : World) :
    Calls Tryz.prog 75 #[.slice p 0 c, fv] w fun e w' => e = .returned (.tuple #[]) ∧ w' = w :=
  AnyF.slices_SortFunc_none Tryz.sortS p c fv w
theorem sps_of_holds {w : World} {b : Nat} {d : Array Sp} (hb : b < w.heap.size) (h : HoldsK encS 2 w b 0 d) : Sps w (some ⟨b, 0, none⟩) d.toList := fun _ => by
  refine ⟨b, 0, rfl, hb, fun j s hs => ?_⟩
  have hj : j < d.size := by simpa using (List.getElem?_eq_some_iff.1 hs).1
  have e : d[j]! = s := by
    rw [getElem!_pos d j hj]
    have := (List.getElem?_eq_some_iff.1 hs).2
    simpa using this
  have h0 := (h.cell hj (c := 0) (by omega)).1
  have h1 := (h.cell hj (c := 1) (by omega)).1
  rw [e] at h0 h1
  exact ⟨h0, h1⟩
theorem sortW_bel {w0 w : World} {b n : Nat} {d : Array Sp} {os : Array Obj} (h : Bel w0 w) (hb : w0.heap.size ≤ b) : Bel w0 (sortWorldK encS 2 w b 0 n d os) := by
  have h1 : Bel w0 (putRowK encS 2 (Sort.ahead w n) b 0 d) := Lib.below_putRow h hb
  exact ⟨h1.os, h1.tape, h1.output, Nat.le_trans h1.size (by simp [sortWorldK, grow]), fun k hk => by
    rw [← Below.block h1 k hk]
    have hk2 : k < (putRowK encS 2 (Sort.ahead w n) b 0 d).heap.size := Nat.lt_of_lt_of_le hk h1.size
    simp [sortWorldK, grow, Array.getElem?_append, hk2]⟩
/-- Sorted by where they begin. -/
def ByLow (d : List Sp) : Prop := ∀ (i j : Nat) (s t : Sp), i < j → d[i]? = some s → d[j]? = some t → s.1 ≤ t.1
theorem sortS_any (l : List Sp) (g c : Nat) (w w0 : World) (hH : HoldsK encS 2 w g 0 l.toArray) (hg : g < w.heap.size) (h0 : Bel w0 w) (hg0 : w0.heap.size ≤ g) (hsz : l.length ≤ 1000000) :
    Calls Tryz.prog 75 #[.slice (some ⟨g, 0, none⟩) l.length c, .func (.func 76) #[] #[]] w fun e w' =>
      e = .returned (.tuple #[]) ∧ ∃ d : List Sp, d.Perm l ∧ ByLow d ∧ Sps w' (some ⟨g, 0, none⟩) d ∧ g < w'.heap.size ∧ Bel w0 w' := by
  have eg : ∀ args w, (callFunc 76 args).run Tryz.prog w = .ok (.enter 76 args) w := enters_of Tryz.func76 (by kernel_rfl) rfl
  have hc := AnyQ.slices_SortFunc Tryz.sortS 2 Tryz.isAgg61 Tryz.sizeOf61 encS (fun _ => rfl) (fun x v hv => by
    simp only [encS, List.mem_cons, List.not_mem_nil, or_false] at hv
    rcases hv with rfl | rfl <;> rfl) cfS swoS 76 #[] g 0 c l.toArray w eg (cmpLays_S g 0 _ w) hH hg (by simp; omega)
  refine Calls.mono hc ?_
  rintro e w' ⟨rfl, d', n, os, hp, hs, rfl⟩
  have hsz' : d'.size = l.toArray.size := hp.1
  have hl := lt_sortWorldK encS 2 w g 0 n d' os hg
  refine ⟨rfl, d'.toList, ?_, fun i j s t hij hi hj => ?_, sps_of_holds hl (holdsK_sortWorldK encS 2 w g 0 n l.toArray d' os hg hH hsz'), hl, sortW_bel h0 hg0⟩
  · have := hp.2.2
    rw [← hsz'] at this
    have e1 : (d'.extract 0 d'.size) = d' := by simp
    have e2 : (l.toArray.extract 0 d'.size) = l.toArray := by rw [hsz']; simp
    rw [e1, e2] at this
    exact this
  · have hj1 : j < d'.size := by simpa using (List.getElem?_eq_some_iff.1 hj).1
    have h := hs i j (Nat.zero_le _) hij (by omega)
    rw [ltS, getElem!_pos d' j hj1, getElem!_pos d' i (by omega)] at h
    have ei := (List.getElem?_eq_some_iff.1 hi).2
    have ej := (List.getElem?_eq_some_iff.1 hj).2
    simp only [Array.getElem_toList] at ei ej
    rw [ei, ej] at h
    have := of_decide_eq_false h
    omega
end Go.Proofs.YtpmmbcobjibpeaaGreatDoor
