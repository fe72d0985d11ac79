
import Derived.Test.YtpmmbcobjibpeaaGreatDoorMtb
import Derived.Test.YtpmmbcobjibpeaaGreatDoorWst
import Derived.Laws.Cover1
import Derived.Deep.CutBlock
import Derived.Deep.DeepCutAuto
import Derived.Deep.OwnRows
import Derived.Deep.RegionHeld3
namespace Go.Proofs.YtpmmbcobjibpeaaGreatDoor
set_option linter.unusedSimpArgs false
set_option linter.unusedVariables false
open Go.RowKit Go.Lib

/-! Words: may a value have a string; function values that tell of strings; sets of strings. -/
def okw (s : ByteArray) : Bool := decide (s.size ≤ 256) && goodB s
/-- Of a length that may be. -/
def Fits (s : ByteArray) : Prop := s.size ≤ 9223372036854775807
theorem may_any (s : ByteArray) (hs : Fits s) (w : World) : Calls Tryz.prog 80 #[.string s] w fun e w' => e = .returned (.bool (okw s)) ∧ Bel w w' := by
  have h := fun w => vsound_any ⟨2, 0, 0, s, 0⟩ hs w
  have e : vsnd ⟨2, 0, 0, s, 0⟩ = okw s := by
    rw [vsnd2, (veq_iff _ _).2 rfl]
    rfl
  rw [e] at h
  generalize okw s = q at h ⊢
  have H := Lib.hid h
  clear h e
  go_enter Tryz.func80, Tryz.ntmps80
  go_wp2_with (go_at_call 31; refine (H.out _).mono ?_; rintro e W1 ⟨rfl, hb1⟩)
  go_ret
  exact ⟨rfl, hb1⟩
theorem rword_any (s : ByteArray) (hs : Fits s) (w : World) : Calls Tryz.prog 66 #[.string s] w fun e w' => e = .returned (.bool (okw s)) ∧ Bel w w' := by
  have H := Lib.hid fun w => rgood_any s hs w
  by_cases hz : s.size ≤ 256
  · have e : okw s = goodB s := by unfold okw; rw [decide_eq_true hz]; rfl
    rw [e]
    generalize goodB s = q at H ⊢
    have gz : decide ((s.size : Int) ≤ 256) = true := decide_eq_true (by omega)
    have gz' : (s.size : Int) ≤ 256 := by omega
    clear e
    go_enter Tryz.func66, Tryz.ntmps66
    go_wp2_with (go_at_call 99; refine (H.out _).mono ?_; rintro e W1 ⟨rfl, rfl⟩)
    go_ret
    exact ⟨rfl, Bel.refl _⟩
  · have e : okw s = false := by unfold okw; rw [decide_eq_false hz]; rfl
    rw [e]
    have gz : decide ((s.size : Int) ≤ 256) = false := decide_eq_false (by omega)
    have gz' : ¬ (s.size : Int) ≤ 256 := by omega
    clear e H
    go_enter Tryz.func66, Tryz.ntmps66
    go_wp2_with fail
    go_ret
    exact ⟨rfl, Bel.refl _⟩
/-- What a function value tells of strings, in each world in which what lay in w lies. -/
def PredT (g : Nat) (lb : Array Value) (p : ByteArray → Bool) (w : World) : Prop :=
  ∀ (W : World) (s : ByteArray), Bel w W → Fits s → Calls Tryz.prog g (#[.string s] ++ lb) W fun e w' => e = .returned (.bool (p s)) ∧ Bel W w'
theorem PredT.later {g : Nat} {lb : Array Value} {p : ByteArray → Bool} {w w' : World} (h : PredT g lb p w) (hb : Bel w w') : PredT g lb p w' := fun W s hW hs => h W s (hb.trans hW) hs
theorem predMay (w : World) : PredT 80 #[] okw w := fun W s _ hs => may_any s hs W
theorem eg_may : ∀ args w, (callFunc 80 args).run Tryz.prog w = .ok (.enter 80 args) w := enters_of Tryz.func80 (by kernel_rfl) rfl
set_option maxRecDepth 100000 in
set_option maxHeartbeats 2000000 in
theorem indexF_any (l : List ByteArray) (A : Option Addr) (c g : Nat) (lb : Array Value) (p : ByteArray → Bool) (eg : ∀ args w, (callFunc g args).run Tryz.prog w = .ok (.enter g args) w) (w : World) (hp : PredT g lb p w) (hl : Strs w A l) (hn : l.length ≤ 9223372036854775807) (hs : ∀ s ∈ l, Fits s) :
    Calls Tryz.prog 113 #[.slice A l.length c, .func (.func g) #[] lb] w fun e w' => (∃ i : Int, e = .returned (.int .i64 i) ∧ decide (i ≥ 0) = l.any p) ∧ Bel w w' := by
  obtain ⟨R, hR⟩ : ∃ R, R = l.any p := ⟨_, rfl⟩
  rw [← hR]
  have RR := Lib.hid hR
  have HP := Lib.hid hp
  clear hR hp
  have hli : (l.length : Int) ≤ 9223372036854775807 := by omega
  go_enter Tryz.func113, Tryz.ntmps113
  go_wp2
  go_loopg [5, 8] l.length (fun g _ i wr => ∃ k : Nat, i = .int .i64 k ∧ k ≤ l.length ∧ Hid (R = (l.drop k).any p ∧ g = l.length - k) ∧ Bel w wr)
  case atStart => exact ⟨0, rfl, Nat.zero_le _, ⟨RR.out, rfl⟩, Bel.refl _⟩
  case round =>
    obtain ⟨k, rfl, hk, hh, hb⟩ := hrel
    by_cases hlt : k < l.length
    · obtain ⟨b, off, rfl, hltb, hat⟩ := hl.blk (by omega)
      obtain ⟨s, hsk⟩ : ∃ s, l[k]? = some s := ⟨_, List.getElem?_eq_getElem hlt⟩
      have hcell := (hb.cells _ (off + k) hltb).trans (hat k s hsk)
      have hcall := HP.out wr s hb (hs s (List.mem_of_getElem? hsk))
      have hdr : l.drop k = s :: l.drop (k + 1) := by rw [List.drop_eq_getElem_cons hlt]; simp [List.getElem?_eq_getElem hlt] at hsk; rw [hsk]
      have RN := Lib.hid (show R = (p s || (l.drop (k + 1)).any p) from by rw [hh.out.1, hdr]; rfl)
      have i1 : (k : Int) < l.length := by omega
      have i2 : (0 : Int) ≤ (k : Int) := by omega
      clear hl hat hsk hdr hs
      cases hq : p s with
      | true =>
        rw [hq] at hcall
        have hR : R = true := by rw [RN.out, hq]; rfl
        go_wp2_with (go_at_fn g; refine hcall.mono ?_; rintro e w' ⟨rfl, hb'⟩)
        go_ret
        refine ⟨⟨_, rfl, by rw [hR]; exact decide_eq_true (by omega)⟩, hb.trans hb'⟩
      | false =>
        rw [hq] at hcall
        have RN := Lib.hid (show R = (l.drop (k + 1)).any p from by rw [RN.out, hq]; rfl)
        go_wp2_with (go_at_fn g; refine hcall.mono ?_; rintro e w' ⟨rfl, hb'⟩)
        go_roundg (l.length - (k + 1))
        case measure => have := hh.out.2; omega
        case rel => exact ⟨k + 1, by go_num, by omega, ⟨RN.out, rfl⟩, hb.trans hb'⟩
    · obtain rfl : k = l.length := by omega
      have h := hh.out.1
      rw [List.drop_length] at h
      obtain rfl : R = false := h
      go_wp2
      go_ret
      exact ⟨⟨-1, rfl, by decide⟩, hb⟩
set_option maxHeartbeats 2000000 in
theorem containsF_any (l : List ByteArray) (A : Option Addr) (c g : Nat) (lb : Array Value) (p : ByteArray → Bool) (eg : ∀ args w, (callFunc g args).run Tryz.prog w = .ok (.enter g args) w) (w : World) (hp : PredT g lb p w) (hl : Strs w A l) (hn : l.length ≤ 9223372036854775807) (hs : ∀ s ∈ l, Fits s) :
    Calls Tryz.prog 79 #[.slice A l.length c, .func (.func g) #[] lb] w fun e w' => e = .returned (.bool (l.any p)) ∧ Bel w w' := by
  have C := Lib.hid fun w => indexF_any l A c g lb p eg w
  have H := Lib.hid (And.intro hp hl)
  clear hp hl
  generalize l.any p = R at C ⊢
  go_enter Tryz.func79, Tryz.ntmps79
  go_wp2_with (go_at_call 113; refine (C.out _ H.out.1 H.out.2 hn hs).mono ?_; rintro e W1 ⟨⟨i, rfl, hi⟩, hb1⟩)
  go_ret
  exact ⟨rfl, hb1⟩
end Go.Proofs.YtpmmbcobjibpeaaGreatDoor
