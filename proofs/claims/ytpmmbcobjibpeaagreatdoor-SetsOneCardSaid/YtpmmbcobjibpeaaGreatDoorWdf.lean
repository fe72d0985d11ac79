
import Derived.Test.YtpmmbcobjibpeaaGreatDoorWsr
namespace Go.Proofs.YtpmmbcobjibpeaaGreatDoor
set_option linter.unusedSimpArgs false
set_option linter.unusedVariables false
open Go.RowKit Go.Lib

/-! Words: kept, Make, Other, Has, Empty. -/
theorem filter_take (p : ByteArray → Bool) (l : List ByteArray) (k : Nat) (x : ByteArray) (h : l[k]? = some x) : (l.take (k + 1)).filter p = (l.take k).filter p ++ if p x = true then [x] else [] := by
  rw [List.take_add_one, h, List.filter_append]
  simp [List.filter_cons]
/-- What is made of strings: a slice of the call's own, or nil. -/
def Made (w0 w' : World) (e : Ending) (f : Value → Value) (r : List ByteArray) : Prop :=
  ∃ A c, e = .returned (f (.slice A r.length c)) ∧ Strs w' A r ∧ (A = none → c = 0) ∧ (r = [] ∨ ∃ g, A = some ⟨g, 0, none⟩ ∧ w0.heap.size ≤ g) ∧ Bel w0 w'
set_option maxRecDepth 100000 in
set_option maxHeartbeats 4000000 in
theorem kept_any (p : ByteArray → Bool) (g : Nat) (lb : Array Value) (l : List ByteArray) (A : Option Addr) (c : Nat) (eg : ∀ args w, (callFunc g args).run Tryz.prog w = .ok (.enter g args) w) (w : World) (hp : PredT g lb p w) (hl : Strs w A l) (hn : l.length * 16 ≤ 140737488355328) (hs : ∀ s ∈ l, Fits s) :
    Calls Tryz.prog 97 #[.func (.func g) #[] lb, .slice A l.length c] w fun e w' => Made w w' e id (keptl p l) := by
  have HP := Lib.hid hp
  clear hp
  have hli : (l.length : Int) ≤ 9223372036854775807 := by omega
  go_enter Tryz.func97, Tryz.ntmps97
  go_wp2
  go_loopg [5, 10] l.length (fun g v i wr => ∃ k : Nat, i = .int .i64 k ∧ k ≤ l.length ∧ Hid (OwnT wr w.heap.size v ((l.take k).filter p)) ∧ Hid (g = l.length - k) ∧ Bel w wr)
  case atStart => exact ⟨0, rfl, Nat.zero_le _, OwnT.nil _ _, rfl, Bel.refl _⟩
  case round =>
    obtain ⟨k, rfl, hk, ho, hh, hb⟩ := hrel
    by_cases hlt : k < l.length
    · obtain ⟨b, off, rfl, hltb, hat⟩ := hl.blk (by omega)
      obtain ⟨s, hsk⟩ : ∃ s, l[k]? = some s := ⟨_, List.getElem?_eq_getElem hlt⟩
      have hcell := (hb.cells _ (off + k) hltb).trans (hat k s hsk)
      have hcall := HP.out wr s hb (hs s (List.mem_of_getElem? hsk))
      have HF := Lib.hid (filter_take p l k s hsk)
      have HL := Lib.hid (show ((l.take k).filter p).length ≤ k from Nat.le_trans (List.length_filter_le _ _) (by simp; omega))
      have i1 : (k : Int) < l.length := by omega
      have i2 : (0 : Int) ≤ (k : Int) := by omega
      clear hl hat hsk hs
      cases hq : p s with
      | false =>
        rw [hq] at hcall HF
        have ho' := ho.out
        go_wp2_with (go_at_fn g; refine hcall.mono ?_; rintro e w' ⟨rfl, hb'⟩)
        go_roundg (l.length - (k + 1))
        case measure => have := hh.out; omega
        case rel => exact ⟨k + 1, by go_num, by omega, (by show OwnT _ _ _ _; rw [HF.out]; simpa using ho'.keep hb'), rfl, hb.trans hb'⟩
      | true =>
        rw [hq] at hcall HF
        go_wp2_with (first
          | (go_at_fn g; refine hcall.mono ?_; rintro e w' ⟨rfl, hb'⟩; have ho := Lib.hid (ho.out.keep hb'); have hb := hb.trans hb')
          | (at_builtin
             refine wpList_app (by rfl) (.tmp 17) (.tmp 19) _ rfl (app_strs (w0 := w) (ys := [s]) (hb.alloc _) (ho.out.keep ((Bel.refl _).alloc _)) (strs_lit [s] rfl) rfl (by simp) (by have := HL.out; simp; omega) _) ?_
             rintro v7 w7 ⟨o7, b7⟩))
        go_roundg (l.length - (k + 1))
        case measure => have := hh.out; omega
        case rel => exact ⟨k + 1, by go_num, by omega, (by show OwnT _ _ _ _; rw [HF.out]; exact o7), rfl, b7⟩
    · obtain rfl : k = l.length := by omega
      have ho := ho.out
      rw [List.take_length] at ho
      have HK := Lib.hid (show keptl p l = unb (compact ((bys (l.filter p)).mergeSort fun x y => decide (x ≤ y))) from rfl)
      have HS := Lib.hid (show ((bys (l.filter p)).mergeSort fun x y => decide (x ≤ y)).length = (l.filter p).length from by simp [bys])
      have HN := Lib.hid (show (l.filter p).length ≤ l.length from List.length_filter_le _ _)
      clear hl hs
      by_cases hz : l.filter p = []
      · have hr : keptl p l = [] := by unfold keptl; rw [hz]; exact srt_empty fun s h => by simpa using (sortc_mem [] s).1 h
        rw [hz] at ho
        obtain ⟨A', c', rfl, hA, hc⟩ := ho.strs
        have S1 := Lib.hid fun w => Any.slices_Sort_string_none Tryz.sortT A' c' w
        have S2 := Lib.hid fun w => AnyG.slices_Compact_string_empty Tryz.compT A' c' w
        change Hid (∀ w, Calls Tryz.prog 125 _ _ _) at S1
        change Hid (∀ w, Calls Tryz.prog 126 _ _ _) at S2
        clear ho HK HS HN hz
        go_wp2_with (first
          | (go_at_call 125; refine (S1.out _).mono ?_; rintro e w1 ⟨rfl, rfl⟩)
          | (go_at_call 126; refine (S2.out _).mono ?_; rintro e w2 ⟨rfl, rfl⟩))
        go_ret
        rw [hr]
        exact ⟨A', c', rfl, Strs.nil, hc, .inl rfl, hb⟩
      · obtain ⟨g', cap, rfl, hg0, hg, hcap, hcm, hat⟩ := ho.holds hz
        have S1 := Lib.hid (sort_own (cap := cap) hb hg0 hg (holds_own hat) (by have := HN.out; omega))
        have S2 := Lib.hid fun w1 (h0 : Bel w w1) hg h => comp_own (cap := cap) (z := (bys (l.filter p)).mergeSort fun x y => decide (x ≤ y)) h0 hg0 hg h (by have := HN.out; have := HS.out; omega) (by have := HS.out; omega)
        rw [HS.out, ← HK.out] at S2
        have HC := Lib.hid (And.intro hg0 hcm)
        clear ho HK HS HN hz hat
        go_wp2_with (first
          | (go_at_call 125; refine S1.out.mono ?_; rintro e w1 ⟨rfl, h1, h2, h3⟩; have HH := Lib.hid (And.intro h1 (And.intro h2 h3)); clear h1 h2 h3)
          | (go_at_call 126; refine (S2.out _ HH.out.2.2 HH.out.2.1 HH.out.1).mono ?_; rintro e w2 ⟨rfl, h1, h2⟩))
        go_ret
        exact ⟨_, _, rfl, h1, (fun h => by cases h), .inr ⟨_, rfl, hg0⟩, h2⟩
end Go.Proofs.YtpmmbcobjibpeaaGreatDoor
