
import Derived.Test.YtpmmbcobjibpeaaGreatDoorWdg
namespace Go.Proofs.YtpmmbcobjibpeaaGreatDoor
set_option linter.unusedSimpArgs false
set_option linter.unusedVariables false
open Go.RowKit Go.Lib

/-! Words: slices.Concat of two; the function values of Meet and Pick. -/
theorem zc_size (z : Array Value) (n : Nat) : (Builtin.zeroCells z n).size = n * z.size := by simp [Builtin.zeroCells]
theorem grow_any (n : Nat) (w : World) (hn : n * 16 ≤ 140737488355328) :
    Calls Tryz.prog 122 #[.slice none 0 0, .int .i64 n] w fun e w' => ∃ v, e = .returned v ∧ OwnT w' w.heap.size v [] ∧ Bel w w' := by
  rcases Nat.eq_zero_or_pos n with h0 | h0
  · subst h0
    have h := Any8.slices_Grow_room Tryz.growT none 0 0 0 w (Nat.le_refl _) (by omega) (by omega) (Nat.le_refl _)
    change Calls Tryz.prog 122 _ _ _ at h
    exact h.mono fun e w' ⟨he, hw⟩ => ⟨_, he, OwnT.nil _ _, by rw [hw]; exact Bel.refl _⟩
  · obtain ⟨i0, hi, hz0, hz1, hz2⟩ := infoT'
    have h := Any8.slices_Grow_grow Tryz.growT i0 _ hi hz0 (by omega) none 0 0 n [] w (Nat.le_refl _) (by omega) (by rw [hz2]; omega) (by omega) (by simp) (fun _ => rfl) (by simp)
    change Calls Tryz.prog 122 _ _ _ at h
    refine h.mono fun e w' ⟨he, hw⟩ => ⟨_, he, ?_, by rw [hw]; exact (Bel.refl w).drew.alloc _⟩
    subst hw
    refine ⟨rfl, .inr ⟨w.heap.size, _, _, rfl, Nat.le_refl _, heap_alloc_new (w.drew) _, Nat.zero_le _, grownCap_le_maxLen _ _ _ _ (by unfold maxLen; omega), ?_, rfl⟩⟩
    have hge := grownCap_ge w (0 + n) 0 9
    simp only [Array.size_append, zc_size, Value.cells, List.size_toArray, List.length_nil, Nat.sub_zero]
    show 0 + (0 + n) * 1 + (grownCap w (0 + n) 0 9 - (0 + n)) * 1 = grownCap w (0 + n) 0 9 * 1
    omega
set_option maxRecDepth 100000 in
set_option maxHeartbeats 8000000 in
theorem concat_any (l m : List ByteArray) (A A2 : Option Addr) (c c2 B cc : Nat) (w : World) (hB : B < w.heap.size) (q0 : w.cell? ⟨B, 0, none⟩ = some (.slice A l.length c)) (q1 : w.cell? ⟨B, 1, none⟩ = some (.slice A2 m.length c2))
    (hl : Strs w A l) (hm : Strs w A2 m) (hA : A = none → c = 0) (hA2 : A2 = none → c2 = 0) (hn : (l.length + m.length) * 16 ≤ 140737488355328) :
    Calls Tryz.prog 94 #[.slice (some ⟨B, 0, none⟩) 2 cc] w fun e w' => ∃ A' c', e = .returned (.slice A' (l ++ m).length c') ∧ Strs w' A' (l ++ m) ∧ (A' = none → c' = 0) ∧ Bel w w' := by
  have hli : (l.length : Int) ≤ 8796093022208 := by omega
  have hmi : (m.length : Int) ≤ 8796093022208 := by omega
  have G := Lib.hid fun w => grow_any (l.length + m.length) w (by omega)
  have HL := Lib.hid (And.intro hl hm)
  have HH := Lib.hid (And.intro hA hA2)
  have HN := Lib.hid hn
  clear hl hm hA hA2 hn
  go_enter Tryz.func94, Tryz.ntmps94
  go_wp2
  go_loopg [3, 11] 2 (fun g v i wr => ∃ k n : Nat, i = .int .i64 k ∧ v = .int .i64 n ∧ Hid (k ≤ 2 ∧ g = 2 - k ∧ (k = 0 ∧ n = 0 ∨ k = 1 ∧ n = l.length ∨ k = 2 ∧ n = l.length + m.length)) ∧ Bel w wr)
  case atStart => exact ⟨0, 0, rfl, rfl, ⟨by omega, rfl, by omega⟩, Bel.refl _⟩
  case round =>
    obtain ⟨k, n, rfl, rfl, hh, hb0⟩ := hrel
    have hg := hh.out.2.1
    have p0 := (hb0.cells _ 0 hB).trans q0
    have p1 := (hb0.cells _ 1 hB).trans q1
    clear q0 q1
    rcases hh.out.2.2 with ⟨rfl, rfl⟩ | ⟨rfl, rfl⟩ | ⟨rfl, rfl⟩
    · go_wp2
      go_roundg 1
      case measure => omega
      case rel => exact ⟨1, l.length, by go_num, by go_num, ⟨by omega, rfl, by omega⟩, hb0⟩
    · go_wp2
      go_roundg 0
      case measure => omega
      case rel => exact ⟨2, l.length + m.length, by go_num, by go_num, ⟨by omega, rfl, by omega⟩, hb0⟩
    · have hB1 := Nat.lt_of_lt_of_le hB hb0.size
      go_wp2_with (go_at_call 122; refine (G.out _).mono ?_; rintro e W1 ⟨v, rfl, ho, hb⟩)
      have HO := Lib.hid (And.intro ho hb)
      clear ho hb hg
      go_loopg [6, 27] 2 (fun g v i w2 => ∃ (k : Nat) (r : List ByteArray), i = .int .i64 k ∧ Hid (OwnT w2 wr.heap.size v r) ∧ Hid (k ≤ 2 ∧ g = 2 - k ∧ (k = 0 ∧ r = [] ∨ k = 1 ∧ r = l ∨ k = 2 ∧ r = l ++ m)) ∧ Bel wr w2)
      case atStart => exact ⟨0, [], rfl, HO.out.1, ⟨by omega, rfl, .inl ⟨rfl, rfl⟩⟩, HO.out.2⟩
      case round =>
        obtain ⟨k, r, rfl, o1, hh2, hbb⟩ := hrel
        have hg := hh2.out.2.1
        have q0 := (hbb.cells _ 0 hB1).trans p0
        have q1 := (hbb.cells _ 1 hB1).trans p1
        have OO := o1
        clear HO o1
        rcases hh2.out.2.2 with ⟨rfl, hr⟩ | ⟨rfl, hr⟩ | ⟨rfl, hr⟩
        · rw [hr] at OO
          clear hr
          go_wp2_with (first
            | (at_builtin
               refine wpList_app (by rfl) (.tmp 31) (.tmp 32) _ rfl (app_strs (ys := l) hbb OO.out (HL.out.1.keep (hb0.trans hbb)) rfl HH.out.1 (by have := HN.out; simp; omega) _) ?_
               rintro v7 w7 ⟨o7, b7⟩))
          go_roundg 1
          case measure => omega
          case rel => exact ⟨1, l, by go_num, (by show OwnT _ _ _ _; simpa using o7), ⟨by omega, rfl, .inr (.inl ⟨rfl, rfl⟩)⟩, b7⟩
        · rw [hr] at OO
          clear hr
          go_wp2_with (first
            | (at_builtin
               refine wpList_app (by rfl) (.tmp 31) (.tmp 32) _ rfl (app_strs (ys := m) hbb OO.out (HL.out.2.keep (hb0.trans hbb)) rfl HH.out.2 HN.out _) ?_
               rintro v7 w7 ⟨o7, b7⟩))
          go_roundg 0
          case measure => omega
          case rel => exact ⟨2, l ++ m, by go_num, o7, ⟨by omega, rfl, .inr (.inr ⟨rfl, rfl⟩)⟩, b7⟩
        · rw [hr] at OO
          obtain ⟨A', c', rfl, hS, hc⟩ := OO.out.strs
          clear hr OO
          go_wp2
          go_ret
          exact ⟨A', c', rfl, hS, hc, hb0.trans hbb⟩
end Go.Proofs.YtpmmbcobjibpeaaGreatDoor
