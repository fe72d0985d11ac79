import Derived.Test.YtemciabindjkeaaDoorWdl
namespace Go.Proofs.YtemciabindjkeaaDoor
set_option linter.unusedSimpArgs false
set_option linter.unusedVariables false
open Go.RowKit Go.Lib

/-! Words: Meet of any two; the law's asks. -/
theorem meet_any (a : Bool) (l : List ByteArray) (A : Option Addr) (c : Nat) (b : Bool) (m : List ByteArray) (A2 : Option Addr) (c2 : Nat) (w : World) (hl : Strs w A l) (hm : Strs w A2 m) (hA : A = none → c = 0) (hA2 : A2 = none → c2 = 0)
    (hn : l.length * 16 ≤ 140737488355328) (hn2 : m.length * 16 ≤ 140737488355328) (hnn : a = true → b = true → (l.length + m.length) * 16 ≤ 140737488355328) (hs : ∀ s ∈ l, Fits s) (hs2 : ∀ s ∈ m, Fits s) :
    Calls Tryd.prog 15 #[wset a A l.length c, wset b A2 m.length c2] w fun e w' => Made w w' e (fun v => .agg #[.bool (a && b), v]) (meetl a l b m) := by
  cases a with
  | false => exact meet_some l A c b m A2 c2 w hl hm hA hA2 hn hn2 hs hs2
  | true =>
    cases b with
    | false => exact meet_swap l A c m A2 c2 w hl hm hA hA2 hn hn2 hs hs2
    | true => exact meet_both l A c m A2 c2 w hl hm hA hA2 hn hn2 (hnn rfl rfl) hs hs2
def askb (s : ByteArray) : List ByteArray := [s, ⟨#[]⟩, ⟨#[97]⟩, ⟨#[120]⟩, ⟨#[0]⟩, ⟨#[255]⟩]
def askl (s : ByteArray) (l m : List ByteArray) : List ByteArray := askb s ++ l.take 20 ++ m.take 20
theorem askl_fits {s : ByteArray} {l m : List ByteArray} (h0 : Fits s) (h1 : ∀ s ∈ l, Fits s) (h2 : ∀ s ∈ m, Fits s) : ∀ x ∈ askl s l m, Fits x := by
  intro x hx
  unfold askl at hx
  rcases List.mem_append.1 hx with hx | hx
  · rcases List.mem_append.1 hx with hx | hx
    · simp only [askb, List.mem_cons, List.not_mem_nil, or_false] at hx
      rcases hx with rfl | rfl | rfl | rfl | rfl | rfl
      · exact h0
      all_goals (unfold Fits; decide)
    · exact h1 x (List.mem_of_mem_take hx)
  · exact h2 x (List.mem_of_mem_take hx)
theorem askl_len (s : ByteArray) (l m : List ByteArray) : (askl s l m).length ≤ 46 := by
  unfold askl askb
  simp only [List.length_append, List.length_cons, List.length_nil, List.length_take]
  omega
set_option maxRecDepth 100000 in
set_option maxHeartbeats 4000000 in
theorem asks_any (s : ByteArray) (l : List ByteArray) (A : Option Addr) (c : Nat) (m : List ByteArray) (A2 : Option Addr) (c2 : Nat) (w : World) (hl : Strs w A l) (hm : Strs w A2 m) (hn : l.length ≤ 9223372036854775807) (hn2 : m.length ≤ 9223372036854775807) :
    Calls Tryd.prog 12 #[.string s, .slice A l.length c, .slice A2 m.length c2] w fun e w' => ∃ A' c', e = .returned (.slice A' (askl s l m).length c') ∧ Strs w' A' (askl s l m) ∧ Bel w w' := by
  have hli : (l.length : Int) ≤ 9223372036854775807 := by omega
  have hmi : (m.length : Int) ≤ 9223372036854775807 := by omega
  go_enter Tryd.func12, Tryd.ntmps12
  go_wp2
  have o0 := Lib.hid (OwnT.lit (w0 := w) (w := w) (askb s) (Bel.refl w) rfl (by simp [askb, maxLen]))
  go_loopg [7, 8] l.length (fun g v i wr => ∃ k : Nat, i = .int .i64 k ∧ k ≤ l.length ∧ k ≤ 20 ∧ Hid (OwnT wr w.heap.size v (askb s ++ l.take k)) ∧ Hid (g = l.length - k) ∧ Bel w wr)
  case atStart => exact ⟨0, rfl, Nat.zero_le _, Nat.zero_le _, (by show OwnT _ _ _ _; rw [List.take_zero, List.append_nil]; exact o0.out), rfl, (Bel.refl w).alloc _⟩
  case round =>
    obtain ⟨k, rfl, hk, hk20, ho, hh, hb⟩ := hrel
    by_cases hlt : k < l.length
    · have i1 : (k : Int) < l.length := by omega
      have i2 : (0 : Int) ≤ (k : Int) := by omega
      by_cases h20 : k < 20
      · obtain ⟨b, off, rfl, hltb, hat⟩ := hl.blk (by omega)
        obtain ⟨x, hxk⟩ : ∃ x, l[k]? = some x := ⟨_, List.getElem?_eq_getElem hlt⟩
        have hcell := (hb.cells _ (off + k) hltb).trans (hat k x hxk)
        have HF := Lib.hid (show askb s ++ l.take (k + 1) = (askb s ++ l.take k) ++ [x] from by rw [List.take_add_one, hxk, List.append_assoc]; rfl)
        have i3 : (k : Int) < 20 := by omega
        have i4 : k < 20 := h20
        have HL := Lib.hid (show (askb s ++ l.take k).length ≤ 26 from by simp [askb]; omega)
        clear hl hat hxk hm o0
        go_wp2_with (first
          | (at_builtin
             refine wpList_app (by rfl) (.tmp 22) (.tmp 27) _ rfl (app_strs (w0 := w) (ys := [x]) (hb.alloc _) (ho.out.keep ((Bel.refl _).alloc _)) (strs_lit [x] rfl) rfl (by simp) (by have := HL.out; simp only [List.length_cons, List.length_nil]; omega) _) ?_
             rintro v7 w7 ⟨o7, b7⟩))
        go_roundg (l.length - (k + 1))
        case measure => have := hh.out; omega
        case rel => exact ⟨k + 1, by go_num, by omega, by omega, (by show OwnT _ _ _ _; rw [HF.out]; exact o7), rfl, b7⟩
      · obtain rfl : k = 20 := by omega
        have hE : l.take 20 = l.take 20 := rfl
        have HP := Lib.hid (show OwnT wr w.heap.size _ (askb s ++ l.take 20) from by rw [← hE]; exact ho.out)
        have HQL := Lib.hid (show (askb s ++ l.take 20).length ≤ 26 from by simp [askb]; omega)
        have HR := Lib.hid (show askl s l m = (askb s ++ l.take 20) ++ m.take 20 from rfl)
        generalize askb s ++ l.take 20 = Q at HP HQL HR
        clear o0 hl ho hE
        go_wp2
        have hb0 := Lib.hid hb
        go_loopg [7, 9] m.length (fun g v i w2 => ∃ k : Nat, i = .int .i64 k ∧ k ≤ m.length ∧ k ≤ 20 ∧ Hid (OwnT w2 w.heap.size v (Q ++ m.take k)) ∧ Hid (g = m.length - k) ∧ Bel w w2)
        case atStart => exact ⟨0, rfl, Nat.zero_le _, Nat.zero_le _, (by show OwnT _ _ _ _; rw [List.take_zero, List.append_nil]; exact HP.out), rfl, hb0.out⟩
        case round =>
          clear hb hb0 HP
          obtain ⟨k2, rfl, hk2, hk220, ho, hh2, hb⟩ := hrel
          by_cases hlt2 : k2 < m.length
          · have j1 : (k2 : Int) < m.length := by omega
            have j2 : (0 : Int) ≤ (k2 : Int) := by omega
            by_cases h220 : k2 < 20
            · obtain ⟨b, off, rfl, hltb, hat⟩ := hm.blk (by omega)
              obtain ⟨x, hxk⟩ : ∃ x, m[k2]? = some x := ⟨_, List.getElem?_eq_getElem hlt2⟩
              have hcell := (hb.cells _ (off + k2) hltb).trans (hat k2 x hxk)
              have HF := Lib.hid (show Q ++ m.take (k2 + 1) = (Q ++ m.take k2) ++ [x] from by rw [List.take_add_one, hxk, List.append_assoc]; rfl)
              have j3 : (k2 : Int) < 20 := by omega
              have j4 : k2 < 20 := h220
              have HL := Lib.hid (show (Q ++ m.take k2).length ≤ 46 from by have := HQL.out; simp; omega)
              clear hat hxk hm
              go_wp2_with (first
                | (at_builtin
                   refine wpList_app (by rfl) (.tmp 39) (.tmp 44) _ rfl (app_strs (w0 := w) (ys := [x]) (hb.alloc _) (ho.out.keep ((Bel.refl _).alloc _)) (strs_lit [x] rfl) rfl (by simp) (by have := HL.out; simp only [List.length_cons, List.length_nil]; omega) _) ?_
                   rintro v7 w7 ⟨o7, b7⟩))
              go_roundg (m.length - (k2 + 1))
              case measure => have := hh2.out; omega
              case rel => exact ⟨k2 + 1, by go_num, by omega, by omega, (by show OwnT _ _ _ _; rw [HF.out]; exact o7), rfl, b7⟩
            · obtain rfl : k2 = 20 := by omega
              have ho := ho.out
              rw [← HR.out] at ho
              clear HR HQL
              generalize hRR : askl s l m = R at ho
              have HRR := Lib.hid hRR
              obtain ⟨A', c', rfl, hS, hc⟩ := ho.strs
              clear ho hRR
              go_wp2
              go_ret
              rw [HRR.out]
              exact ⟨A', c', rfl, hS, hb⟩
          · obtain rfl : k2 = m.length := by omega
            have hE : m.take m.length = m.take 20 := by rw [List.take_length, List.take_of_length_le (by omega)]
            have ho := ho.out
            rw [hE, ← HR.out] at ho
            clear HR HQL hE
            generalize hRR : askl s l m = R at ho
            have HRR := Lib.hid hRR
            obtain ⟨A', c', rfl, hS, hc⟩ := ho.strs
            clear ho hRR
            go_wp2
            go_ret
            rw [HRR.out]
            exact ⟨A', c', rfl, hS, hb⟩
    · obtain rfl : k = l.length := by omega
      have hE : l.take l.length = l.take 20 := by rw [List.take_length, List.take_of_length_le (by omega)]
      have HP := Lib.hid (show OwnT wr w.heap.size _ (askb s ++ l.take 20) from by rw [← hE]; exact ho.out)
      have HQL := Lib.hid (show (askb s ++ l.take 20).length ≤ 26 from by simp [askb]; omega)
      have HR := Lib.hid (show askl s l m = (askb s ++ l.take 20) ++ m.take 20 from rfl)
      generalize askb s ++ l.take 20 = Q at HP HQL HR
      clear o0 hl ho hE
      go_wp2
      have hb0 := Lib.hid hb
      go_loopg [7, 9] m.length (fun g v i w2 => ∃ k : Nat, i = .int .i64 k ∧ k ≤ m.length ∧ k ≤ 20 ∧ Hid (OwnT w2 w.heap.size v (Q ++ m.take k)) ∧ Hid (g = m.length - k) ∧ Bel w w2)
      case atStart => exact ⟨0, rfl, Nat.zero_le _, Nat.zero_le _, (by show OwnT _ _ _ _; rw [List.take_zero, List.append_nil]; exact HP.out), rfl, hb0.out⟩
      case round =>
        clear hb hb0 HP
        obtain ⟨k2, rfl, hk2, hk220, ho, hh2, hb⟩ := hrel
        by_cases hlt2 : k2 < m.length
        · have j1 : (k2 : Int) < m.length := by omega
          have j2 : (0 : Int) ≤ (k2 : Int) := by omega
          by_cases h220 : k2 < 20
          · obtain ⟨b, off, rfl, hltb, hat⟩ := hm.blk (by omega)
            obtain ⟨x, hxk⟩ : ∃ x, m[k2]? = some x := ⟨_, List.getElem?_eq_getElem hlt2⟩
            have hcell := (hb.cells _ (off + k2) hltb).trans (hat k2 x hxk)
            have HF := Lib.hid (show Q ++ m.take (k2 + 1) = (Q ++ m.take k2) ++ [x] from by rw [List.take_add_one, hxk, List.append_assoc]; rfl)
            have j3 : (k2 : Int) < 20 := by omega
            have j4 : k2 < 20 := h220
            have HL := Lib.hid (show (Q ++ m.take k2).length ≤ 46 from by have := HQL.out; simp; omega)
            clear hat hxk hm
            go_wp2_with (first
              | (at_builtin
                 refine wpList_app (by rfl) (.tmp 39) (.tmp 44) _ rfl (app_strs (w0 := w) (ys := [x]) (hb.alloc _) (ho.out.keep ((Bel.refl _).alloc _)) (strs_lit [x] rfl) rfl (by simp) (by have := HL.out; simp only [List.length_cons, List.length_nil]; omega) _) ?_
                 rintro v7 w7 ⟨o7, b7⟩))
            go_roundg (m.length - (k2 + 1))
            case measure => have := hh2.out; omega
            case rel => exact ⟨k2 + 1, by go_num, by omega, by omega, (by show OwnT _ _ _ _; rw [HF.out]; exact o7), rfl, b7⟩
          · obtain rfl : k2 = 20 := by omega
            have ho := ho.out
            rw [← HR.out] at ho
            clear HR HQL
            generalize hRR : askl s l m = R at ho
            have HRR := Lib.hid hRR
            obtain ⟨A', c', rfl, hS, hc⟩ := ho.strs
            clear ho hRR
            go_wp2
            go_ret
            rw [HRR.out]
            exact ⟨A', c', rfl, hS, hb⟩
        · obtain rfl : k2 = m.length := by omega
          have hE : m.take m.length = m.take 20 := by rw [List.take_length, List.take_of_length_le (by omega)]
          have ho := ho.out
          rw [hE, ← HR.out] at ho
          clear HR HQL hE
          generalize hRR : askl s l m = R at ho
          have HRR := Lib.hid hRR
          obtain ⟨A', c', rfl, hS, hc⟩ := ho.strs
          clear ho hRR
          go_wp2
          go_ret
          rw [HRR.out]
          exact ⟨A', c', rfl, hS, hb⟩
end Go.Proofs.YtemciabindjkeaaDoor
