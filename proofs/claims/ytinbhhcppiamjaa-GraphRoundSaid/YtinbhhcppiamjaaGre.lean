import Derived.Test.YtinbhhcppiamjaaGrd
import Derived.Shelf.Abstract
namespace Go.Proofs.Ytinbhhcppiamjaa
set_option linter.unusedSimpArgs false
set_option linter.unusedVariables false
open Go.RowKit Go.Lib Go.Maps

/-! The least key of a map that is wanted. -/
abbrev kI (x : Int) : Lit := .int .i64 x
abbrev kS (s : ByteArray) : Lit := .string s.data.toList
theorem keyI : Keyed Try.prog 3 := int_keyed Try.underlying3
theorem keyS : Keyed Try.prog 9 := string_keyed Try.underlying9
theorem zeroI (w : World) : (zeroValue 3).run Try.prog w = .ok (.int .i64 0) w := by kernel_rfl
theorem kI_inj (x y : Int) (h : kI x = kI y) : x = y := by injection h
theorem kS_inj (x y : ByteArray) (h : kS x = kS y) : x = y := by
  injection h with h
  obtain ⟨⟨x⟩⟩ := x
  obtain ⟨⟨y⟩⟩ := y
  simp at h
  rw [h]
theorem kI_key (x : Int) : WideAt.IsKeyLit (kI x) := trivial
theorem kS_key (x : ByteArray) : WideAt.IsKeyLit (kS x) := trivial
theorem keyOfI {x : Int} (h : In64 x) : keyOf Try.prog 3 (.int .i64 x) = some (kI x) := keyOf_int_mk Try.underlying3 (by
  unfold In64 at h
  simp [Lit.wf, IntKind.min, IntKind.max, IntKind.signed, IntKind.bits]
  omega)
theorem wfI {x : Int} (h : In64 x) : (Lit.int .i64 x).wf = true := by
  unfold In64 at h
  simp [Lit.wf, IntKind.min, IntKind.max, IntKind.signed, IntKind.bits]
  omega
theorem keyOfS {s : ByteArray} (h : Fits s) : keyOf Try.prog 9 (.string s) = some (kS s) := Go.WideMaps.keyOf_string_mk Try.underlying9 (by unfold maxLen; exact h)
abbrev MapI (w : World) (b n : Nat) (M : Int → Option Int) (s : Nat) : Prop := HoldsM Try.prog 3 3 kI w b n M s
abbrev MapS (w : World) (b n : Nat) (M : ByteArray → Option Int) (s : Nat) : Prop := HoldsM Try.prog 9 3 kS w b n M s
abbrev RanI (w : World) (b r n : Nat) (M : Int → Option Int) (ahead : Int → Bool) (c : Nat) : Prop := RangeM Try.prog 3 3 kI w b r n M ahead c
/-- The best of those that are wanted and no more ahead. -/
def BestOf (M : Int → Option Int) (p ahead : Int → Bool) (best : Int) (found : Bool) : Prop :=
  (found = false ∧ best = 0 ∧ ∀ x c, M x = some c → ahead x = false → p c = false) ∨
  (found = true ∧ (∃ c, M best = some c ∧ p c = true) ∧ ∀ x c, M x = some c → ahead x = false → p c = true → best ≤ x)
theorem BestOf.start (M : Int → Option Int) (p : Int → Bool) : BestOf M p (fun x => (M x).isSome) 0 false := .inl ⟨rfl, rfl, fun x c h h2 => by simp only [h] at h2; cases h2⟩
theorem ahead_case {ahead : Int → Bool} {x y : Int} (h : (ahead y && !decide (y = x)) = false) : ahead y = false ∨ y = x := by
  cases ha : ahead y with
  | false => exact .inl rfl
  | true => rw [ha] at h; simp at h; exact .inr h
/-- One that is not wanted. -/
theorem BestOf.pass {M : Int → Option Int} {p ahead : Int → Bool} {best x c : Int} {found : Bool} (h : BestOf M p ahead best found) (hx : M x = some c) (hp : p c = false) : BestOf M p (fun y => ahead y && !decide (y = x)) best found := by
  rcases h with ⟨h1, h0, h2⟩ | ⟨h1, h2, h3⟩
  · refine .inl ⟨h1, h0, fun y c' hy ha => ?_⟩
    rcases ahead_case ha with h | rfl
    · exact h2 y c' hy h
    · rw [hx] at hy; cases hy; exact hp
  · refine .inr ⟨h1, h2, fun y c' hy ha hpc => ?_⟩
    rcases ahead_case ha with h | rfl
    · exact h3 y c' hy h hpc
    · rw [hx] at hy; cases hy; rw [hp] at hpc; cases hpc
/-- One that is wanted, and no better. -/
theorem BestOf.stay {M : Int → Option Int} {p ahead : Int → Bool} {best x c : Int} (h : BestOf M p ahead best true) (hx : M x = some c) (hle : best ≤ x) : BestOf M p (fun y => ahead y && !decide (y = x)) best true := by
  rcases h with ⟨h1, _⟩ | ⟨h1, h2, h3⟩
  · cases h1
  · refine .inr ⟨h1, h2, fun y c' hy ha hpc => ?_⟩
    rcases ahead_case ha with h | rfl
    · exact h3 y c' hy h hpc
    · exact hle
/-- One that is better. -/
theorem BestOf.take {M : Int → Option Int} {p ahead : Int → Bool} {best x c : Int} {found : Bool} (h : BestOf M p ahead best found) (hx : M x = some c) (hp : p c = true) (hb : found = false ∨ x < best) : BestOf M p (fun y => ahead y && !decide (y = x)) x true := by
  refine .inr ⟨rfl, ⟨c, hx, hp⟩, fun y c' hy ha hpc => ?_⟩
  rcases ahead_case ha with h1 | rfl
  · rcases h with ⟨_, _, h2⟩ | ⟨h0, _, h3⟩
    · rw [h2 y c' hy h1] at hpc; cases hpc
    · rcases hb with hb | hb
      · rw [h0] at hb; cases hb
      · have := h3 y c' hy h1 hpc; omega
  · exact Int.le_refl _
/-- What the walk over a map's keys gives. -/
def LeastOut (M : Int → Option Int) (p : Int → Bool) (w w' : World) (e : Ending) : Prop := ∃ best found, e = .returned (.tuple #[.int .i64 best, .bool found]) ∧ BestOf M p (fun _ => false) best found ∧ Bel w w'
set_option maxRecDepth 100000 in
set_option maxHeartbeats 2000000 in
theorem least_any (p : Int → Bool) (g : Nat) (eg : ∀ args w, (callFunc g args).run Try.prog w = .ok (.enter g args) w) (hp : ∀ v w, Calls Try.prog g #[.int .i64 v] w fun e w' => e = .returned (.bool (p v)) ∧ w' = w)
    (b n s : Nat) (M : Int → Option Int) (w : World) (hM : MapI w b n M s) :
    Calls Try.prog 15 #[.map (some b), .func (.func g) #[] #[]] w fun e w' => LeastOut M p w w' e := by
  have HP := Lib.hid hp
  clear hp
  go_enter Try.func15, Try.ntmps15
  go_wp2_with (first
    | (at_range; refine wpList_rangeM rfl _ rfl keyI Try.underlying38 rfl hM ?_; intro w0 hrg0 hg0 hs0)
    | go_in)
  go_frame
  go_loopg [6, 7] s (fun k bst fnd wr => ∃ (best : Int) (found : Bool) (ahead : Int → Bool), bst = .int .i64 best ∧ fnd = .bool found ∧ RanI wr b w.heap.size n M ahead k ∧ Hid (BestOf M p ahead best found) ∧ Bel w wr)
  case atStart => exact ⟨0, false, _, rfl, rfl, hrg0, BestOf.start M p, ⟨hg0.os, hg0.tape, hg0.output, hg0.size, fun k hk => hg0.block k hk (by simp)⟩⟩
  case round =>
    obtain ⟨best, found, ahead, rfl, rfl, hrg, hB, hb⟩ := hrel
    clear hM hrg0 hg0 hs0
    go_wp2_with (first
      | (at_next; refine wpList_nextM rfl _ rfl keyI Try.underlying3 Try.underlying3 rfl hrg ?_ ?_)
      | go_in)
    · intro h0
      have HE := Lib.hid (show ahead = fun _ => false from funext h0)
      clear h0
      go_wp2
      go_ret2
      exact ⟨best, found, rfl, by rw [← HE.out]; exact hB.out, hb⟩
    · intro x c w1 k1 hwx hax hMx hrg1 hlt hg1 hs1 hen
      have hb1 : Bel w w1 := Below.grown hb hg1 hb.size (fun j hj => by cases hj; exact Nat.le_refl _)
      have HM := Lib.hid hMx
      have HL := Lib.hid hlt
      have HCall := HP.out c w1
      have hx64 := in64_of hwx
      unfold In64 at hx64
      obtain ⟨x1, x2⟩ := hx64
      clear hMx hwx hax hg1 hs1 hlt
      cases hq : p c with
      | false =>
        have HQ := Lib.hid hq
        rw [hq] at HCall
        clear hq
        go_wp2_with (go_at_fn g; refine HCall.mono ?_; rintro e w' ⟨rfl, rfl⟩)
        go_roundg k1
        case measure => exact HL.out
        case rel => exact ⟨best, found, _, rfl, rfl, hrg1, hB.out.pass HM.out HQ.out, hb1⟩
      | true =>
        have HQ := Lib.hid hq
        rw [hq] at HCall
        clear hq
        cases found with
        | false =>
          go_wp2_with (go_at_fn g; refine HCall.mono ?_; rintro e w' ⟨rfl, rfl⟩)
          go_roundg k1
          case measure => exact HL.out
          case rel => exact ⟨x, true, _, rfl, rfl, hrg1, hB.out.take HM.out HQ.out (.inl rfl), hb1⟩
        | true =>
          by_cases hlt : x < best
          · go_wp2_with (go_at_fn g; refine HCall.mono ?_; rintro e w' ⟨rfl, rfl⟩)
            go_roundg k1
            case measure => exact HL.out
            case rel => exact ⟨x, true, _, rfl, rfl, hrg1, hB.out.take HM.out HQ.out (.inr hlt), hb1⟩
          · have hle : best ≤ x := by omega
            clear hlt
            go_wp2_with (go_at_fn g; refine HCall.mono ?_; rintro e w' ⟨rfl, rfl⟩)
            go_roundg k1
            case measure => exact HL.out
            case rel => exact ⟨best, true, _, rfl, rfl, hrg1, hB.out.stay HM.out hle, hb1⟩
theorem zero_any (v : Int) (w : World) : Calls Try.prog 16 #[.int .i64 v] w fun e w' => e = .returned (.bool (v == 0)) ∧ w' = w := by
  go_enter Try.func16, Try.ntmps16
  go_wp2
  go_ret
  exact ⟨rfl, rfl⟩
theorem true_any (v : Int) (w : World) : Calls Try.prog 17 #[.int .i64 v] w fun e w' => e = .returned (.bool true) ∧ w' = w := by
  go_enter Try.func17, Try.ntmps17
  go_wp2
  go_ret
  exact ⟨rfl, rfl⟩
end Go.Proofs.Ytinbhhcppiamjaa
