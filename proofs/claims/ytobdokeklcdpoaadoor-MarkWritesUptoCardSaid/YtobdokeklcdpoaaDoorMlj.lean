import Derived.Test.YtobdokeklcdpoaaDoorMle
import Derived.Deep.CutRange
import Derived.Deep.DeepCutAuto
namespace Go.Proofs.YtobdokeklcdpoaaDoor
set_option linter.unusedSimpArgs false
set_option linter.unusedVariables false
open Go.RowKit

/-! The second text of marks. -/
theorem attsOk_iff : ∀ (al : List (List UInt8 × List UInt8)) (seen : List (List UInt8)), attsOk seen al = true ↔ ∀ (k : Nat) (a : List UInt8 × List UInt8), al[k]? = some a → seen.contains a.1 = false ∧ nmOk a.1 = true ∧ goodL a.2 = true ∧ ∀ (j : Nat) (b : List UInt8 × List UInt8), j < k → al[j]? = some b → b.1 ≠ a.1
  | [], seen => by simp [attsOk]
  | x :: t, seen => by
    unfold attsOk
    rw [Bool.and_eq_true, Bool.and_eq_true, Bool.and_eq_true, attsOk_iff t, Bool.not_eq_true']
    constructor
    · rintro ⟨⟨⟨h1, h2⟩, h3⟩, h4⟩ k a ha
      cases k with
      | zero =>
        simp only [List.getElem?_cons_zero, Option.some.injEq] at ha
        subst ha
        exact ⟨h1, h2, h3, fun j b hj => by omega⟩
      | succ k =>
        rw [List.getElem?_cons_succ] at ha
        obtain ⟨q1, q2, q3, q4⟩ := h4 k a ha
        rw [List.contains_eq_mem, decide_eq_false_iff_not, List.mem_append, List.mem_singleton] at q1
        refine ⟨by rw [List.contains_eq_mem, decide_eq_false_iff_not]; exact fun h => q1 (.inl h), q2, q3, fun j b hj hb => ?_⟩
        cases j with
        | zero =>
          simp only [List.getElem?_cons_zero, Option.some.injEq] at hb
          subst hb
          exact fun h => q1 (.inr h.symm)
        | succ j => exact q4 j b (by omega) (by simpa using hb)
    · intro h
      obtain ⟨h1, h2, h3, _⟩ := h 0 x rfl
      refine ⟨⟨⟨h1, h2⟩, h3⟩, fun k a ha => ?_⟩
      obtain ⟨q1, q2, q3, q4⟩ := h (k + 1) a (by simpa using ha)
      refine ⟨?_, q2, q3, fun j b hj hb => q4 (j + 1) b (by omega) (by simpa using hb)⟩
      rw [List.contains_eq_mem, decide_eq_false_iff_not, List.mem_append, List.mem_singleton]
      rw [List.contains_eq_mem, decide_eq_false_iff_not] at q1
      rintro (h | h)
      · exact q1 h
      · exact q4 0 x (by omega) rfl h.symm
theorem textV_bad {ms : List Mk} {m : Mk} (hm : m ∈ ms) (h : sndM m = false) : textV ms = .tuple #[.string ⟨#[]⟩, .int .i64 2] := by
  unfold textV textS
  rw [if_neg (by intro k; rw [List.all_eq_true] at k; have := k m hm; rw [h] at this; cases this)]
  rfl
def OutL (ms : List Mk) (i : Nat) (o : ByteArray) (fl : Bool) : Prop := (∀ m ∈ ms.take i, sndM m = true) ∧ fl = decide (65536 < (textL (ms.take i)).length) ∧ (fl = false → o = bytesOf (textL (ms.take i)))
theorem OutL.start (ms : List Mk) : OutL ms 0 ⟨#[]⟩ false := ⟨by simp, by simp [textL], fun _ => rfl⟩
theorem OutL.snd {ms : List Mk} {i : Nat} {o : ByteArray} {fl : Bool} {m : Mk} (h : OutL ms i o fl) (hm : ms[i]? = some m) (hs : sndM m = true) : ∀ x ∈ ms.take (i + 1), sndM x = true := by
  intro x hx
  rw [take_snoc hm] at hx
  rcases List.mem_append.1 hx with hx | hx
  · exact h.1 x hx
  · rw [List.mem_singleton] at hx
    rw [hx]
    exact hs
theorem OutL.full {ms : List Mk} {i : Nat} {o : ByteArray} {m : Mk} (h : OutL ms i o true) (hm : ms[i]? = some m) (hs : sndM m = true) : OutL ms (i + 1) o true := by
  refine ⟨h.snd hm hs, ?_, fun h => by cases h⟩
  have h2 := of_decide_eq_true h.2.1.symm
  rw [textL_take hm, List.length_append]
  symm
  rw [decide_eq_true_eq]
  omega
theorem OutL.over {ms : List Mk} {i : Nat} {o : ByteArray} {m : Mk} (h : OutL ms i o false) (hm : ms[i]? = some m) (hs : sndM m = true) (hb : 65536 < o.size + (bytesOf (markT m)).size) : OutL ms (i + 1) o true := by
  refine ⟨h.snd hm hs, ?_, fun h => by cases h⟩
  rw [h.2.2 rfl, bytesOf_size, bytesOf_size] at hb
  rw [textL_take hm, List.length_append]
  symm
  rw [decide_eq_true_eq]
  exact hb
theorem OutL.next {ms : List Mk} {i : Nat} {o : ByteArray} {m : Mk} (h : OutL ms i o false) (hm : ms[i]? = some m) (hs : sndM m = true) (hb : ¬ 65536 < o.size + (bytesOf (markT m)).size) : OutL ms (i + 1) (o ++ bytesOf (markT m)) false := by
  refine ⟨h.snd hm hs, ?_, fun _ => ?_⟩
  · rw [h.2.2 rfl, bytesOf_size, bytesOf_size] at hb
    rw [textL_take hm, List.length_append]
    symm
    rw [decide_eq_false_iff_not]
    exact hb
  · rw [h.2.2 rfl, bytes_app, textL_take hm]
theorem OutL.done {ms : List Mk} {o : ByteArray} {fl : Bool} (h : OutL ms ms.length o fl) : textV ms = if fl = true then .tuple #[.string ⟨#[]⟩, .int .i64 10] else .tuple #[.string o, .int .i64 0] := by
  obtain ⟨h1, h2, h3⟩ := h
  rw [List.take_length] at h1 h2 h3
  unfold textV textS
  rw [if_pos (List.all_eq_true.2 h1)]
  cases fl with
  | true => rw [if_pos (of_decide_eq_true h2.symm)]; rfl
  | false =>
    rw [if_neg (of_decide_eq_false h2.symm), h3 rfl]
    rfl
theorem esc_good (l : List UInt8) (hl : l.length ≤ 1048576) (hg : goodL l = true) (w : World) : Calls Tryd.prog 18 #[.string (bytesOf l)] w fun e w' => e = .returned (.tuple #[.string (bytesOf (escL l)), .int .i64 0]) ∧ w' = w := by
  have C := rescape_any (bytesOf l) (by rw [bytesOf_size]; omega) w
  have hg' : goodB (bytesOf l) = true := hg
  rw [escT, escN, if_pos hg', if_pos hg'] at C
  exact C
theorem esc_bad (l : List UInt8) (hl : l.length ≤ 1048576) (hg : goodL l = false) (w : World) : Calls Tryd.prog 18 #[.string (bytesOf l)] w fun e w' => e = .returned (.tuple #[.string ⟨#[]⟩, .int .i64 6]) ∧ w' = w := by
  have C := rescape_any (bytesOf l) (by rw [bytesOf_size]; omega) w
  have hg' : ¬ goodB (bytesOf l) = true := by intro h; rw [show goodL l = true from h] at hg; cases hg
  rw [escT, escN, if_neg hg', if_neg hg'] at C
  exact C
theorem name_of (l : List UInt8) (hl : l.length ≤ 1048576) (q : Bool) (hq : nmOk l = q) (w : World) : Calls Tryd.prog 19 #[.string (bytesOf l)] w fun e w' => e = .returned (.bool q) ∧ w' = w := by
  rw [← hq]
  exact rname_any (bytesOf l) (by rw [bytesOf_size]; omega) w
end Go.Proofs.YtobdokeklcdpoaaDoor
