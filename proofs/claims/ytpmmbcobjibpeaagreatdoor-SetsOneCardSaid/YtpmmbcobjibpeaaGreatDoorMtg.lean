
import Derived.Test.YtpmmbcobjibpeaaGreatDoorMte
import Derived.Test.YtpmmbcobjibpeaaGreatDoorMtd
namespace Go.Proofs.YtpmmbcobjibpeaaGreatDoor
set_option linter.unusedSimpArgs false
set_option linter.unusedVariables false
open Go.RowKit Go.Lib
attribute [local go_sem ↓] eql_val neq_val eql_tst neq_tst

/-! Match: sound, One. -/
theorem tst_one (w : World) (t : Tst) {n : Nat} (hn : n = w.heap.size) : Tsts (w.alloc (.cells #[.int .i64 t.kind, .int .i64 t.low.kind, .int .i64 t.low.n, .int .i64 t.low.scale, .string t.low.text, .int .i64 t.low.num, .int .i64 t.high.kind, .int .i64 t.high.n, .int .i64 t.high.scale, .string t.high.text, .int .i64 t.high.num, .bool t.ol, .bool t.oh] 59)) (some ⟨n, 0, none⟩) [t] := fun _ => by
  subst hn
  refine ⟨_, 0, rfl, by simp, fun i u hu => ?_⟩
  match i, hu with
  | 0, hu =>
    simp only [List.getElem?_cons_zero, Option.some.injEq] at hu
    subst hu
    simp [TstAt, go_sem]
theorem valm_one (w : World) (v : Val) {n : Nat} (hn : n = w.heap.size) : Vals (w.alloc (.cells #[.int .i64 v.kind, .int .i64 v.n, .int .i64 v.scale, .string v.text, .int .i64 v.num] 30)) (some ⟨n, 0, none⟩) [v] := fun _ => by
  subst hn
  refine ⟨_, 0, rfl, by simp, fun i u hu => ?_⟩
  match i, hu with
  | 0, hu =>
    simp only [List.getElem?_cons_zero, Option.some.injEq] at hu
    subst hu
    simp [ValAt, go_sem]
set_option maxRecDepth 100000 in
set_option maxHeartbeats 2000000 in
theorem msound_any (vs : List Val) (A : Option Addr) (c : Nat) (w : World) (hv : Vals w A vs) (hl : (vs.length : Int) ≤ 9223372036854775807) (ho : ∀ v ∈ vs, v.text.size ≤ 9223372036854775807) :
    Calls Tryz.prog 91 #[.slice A vs.length c] w fun e w' => e = .returned (.bool (vs.all vsnd)) ∧ Bel w w' := by
  obtain ⟨R, hR⟩ : ∃ R, R = vs.all vsnd := ⟨_, rfl⟩
  rw [← hR]
  have RR := Lib.hid hR
  have HO := Lib.hid ho
  clear ho hR
  go_enter Tryz.func91, Tryz.ntmps91
  go_wp2_with fail
  go_loopg [7] vs.length (fun g i wr => ∃ k : Nat, i = .int .i64 k ∧ k ≤ vs.length ∧ Hid ((vs.take k).all vsnd = true ∧ g = vs.length - k) ∧ Bel w wr)
  case atStart => exact ⟨0, rfl, Nat.zero_le _, ⟨rfl, rfl⟩, Bel.refl _⟩
  case round =>
    obtain ⟨k, rfl, hk, hh, hb⟩ := hrel
    by_cases hp : k < vs.length
    · obtain ⟨b, off, rfl, hlt, hat⟩ := hv (by omega)
      obtain ⟨v, hvk⟩ : ∃ v, vs[k]? = some v := ⟨_, List.getElem?_eq_getElem hp⟩
      have ha := (hat k v hvk).keep hb hlt
      have hmem : v ∈ vs := List.mem_of_getElem? hvk
      have cc := fun w => vsound_any v (HO.out v hmem) w
      have HC := Lib.hid (show vsnd v = true → (vs.take (k + 1)).all vsnd = true from fun h => by
        rw [List.take_add_one, hvk, List.all_append, hh.out.1]; simp [h])
      have HF := Lib.hid (show vsnd v = false → R = false from fun h => by
        rw [RR.out]
        cases hq : vs.all vsnd with
        | false => rfl
        | true => rw [List.all_eq_true] at hq; rw [hq v hmem] at h; cases h)
      obtain ⟨q, hq⟩ : ∃ q, q = vsnd v := ⟨_, rfl⟩
      rw [← hq] at cc HC HF
      have C := Lib.hid cc
      obtain ⟨vk, vn, vsc, vt, vm⟩ := v
      obtain ⟨a0, a1, a2, a3, a4⟩ := ha
      have i1 : (k : Int) < vs.length := by omega
      clear hv hat hvk cc hq hmem
      cases q with
      | false =>
        obtain rfl : R = false := HF.out rfl
        go_wp2_with (go_at_call 31; refine (C.out _).mono ?_; rintro e W1 ⟨rfl, hb1⟩)
        go_ret
        refine ⟨rfl, ?_⟩
        (repeat (first | with_reducible exact Bel.refl _ | with_reducible refine Bel.setCell ?_ (by first | exact Nat.le_refl _ | (dsimp only; omega)) _ | with_reducible refine Bel.alloc ?_ _ | with_reducible refine Bel.drew ?_ | with_reducible assumption | with_reducible refine Bel.trans ?_ (by assumption)))
      | true =>
        go_wp2_with (go_at_call 31; refine (C.out _).mono ?_; rintro e W1 ⟨rfl, hb1⟩)
        go_roundg (vs.length - (k + 1))
        case measure => have := hh.out.2; omega
        case rel =>
          refine ⟨k + 1, by go_num, by omega, ⟨HC.out (by trivial), rfl⟩, ?_⟩
          (repeat (first | with_reducible exact Bel.refl _ | with_reducible refine Bel.setCell ?_ (by first | exact Nat.le_refl _ | (dsimp only; omega)) _ | with_reducible refine Bel.alloc ?_ _ | with_reducible refine Bel.drew ?_ | with_reducible assumption | with_reducible refine Bel.trans ?_ (by assumption)))
    · obtain rfl : k = vs.length := by omega
      have h := hh.out.1
      rw [List.take_length] at h
      obtain rfl : R = true := RR.out.trans h
      go_wp2_with fail
      go_ret
      exact ⟨rfl, hb⟩
def oneV (t : Tst) (v : Val) : Value := if tsnd t = true ∧ vsnd v = true then .tuple #[.bool (mone t v), .int .i64 0] else .tuple #[.bool false, .int .i64 2]
end Go.Proofs.YtpmmbcobjibpeaaGreatDoor
