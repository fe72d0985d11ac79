import Derived.Test.YtcknjhgolajclaaDoorDeg
import Derived.Laws.Externs
namespace Go.Proofs.YtcknjhgolajclaaDoor
set_option linter.unusedSimpArgs false
set_option linter.unusedVariables false
open Go.RowKit

/-! Deci: rounding. -/
theorem add64_run (x : Nat) (w : World) : (callFunc 53 #[.int .u64 x, .int .u64 1, .int .u64 0]).run Tryd.prog w =
    .ok (.value (.tuple #[.int .u64 (((x + 1) % 18446744073709551616 : Nat) : Int), .int .u64 (((x + 1) / 18446744073709551616 : Nat) : Int)])) w := by
  have h := run_add64 (P := Tryd.prog) (x : Int) 1 0 (by omega) (by omega) (by omega) (by omega) w
  rw [run_callFunc_extern Tryd.func53 (by kernel_rfl) (by kernel_rfl) (by kernel_rfl) (e := add64Entry) (by kernel_rfl), h]
  simp only [Result.andThen]
  congr 5 <;> omega
theorem wlo_succ (m : Nat) : (wlo m + 1) % 18446744073709551616 = wlo (m + 1) := by unfold wlo; omega
theorem whi_succ (m : Nat) : whi m + (wlo m + 1) / 18446744073709551616 = whi (m + 1) := by unfold wlo whi; omega
theorem wlo_odd (m : Nat) : wlo m % 2 = m % 2 := by unfold wlo; omega
/-- Half to the even neighbour, of a quotient and what is left. -/
def hup (q r d : Nat) : Nat := if d < 2 * r ∨ (2 * r = d ∧ q % 2 = 1) then q + 1 else q
theorem hup_heven (m d : Nat) : hup (m / d) (m % d) d = heven m d := rfl
set_option maxRecDepth 100000 in
set_option maxHeartbeats 4000000 in
theorem nearest_any (x : Bool) (q r d : Nat) (s : Int) (hq : q + 1 < big128) (hr : r ≤ 1000000000000000000) (hd : d ≤ 1000000000000000000) (w : World) :
    Calls Tryd.prog 39 #[wideM x q r d s] w fun e w' => e = .returned (wideM x (hup q r d) 0 1 s) ∧ Bel w w' := by
  have hl : Hid (hup q r d = if d < 2 * r ∨ (2 * r = d ∧ q % 2 = 1) then q + 1 else q) := rfl
  have i1 : (r : Int) ≤ 1000000000000000000 := by omega
  have i2 : (d : Int) ≤ 1000000000000000000 := by omega
  have hodd := wlo_odd q
  have i4 : (whi (q + 1) : Int) ≤ 18446744073709551615 := by have := whi_le hq; omega
  have a1 := fun w => add64_run (wlo q) w
  have a2 := whi_succ q
  rw [wlo_succ] at a1
  obtain ⟨c, hc⟩ : ∃ c, c = (wlo q + 1) / 18446744073709551616 := ⟨_, rfl⟩
  rw [← hc] at a1 a2
  have a3 : (whi q : Int) + (c : Int) = (whi (q + 1) : Nat) := by omega
  have a4 : IntKind.u64.wrap ((whi q : Int) + (c : Int)) = (whi (q + 1) : Nat) := by
    rw [a3, wrapM, Nat.mod_eq_of_lt (by have := whi_le hq; omega)]
  have A1 := Lib.hid (And.intro a1 a4)
  have HO := Lib.hid hodd
  clear a1 a2 a3 a4 hq hr hd hc hodd i4
  have w2 : IntKind.u64.wrap (2 * (r : Int)) = ((2 * r : Nat) : Int) := by rw [conv_u64]; omega
  obtain ⟨r2, hr2⟩ : ∃ r2, r2 = 2 * r := ⟨_, rfl⟩
  rw [← hr2] at w2 hl
  clear i1 i2 hr2
  rcases Nat.lt_trichotomy d r2 with h | h | h
  · have hv : Hid (hup q r d = q + 1) := by rw [Hid, hl.out, if_pos (.inl h)]
    have t1 : (d : Int) < r2 := by omega
    clear h
    obtain ⟨a1, a4⟩ := A1.out
    go_enter Tryd.func39, Tryd.ntmps39
    go_wp2
    refine bodyPost_ret (by simp [results, Tryd.results39, go_sem]; try rfl) rfl ⟨by (rw [hv.out]) <;> rfl, ?_⟩
    exact ((Bel.refl w).alloc _).alloc _
  · have t1 : ¬ (d : Int) < r2 := by omega
    have t2 : ((r2 : Int) == (d : Int)) = true := by simp; omega
    have t22 : (r2 == d) = true := by simp; omega
    have t3 : (wlo q : Int) % 2 = ((q % 2 : Nat) : Int) := by have := HO.out; omega
    rcases Nat.mod_two_eq_zero_or_one q with h2 | h2
    · have hv : Hid (hup q r d = q) := by rw [Hid, hl.out, if_neg (by omega)]
      have t4 : ((wlo q : Int) % 2 == 1) = false := by rw [t3, h2]; rfl
      have t5 : (wlo q % 2 == 1) = false := by rw [HO.out, h2]; rfl
      have t6 : ¬ (wlo q : Int) % 2 = 1 := by rw [t3, h2]; decide
      subst h
      clear h2 t3
      obtain ⟨a1, a4⟩ := A1.out
      go_enter Tryd.func39, Tryd.ntmps39
      go_wp2
      refine bodyPost_ret (by simp [results, Tryd.results39, go_sem]; try rfl) rfl ⟨by (rw [hv.out]) <;> rfl, ?_⟩
      exact ((Bel.refl w).alloc _).alloc _
    · have hv : Hid (hup q r d = q + 1) := by rw [Hid, hl.out, if_pos (.inr ⟨h.symm, h2⟩)]
      have t4 : ((wlo q : Int) % 2 == 1) = true := by rw [t3, h2]; rfl
      have t5 : (wlo q % 2 == 1) = true := by rw [HO.out, h2]; rfl
      have t6 : (wlo q : Int) % 2 = 1 := by rw [t3, h2]; decide
      subst h
      clear h2 t3
      obtain ⟨a1, a4⟩ := A1.out
      go_enter Tryd.func39, Tryd.ntmps39
      go_wp2
      refine bodyPost_ret (by simp [results, Tryd.results39, go_sem]; try rfl) rfl ⟨by (rw [hv.out]) <;> rfl, ?_⟩
      exact ((Bel.refl w).alloc _).alloc _
  · have hv : Hid (hup q r d = q) := by rw [Hid, hl.out, if_neg (by omega)]
    have t1 : ¬ (d : Int) < r2 := by omega
    have t2 : ((r2 : Int) == (d : Int)) = false := by simp; omega
    have t22 : (r2 == d) = false := by simp; omega
    clear h
    obtain ⟨a1, a4⟩ := A1.out
    go_enter Tryd.func39, Tryd.ntmps39
    go_wp2
    refine bodyPost_ret (by simp [results, Tryd.results39, go_sem]; try rfl) rfl ⟨by (rw [hv.out]) <;> rfl, ?_⟩
    exact ((Bel.refl w).alloc _).alloc _
end Go.Proofs.YtcknjhgolajclaaDoor
