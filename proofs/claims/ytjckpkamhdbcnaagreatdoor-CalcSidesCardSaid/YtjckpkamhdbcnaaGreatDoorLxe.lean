import Derived.Test.YtjckpkamhdbcnaaGreatDoorLxz
import Derived.Test.YtjckpkamhdbcnaaGreatDoorLxd
namespace Go.Proofs.YtjckpkamhdbcnaaGreatDoor
set_option linter.unusedSimpArgs false
set_option linter.unusedVariables false
open Go.RowKit
theorem size_list (s : ByteArray) : s.data.toList.length = s.size := Array.length_toList
/-! Bytes, runs of bytes, signs. -/
theorem fgB_iff (c : UInt8) : fgB c = true ↔ (48 ≤ c.toNat ∧ c.toNat ≤ 57) := by simp [fgB]
theorem ltB_iff (c : UInt8) : ltB c = true ↔ (c.toNat = 95 ∨ (97 ≤ c.toNat ∧ c.toNat ≤ 122) ∨ (65 ≤ c.toNat ∧ c.toNat ≤ 90)) := by simp [ltB]
set_option maxRecDepth 100000 in
set_option maxHeartbeats 4000000 in
theorem xdigit_any (c : UInt8) (w : World) : Calls Tryz.prog 130 #[.int .u8 (c.toNat : Nat)] w fun e w' => e = .returned (.bool (fgB c)) ∧ w' = w := by
 have hi := fgB_iff c
 obtain ⟨b, hb⟩ : ∃ b, b = fgB c := ⟨_, rfl⟩
 have hr := c.toNat_lt
 rw [← hb] at hi ⊢
 clear hb
 generalize c.toNat = r at *
 have hc : (r < 48) ∨ (48 ≤ r ∧ r ≤ 57) ∨ (57 < r) := by omega
 rcases hc with h | h | h
 ·obtain rfl : b = false := by rw [Bool.eq_false_iff]; exact fun h' => by have := hi.1 h'; omega
  have e48 : ((r : Int) == 48) = false := by rw [beq_eq_false_iff_ne]; omega
  have g48 : decide ((48 : Int) ≤ r) = false := decide_eq_false (by omega)
  have gg48 : decide ((r : Int) ≥ 48) = false := decide_eq_false (by omega)
  have l48 : decide ((r : Int) ≤ 48) = true := decide_eq_true (by omega)
  have e57 : ((r : Int) == 57) = false := by rw [beq_eq_false_iff_ne]; omega
  have g57 : decide ((57 : Int) ≤ r) = false := decide_eq_false (by omega)
  have gg57 : decide ((r : Int) ≥ 57) = false := decide_eq_false (by omega)
  have l57 : decide ((r : Int) ≤ 57) = true := decide_eq_true (by omega)
  clear hi hr h
  go_enter Tryz.func130, Tryz.ntmps130
  go_wp2
  go_ret
  exact ⟨rfl, rfl⟩
 ·obtain rfl : b = true := by rw [hi]; omega
  have _u := hr
  have g48 : decide ((48 : Int) ≤ r) = true := decide_eq_true (by omega)
  have gg48 : decide ((r : Int) ≥ 48) = true := decide_eq_true (by omega)
  have _u := hr
  have l57 : decide ((r : Int) ≤ 57) = true := decide_eq_true (by omega)
  clear hi hr h
  go_enter Tryz.func130, Tryz.ntmps130
  go_wp2
  go_ret
  exact ⟨rfl, rfl⟩
 ·obtain rfl : b = false := by rw [Bool.eq_false_iff]; exact fun h' => by have := hi.1 h'; omega
  have e48 : ((r : Int) == 48) = false := by rw [beq_eq_false_iff_ne]; omega
  have g48 : decide ((48 : Int) ≤ r) = true := decide_eq_true (by omega)
  have gg48 : decide ((r : Int) ≥ 48) = true := decide_eq_true (by omega)
  have l48 : decide ((r : Int) ≤ 48) = false := decide_eq_false (by omega)
  have e57 : ((r : Int) == 57) = false := by rw [beq_eq_false_iff_ne]; omega
  have g57 : decide ((57 : Int) ≤ r) = true := decide_eq_true (by omega)
  have gg57 : decide ((r : Int) ≥ 57) = true := decide_eq_true (by omega)
  have l57 : decide ((r : Int) ≤ 57) = false := decide_eq_false (by omega)
  clear hi hr h
  go_enter Tryz.func130, Tryz.ntmps130
  go_wp2
  go_ret
  exact ⟨rfl, rfl⟩
set_option maxRecDepth 100000 in
set_option maxHeartbeats 4000000 in
theorem xletter_any (c : UInt8) (w : World) : Calls Tryz.prog 134 #[.int .u8 (c.toNat : Nat)] w fun e w' => e = .returned (.bool (ltB c)) ∧ w' = w := by
 have hi := ltB_iff c
 obtain ⟨b, hb⟩ : ∃ b, b = ltB c := ⟨_, rfl⟩
 have hr := c.toNat_lt
 rw [← hb] at hi ⊢
 clear hb
 generalize c.toNat = r at *
 have hc : (r < 65) ∨ (65 ≤ r ∧ r ≤ 90) ∨ (91 ≤ r ∧ r ≤ 94) ∨ (r = 95) ∨ (r = 96) ∨ (97 ≤ r ∧ r ≤ 122) ∨ (122 < r) := by omega
 rcases hc with h | h | h | h | h | h | h
 ·obtain rfl : b = false := by rw [Bool.eq_false_iff]; exact fun h' => by have := hi.1 h'; omega
  have e65 : ((r : Int) == 65) = false := by rw [beq_eq_false_iff_ne]; omega
  have g65 : decide ((65 : Int) ≤ r) = false := decide_eq_false (by omega)
  have gg65 : decide ((r : Int) ≥ 65) = false := decide_eq_false (by omega)
  have l65 : decide ((r : Int) ≤ 65) = true := decide_eq_true (by omega)
  have e90 : ((r : Int) == 90) = false := by rw [beq_eq_false_iff_ne]; omega
  have g90 : decide ((90 : Int) ≤ r) = false := decide_eq_false (by omega)
  have gg90 : decide ((r : Int) ≥ 90) = false := decide_eq_false (by omega)
  have l90 : decide ((r : Int) ≤ 90) = true := decide_eq_true (by omega)
  have e95 : ((r : Int) == 95) = false := by rw [beq_eq_false_iff_ne]; omega
  have g95 : decide ((95 : Int) ≤ r) = false := decide_eq_false (by omega)
  have gg95 : decide ((r : Int) ≥ 95) = false := decide_eq_false (by omega)
  have l95 : decide ((r : Int) ≤ 95) = true := decide_eq_true (by omega)
  have e97 : ((r : Int) == 97) = false := by rw [beq_eq_false_iff_ne]; omega
  have g97 : decide ((97 : Int) ≤ r) = false := decide_eq_false (by omega)
  have gg97 : decide ((r : Int) ≥ 97) = false := decide_eq_false (by omega)
  have l97 : decide ((r : Int) ≤ 97) = true := decide_eq_true (by omega)
  have e122 : ((r : Int) == 122) = false := by rw [beq_eq_false_iff_ne]; omega
  have g122 : decide ((122 : Int) ≤ r) = false := decide_eq_false (by omega)
  have gg122 : decide ((r : Int) ≥ 122) = false := decide_eq_false (by omega)
  have l122 : decide ((r : Int) ≤ 122) = true := decide_eq_true (by omega)
  clear hi hr h
  go_enter Tryz.func134, Tryz.ntmps134
  go_wp2
  go_ret
  exact ⟨rfl, rfl⟩
 ·obtain rfl : b = true := by rw [hi]; omega
  have _u := hr
  have g65 : decide ((65 : Int) ≤ r) = true := decide_eq_true (by omega)
  have gg65 : decide ((r : Int) ≥ 65) = true := decide_eq_true (by omega)
  have _u := hr
  have l90 : decide ((r : Int) ≤ 90) = true := decide_eq_true (by omega)
  have e95 : ((r : Int) == 95) = false := by rw [beq_eq_false_iff_ne]; omega
  have g95 : decide ((95 : Int) ≤ r) = false := decide_eq_false (by omega)
  have gg95 : decide ((r : Int) ≥ 95) = false := decide_eq_false (by omega)
  have l95 : decide ((r : Int) ≤ 95) = true := decide_eq_true (by omega)
  have e97 : ((r : Int) == 97) = false := by rw [beq_eq_false_iff_ne]; omega
  have g97 : decide ((97 : Int) ≤ r) = false := decide_eq_false (by omega)
  have gg97 : decide ((r : Int) ≥ 97) = false := decide_eq_false (by omega)
  have l97 : decide ((r : Int) ≤ 97) = true := decide_eq_true (by omega)
  have e122 : ((r : Int) == 122) = false := by rw [beq_eq_false_iff_ne]; omega
  have g122 : decide ((122 : Int) ≤ r) = false := decide_eq_false (by omega)
  have gg122 : decide ((r : Int) ≥ 122) = false := decide_eq_false (by omega)
  have l122 : decide ((r : Int) ≤ 122) = true := decide_eq_true (by omega)
  clear hi hr h
  go_enter Tryz.func134, Tryz.ntmps134
  go_wp2
  go_ret
  exact ⟨rfl, rfl⟩
 ·obtain rfl : b = false := by rw [Bool.eq_false_iff]; exact fun h' => by have := hi.1 h'; omega
  have e65 : ((r : Int) == 65) = false := by rw [beq_eq_false_iff_ne]; omega
  have g65 : decide ((65 : Int) ≤ r) = true := decide_eq_true (by omega)
  have gg65 : decide ((r : Int) ≥ 65) = true := decide_eq_true (by omega)
  have l65 : decide ((r : Int) ≤ 65) = false := decide_eq_false (by omega)
  have e90 : ((r : Int) == 90) = false := by rw [beq_eq_false_iff_ne]; omega
  have g90 : decide ((90 : Int) ≤ r) = true := decide_eq_true (by omega)
  have gg90 : decide ((r : Int) ≥ 90) = true := decide_eq_true (by omega)
  have l90 : decide ((r : Int) ≤ 90) = false := decide_eq_false (by omega)
  have e95 : ((r : Int) == 95) = false := by rw [beq_eq_false_iff_ne]; omega
  have g95 : decide ((95 : Int) ≤ r) = false := decide_eq_false (by omega)
  have gg95 : decide ((r : Int) ≥ 95) = false := decide_eq_false (by omega)
  have l95 : decide ((r : Int) ≤ 95) = true := decide_eq_true (by omega)
  have e97 : ((r : Int) == 97) = false := by rw [beq_eq_false_iff_ne]; omega
  have g97 : decide ((97 : Int) ≤ r) = false := decide_eq_false (by omega)
  have gg97 : decide ((r : Int) ≥ 97) = false := decide_eq_false (by omega)
  have l97 : decide ((r : Int) ≤ 97) = true := decide_eq_true (by omega)
  have e122 : ((r : Int) == 122) = false := by rw [beq_eq_false_iff_ne]; omega
  have g122 : decide ((122 : Int) ≤ r) = false := decide_eq_false (by omega)
  have gg122 : decide ((r : Int) ≥ 122) = false := decide_eq_false (by omega)
  have l122 : decide ((r : Int) ≤ 122) = true := decide_eq_true (by omega)
  clear hi hr h
  go_enter Tryz.func134, Tryz.ntmps134
  go_wp2
  go_ret
  exact ⟨rfl, rfl⟩
 ·obtain rfl : b = true := by rw [hi]; omega
  subst h
  clear hi hr
  go_enter Tryz.func134, Tryz.ntmps134
  go_wp2
  go_ret
  exact ⟨rfl, rfl⟩
 ·obtain rfl : b = false := by rw [Bool.eq_false_iff]; exact fun h' => by have := hi.1 h'; omega
  subst h
  clear hi hr
  go_enter Tryz.func134, Tryz.ntmps134
  go_wp2
  go_ret
  exact ⟨rfl, rfl⟩
 ·obtain rfl : b = true := by rw [hi]; omega
  have e65 : ((r : Int) == 65) = false := by rw [beq_eq_false_iff_ne]; omega
  have g65 : decide ((65 : Int) ≤ r) = true := decide_eq_true (by omega)
  have gg65 : decide ((r : Int) ≥ 65) = true := decide_eq_true (by omega)
  have l65 : decide ((r : Int) ≤ 65) = false := decide_eq_false (by omega)
  have e90 : ((r : Int) == 90) = false := by rw [beq_eq_false_iff_ne]; omega
  have g90 : decide ((90 : Int) ≤ r) = true := decide_eq_true (by omega)
  have gg90 : decide ((r : Int) ≥ 90) = true := decide_eq_true (by omega)
  have l90 : decide ((r : Int) ≤ 90) = false := decide_eq_false (by omega)
  have e95 : ((r : Int) == 95) = false := by rw [beq_eq_false_iff_ne]; omega
  have g95 : decide ((95 : Int) ≤ r) = true := decide_eq_true (by omega)
  have gg95 : decide ((r : Int) ≥ 95) = true := decide_eq_true (by omega)
  have l95 : decide ((r : Int) ≤ 95) = false := decide_eq_false (by omega)
  have _u := hr
  have g97 : decide ((97 : Int) ≤ r) = true := decide_eq_true (by omega)
  have gg97 : decide ((r : Int) ≥ 97) = true := decide_eq_true (by omega)
  have _u := hr
  have l122 : decide ((r : Int) ≤ 122) = true := decide_eq_true (by omega)
  clear hi hr h
  go_enter Tryz.func134, Tryz.ntmps134
  go_wp2
  go_ret
  exact ⟨rfl, rfl⟩
 ·obtain rfl : b = false := by rw [Bool.eq_false_iff]; exact fun h' => by have := hi.1 h'; omega
  have e65 : ((r : Int) == 65) = false := by rw [beq_eq_false_iff_ne]; omega
  have g65 : decide ((65 : Int) ≤ r) = true := decide_eq_true (by omega)
  have gg65 : decide ((r : Int) ≥ 65) = true := decide_eq_true (by omega)
  have l65 : decide ((r : Int) ≤ 65) = false := decide_eq_false (by omega)
  have e90 : ((r : Int) == 90) = false := by rw [beq_eq_false_iff_ne]; omega
  have g90 : decide ((90 : Int) ≤ r) = true := decide_eq_true (by omega)
  have gg90 : decide ((r : Int) ≥ 90) = true := decide_eq_true (by omega)
  have l90 : decide ((r : Int) ≤ 90) = false := decide_eq_false (by omega)
  have e95 : ((r : Int) == 95) = false := by rw [beq_eq_false_iff_ne]; omega
  have g95 : decide ((95 : Int) ≤ r) = true := decide_eq_true (by omega)
  have gg95 : decide ((r : Int) ≥ 95) = true := decide_eq_true (by omega)
  have l95 : decide ((r : Int) ≤ 95) = false := decide_eq_false (by omega)
  have e97 : ((r : Int) == 97) = false := by rw [beq_eq_false_iff_ne]; omega
  have g97 : decide ((97 : Int) ≤ r) = true := decide_eq_true (by omega)
  have gg97 : decide ((r : Int) ≥ 97) = true := decide_eq_true (by omega)
  have l97 : decide ((r : Int) ≤ 97) = false := decide_eq_false (by omega)
  have e122 : ((r : Int) == 122) = false := by rw [beq_eq_false_iff_ne]; omega
  have g122 : decide ((122 : Int) ≤ r) = true := decide_eq_true (by omega)
  have gg122 : decide ((r : Int) ≥ 122) = true := decide_eq_true (by omega)
  have l122 : decide ((r : Int) ≤ 122) = false := decide_eq_false (by omega)
  clear hi hr h
  go_enter Tryz.func134, Tryz.ntmps134
  go_wp2
  go_ret
  exact ⟨rfl, rfl⟩
theorem nb_any (c : UInt8) (w : World) : Calls Tryz.prog 173 #[.int .u8 (c.toNat : Nat)] w fun e w' => e = .returned (.bool (nbB c)) ∧ Bel w w' := by
 have C1 := Lib.hid fun w => xletter_any c w
 have C2 := Lib.hid fun w => xdigit_any c w
 have E := Lib.hid (show nbB c = (ltB c || fgB c) from rfl)
 generalize nbB c = q at E ⊢
 generalize c.toNat = r at *
 cases h1 : ltB c with
 | true =>
  rw [h1] at C1 E
  have hq := E.out
  simp only [Bool.true_or] at hq
  subst hq
  go_enter Tryz.func173, Tryz.ntmps173
  go_wp2_with (first
   | (go_at_call 134; refine (C1.out _).mono ?_; rintro e W1 ⟨rfl, rfl⟩)
   | (go_at_call 130; refine (C2.out _).mono ?_; rintro e W1 ⟨rfl, rfl⟩))
  go_ret
  exact ⟨rfl, Bel.refl _⟩
 | false =>
  rw [h1] at C1 E
  have hq := E.out
  simp only [Bool.false_or] at hq
  subst hq
  go_enter Tryz.func173, Tryz.ntmps173
  go_wp2_with (first
   | (go_at_call 134; refine (C1.out _).mono ?_; rintro e W1 ⟨rfl, rfl⟩)
   | (go_at_call 130; refine (C2.out _).mono ?_; rintro e W1 ⟨rfl, rfl⟩))
  go_ret
  exact ⟨rfl, Bel.refl _⟩
set_option maxRecDepth 100000 in
set_option maxHeartbeats 4000000 in
theorem run_any (F : Nat) (q : UInt8 → Bool) (eg : ∀ args w, (callFunc F args).run Tryz.prog w = .ok (.enter F args) w) (hc : ∀ (c : UInt8) w, Calls Tryz.prog F #[.int .u8 (c.toNat : Nat)] w fun e w' => e = .returned (.bool (q c)) ∧ Bel w w') (s : ByteArray) (hs : s.size ≤ 65536) (w : World) :
  Calls Tryz.prog 165 #[.string s, .func (.func F) #[] #[]] w fun e w' => e = .returned (.int .i64 ((s.data.toList.takeWhile q).length : Nat)) ∧ Bel w w' := by
 obtain ⟨N, hN⟩ : ∃ N, N = (s.data.toList.takeWhile q).length := ⟨_, rfl⟩
 have hle : N ≤ s.size := by
  have := tw_lens q s.data.toList
  rw [size_list] at this
  omega
 have G1 := Lib.hid fun k (hk : k < N) => (tw_get q s.data.toList k).1 (by rw [← hN]; exact hk)
 have G2 := Lib.hid ((tw_get q s.data.toList N).2 hN)
 rw [← hN]
 have HC := Lib.hid hc
 have hsi : (s.size : Int) ≤ 65536 := by omega
 clear hN hc
 go_enter Tryz.func165, Tryz.ntmps165
 go_wp2
 go_loopg [5] (N + 1) (fun g nv wr => ∃ i : Nat, nv = .int .i64 i ∧ i ≤ N ∧ Hid (g = N + 1 - i) ∧ Hid (Bel w wr))
 case atStart => exact ⟨0, rfl, Nat.zero_le _, Lib.hid rfl, Lib.hid (Bel.refl _)⟩
 case round =>
  obtain ⟨i, rfl, hi, hg, hb⟩ := hrel
  have i0 : (0 : Int) ≤ (i : Int) := by omega
  have w1 : i < s.size → IntKind.i64.wrap ((i : Int) + 1) = ((i + 1 : Nat) : Int) := fun _ => by rw [IntKind.wrap_i64]; omega
  by_cases hlt : i < N
  ·have hi' : i < s.size := by omega
   have ii : (i : Int) < s.size := by omega
   have w1 := w1 hi'
   have hq : q s[i] = true := by
    obtain ⟨c, hc, hcn⟩ := G1.out i hlt
    rw [List.getElem?_eq_getElem (by rw [size_list]; exact hi')] at hc
    rw [← Option.some.inj hc] at hcn
    exact hcn
   have hcall := HC.out s[i] wr
   rw [hq] at hcall
   clear hq
   go_wp2_with (go_at_fn F; refine hcall.mono ?_; rintro e w' ⟨rfl, hb'⟩)
   go_roundg (N + 1 - (i + 1))
   case measure => have := hg.out; omega
   case rel => exact ⟨i + 1, by go_num, by omega, rfl, Lib.hid (hb.out.trans hb')⟩
  ·obtain rfl : i = N := by omega
   by_cases hz : i = s.size
   ·have ii : decide (i < s.size) = false := decide_eq_false (by omega)
    have ii' : ¬ i < s.size := by omega
    clear w1 hz
    go_wp2_with fail
    go_ret
    exact ⟨rfl, hb.out⟩
   ·have hi' : i < s.size := by omega
    have ii : (i : Int) < s.size := by omega
    have hq : q s[i] = false := by
     rcases G2.out with h | ⟨c, hc, hcn⟩
     ·rw [size_list] at h; omega
     ·rw [List.getElem?_eq_getElem (by rw [size_list]; exact hi')] at hc
      rw [← Option.some.inj hc] at hcn
      exact hcn
    have hcall := HC.out s[i] wr
    rw [hq] at hcall
    clear hq w1
    go_wp2_with (go_at_fn F; refine hcall.mono ?_; rintro e w' ⟨rfl, hb'⟩)
    go_ret
    exact ⟨rfl, hb.out.trans hb'⟩
theorem runD_any (s : ByteArray) (hs : s.size ≤ 65536) (w : World) :
  Calls Tryz.prog 165 #[.string s, .func (.func 130) #[] #[]] w fun e w' => e = .returned (.int .i64 ((s.data.toList.takeWhile fgB).length : Nat)) ∧ Bel w w' :=
 run_any 130 fgB (enters_of Tryz.func130 (by kernel_rfl) rfl) (fun c w => (xdigit_any c w).mono fun e w' ⟨he, hw⟩ => ⟨he, hw ▸ Bel.refl _⟩) s hs w
theorem runN_any (s : ByteArray) (hs : s.size ≤ 65536) (w : World) :
  Calls Tryz.prog 165 #[.string s, .func (.func 173) #[] #[]] w fun e w' => e = .returned (.int .i64 ((s.data.toList.takeWhile nbB).length : Nat)) ∧ Bel w w' :=
 run_any 173 nbB (enters_of Tryz.func173 (by kernel_rfl) rfl) nb_any s hs w
end Go.Proofs.YtjckpkamhdbcnaaGreatDoor
