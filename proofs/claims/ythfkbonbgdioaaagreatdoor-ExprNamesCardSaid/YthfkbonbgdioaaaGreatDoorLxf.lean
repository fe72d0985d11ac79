
import Derived.Test.YthfkbonbgdioaaaGreatDoorLxz
import Derived.Test.YthfkbonbgdioaaaGreatDoorLxp
import Derived.Shelf.Strings.SlTrimAscii
namespace Go.Proofs.YthfkbonbgdioaaaGreatDoor
set_option linter.unusedSimpArgs false
set_option linter.unusedVariables false
open Go.RowKit

theorem size_list (s : ByteArray) : s.data.toList.length = s.size := Array.length_toList
/-! Bytes, runs of bytes, signs. -/
theorem fgB_iff (c : UInt8) : fgB c = true ↔ (48 ≤ c.toNat ∧ c.toNat ≤ 57) := by simp [fgB]
theorem ltB_iff (c : UInt8) : ltB c = true ↔ (c.toNat = 95 ∨ (97 ≤ c.toNat ∧ c.toNat ≤ 122) ∨ (65 ≤ c.toNat ∧ c.toNat ≤ 90)) := by simp [ltB]
set_option maxRecDepth 100000 in
set_option maxHeartbeats 4000000 in
theorem xdigit_any (c : UInt8) (w : World) : Calls Tryz.prog 90 #[.int .u8 (c.toNat : Nat)] w fun e w' => e = .returned (.bool (fgB c)) ∧ w' = w := by
  have hi := fgB_iff c
  obtain ⟨b, hb⟩ : ∃ b, b = fgB c := ⟨_, rfl⟩
  have hr := c.toNat_lt
  rw [← hb] at hi ⊢
  clear hb
  generalize c.toNat = r at *
  have hc : (r < 48) ∨ (48 ≤ r ∧ r ≤ 57) ∨ (57 < r) := by omega
  rcases hc with h | h | h
  · obtain rfl : b = false := by rw [Bool.eq_false_iff]; exact fun h' => by have := hi.1 h'; omega
    have e48 : ((r : Int) == 48) = false := by rw [beq_eq_false_iff_ne]; omega
    have g48 : decide ((48 : Int) ≤ r) = false := decide_eq_false (by omega)
    have gg48 : decide ((r : Int) ≥ 48) = false := decide_eq_false (by omega)
    have l48 : decide ((r : Int) ≤ 48) = true := decide_eq_true (by omega)
    have e57 : ((r : Int) == 57) = false := by rw [beq_eq_false_iff_ne]; omega
    have g57 : decide ((57 : Int) ≤ r) = false := decide_eq_false (by omega)
    have gg57 : decide ((r : Int) ≥ 57) = false := decide_eq_false (by omega)
    have l57 : decide ((r : Int) ≤ 57) = true := decide_eq_true (by omega)
    clear hi hr h
    go_enter Tryz.func90, Tryz.ntmps90
    go_wp2
    go_ret
    exact ⟨rfl, rfl⟩
  · obtain rfl : b = true := by rw [hi]; omega
    have _u := hr
    have g48 : decide ((48 : Int) ≤ r) = true := decide_eq_true (by omega)
    have gg48 : decide ((r : Int) ≥ 48) = true := decide_eq_true (by omega)
    have _u := hr
    have l57 : decide ((r : Int) ≤ 57) = true := decide_eq_true (by omega)
    clear hi hr h
    go_enter Tryz.func90, Tryz.ntmps90
    go_wp2
    go_ret
    exact ⟨rfl, rfl⟩
  · obtain rfl : b = false := by rw [Bool.eq_false_iff]; exact fun h' => by have := hi.1 h'; omega
    have e48 : ((r : Int) == 48) = false := by rw [beq_eq_false_iff_ne]; omega
    have g48 : decide ((48 : Int) ≤ r) = true := decide_eq_true (by omega)
    have gg48 : decide ((r : Int) ≥ 48) = true := decide_eq_true (by omega)
    have l48 : decide ((r : Int) ≤ 48) = false := decide_eq_false (by omega)
    have e57 : ((r : Int) == 57) = false := by rw [beq_eq_false_iff_ne]; omega
    have g57 : decide ((57 : Int) ≤ r) = true := decide_eq_true (by omega)
    have gg57 : decide ((r : Int) ≥ 57) = true := decide_eq_true (by omega)
    have l57 : decide ((r : Int) ≤ 57) = false := decide_eq_false (by omega)
    clear hi hr h
    go_enter Tryz.func90, Tryz.ntmps90
    go_wp2
    go_ret
    exact ⟨rfl, rfl⟩
set_option maxRecDepth 100000 in
set_option maxHeartbeats 4000000 in
theorem xletter_any (c : UInt8) (w : World) : Calls Tryz.prog 94 #[.int .u8 (c.toNat : Nat)] w fun e w' => e = .returned (.bool (ltB c)) ∧ w' = w := by
  have hi := ltB_iff c
  obtain ⟨b, hb⟩ : ∃ b, b = ltB c := ⟨_, rfl⟩
  have hr := c.toNat_lt
  rw [← hb] at hi ⊢
  clear hb
  generalize c.toNat = r at *
  have hc : (r < 65) ∨ (65 ≤ r ∧ r ≤ 90) ∨ (91 ≤ r ∧ r ≤ 94) ∨ (r = 95) ∨ (r = 96) ∨ (97 ≤ r ∧ r ≤ 122) ∨ (122 < r) := by omega
  rcases hc with h | h | h | h | h | h | h
  · obtain rfl : b = false := by rw [Bool.eq_false_iff]; exact fun h' => by have := hi.1 h'; omega
    have e65 : ((r : Int) == 65) = false := by rw [beq_eq_false_iff_ne]; omega
    have g65 : decide ((65 : Int) ≤ r) = false := decide_eq_false (by omega)
    have gg65 : decide ((r : Int) ≥ 65) = false := decide_eq_false (by omega)
    have l65 : decide ((r : Int) ≤ 65) = true := decide_eq_true (by omega)
    have e90 : ((r : Int) == 90) = false := by rw [beq_eq_false_iff_ne]; omega
    have g90 : decide ((90 : Int) ≤ r) = false := decide_eq_false (by omega)
    have gg90 : decide ((r : Int) ≥ 90) = false := decide_eq_false (by omega)
    have l90 : decide ((r : Int) ≤ 90) = true := decide_eq_true (by omega)
    have e95 : ((r : Int) == 95) = false := by rw [beq_eq_false_iff_ne]; omega
    have g95 : decide ((95 : Int) ≤ r) = false := decide_eq_false (by omega)
    have gg95 : decide ((r : Int) ≥ 95) = false := decide_eq_false (by omega)
    have l95 : decide ((r : Int) ≤ 95) = true := decide_eq_true (by omega)
    have e97 : ((r : Int) == 97) = false := by rw [beq_eq_false_iff_ne]; omega
    have g97 : decide ((97 : Int) ≤ r) = false := decide_eq_false (by omega)
    have gg97 : decide ((r : Int) ≥ 97) = false := decide_eq_false (by omega)
    have l97 : decide ((r : Int) ≤ 97) = true := decide_eq_true (by omega)
    have e122 : ((r : Int) == 122) = false := by rw [beq_eq_false_iff_ne]; omega
    have g122 : decide ((122 : Int) ≤ r) = false := decide_eq_false (by omega)
    have gg122 : decide ((r : Int) ≥ 122) = false := decide_eq_false (by omega)
    have l122 : decide ((r : Int) ≤ 122) = true := decide_eq_true (by omega)
    clear hi hr h
    go_enter Tryz.func94, Tryz.ntmps94
    go_wp2
    go_ret
    exact ⟨rfl, rfl⟩
  · obtain rfl : b = true := by rw [hi]; omega
    have _u := hr
    have g65 : decide ((65 : Int) ≤ r) = true := decide_eq_true (by omega)
    have gg65 : decide ((r : Int) ≥ 65) = true := decide_eq_true (by omega)
    have _u := hr
    have l90 : decide ((r : Int) ≤ 90) = true := decide_eq_true (by omega)
    have e95 : ((r : Int) == 95) = false := by rw [beq_eq_false_iff_ne]; omega
    have g95 : decide ((95 : Int) ≤ r) = false := decide_eq_false (by omega)
    have gg95 : decide ((r : Int) ≥ 95) = false := decide_eq_false (by omega)
    have l95 : decide ((r : Int) ≤ 95) = true := decide_eq_true (by omega)
    have e97 : ((r : Int) == 97) = false := by rw [beq_eq_false_iff_ne]; omega
    have g97 : decide ((97 : Int) ≤ r) = false := decide_eq_false (by omega)
    have gg97 : decide ((r : Int) ≥ 97) = false := decide_eq_false (by omega)
    have l97 : decide ((r : Int) ≤ 97) = true := decide_eq_true (by omega)
    have e122 : ((r : Int) == 122) = false := by rw [beq_eq_false_iff_ne]; omega
    have g122 : decide ((122 : Int) ≤ r) = false := decide_eq_false (by omega)
    have gg122 : decide ((r : Int) ≥ 122) = false := decide_eq_false (by omega)
    have l122 : decide ((r : Int) ≤ 122) = true := decide_eq_true (by omega)
    clear hi hr h
    go_enter Tryz.func94, Tryz.ntmps94
    go_wp2
    go_ret
    exact ⟨rfl, rfl⟩
  · obtain rfl : b = false := by rw [Bool.eq_false_iff]; exact fun h' => by have := hi.1 h'; omega
    have e65 : ((r : Int) == 65) = false := by rw [beq_eq_false_iff_ne]; omega
    have g65 : decide ((65 : Int) ≤ r) = true := decide_eq_true (by omega)
    have gg65 : decide ((r : Int) ≥ 65) = true := decide_eq_true (by omega)
    have l65 : decide ((r : Int) ≤ 65) = false := decide_eq_false (by omega)
    have e90 : ((r : Int) == 90) = false := by rw [beq_eq_false_iff_ne]; omega
    have g90 : decide ((90 : Int) ≤ r) = true := decide_eq_true (by omega)
    have gg90 : decide ((r : Int) ≥ 90) = true := decide_eq_true (by omega)
    have l90 : decide ((r : Int) ≤ 90) = false := decide_eq_false (by omega)
    have e95 : ((r : Int) == 95) = false := by rw [beq_eq_false_iff_ne]; omega
    have g95 : decide ((95 : Int) ≤ r) = false := decide_eq_false (by omega)
    have gg95 : decide ((r : Int) ≥ 95) = false := decide_eq_false (by omega)
    have l95 : decide ((r : Int) ≤ 95) = true := decide_eq_true (by omega)
    have e97 : ((r : Int) == 97) = false := by rw [beq_eq_false_iff_ne]; omega
    have g97 : decide ((97 : Int) ≤ r) = false := decide_eq_false (by omega)
    have gg97 : decide ((r : Int) ≥ 97) = false := decide_eq_false (by omega)
    have l97 : decide ((r : Int) ≤ 97) = true := decide_eq_true (by omega)
    have e122 : ((r : Int) == 122) = false := by rw [beq_eq_false_iff_ne]; omega
    have g122 : decide ((122 : Int) ≤ r) = false := decide_eq_false (by omega)
    have gg122 : decide ((r : Int) ≥ 122) = false := decide_eq_false (by omega)
    have l122 : decide ((r : Int) ≤ 122) = true := decide_eq_true (by omega)
    clear hi hr h
    go_enter Tryz.func94, Tryz.ntmps94
    go_wp2
    go_ret
    exact ⟨rfl, rfl⟩
  · obtain rfl : b = true := by rw [hi]; omega
    subst h
    clear hi hr
    go_enter Tryz.func94, Tryz.ntmps94
    go_wp2
    go_ret
    exact ⟨rfl, rfl⟩
  · obtain rfl : b = false := by rw [Bool.eq_false_iff]; exact fun h' => by have := hi.1 h'; omega
    subst h
    clear hi hr
    go_enter Tryz.func94, Tryz.ntmps94
    go_wp2
    go_ret
    exact ⟨rfl, rfl⟩
  · obtain rfl : b = true := by rw [hi]; omega
    have e65 : ((r : Int) == 65) = false := by rw [beq_eq_false_iff_ne]; omega
    have g65 : decide ((65 : Int) ≤ r) = true := decide_eq_true (by omega)
    have gg65 : decide ((r : Int) ≥ 65) = true := decide_eq_true (by omega)
    have l65 : decide ((r : Int) ≤ 65) = false := decide_eq_false (by omega)
    have e90 : ((r : Int) == 90) = false := by rw [beq_eq_false_iff_ne]; omega
    have g90 : decide ((90 : Int) ≤ r) = true := decide_eq_true (by omega)
    have gg90 : decide ((r : Int) ≥ 90) = true := decide_eq_true (by omega)
    have l90 : decide ((r : Int) ≤ 90) = false := decide_eq_false (by omega)
    have e95 : ((r : Int) == 95) = false := by rw [beq_eq_false_iff_ne]; omega
    have g95 : decide ((95 : Int) ≤ r) = true := decide_eq_true (by omega)
    have gg95 : decide ((r : Int) ≥ 95) = true := decide_eq_true (by omega)
    have l95 : decide ((r : Int) ≤ 95) = false := decide_eq_false (by omega)
    have _u := hr
    have g97 : decide ((97 : Int) ≤ r) = true := decide_eq_true (by omega)
    have gg97 : decide ((r : Int) ≥ 97) = true := decide_eq_true (by omega)
    have _u := hr
    have l122 : decide ((r : Int) ≤ 122) = true := decide_eq_true (by omega)
    clear hi hr h
    go_enter Tryz.func94, Tryz.ntmps94
    go_wp2
    go_ret
    exact ⟨rfl, rfl⟩
  · obtain rfl : b = false := by rw [Bool.eq_false_iff]; exact fun h' => by have := hi.1 h'; omega
    have e65 : ((r : Int) == 65) = false := by rw [beq_eq_false_iff_ne]; omega
    have g65 : decide ((65 : Int) ≤ r) = true := decide_eq_true (by omega)
    have gg65 : decide ((r : Int) ≥ 65) = true := decide_eq_true (by omega)
    have l65 : decide ((r : Int) ≤ 65) = false := decide_eq_false (by omega)
    have e90 : ((r : Int) == 90) = false := by rw [beq_eq_false_iff_ne]; omega
    have g90 : decide ((90 : Int) ≤ r) = true := decide_eq_true (by omega)
    have gg90 : decide ((r : Int) ≥ 90) = true := decide_eq_true (by omega)
    have l90 : decide ((r : Int) ≤ 90) = false := decide_eq_false (by omega)
    have e95 : ((r : Int) == 95) = false := by rw [beq_eq_false_iff_ne]; omega
    have g95 : decide ((95 : Int) ≤ r) = true := decide_eq_true (by omega)
    have gg95 : decide ((r : Int) ≥ 95) = true := decide_eq_true (by omega)
    have l95 : decide ((r : Int) ≤ 95) = false := decide_eq_false (by omega)
    have e97 : ((r : Int) == 97) = false := by rw [beq_eq_false_iff_ne]; omega
    have g97 : decide ((97 : Int) ≤ r) = true := decide_eq_true (by omega)
    have gg97 : decide ((r : Int) ≥ 97) = true := decide_eq_true (by omega)
    have l97 : decide ((r : Int) ≤ 97) = false := decide_eq_false (by omega)
    have e122 : ((r : Int) == 122) = false := by rw [beq_eq_false_iff_ne]; omega
    have g122 : decide ((122 : Int) ≤ r) = true := decide_eq_true (by omega)
    have gg122 : decide ((r : Int) ≥ 122) = true := decide_eq_true (by omega)
    have l122 : decide ((r : Int) ≤ 122) = false := decide_eq_false (by omega)
    clear hi hr h
    go_enter Tryz.func94, Tryz.ntmps94
    go_wp2
    go_ret
    exact ⟨rfl, rfl⟩
theorem nb_any (c : UInt8) (w : World) : Calls Tryz.prog 129 #[.int .u8 (c.toNat : Nat)] w fun e w' => e = .returned (.bool (nbB c)) ∧ Bel w w' := by
  have C1 := Lib.hid fun w => xletter_any c w
  have C2 := Lib.hid fun w => xdigit_any c w
  have E := Lib.hid (show nbB c = (ltB c || fgB c) from rfl)
  generalize nbB c = q at E ⊢
  generalize c.toNat = r at *
  cases h1 : ltB c with
  | true =>
    rw [h1] at C1 E
    have hq := E.out
    simp only [Bool.true_or] at hq
    subst hq
    go_enter Tryz.func129, Tryz.ntmps129
    go_wp2_with (first
      | (go_at_call 94; refine (C1.out _).mono ?_; rintro e W1 ⟨rfl, rfl⟩)
      | (go_at_call 90; refine (C2.out _).mono ?_; rintro e W1 ⟨rfl, rfl⟩))
    go_ret
    exact ⟨rfl, Bel.refl _⟩
  | false =>
    rw [h1] at C1 E
    have hq := E.out
    simp only [Bool.false_or] at hq
    subst hq
    go_enter Tryz.func129, Tryz.ntmps129
    go_wp2_with (first
      | (go_at_call 94; refine (C1.out _).mono ?_; rintro e W1 ⟨rfl, rfl⟩)
      | (go_at_call 90; refine (C2.out _).mono ?_; rintro e W1 ⟨rfl, rfl⟩))
    go_ret
    exact ⟨rfl, Bel.refl _⟩
set_option maxRecDepth 100000 in
set_option maxHeartbeats 4000000 in
theorem run_any (F : Nat) (q : UInt8 → Bool) (eg : ∀ args w, (callFunc F args).run Tryz.prog w = .ok (.enter F args) w) (hc : ∀ (c : UInt8) w, Calls Tryz.prog F #[.int .u8 (c.toNat : Nat)] w fun e w' => e = .returned (.bool (q c)) ∧ Bel w w') (s : ByteArray) (hs : s.size ≤ 65536) (w : World) :
    Calls Tryz.prog 122 #[.string s, .func (.func F) #[] #[]] w fun e w' => e = .returned (.int .i64 ((s.data.toList.takeWhile q).length : Nat)) ∧ Bel w w' := by
  obtain ⟨N, hN⟩ : ∃ N, N = (s.data.toList.takeWhile q).length := ⟨_, rfl⟩
  have hle : N ≤ s.size := by
    have := tw_lens q s.data.toList
    rw [size_list] at this
    omega
  have G1 := Lib.hid fun k (hk : k < N) => (tw_get q s.data.toList k).1 (by rw [← hN]; exact hk)
  have G2 := Lib.hid ((tw_get q s.data.toList N).2 hN)
  rw [← hN]
  have HC := Lib.hid hc
  have hsi : (s.size : Int) ≤ 65536 := by omega
  clear hN hc
  go_enter Tryz.func122, Tryz.ntmps122
  go_wp2
  go_loopg [5] (N + 1) (fun g nv wr => ∃ i : Nat, nv = .int .i64 i ∧ i ≤ N ∧ Hid (g = N + 1 - i) ∧ Hid (Bel w wr))
  case atStart => exact ⟨0, rfl, Nat.zero_le _, Lib.hid rfl, Lib.hid (Bel.refl _)⟩
  case round =>
    obtain ⟨i, rfl, hi, hg, hb⟩ := hrel
    have i0 : (0 : Int) ≤ (i : Int) := by omega
    have w1 : i < s.size → IntKind.i64.wrap ((i : Int) + 1) = ((i + 1 : Nat) : Int) := fun _ => by rw [IntKind.wrap_i64]; omega
    by_cases hlt : i < N
    · have hi' : i < s.size := by omega
      have ii : (i : Int) < s.size := by omega
      have w1 := w1 hi'
      have hq : q s[i] = true := by
        obtain ⟨c, hc, hcn⟩ := G1.out i hlt
        rw [List.getElem?_eq_getElem (by rw [size_list]; exact hi')] at hc
        rw [← Option.some.inj hc] at hcn
        exact hcn
      have hcall := HC.out s[i] wr
      rw [hq] at hcall
      clear hq
      go_wp2_with (go_at_fn F; refine hcall.mono ?_; rintro e w' ⟨rfl, hb'⟩)
      go_roundg (N + 1 - (i + 1))
      case measure => have := hg.out; omega
      case rel => exact ⟨i + 1, by go_num, by omega, rfl, Lib.hid (hb.out.trans hb')⟩
    · obtain rfl : i = N := by omega
      by_cases hz : i = s.size
      · have ii : decide (i < s.size) = false := decide_eq_false (by omega)
        have ii' : ¬ i < s.size := by omega
        clear w1 hz
        go_wp2_with fail
        go_ret
        exact ⟨rfl, hb.out⟩
      · have hi' : i < s.size := by omega
        have ii : (i : Int) < s.size := by omega
        have hq : q s[i] = false := by
          rcases G2.out with h | ⟨c, hc, hcn⟩
          · rw [size_list] at h; omega
          · rw [List.getElem?_eq_getElem (by rw [size_list]; exact hi')] at hc
            rw [← Option.some.inj hc] at hcn
            exact hcn
        have hcall := HC.out s[i] wr
        rw [hq] at hcall
        clear hq w1
        go_wp2_with (go_at_fn F; refine hcall.mono ?_; rintro e w' ⟨rfl, hb'⟩)
        go_ret
        exact ⟨rfl, hb.out.trans hb'⟩
theorem runD_any (s : ByteArray) (hs : s.size ≤ 65536) (w : World) :
    Calls Tryz.prog 122 #[.string s, .func (.func 90) #[] #[]] w fun e w' => e = .returned (.int .i64 ((s.data.toList.takeWhile fgB).length : Nat)) ∧ Bel w w' :=
  run_any 90 fgB (enters_of Tryz.func90 (by kernel_rfl) rfl) (fun c w => (xdigit_any c w).mono fun e w' ⟨he, hw⟩ => ⟨he, hw ▸ Bel.refl _⟩) s hs w
theorem runN_any (s : ByteArray) (hs : s.size ≤ 65536) (w : World) :
    Calls Tryz.prog 122 #[.string s, .func (.func 129) #[] #[]] w fun e w' => e = .returned (.int .i64 ((s.data.toList.takeWhile nbB).length : Nat)) ∧ Bel w w' :=
  run_any 129 nbB (enters_of Tryz.func129 (by kernel_rfl) rfl) nb_any s hs w
end Go.Proofs.YthfkbonbgdioaaaGreatDoor
namespace Go.Proofs.YthfkbonbgdioaaaGreatDoor
set_option linter.unusedSimpArgs false
set_option linter.unusedVariables false
open Go.RowKit

/-! The reader of tokens: white, names. -/
theorem ws_is : (fun c => [(9 : UInt8), 10, 13, 32].contains c) = wsB := by
  funext c
  unfold wsB
  rw [Bool.eq_iff_iff]
  simp [or_assoc]
  constructor <;> (rintro (h | h | h | h) <;> simp [h])
theorem trim_any (z : ByteArray) (w : World) : Calls Tryz.prog 89 #[.string z, .string ⟨#[9, 10, 13, 32]⟩] w fun r w' => r = .returned (.string (bytesOf (z.data.toList.dropWhile wsB))) ∧ Bel w w' := by
  have h := Any.strings_TrimLeft_laid Tryz.lays161 (by kernel_rfl) z ⟨#[9, 10, 13, 32]⟩ w (by decide) (ascii_of_all (by decide))
  refine h.mono fun r w' ⟨hr, hb⟩ => ⟨?_, hb⟩
  rw [hr]
  have e : Lib.trimLeftS z.data.toList (⟨#[9, 10, 13, 32]⟩ : ByteArray).data.toList = z.data.toList.dropWhile wsB := by
    unfold Lib.trimLeftS
    exact congrArg (fun f => z.data.toList.dropWhile f) ws_is
  rw [e]
  rfl
set_option maxRecDepth 100000 in
theorem xskip_any (s : ByteArray) (p : Nat) (hp : p ≤ s.size) (hs : s.size ≤ 65536) (w : World) :
    Calls Tryz.prog 60 #[.string s, .int .i64 (p : Nat)] w fun e w' => e = .returned (.int .i64 ((s.size - ((s.data.toList.drop p).dropWhile wsB).length : Nat) : Int)) ∧ Bel w w' := by
  have hl := tw_lens wsB (s.data.toList.drop p)
  rw [List.length_drop, size_list] at hl
  have C := Lib.hid fun w => trim_any (s.extract p s.size) w
  rw [ext_end] at C
  generalize (s.data.toList.drop p).dropWhile wsB = x at *
  have hsz : (bytesOf x).size = x.length := bytesOf_size x
  have D := Lib.hid (show (s.size : Int) - (x.length : Int) = ((s.size - x.length : Nat) : Int) from by omega)
  have hpi : (p : Int) ≤ s.size := by omega
  have hxi : (x.length : Int) ≤ s.size := by omega
  have hsi : (s.size : Int) ≤ 65536 := by omega
  clear hl
  go_enter Tryz.func60, Tryz.ntmps60
  go_wp2_with (go_at_call 89; refine (C.out _).mono ?_; rintro e W1 ⟨rfl, hb1⟩)
  go_ret
  exact ⟨by rw [← D.out] <;> rfl, hb1⟩
/-- A block that holds a token, free for stores. -/
def TSlot (w : World) (b : Nat) (t : Tok) : Prop := b < w.heap.size ∧
  (w.cell? ⟨b, 0, none⟩ = some (.int .i64 t.kind) ∧ w.cell? ⟨b, 1, none⟩ = some (.int .i64 t.pos) ∧ w.cell? ⟨b, 2, none⟩ = some (.string (bytesOf t.text)) ∧ w.cell? ⟨b, 3, none⟩ = some (.int .i64 t.dn) ∧ w.cell? ⟨b, 4, none⟩ = some (.int .i64 t.ds) ∧ w.cell? ⟨b, 5, none⟩ = some (.int .i64 t.day)) ∧
  (w.frozen? ⟨b, 0, none⟩ = false ∧ w.frozen? ⟨b, 1, none⟩ = false ∧ w.frozen? ⟨b, 2, none⟩ = false ∧ w.frozen? ⟨b, 3, none⟩ = false ∧ w.frozen? ⟨b, 4, none⟩ = false ∧ w.frozen? ⟨b, 5, none⟩ = false)
theorem TSlot.keep {w w' : World} {b : Nat} {t : Tok} (h : TSlot w b t) (hb : Bel w w') : TSlot w' b t := by
  obtain ⟨h0, ⟨a0, a1, a2, a3, a4, a5⟩, ⟨f0, f1, f2, f3, f4, f5⟩⟩ := h
  have c := hb.cells b
  have f := hb.frozens b
  refine ⟨Nat.lt_of_lt_of_le h0 hb.size, ⟨?_, ?_, ?_, ?_, ?_, ?_⟩, ⟨?_, ?_, ?_, ?_, ?_, ?_⟩⟩
  all_goals first | (rw [c _ h0]; assumption) | (rw [f _ h0]; assumption)
def tokZ : Tok := ⟨0, 0, [], 0, 0, 0⟩
/-- What a reader of one token gives. -/
def firV (l : List UInt8) : TRes → Value
  | .bad e => .tuple #[.agg #[.int .i64 0, .int .i64 0, .string ⟨#[]⟩, .int .i64 0, .int .i64 0, .int .i64 0], .int .i64 0, .int .i64 (e : Nat)]
  | .ok r (some t) => .tuple #[.agg #[.int .i64 t.kind, .int .i64 t.pos, .string (bytesOf t.text), .int .i64 t.dn, .int .i64 t.ds, .int .i64 t.day], .int .i64 ((l.length - r.length : Nat) : Int), .int .i64 0]
  | .ok r none => .tuple #[.agg #[.int .i64 0, .int .i64 0, .string ⟨#[]⟩, .int .i64 0, .int .i64 0, .int .i64 0], .int .i64 0, .int .i64 5]
set_option maxRecDepth 100000 in
set_option maxHeartbeats 4000000 in
theorem xname_any (s : ByteArray) (hs : s.size ≤ 65536) (w : World) :
    Calls Tryz.prog 95 #[.string s] w fun e w' => e = .returned (firV s.data.toList (namT s.data.toList)) ∧ Bel w w' := by
  have hl := tw_lens nbB s.data.toList
  have ht := tw_take nbB s.data.toList
  have CR := Lib.hid fun W => runN_any s hs W
  have FV0 := Lib.hid (show nmOk (s.data.toList.takeWhile nbB) = false → firV s.data.toList (namT s.data.toList) = firV [] (.bad 5) from fun h => by unfold namT; rw [h]; rfl)
  have FV1 := Lib.hid (show nmOk (s.data.toList.takeWhile nbB) = true → firV s.data.toList (namT s.data.toList) = .tuple #[.agg #[.int .i64 4, .int .i64 0, .string (bytesOf (s.data.toList.takeWhile nbB)), .int .i64 0, .int .i64 0, .int .i64 0], .int .i64 ((s.data.toList.takeWhile nbB).length : Nat), .int .i64 0] from fun h => by
    unfold namT
    rw [if_pos h]
    simp only [firV]
    rw [show s.data.toList.length - (s.data.toList.dropWhile nbB).length = (s.data.toList.takeWhile nbB).length by omega])
  rw [size_list] at hl
  generalize firV s.data.toList (namT s.data.toList) = FV at *
  generalize s.data.toList.dropWhile nbB = y at *
  generalize s.data.toList.takeWhile nbB = nm at *
  have GX := Lib.hid (show s.extract 0 nm.length = bytesOf nm from by rw [ext_bytes, List.drop_zero, Nat.sub_zero, ht])
  have CN := Lib.hid fun W => name_any (bytesOf nm) (by rw [bytesOf_size]; omega) W
  have hi : (nm.length : Int) ≤ s.size := by omega
  have hi2 : nm.length ≤ s.size := by omega
  have hsi : (s.size : Int) ≤ 65536 := by omega
  have E := Lib.hid (show nmOk nm = nameB (bytesOf nm) from rfl)
  rw [← E.out] at CN
  clear hl ht E
  cases hq : nmOk nm with
  | false =>
    obtain rfl := FV0.out hq
    rw [hq] at CN
    clear hq FV0 FV1
    go_enter Tryz.func95, Tryz.ntmps95
    go_upto_region 1 with fail
    refine under_name ((Bel.refl w).alloc _) fun W hc hf hz hb => ?_
    have T : TSlot W w.heap.size tokZ := by simp [TSlot, tokZ, bytesOf, hc, hf, hz, go_sem]
    clear hc hf hz
    generalize hN : w.heap.size = N at T ⊢
    have BN := Lib.hid (show w.heap.size ≤ N from by omega)
    clear hN
    go_wp2_with (first
      | (go_at_call 122; refine (CR.out _).mono ?_; rintro e W1 ⟨rfl, hb1⟩)
      | (go_at_call 51; rw [GX.out]; refine (CN.out _).mono ?_; rintro e W2 ⟨rfl, hb2⟩; obtain ⟨t0, ⟨t1, t2, t3, t4, t5, t6⟩, ⟨g1, g2, g3, g4, g5, g6⟩⟩ := T.keep (hb1.trans hb2); simp only [tokZ] at t1 t2 t3 t4 t5 t6))
    refine bodyPost_ret (by simp [results, Tryz.results95, go_sem, t1, t2, t3, t4, t5, t6]; try rfl) rfl ⟨rfl, ?_⟩
    have hN := BN.out
    have hq1 := hb.trans (hb1.trans hb2)
    (repeat (first | with_reducible exact Bel.refl _ | with_reducible refine Bel.setCell ?_ (by first | exact Nat.le_refl _ | (dsimp only; omega)) _ | with_reducible refine Bel.alloc ?_ _ | with_reducible refine Bel.drew ?_ | with_reducible assumption | with_reducible refine Bel.trans ?_ (by assumption)))
  | true =>
    obtain rfl := FV1.out hq
    rw [hq] at CN
    clear hq FV0 FV1
    go_enter Tryz.func95, Tryz.ntmps95
    go_upto_region 1 with fail
    refine under_name ((Bel.refl w).alloc _) fun W hc hf hz hb => ?_
    have T : TSlot W w.heap.size tokZ := by simp [TSlot, tokZ, bytesOf, hc, hf, hz, go_sem]
    clear hc hf hz
    generalize hN : w.heap.size = N at T ⊢
    have BN := Lib.hid (show w.heap.size ≤ N from by omega)
    clear hN
    go_wp2_with (first
      | (go_at_call 122; refine (CR.out _).mono ?_; rintro e W1 ⟨rfl, hb1⟩)
      | (go_at_call 51; rw [GX.out]; refine (CN.out _).mono ?_; rintro e W2 ⟨rfl, hb2⟩; obtain ⟨t0, ⟨t1, t2, t3, t4, t5, t6⟩, ⟨g1, g2, g3, g4, g5, g6⟩⟩ := T.keep (hb1.trans hb2); simp only [tokZ] at t1 t2 t3 t4 t5 t6))
    refine bodyPost_ret (by simp [results, Tryz.results95, go_sem, t1, t2, t3, t4, t5, t6]; try rfl) rfl ⟨by rw [GX.out], ?_⟩
    have hN := BN.out
    have hq1 := hb.trans (hb1.trans hb2)
    (repeat (first | with_reducible exact Bel.refl _ | with_reducible refine Bel.setCell ?_ (by first | exact Nat.le_refl _ | (dsimp only; omega)) _ | with_reducible refine Bel.alloc ?_ _ | with_reducible refine Bel.drew ?_ | with_reducible assumption | with_reducible refine Bel.trans ?_ (by assumption)))
end Go.Proofs.YthfkbonbgdioaaaGreatDoor
