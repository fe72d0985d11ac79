import Derived.Test.YtofcjdbodhoacaaGreatDoorLxr
namespace Go.Proofs.YtofcjdbodhoacaaGreatDoor
set_option linter.unusedSimpArgs false
set_option linter.unusedVariables false
open Go.RowKit

/-! The document's white, and what stands between quotes. -/
theorem wsB_iff (c : UInt8) : wsB c = true ↔ (c.toNat = 9 ∨ c.toNat = 10 ∨ c.toNat = 13 ∨ c.toNat = 32) := by
  unfold wsB
  have e : ∀ k : UInt8, (c == k) = true ↔ c.toNat = k.toNat := fun k => by rw [beq_iff_eq, UInt8.toNat_inj]
  simp only [Bool.or_eq_true, e]
  show ((c.toNat = 32 ∨ c.toNat = 9) ∨ c.toNat = 10) ∨ c.toNat = 13 ↔ _
  omega
set_option maxRecDepth 100000 in
set_option maxHeartbeats 4000000 in
theorem rwhite_any (c : UInt8) (w : World) : Calls Tryz.prog 18 #[.int .u8 (c.toNat : Nat)] w fun e w' => e = .returned (.bool (wsB c)) ∧ w' = w := by
  have hi := wsB_iff c
  obtain ⟨b, hb⟩ : ∃ b, b = wsB c := ⟨_, rfl⟩
  have hr := c.toNat_lt
  rw [← hb] at hi ⊢
  clear hb
  generalize c.toNat = r at *
  have hc : (r < 9) ∨ (r = 9) ∨ (r = 10) ∨ (11 ≤ r ∧ r ≤ 12) ∨ (r = 13) ∨ (14 ≤ r ∧ r ≤ 31) ∨ (r = 32) ∨ (32 < r) := by omega
  rcases hc with h | h | h | h | h | h | h | h
  · obtain rfl : b = false := by rw [Bool.eq_false_iff]; exact fun h' => by have := hi.1 h'; omega
    have e9 : ((r : Int) == 9) = false := by rw [beq_eq_false_iff_ne]; omega
    have g9 : decide ((9 : Int) ≤ r) = false := decide_eq_false (by omega)
    have gg9 : decide ((r : Int) ≥ 9) = false := decide_eq_false (by omega)
    have l9 : decide ((r : Int) ≤ 9) = true := decide_eq_true (by omega)
    have e10 : ((r : Int) == 10) = false := by rw [beq_eq_false_iff_ne]; omega
    have g10 : decide ((10 : Int) ≤ r) = false := decide_eq_false (by omega)
    have gg10 : decide ((r : Int) ≥ 10) = false := decide_eq_false (by omega)
    have l10 : decide ((r : Int) ≤ 10) = true := decide_eq_true (by omega)
    have e13 : ((r : Int) == 13) = false := by rw [beq_eq_false_iff_ne]; omega
    have g13 : decide ((13 : Int) ≤ r) = false := decide_eq_false (by omega)
    have gg13 : decide ((r : Int) ≥ 13) = false := decide_eq_false (by omega)
    have l13 : decide ((r : Int) ≤ 13) = true := decide_eq_true (by omega)
    have e32 : ((r : Int) == 32) = false := by rw [beq_eq_false_iff_ne]; omega
    have g32 : decide ((32 : Int) ≤ r) = false := decide_eq_false (by omega)
    have gg32 : decide ((r : Int) ≥ 32) = false := decide_eq_false (by omega)
    have l32 : decide ((r : Int) ≤ 32) = true := decide_eq_true (by omega)
    clear hi hr h
    go_enter Tryz.func18, Tryz.ntmps18
    go_wp2
    go_ret
    exact ⟨rfl, rfl⟩
  · obtain rfl : b = true := by rw [hi]; omega
    subst h
    clear hi hr
    go_enter Tryz.func18, Tryz.ntmps18
    go_wp2
    go_ret
    exact ⟨rfl, rfl⟩
  · obtain rfl : b = true := by rw [hi]; omega
    subst h
    clear hi hr
    go_enter Tryz.func18, Tryz.ntmps18
    go_wp2
    go_ret
    exact ⟨rfl, rfl⟩
  · obtain rfl : b = false := by rw [Bool.eq_false_iff]; exact fun h' => by have := hi.1 h'; omega
    have e9 : ((r : Int) == 9) = false := by rw [beq_eq_false_iff_ne]; omega
    have g9 : decide ((9 : Int) ≤ r) = true := decide_eq_true (by omega)
    have gg9 : decide ((r : Int) ≥ 9) = true := decide_eq_true (by omega)
    have l9 : decide ((r : Int) ≤ 9) = false := decide_eq_false (by omega)
    have e10 : ((r : Int) == 10) = false := by rw [beq_eq_false_iff_ne]; omega
    have g10 : decide ((10 : Int) ≤ r) = true := decide_eq_true (by omega)
    have gg10 : decide ((r : Int) ≥ 10) = true := decide_eq_true (by omega)
    have l10 : decide ((r : Int) ≤ 10) = false := decide_eq_false (by omega)
    have e13 : ((r : Int) == 13) = false := by rw [beq_eq_false_iff_ne]; omega
    have g13 : decide ((13 : Int) ≤ r) = false := decide_eq_false (by omega)
    have gg13 : decide ((r : Int) ≥ 13) = false := decide_eq_false (by omega)
    have l13 : decide ((r : Int) ≤ 13) = true := decide_eq_true (by omega)
    have e32 : ((r : Int) == 32) = false := by rw [beq_eq_false_iff_ne]; omega
    have g32 : decide ((32 : Int) ≤ r) = false := decide_eq_false (by omega)
    have gg32 : decide ((r : Int) ≥ 32) = false := decide_eq_false (by omega)
    have l32 : decide ((r : Int) ≤ 32) = true := decide_eq_true (by omega)
    clear hi hr h
    go_enter Tryz.func18, Tryz.ntmps18
    go_wp2
    go_ret
    exact ⟨rfl, rfl⟩
  · obtain rfl : b = true := by rw [hi]; omega
    subst h
    clear hi hr
    go_enter Tryz.func18, Tryz.ntmps18
    go_wp2
    go_ret
    exact ⟨rfl, rfl⟩
  · obtain rfl : b = false := by rw [Bool.eq_false_iff]; exact fun h' => by have := hi.1 h'; omega
    have e9 : ((r : Int) == 9) = false := by rw [beq_eq_false_iff_ne]; omega
    have g9 : decide ((9 : Int) ≤ r) = true := decide_eq_true (by omega)
    have gg9 : decide ((r : Int) ≥ 9) = true := decide_eq_true (by omega)
    have l9 : decide ((r : Int) ≤ 9) = false := decide_eq_false (by omega)
    have e10 : ((r : Int) == 10) = false := by rw [beq_eq_false_iff_ne]; omega
    have g10 : decide ((10 : Int) ≤ r) = true := decide_eq_true (by omega)
    have gg10 : decide ((r : Int) ≥ 10) = true := decide_eq_true (by omega)
    have l10 : decide ((r : Int) ≤ 10) = false := decide_eq_false (by omega)
    have e13 : ((r : Int) == 13) = false := by rw [beq_eq_false_iff_ne]; omega
    have g13 : decide ((13 : Int) ≤ r) = true := decide_eq_true (by omega)
    have gg13 : decide ((r : Int) ≥ 13) = true := decide_eq_true (by omega)
    have l13 : decide ((r : Int) ≤ 13) = false := decide_eq_false (by omega)
    have e32 : ((r : Int) == 32) = false := by rw [beq_eq_false_iff_ne]; omega
    have g32 : decide ((32 : Int) ≤ r) = false := decide_eq_false (by omega)
    have gg32 : decide ((r : Int) ≥ 32) = false := decide_eq_false (by omega)
    have l32 : decide ((r : Int) ≤ 32) = true := decide_eq_true (by omega)
    clear hi hr h
    go_enter Tryz.func18, Tryz.ntmps18
    go_wp2
    go_ret
    exact ⟨rfl, rfl⟩
  · obtain rfl : b = true := by rw [hi]; omega
    subst h
    clear hi hr
    go_enter Tryz.func18, Tryz.ntmps18
    go_wp2
    go_ret
    exact ⟨rfl, rfl⟩
  · obtain rfl : b = false := by rw [Bool.eq_false_iff]; exact fun h' => by have := hi.1 h'; omega
    have e9 : ((r : Int) == 9) = false := by rw [beq_eq_false_iff_ne]; omega
    have g9 : decide ((9 : Int) ≤ r) = true := decide_eq_true (by omega)
    have gg9 : decide ((r : Int) ≥ 9) = true := decide_eq_true (by omega)
    have l9 : decide ((r : Int) ≤ 9) = false := decide_eq_false (by omega)
    have e10 : ((r : Int) == 10) = false := by rw [beq_eq_false_iff_ne]; omega
    have g10 : decide ((10 : Int) ≤ r) = true := decide_eq_true (by omega)
    have gg10 : decide ((r : Int) ≥ 10) = true := decide_eq_true (by omega)
    have l10 : decide ((r : Int) ≤ 10) = false := decide_eq_false (by omega)
    have e13 : ((r : Int) == 13) = false := by rw [beq_eq_false_iff_ne]; omega
    have g13 : decide ((13 : Int) ≤ r) = true := decide_eq_true (by omega)
    have gg13 : decide ((r : Int) ≥ 13) = true := decide_eq_true (by omega)
    have l13 : decide ((r : Int) ≤ 13) = false := decide_eq_false (by omega)
    have e32 : ((r : Int) == 32) = false := by rw [beq_eq_false_iff_ne]; omega
    have g32 : decide ((32 : Int) ≤ r) = true := decide_eq_true (by omega)
    have gg32 : decide ((r : Int) ≥ 32) = true := decide_eq_true (by omega)
    have l32 : decide ((r : Int) ≤ 32) = false := decide_eq_false (by omega)
    clear hi hr h
    go_enter Tryz.func18, Tryz.ntmps18
    go_wp2
    go_ret
    exact ⟨rfl, rfl⟩
def qV (s : ByteArray) : Option (List UInt8 × List UInt8) → Value
  | some (x, r) => .tuple #[.string (bytesOf x), .int .i64 ((s.size - r.length : Nat) : Int)]
  | none => .tuple #[.string ⟨#[]⟩, .int .i64 (-1)]
set_option maxRecDepth 100000 in
set_option maxHeartbeats 8000000 in
theorem xq_any (s : ByteArray) (hs : s.size ≤ 65536) (p : Nat) (hp : p < s.size) (w : World) :
    Calls Tryz.prog 40 #[.string s, .int .i64 (p : Nat)] w fun e w' => e = .returned (qV s (strL [] (s.data.toList.drop (p + 1)))) ∧ w' = w := by
  obtain ⟨R, hR⟩ : ∃ R, R = strL [] (s.data.toList.drop (p + 1)) := ⟨_, rfl⟩
  rw [← hR]
  have HR := Lib.hid hR
  clear hR
  have hsi : (s.size : Int) ≤ 65536 := by omega
  have hpi : (p : Int) < s.size := by omega
  have w0 : IntKind.i64.wrap ((p : Int) + 1) = (p : Int) + 1 := by rw [IntKind.wrap_i64]; omega
  go_enter Tryz.func40, Tryz.ntmps40
  go_wp2_with fail
  clear w0
  go_loopg [6, 7] (s.size + 1) (fun g ov iv wr => ∃ (i : Nat) (acc : List UInt8), ov = .string (bytesOf acc) ∧ iv = .int .i64 i ∧ i ≤ s.size ∧ acc.length ≤ i ∧ Hid (s.size + 1 - i ≤ g) ∧ Hid (strL acc (s.data.toList.drop i) = R) ∧ wr = w)
  case atStart => exact ⟨p + 1, [], rfl, by go_num, by omega, Nat.zero_le _, Lib.hid (by omega), Lib.hid HR.out.symm, rfl⟩
  case round =>
    obtain ⟨i, acc, rfl, rfl, hi, hac, hg, hS, rfl⟩ := hrel
    have i0 : (0 : Int) ≤ (i : Int) := by omega
    have hii : (i : Int) ≤ 65536 := by omega
    have hoz : ((bytesOf acc).size : Int) ≤ 65536 := by rw [bytesOf_size]; omega
    by_cases hlt : i < s.size
    · have hd := drop_at s i hlt
      have w1 : IntKind.i64.wrap ((i : Int) + 1) = (i : Int) + 1 := by rw [IntKind.wrap_i64]; omega
      have hlti : (i : Int) < s.size := by omega
      by_cases c34 : s[i] = 34
      · rw [c34] at hd
        have e34 : ((s[i].toNat : Int) == 34) = true := by rw [c34]; rfl
        have HRR := Lib.hid (show R = some (acc, s.data.toList.drop (i + 1)) from by rw [← hS.out, hd, strL_34])
        have LE := Lib.hid (show s.size - (s.data.toList.drop (i + 1)).length = i + 1 from by rw [List.length_drop, size_list]; omega)
        clear hd c34
        go_wp2_with fail
        go_ret2
        refine ⟨?_, rfl⟩
        rw [HRR.out]
        unfold qV
        simp only
        rw [LE.out]
        rfl
      · have e34 : ((s[i].toNat : Int) == 34) = false := u8n c34
        by_cases c92 : s[i] = 92
        · rw [c92] at hd
          have e92 : ((s[i].toNat : Int) == 92) = true := by rw [c92]; rfl
          by_cases hz : i + 1 = s.size
          · have HRR := Lib.hid (show R = none from by rw [← hS.out, hd, List.drop_of_length_le (by rw [size_list]; omega), strL_end])
            have ez : decide ((i : Int) + 1 ≥ s.size) = true := decide_eq_true (by omega)
            have ez' : (s.size : Int) ≤ (i : Int) + 1 := by omega
            clear hd c92 c34
            go_wp2_with fail
            go_ret2
            exact ⟨by rw [HRR.out] <;> rfl, rfl⟩
          · have hlt1 : i + 1 < s.size := by omega
            have hd1 := drop_at s (i + 1) hlt1
            have ez : decide ((i : Int) + 1 ≥ s.size) = false := decide_eq_false (by omega)
            have ilt : (i : Int) + 1 < s.size := by omega
            have w2 : IntKind.i64.wrap ((i : Int) + 1 + 1) = (i : Int) + 1 + 1 := by rw [IntKind.wrap_i64]; omega
            by_cases hd34 : s[i + 1] = 34 ∨ s[i + 1] = 92
            · have SN := Lib.hid (show strL (acc ++ [s[i + 1]]) (s.data.toList.drop (i + 1 + 1)) = R from by rw [← hS.out, hd, hd1, strL_esc _ _ _ hd34])
              have EX := Lib.hid (show bytesOf acc ++ s.extract (i + 1) (i + 1 + 1) = bytesOf (acc ++ [s[i + 1]]) from by rw [ext_1 s (i + 1) hlt1, bytes_lit, bytes_app])
              have hxz : ((s.extract (i + 1) (i + 1 + 1)).size : Int) ≤ 1 := by
                have h1 : (s.extract (i + 1) (i + 1 + 1)).size = 1 := by rw [ext_1 s (i + 1) hlt1, bsize]; rfl
                omega
              clear hd hd1 c92 c34
              rcases hd34 with hk | hk
              · have f34 : ((s[i + 1].toNat : Int) == 34) = true := by rw [hk]; rfl
                have n34 : ((s[i + 1].toNat : Int) != 34) = false := by rw [hk]; rfl
                clear hk
                go_wp2_with fail
                go_roundg (s.size + 1 - (i + 1 + 1))
                case measure => have := hg.out; omega
                case rel => exact ⟨i + 1 + 1, acc ++ [s[i + 1]], by rw [EX.out], by go_num, by omega, by rw [List.length_append]; simp; omega, Lib.hid (Nat.le_refl _), SN, rfl⟩
              · have f34 : ((s[i + 1].toNat : Int) == 34) = false := u8n (k := 34) (by rw [hk]; decide)
                have n34 : ((s[i + 1].toNat : Int) != 34) = true := by rw [hk]; rfl
                have n92 : ((s[i + 1].toNat : Int) != 92) = false := by rw [hk]; rfl
                have f92 : ((s[i + 1].toNat : Int) == 92) = true := by rw [hk]; rfl
                clear hk
                go_wp2_with fail
                go_roundg (s.size + 1 - (i + 1 + 1))
                case measure => have := hg.out; omega
                case rel => exact ⟨i + 1 + 1, acc ++ [s[i + 1]], by rw [EX.out], by go_num, by omega, by rw [List.length_append]; simp; omega, Lib.hid (Nat.le_refl _), SN, rfl⟩
            · have HRR := Lib.hid (show R = none from by rw [← hS.out, hd, hd1, strL_bad _ _ _ hd34])
              have f34 : ((s[i + 1].toNat : Int) == 34) = false := u8n (fun h => hd34 (.inl h))
              have f92 : ((s[i + 1].toNat : Int) == 92) = false := u8n (fun h => hd34 (.inr h))
              have n34 : ((s[i + 1].toNat : Int) != 34) = true := by unfold bne; rw [f34]; rfl
              have n92 : ((s[i + 1].toNat : Int) != 92) = true := by unfold bne; rw [f92]; rfl
              clear hd hd1 c92 c34 hd34
              go_wp2_with fail
              go_ret2
              exact ⟨by rw [HRR.out] <;> rfl, rfl⟩
        · have e92 : ((s[i].toNat : Int) == 92) = false := u8n c92
          have SN := Lib.hid (show strL (acc ++ [s[i]]) (s.data.toList.drop (i + 1)) = R from by rw [← hS.out, hd, strL_other _ _ _ c34 c92])
          have EX := Lib.hid (show bytesOf acc ++ s.extract i (i + 1) = bytesOf (acc ++ [s[i]]) from by rw [ext_1 s i hlt, bytes_lit, bytes_app])
          have hxz : ((s.extract i (i + 1)).size : Int) ≤ 1 := by
            have h1 : (s.extract i (i + 1)).size = 1 := by rw [ext_1 s i hlt, bsize]; rfl
            omega
          clear hd c92 c34
          go_wp2_with fail
          go_roundg (s.size + 1 - (i + 1))
          case measure => have := hg.out; omega
          case rel => exact ⟨i + 1, acc ++ [s[i]], by rw [EX.out], by go_num, by omega, by rw [List.length_append]; simp; omega, Lib.hid (Nat.le_refl _), SN, rfl⟩
    · obtain rfl : i = s.size := by omega
      have HRR := Lib.hid (show R = none from by rw [← hS.out, List.drop_of_length_le (by rw [size_list]; exact Nat.le_refl _)]; rfl)
      go_wp2_with fail
      go_ret2
      exact ⟨by rw [HRR.out] <;> rfl, rfl⟩
end Go.Proofs.YtofcjdbodhoacaaGreatDoor
