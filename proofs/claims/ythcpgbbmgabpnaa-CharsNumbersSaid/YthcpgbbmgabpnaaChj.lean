import Derived.Test.YthcpgbbmgabpnaaChi
namespace Go.Proofs.Ythcpgbbmgabpnaa
set_option linter.unusedSimpArgs false
set_option linter.unusedVariables false
open Go.RowKit

/-! Chars: the document's names. -/
set_option maxRecDepth 100000 in
set_option maxHeartbeats 8000000 in
theorem rname_any (s : ByteArray) (hs : s.size ≤ 9223372036854775807) (w : World) : Calls Try.prog 15 #[.string s] w fun e w' => e = .returned (.bool (nameB s)) ∧ w' = w := by
  have i2 : (s.size : Int) ≤ 9223372036854775807 := by omega
  by_cases h0 : s.size = 0
  · have L := Lib.hid (show nameB s = false by rw [nameB, decide_eq_false (by omega)]; rfl)
    have e0 : s.toList.isEmpty = true := by
      rw [ByteArray.toList_eq, List.isEmpty_iff]
      exact List.eq_nil_of_length_eq_zero (by rw [size_list]; exact h0)
    clear h0
    go_enter Try.func15, Try.ntmps15
    go_wp2
    go_ret
    exact ⟨by (rw [L.out]) <;> rfl, rfl⟩
  · have e0 : s.toList.isEmpty = false := by
      rw [ByteArray.toList_eq, Bool.eq_false_iff, ne_eq, List.isEmpty_iff]
      intro h
      have := size_list s
      rw [h] at this
      simp at this; omega
    by_cases h32 : (32 : Int) < s.size
    · have L := Lib.hid (show nameB s = false by rw [nameB, decide_eq_false (by omega)]; rfl)
      clear h0
      go_enter Try.func15, Try.ntmps15
      go_wp2
      go_ret
      exact ⟨by (rw [L.out]) <;> rfl, rfl⟩
    · have SZ := Lib.hid (And.intro (show 0 < s.size by omega) (show s.size ≤ 32 by omega))
      clear h0
      go_enter Try.func15, Try.ntmps15
      go_wp2_with fail
      go_loopg [3] s.size (fun g v wr => ∃ k : Nat, v = .int .i64 k ∧ k ≤ s.size ∧ Hid ((∀ i, i < k → okN i (gOf s 0 i) = true) ∧ g = s.size - k) ∧ wr = w)
      case atStart => exact ⟨0, rfl, Nat.zero_le _, ⟨fun i h => by omega, rfl⟩, rfl⟩
      case round =>
        obtain ⟨k, rfl, hk, hh, rfl⟩ := hrel
        by_cases hp : k < s.size
        · have hc0 := gOf_at s k hp
          have j1 : (k : Int) < s.size := by omega
          have hcb := gOf_lt s 0 k
          rw [← hc0] at hcb
          have HC := Lib.hid hc0
          have hcc : (0 ≤ s[k].toNat ∧ s[k].toNat ≤ 47) ∨ (48 ≤ s[k].toNat ∧ s[k].toNat ≤ 57) ∨ (58 ≤ s[k].toNat ∧ s[k].toNat ≤ 64) ∨ (65 ≤ s[k].toNat ∧ s[k].toNat ≤ 90) ∨ (91 ≤ s[k].toNat ∧ s[k].toNat ≤ 94) ∨ (95 ≤ s[k].toNat ∧ s[k].toNat ≤ 95) ∨ (96 ≤ s[k].toNat ∧ s[k].toNat ≤ 96) ∨ (97 ≤ s[k].toNat ∧ s[k].toNat ≤ 122) ∨ (123 ≤ s[k].toNat ∧ s[k].toNat ≤ 255) := by omega
          clear hc0
          have kz0 : k = 0 ∨ k ≠ 0 := by omega
          rcases hcc with cc | cc | cc | cc | cc | cc | cc | cc | cc
          · have g97 : decide ((97 : Int) ≤ (s[k].toNat : Int)) = false := by exact decide_eq_false (by omega)
            have g65 : decide ((65 : Int) ≤ (s[k].toNat : Int)) = false := by exact decide_eq_false (by omega)
            have l122 : decide ((s[k].toNat : Int) ≤ 122) = true := by exact decide_eq_true (by omega)
            have l90 : decide ((s[k].toNat : Int) ≤ 90) = true := by exact decide_eq_true (by omega)
            have l48 : decide ((s[k].toNat : Int) < 48) = true := by exact decide_eq_true (by omega)
            have g57 : decide ((57 : Int) < (s[k].toNat : Int)) = false := by exact decide_eq_false (by omega)
            have e95 : ((s[k].toNat : Int) == 95) = false := by rw [beq_eq_false_iff_ne]; omega
            have L := Lib.hid (show nameB s = false from name_no hp (by rw [← HC.out, okN, show letB s[k].toNat = false from decide_eq_false (by omega), show dgB s[k].toNat = false from decide_eq_false (by omega)]; simp))
            rcases kz0 with kz | kz
            · subst kz
              clear cc hcb
              go_wp2
              go_ret
              exact ⟨by (rw [L.out]) <;> rfl, rfl⟩
            · have e1 : ((k : Int) == 0) = false := by rw [beq_eq_false_iff_ne]; omega
              clear cc hcb kz
              go_wp2
              go_ret
              exact ⟨by (rw [L.out]) <;> rfl, rfl⟩
          · have g97 : decide ((97 : Int) ≤ (s[k].toNat : Int)) = false := by exact decide_eq_false (by omega)
            have g65 : decide ((65 : Int) ≤ (s[k].toNat : Int)) = false := by exact decide_eq_false (by omega)
            have l122 : decide ((s[k].toNat : Int) ≤ 122) = true := by exact decide_eq_true (by omega)
            have l90 : decide ((s[k].toNat : Int) ≤ 90) = true := by exact decide_eq_true (by omega)
            have l48 : decide ((s[k].toNat : Int) < 48) = false := by exact decide_eq_false (by omega)
            have g57 : decide ((57 : Int) < (s[k].toNat : Int)) = false := by exact decide_eq_false (by omega)
            have e95 : ((s[k].toNat : Int) == 95) = false := by rw [beq_eq_false_iff_ne]; omega
            rcases kz0 with kz | kz
            · have L := Lib.hid (show nameB s = false from name_no hp (by rw [← HC.out, okN, show letB s[k].toNat = false from decide_eq_false (by omega), decide_eq_false (show ¬ k ≠ 0 by omega)]; rfl))
              subst kz
              clear cc hcb
              go_wp2
              go_ret
              exact ⟨by (rw [L.out]) <;> rfl, rfl⟩
            · have OK := Lib.hid (show okN k (gOf s 0 k) = true by rw [← HC.out, okN, show dgB s[k].toNat = true from decide_eq_true (by omega), decide_eq_true kz]; simp)
              have e1 : ((k : Int) == 0) = false := by rw [beq_eq_false_iff_ne]; omega
              clear cc hcb kz
              go_wp2
              go_roundg (s.size - (k + 1))
              case measure => have := hh.out.2; omega
              case rel => exact ⟨k + 1, by go_num, by omega, ⟨fun i hi => by
                by_cases he : i = k
                · subst he; exact OK.out
                · exact hh.out.1 i (by omega), rfl⟩, rfl⟩
          · have g97 : decide ((97 : Int) ≤ (s[k].toNat : Int)) = false := by exact decide_eq_false (by omega)
            have g65 : decide ((65 : Int) ≤ (s[k].toNat : Int)) = false := by exact decide_eq_false (by omega)
            have l122 : decide ((s[k].toNat : Int) ≤ 122) = true := by exact decide_eq_true (by omega)
            have l90 : decide ((s[k].toNat : Int) ≤ 90) = true := by exact decide_eq_true (by omega)
            have l48 : decide ((s[k].toNat : Int) < 48) = false := by exact decide_eq_false (by omega)
            have g57 : decide ((57 : Int) < (s[k].toNat : Int)) = true := by exact decide_eq_true (by omega)
            have e95 : ((s[k].toNat : Int) == 95) = false := by rw [beq_eq_false_iff_ne]; omega
            have L := Lib.hid (show nameB s = false from name_no hp (by rw [← HC.out, okN, show letB s[k].toNat = false from decide_eq_false (by omega), show dgB s[k].toNat = false from decide_eq_false (by omega)]; simp))
            rcases kz0 with kz | kz
            · subst kz
              clear cc hcb
              go_wp2
              go_ret
              exact ⟨by (rw [L.out]) <;> rfl, rfl⟩
            · have e1 : ((k : Int) == 0) = false := by rw [beq_eq_false_iff_ne]; omega
              clear cc hcb kz
              go_wp2
              go_ret
              exact ⟨by (rw [L.out]) <;> rfl, rfl⟩
          · have g97 : decide ((97 : Int) ≤ (s[k].toNat : Int)) = false := by exact decide_eq_false (by omega)
            have g65 : decide ((65 : Int) ≤ (s[k].toNat : Int)) = true := by exact decide_eq_true (by omega)
            have l122 : decide ((s[k].toNat : Int) ≤ 122) = true := by exact decide_eq_true (by omega)
            have l90 : decide ((s[k].toNat : Int) ≤ 90) = true := by exact decide_eq_true (by omega)
            have l48 : decide ((s[k].toNat : Int) < 48) = false := by exact decide_eq_false (by omega)
            have g57 : decide ((57 : Int) < (s[k].toNat : Int)) = true := by exact decide_eq_true (by omega)
            have e95 : ((s[k].toNat : Int) == 95) = false := by rw [beq_eq_false_iff_ne]; omega
            have OK := Lib.hid (show okN k (gOf s 0 k) = true by rw [← HC.out, okN, show letB s[k].toNat = true from decide_eq_true (by omega)]; rfl)
            clear cc hcb kz0
            go_wp2
            go_roundg (s.size - (k + 1))
            case measure => have := hh.out.2; omega
            case rel => exact ⟨k + 1, by go_num, by omega, ⟨fun i hi => by
              by_cases he : i = k
              · subst he; exact OK.out
              · exact hh.out.1 i (by omega), rfl⟩, rfl⟩
          · have g97 : decide ((97 : Int) ≤ (s[k].toNat : Int)) = false := by exact decide_eq_false (by omega)
            have g65 : decide ((65 : Int) ≤ (s[k].toNat : Int)) = true := by exact decide_eq_true (by omega)
            have l122 : decide ((s[k].toNat : Int) ≤ 122) = true := by exact decide_eq_true (by omega)
            have l90 : decide ((s[k].toNat : Int) ≤ 90) = false := by exact decide_eq_false (by omega)
            have l48 : decide ((s[k].toNat : Int) < 48) = false := by exact decide_eq_false (by omega)
            have g57 : decide ((57 : Int) < (s[k].toNat : Int)) = true := by exact decide_eq_true (by omega)
            have e95 : ((s[k].toNat : Int) == 95) = false := by rw [beq_eq_false_iff_ne]; omega
            have L := Lib.hid (show nameB s = false from name_no hp (by rw [← HC.out, okN, show letB s[k].toNat = false from decide_eq_false (by omega), show dgB s[k].toNat = false from decide_eq_false (by omega)]; simp))
            rcases kz0 with kz | kz
            · subst kz
              clear cc hcb
              go_wp2
              go_ret
              exact ⟨by (rw [L.out]) <;> rfl, rfl⟩
            · have e1 : ((k : Int) == 0) = false := by rw [beq_eq_false_iff_ne]; omega
              clear cc hcb kz
              go_wp2
              go_ret
              exact ⟨by (rw [L.out]) <;> rfl, rfl⟩
          · have g97 : decide ((97 : Int) ≤ (s[k].toNat : Int)) = false := by exact decide_eq_false (by omega)
            have g65 : decide ((65 : Int) ≤ (s[k].toNat : Int)) = true := by exact decide_eq_true (by omega)
            have l122 : decide ((s[k].toNat : Int) ≤ 122) = true := by exact decide_eq_true (by omega)
            have l90 : decide ((s[k].toNat : Int) ≤ 90) = false := by exact decide_eq_false (by omega)
            have l48 : decide ((s[k].toNat : Int) < 48) = false := by exact decide_eq_false (by omega)
            have g57 : decide ((57 : Int) < (s[k].toNat : Int)) = true := by exact decide_eq_true (by omega)
            have e95 : ((s[k].toNat : Int) == 95) = true := by rw [beq_iff_eq]; omega
            have OK := Lib.hid (show okN k (gOf s 0 k) = true by rw [← HC.out, okN, show letB s[k].toNat = true from decide_eq_true (by omega)]; rfl)
            clear cc hcb kz0
            go_wp2
            go_roundg (s.size - (k + 1))
            case measure => have := hh.out.2; omega
            case rel => exact ⟨k + 1, by go_num, by omega, ⟨fun i hi => by
              by_cases he : i = k
              · subst he; exact OK.out
              · exact hh.out.1 i (by omega), rfl⟩, rfl⟩
          · have g97 : decide ((97 : Int) ≤ (s[k].toNat : Int)) = false := by exact decide_eq_false (by omega)
            have g65 : decide ((65 : Int) ≤ (s[k].toNat : Int)) = true := by exact decide_eq_true (by omega)
            have l122 : decide ((s[k].toNat : Int) ≤ 122) = true := by exact decide_eq_true (by omega)
            have l90 : decide ((s[k].toNat : Int) ≤ 90) = false := by exact decide_eq_false (by omega)
            have l48 : decide ((s[k].toNat : Int) < 48) = false := by exact decide_eq_false (by omega)
            have g57 : decide ((57 : Int) < (s[k].toNat : Int)) = true := by exact decide_eq_true (by omega)
            have e95 : ((s[k].toNat : Int) == 95) = false := by rw [beq_eq_false_iff_ne]; omega
            have L := Lib.hid (show nameB s = false from name_no hp (by rw [← HC.out, okN, show letB s[k].toNat = false from decide_eq_false (by omega), show dgB s[k].toNat = false from decide_eq_false (by omega)]; simp))
            rcases kz0 with kz | kz
            · subst kz
              clear cc hcb
              go_wp2
              go_ret
              exact ⟨by (rw [L.out]) <;> rfl, rfl⟩
            · have e1 : ((k : Int) == 0) = false := by rw [beq_eq_false_iff_ne]; omega
              clear cc hcb kz
              go_wp2
              go_ret
              exact ⟨by (rw [L.out]) <;> rfl, rfl⟩
          · have g97 : decide ((97 : Int) ≤ (s[k].toNat : Int)) = true := by exact decide_eq_true (by omega)
            have g65 : decide ((65 : Int) ≤ (s[k].toNat : Int)) = true := by exact decide_eq_true (by omega)
            have l122 : decide ((s[k].toNat : Int) ≤ 122) = true := by exact decide_eq_true (by omega)
            have l90 : decide ((s[k].toNat : Int) ≤ 90) = false := by exact decide_eq_false (by omega)
            have l48 : decide ((s[k].toNat : Int) < 48) = false := by exact decide_eq_false (by omega)
            have g57 : decide ((57 : Int) < (s[k].toNat : Int)) = true := by exact decide_eq_true (by omega)
            have e95 : ((s[k].toNat : Int) == 95) = false := by rw [beq_eq_false_iff_ne]; omega
            have OK := Lib.hid (show okN k (gOf s 0 k) = true by rw [← HC.out, okN, show letB s[k].toNat = true from decide_eq_true (by omega)]; rfl)
            clear cc hcb kz0
            go_wp2
            go_roundg (s.size - (k + 1))
            case measure => have := hh.out.2; omega
            case rel => exact ⟨k + 1, by go_num, by omega, ⟨fun i hi => by
              by_cases he : i = k
              · subst he; exact OK.out
              · exact hh.out.1 i (by omega), rfl⟩, rfl⟩
          · have g97 : decide ((97 : Int) ≤ (s[k].toNat : Int)) = true := by exact decide_eq_true (by omega)
            have g65 : decide ((65 : Int) ≤ (s[k].toNat : Int)) = true := by exact decide_eq_true (by omega)
            have l122 : decide ((s[k].toNat : Int) ≤ 122) = false := by exact decide_eq_false (by omega)
            have l90 : decide ((s[k].toNat : Int) ≤ 90) = false := by exact decide_eq_false (by omega)
            have l48 : decide ((s[k].toNat : Int) < 48) = false := by exact decide_eq_false (by omega)
            have g57 : decide ((57 : Int) < (s[k].toNat : Int)) = true := by exact decide_eq_true (by omega)
            have e95 : ((s[k].toNat : Int) == 95) = false := by rw [beq_eq_false_iff_ne]; omega
            have L := Lib.hid (show nameB s = false from name_no hp (by rw [← HC.out, okN, show letB s[k].toNat = false from decide_eq_false (by omega), show dgB s[k].toNat = false from decide_eq_false (by omega)]; simp))
            rcases kz0 with kz | kz
            · subst kz
              clear cc hcb
              go_wp2
              go_ret
              exact ⟨by (rw [L.out]) <;> rfl, rfl⟩
            · have e1 : ((k : Int) == 0) = false := by rw [beq_eq_false_iff_ne]; omega
              clear cc hcb kz
              go_wp2
              go_ret
              exact ⟨by (rw [L.out]) <;> rfl, rfl⟩
        · have L := Lib.hid (show nameB s = true from name_yes SZ.out.1 SZ.out.2 fun i hi => hh.out.1 i (by omega))
          go_wp2
          go_ret
          exact ⟨by (rw [L.out]) <;> rfl, rfl⟩
end Go.Proofs.Ythcpgbbmgabpnaa
