import Derived.Test.YtjckpkamhdbcnaaGreatDoorZh
import Derived.Test.YtjckpkamhdbcnaaGreatDoorZy
namespace Go.Proofs.YtjckpkamhdbcnaaGreatDoor
set_option maxRecDepth 100000
set_option maxHeartbeats 64000000
set_option linter.unusedSimpArgs false
set_option linter.unusedVariables false
open Go.RowKit
theorem Qw0 (s : ByteArray) (i : Nat) (h : i < s.size) : (s[i]'h).toNat = gOf s 0 i := by
 rw [gOf, Nat.zero_add, Qj2, List.getD_eq_getElem?_getD, gE (by rw [Qbn]; exact h)]; rfl
theorem Qpo (s : ByteArray) (hs : s.size <= 9223372036854775807) (w : World) : Calls Tryz.prog 123 #[.string s] w fun e w' => e = .returned (.bool (nameB s)) /\ w' = w := by
 have i2 : (s.size : Int) <= 9223372036854775807 := by omega
 by_cases h0 : s.size = 0
 ·have L := Hd (show nameB s = false by rw [nameB, dF (by omega)]; rfl)
  have e0 : s.toList.isEmpty = true := by
   rw [ByteArray.toList_eq, List.isEmpty_iff]
   exact List.eq_nil_of_length_eq_zero (by rw [Qbn]; exact h0)
  clear h0
  go_enter Tryz.func123, Tryz.ntmps123
  go_wp2
  go_ret
  exact ⟨by (rw [L.out]) <;> rfl, rfl⟩
 have e0 : s.toList.isEmpty = false := by
  rw [ByteArray.toList_eq, Bool.eq_false_iff, ne_eq, List.isEmpty_iff]
  intro h
  have := Qbn s
  rw [h] at this
  simp at this; omega
 by_cases h32 : (32 : Int) < s.size
 ·have L := Hd (show nameB s = false by rw [nameB, dF (by omega)]; rfl)
  clear h0
  go_enter Tryz.func123, Tryz.ntmps123
  go_wp2
  go_ret
  exact ⟨by (rw [L.out]) <;> rfl, rfl⟩
 have SZ := Hd (And.intro (show 0 < s.size by omega) (show s.size <= 32 by omega))
 clear h0
 go_enter Tryz.func123, Tryz.ntmps123
 go_wp2_with fail
 go_loopg [3] s.size (fun g v wr => ∃ k : Nat, v = .int .i64 k /\ k <= s.size /\ Hid ((∀ i, i < k -> okN i (gOf s 0 i) = true) /\ g = s.size - k) /\ wr = w)
 case atStart => exact ⟨0, rfl, Nat.zero_le _, ⟨fun i h => by omega, rfl⟩, rfl⟩
 case round =>
  obtain ⟨k, rfl, hk, hh, rfl⟩ := hrel
  by_cases hp : k < s.size
  ·have hc0 := Qw0 s k hp
   have j1 : (k : Int) < s.size := by omega
   have hcb := Qb9 s 0 k
   rw [← hc0] at hcb
   have HC := Hd hc0
   have hcc : (0 <= s[k].toNat /\ s[k].toNat <= 47) \/ (48 <= s[k].toNat /\ s[k].toNat <= 57) \/ (58 <= s[k].toNat /\ s[k].toNat <= 64) \/ (65 <= s[k].toNat /\ s[k].toNat <= 90) \/ (91 <= s[k].toNat /\ s[k].toNat <= 94) \/ (95 <= s[k].toNat /\ s[k].toNat <= 95) \/ (96 <= s[k].toNat /\ s[k].toNat <= 96) \/ (97 <= s[k].toNat /\ s[k].toNat <= 122) \/ (123 <= s[k].toNat /\ s[k].toNat <= 255) := by omega
   clear hc0
   have kz0 : k = 0 \/ k ≠ 0 := by omega
   rcases hcc with cc | cc | cc | cc | cc | cc | cc | cc | cc
   ·have g97 : decide ((97 : Int) <= (s[k].toNat : Int)) = false := by exact dF (by omega)
    have g65 : decide ((65 : Int) <= (s[k].toNat : Int)) = false := by exact dF (by omega)
    have l122 : decide ((s[k].toNat : Int) <= 122) = true := by exact dT (by omega)
    have l90 : decide ((s[k].toNat : Int) <= 90) = true := by exact dT (by omega)
    have l48 : decide ((s[k].toNat : Int) < 48) = true := by exact dT (by omega)
    have g57 : decide ((57 : Int) < (s[k].toNat : Int)) = false := by exact dF (by omega)
    have e95 : ((s[k].toNat : Int) == 95) = false := by rw [bN]; omega
    have L := Hd (show nameB s = false from Qcq hp (by rw [← HC.out, okN, show letB s[k].toNat = false from dF (by omega), show dgB s[k].toNat = false from dF (by omega)]; simp))
    rcases kz0 with kz | kz
    ·subst kz
     clear cc hcb
     go_wp2
     go_ret
     exact ⟨by (rw [L.out]) <;> rfl, rfl⟩
    have e1 : ((k : Int) == 0) = false := by rw [bN]; omega
    clear cc hcb kz
    go_wp2
    go_ret
    exact ⟨by (rw [L.out]) <;> rfl, rfl⟩
   ·have g97 : decide ((97 : Int) <= (s[k].toNat : Int)) = false := by exact dF (by omega)
    have g65 : decide ((65 : Int) <= (s[k].toNat : Int)) = false := by exact dF (by omega)
    have l122 : decide ((s[k].toNat : Int) <= 122) = true := by exact dT (by omega)
    have l90 : decide ((s[k].toNat : Int) <= 90) = true := by exact dT (by omega)
    have l48 : decide ((s[k].toNat : Int) < 48) = false := by exact dF (by omega)
    have g57 : decide ((57 : Int) < (s[k].toNat : Int)) = false := by exact dF (by omega)
    have e95 : ((s[k].toNat : Int) == 95) = false := by rw [bN]; omega
    rcases kz0 with kz | kz
    ·have L := Hd (show nameB s = false from Qcq hp (by rw [← HC.out, okN, show letB s[k].toNat = false from dF (by omega), dF (show ¬ k ≠ 0 by omega)]; rfl))
     subst kz
     clear cc hcb
     go_wp2
     go_ret
     exact ⟨by (rw [L.out]) <;> rfl, rfl⟩
    have OK := Hd (show okN k (gOf s 0 k) = true by rw [← HC.out, okN, show dgB s[k].toNat = true from dT (by omega), dT kz]; simp)
    have e1 : ((k : Int) == 0) = false := by rw [bN]; omega
    clear cc hcb kz
    go_wp2
    go_roundg (s.size - (k + 1))
    case measure => have := hh.out.2; omega
    case rel => exact ⟨k + 1, by go_num, by omega, ⟨fun i hi => by
     by_cases he : i = k
     ·subst he; exact OK.out
     exact hh.out.1 i (by omega), rfl⟩, rfl⟩
   ·have g97 : decide ((97 : Int) <= (s[k].toNat : Int)) = false := by exact dF (by omega)
    have g65 : decide ((65 : Int) <= (s[k].toNat : Int)) = false := by exact dF (by omega)
    have l122 : decide ((s[k].toNat : Int) <= 122) = true := by exact dT (by omega)
    have l90 : decide ((s[k].toNat : Int) <= 90) = true := by exact dT (by omega)
    have l48 : decide ((s[k].toNat : Int) < 48) = false := by exact dF (by omega)
    have g57 : decide ((57 : Int) < (s[k].toNat : Int)) = true := by exact dT (by omega)
    have e95 : ((s[k].toNat : Int) == 95) = false := by rw [bN]; omega
    have L := Hd (show nameB s = false from Qcq hp (by rw [← HC.out, okN, show letB s[k].toNat = false from dF (by omega), show dgB s[k].toNat = false from dF (by omega)]; simp))
    rcases kz0 with kz | kz
    ·subst kz
     clear cc hcb
     go_wp2
     go_ret
     exact ⟨by (rw [L.out]) <;> rfl, rfl⟩
    have e1 : ((k : Int) == 0) = false := by rw [bN]; omega
    clear cc hcb kz
    go_wp2
    go_ret
    exact ⟨by (rw [L.out]) <;> rfl, rfl⟩
   ·have g97 : decide ((97 : Int) <= (s[k].toNat : Int)) = false := by exact dF (by omega)
    have g65 : decide ((65 : Int) <= (s[k].toNat : Int)) = true := by exact dT (by omega)
    have l122 : decide ((s[k].toNat : Int) <= 122) = true := by exact dT (by omega)
    have l90 : decide ((s[k].toNat : Int) <= 90) = true := by exact dT (by omega)
    have l48 : decide ((s[k].toNat : Int) < 48) = false := by exact dF (by omega)
    have g57 : decide ((57 : Int) < (s[k].toNat : Int)) = true := by exact dT (by omega)
    have e95 : ((s[k].toNat : Int) == 95) = false := by rw [bN]; omega
    have OK := Hd (show okN k (gOf s 0 k) = true by rw [← HC.out, okN, show letB s[k].toNat = true from dT (by omega)]; rfl)
    clear cc hcb kz0
    go_wp2
    go_roundg (s.size - (k + 1))
    case measure => have := hh.out.2; omega
    case rel => exact ⟨k + 1, by go_num, by omega, ⟨fun i hi => by
     by_cases he : i = k
     ·subst he; exact OK.out
     exact hh.out.1 i (by omega), rfl⟩, rfl⟩
   ·have g97 : decide ((97 : Int) <= (s[k].toNat : Int)) = false := by exact dF (by omega)
    have g65 : decide ((65 : Int) <= (s[k].toNat : Int)) = true := by exact dT (by omega)
    have l122 : decide ((s[k].toNat : Int) <= 122) = true := by exact dT (by omega)
    have l90 : decide ((s[k].toNat : Int) <= 90) = false := by exact dF (by omega)
    have l48 : decide ((s[k].toNat : Int) < 48) = false := by exact dF (by omega)
    have g57 : decide ((57 : Int) < (s[k].toNat : Int)) = true := by exact dT (by omega)
    have e95 : ((s[k].toNat : Int) == 95) = false := by rw [bN]; omega
    have L := Hd (show nameB s = false from Qcq hp (by rw [← HC.out, okN, show letB s[k].toNat = false from dF (by omega), show dgB s[k].toNat = false from dF (by omega)]; simp))
    rcases kz0 with kz | kz
    ·subst kz
     clear cc hcb
     go_wp2
     go_ret
     exact ⟨by (rw [L.out]) <;> rfl, rfl⟩
    have e1 : ((k : Int) == 0) = false := by rw [bN]; omega
    clear cc hcb kz
    go_wp2
    go_ret
    exact ⟨by (rw [L.out]) <;> rfl, rfl⟩
   ·have g97 : decide ((97 : Int) <= (s[k].toNat : Int)) = false := by exact dF (by omega)
    have g65 : decide ((65 : Int) <= (s[k].toNat : Int)) = true := by exact dT (by omega)
    have l122 : decide ((s[k].toNat : Int) <= 122) = true := by exact dT (by omega)
    have l90 : decide ((s[k].toNat : Int) <= 90) = false := by exact dF (by omega)
    have l48 : decide ((s[k].toNat : Int) < 48) = false := by exact dF (by omega)
    have g57 : decide ((57 : Int) < (s[k].toNat : Int)) = true := by exact dT (by omega)
    have e95 : ((s[k].toNat : Int) == 95) = true := by rw [beq_iff_eq]; omega
    have OK := Hd (show okN k (gOf s 0 k) = true by rw [← HC.out, okN, show letB s[k].toNat = true from dT (by omega)]; rfl)
    clear cc hcb kz0
    go_wp2
    go_roundg (s.size - (k + 1))
    case measure => have := hh.out.2; omega
    case rel => exact ⟨k + 1, by go_num, by omega, ⟨fun i hi => by
     by_cases he : i = k
     ·subst he; exact OK.out
     exact hh.out.1 i (by omega), rfl⟩, rfl⟩
   ·have g97 : decide ((97 : Int) <= (s[k].toNat : Int)) = false := by exact dF (by omega)
    have g65 : decide ((65 : Int) <= (s[k].toNat : Int)) = true := by exact dT (by omega)
    have l122 : decide ((s[k].toNat : Int) <= 122) = true := by exact dT (by omega)
    have l90 : decide ((s[k].toNat : Int) <= 90) = false := by exact dF (by omega)
    have l48 : decide ((s[k].toNat : Int) < 48) = false := by exact dF (by omega)
    have g57 : decide ((57 : Int) < (s[k].toNat : Int)) = true := by exact dT (by omega)
    have e95 : ((s[k].toNat : Int) == 95) = false := by rw [bN]; omega
    have L := Hd (show nameB s = false from Qcq hp (by rw [← HC.out, okN, show letB s[k].toNat = false from dF (by omega), show dgB s[k].toNat = false from dF (by omega)]; simp))
    rcases kz0 with kz | kz
    ·subst kz
     clear cc hcb
     go_wp2
     go_ret
     exact ⟨by (rw [L.out]) <;> rfl, rfl⟩
    have e1 : ((k : Int) == 0) = false := by rw [bN]; omega
    clear cc hcb kz
    go_wp2
    go_ret
    exact ⟨by (rw [L.out]) <;> rfl, rfl⟩
   ·have g97 : decide ((97 : Int) <= (s[k].toNat : Int)) = true := by exact dT (by omega)
    have g65 : decide ((65 : Int) <= (s[k].toNat : Int)) = true := by exact dT (by omega)
    have l122 : decide ((s[k].toNat : Int) <= 122) = true := by exact dT (by omega)
    have l90 : decide ((s[k].toNat : Int) <= 90) = false := by exact dF (by omega)
    have l48 : decide ((s[k].toNat : Int) < 48) = false := by exact dF (by omega)
    have g57 : decide ((57 : Int) < (s[k].toNat : Int)) = true := by exact dT (by omega)
    have e95 : ((s[k].toNat : Int) == 95) = false := by rw [bN]; omega
    have OK := Hd (show okN k (gOf s 0 k) = true by rw [← HC.out, okN, show letB s[k].toNat = true from dT (by omega)]; rfl)
    clear cc hcb kz0
    go_wp2
    go_roundg (s.size - (k + 1))
    case measure => have := hh.out.2; omega
    case rel => exact ⟨k + 1, by go_num, by omega, ⟨fun i hi => by
     by_cases he : i = k
     ·subst he; exact OK.out
     exact hh.out.1 i (by omega), rfl⟩, rfl⟩
   have g97 : decide ((97 : Int) <= (s[k].toNat : Int)) = true := by exact dT (by omega)
   have g65 : decide ((65 : Int) <= (s[k].toNat : Int)) = true := by exact dT (by omega)
   have l122 : decide ((s[k].toNat : Int) <= 122) = false := by exact dF (by omega)
   have l90 : decide ((s[k].toNat : Int) <= 90) = false := by exact dF (by omega)
   have l48 : decide ((s[k].toNat : Int) < 48) = false := by exact dF (by omega)
   have g57 : decide ((57 : Int) < (s[k].toNat : Int)) = true := by exact dT (by omega)
   have e95 : ((s[k].toNat : Int) == 95) = false := by rw [bN]; omega
   have L := Hd (show nameB s = false from Qcq hp (by rw [← HC.out, okN, show letB s[k].toNat = false from dF (by omega), show dgB s[k].toNat = false from dF (by omega)]; simp))
   rcases kz0 with kz | kz
   ·subst kz
    clear cc hcb
    go_wp2
    go_ret
    exact ⟨by (rw [L.out]) <;> rfl, rfl⟩
   have e1 : ((k : Int) == 0) = false := by rw [bN]; omega
   clear cc hcb kz
   go_wp2
   go_ret
   exact ⟨by (rw [L.out]) <;> rfl, rfl⟩
  have L := Hd (show nameB s = true from Qj3 SZ.out.1 SZ.out.2 fun i hi => hh.out.1 i (by omega))
  go_wp2
  go_ret
  exact ⟨by (rw [L.out]) <;> rfl, rfl⟩
theorem Qce (s : ByteArray) (hs : s.size <= 9223372036854775807) (w : World) :
  Calls Tryz.prog 83 #[.string s] w fun e w' => e = .returned (.bool (wordB s)) /\ Bel w w' := by
 have CN := Hd fun W => (Qpo s hs W).mono fun e w' ⟨he, hw⟩ => (⟨he, hw ▸ Bel.refl _⟩ : _ /\ Bel W w')
 have WB := Hd (show wordB s = (!(resL.contains s.data.toList) && nameB s) from rfl)
 generalize wordB s = q at WB ⊢
 generalize nameB s = z at WB CN
 by_cases hm : s.data.toList ∈ resL
 ·obtain rfl : q = false := by
   rw [WB.out, List.contains_iff_mem.2 hm]; rfl
  clear WB
  simp only [resL, List.mem_cons, List.not_mem_nil, or_false] at hm
  rcases hm with hk | hk | hk | hk | hk | hk | hk | hk | hk
  ·have r0 : (s.toList == [110, 117, 108, 108]) = true := by rw [Qad, hk]; decide
   clear hk
   go_enter Tryz.func83, Tryz.ntmps83
   go_wp2_with fail
   go_ret
   exact ⟨rfl, Bel.refl _⟩
  ·have r0 : (s.toList == [110, 117, 108, 108]) = false := by rw [Qad, hk]; decide
   have r1 : (s.toList == [116, 114, 117, 101]) = true := by rw [Qad, hk]; decide
   clear hk
   go_enter Tryz.func83, Tryz.ntmps83
   go_wp2_with fail
   go_ret
   exact ⟨rfl, Bel.refl _⟩
  ·have r0 : (s.toList == [110, 117, 108, 108]) = false := by rw [Qad, hk]; decide
   have r1 : (s.toList == [116, 114, 117, 101]) = false := by rw [Qad, hk]; decide
   have r2 : (s.toList == [102, 97, 108, 115, 101]) = true := by rw [Qad, hk]; decide
   clear hk
   go_enter Tryz.func83, Tryz.ntmps83
   go_wp2_with fail
   go_ret
   exact ⟨rfl, Bel.refl _⟩
  ·have r0 : (s.toList == [110, 117, 108, 108]) = false := by rw [Qad, hk]; decide
   have r1 : (s.toList == [116, 114, 117, 101]) = false := by rw [Qad, hk]; decide
   have r2 : (s.toList == [102, 97, 108, 115, 101]) = false := by rw [Qad, hk]; decide
   have r3 : (s.toList == [97, 110, 100]) = true := by rw [Qad, hk]; decide
   clear hk
   go_enter Tryz.func83, Tryz.ntmps83
   go_wp2_with fail
   go_ret
   exact ⟨rfl, Bel.refl _⟩
  ·have r0 : (s.toList == [110, 117, 108, 108]) = false := by rw [Qad, hk]; decide
   have r1 : (s.toList == [116, 114, 117, 101]) = false := by rw [Qad, hk]; decide
   have r2 : (s.toList == [102, 97, 108, 115, 101]) = false := by rw [Qad, hk]; decide
   have r3 : (s.toList == [97, 110, 100]) = false := by rw [Qad, hk]; decide
   have r4 : (s.toList == [111, 114]) = true := by rw [Qad, hk]; decide
   clear hk
   go_enter Tryz.func83, Tryz.ntmps83
   go_wp2_with fail
   go_ret
   exact ⟨rfl, Bel.refl _⟩
  ·have r0 : (s.toList == [110, 117, 108, 108]) = false := by rw [Qad, hk]; decide
   have r1 : (s.toList == [116, 114, 117, 101]) = false := by rw [Qad, hk]; decide
   have r2 : (s.toList == [102, 97, 108, 115, 101]) = false := by rw [Qad, hk]; decide
   have r3 : (s.toList == [97, 110, 100]) = false := by rw [Qad, hk]; decide
   have r4 : (s.toList == [111, 114]) = false := by rw [Qad, hk]; decide
   have r5 : (s.toList == [110, 111, 116]) = true := by rw [Qad, hk]; decide
   clear hk
   go_enter Tryz.func83, Tryz.ntmps83
   go_wp2_with fail
   go_ret
   exact ⟨rfl, Bel.refl _⟩
  ·have r0 : (s.toList == [110, 117, 108, 108]) = false := by rw [Qad, hk]; decide
   have r1 : (s.toList == [116, 114, 117, 101]) = false := by rw [Qad, hk]; decide
   have r2 : (s.toList == [102, 97, 108, 115, 101]) = false := by rw [Qad, hk]; decide
   have r3 : (s.toList == [97, 110, 100]) = false := by rw [Qad, hk]; decide
   have r4 : (s.toList == [111, 114]) = false := by rw [Qad, hk]; decide
   have r5 : (s.toList == [110, 111, 116]) = false := by rw [Qad, hk]; decide
   have r6 : (s.toList == [105, 102]) = true := by rw [Qad, hk]; decide
   clear hk
   go_enter Tryz.func83, Tryz.ntmps83
   go_wp2_with fail
   go_ret
   exact ⟨rfl, Bel.refl _⟩
  ·have r0 : (s.toList == [110, 117, 108, 108]) = false := by rw [Qad, hk]; decide
   have r1 : (s.toList == [116, 114, 117, 101]) = false := by rw [Qad, hk]; decide
   have r2 : (s.toList == [102, 97, 108, 115, 101]) = false := by rw [Qad, hk]; decide
   have r3 : (s.toList == [97, 110, 100]) = false := by rw [Qad, hk]; decide
   have r4 : (s.toList == [111, 114]) = false := by rw [Qad, hk]; decide
   have r5 : (s.toList == [110, 111, 116]) = false := by rw [Qad, hk]; decide
   have r6 : (s.toList == [105, 102]) = false := by rw [Qad, hk]; decide
   have r7 : (s.toList == [116, 104, 101, 110]) = true := by rw [Qad, hk]; decide
   clear hk
   go_enter Tryz.func83, Tryz.ntmps83
   go_wp2_with fail
   go_ret
   exact ⟨rfl, Bel.refl _⟩
  have r0 : (s.toList == [110, 117, 108, 108]) = false := by rw [Qad, hk]; decide
  have r1 : (s.toList == [116, 114, 117, 101]) = false := by rw [Qad, hk]; decide
  have r2 : (s.toList == [102, 97, 108, 115, 101]) = false := by rw [Qad, hk]; decide
  have r3 : (s.toList == [97, 110, 100]) = false := by rw [Qad, hk]; decide
  have r4 : (s.toList == [111, 114]) = false := by rw [Qad, hk]; decide
  have r5 : (s.toList == [110, 111, 116]) = false := by rw [Qad, hk]; decide
  have r6 : (s.toList == [105, 102]) = false := by rw [Qad, hk]; decide
  have r7 : (s.toList == [116, 104, 101, 110]) = false := by rw [Qad, hk]; decide
  have r8 : (s.toList == [101, 108, 115, 101]) = true := by rw [Qad, hk]; decide
  clear hk
  go_enter Tryz.func83, Tryz.ntmps83
  go_wp2_with fail
  go_ret
  exact ⟨rfl, Bel.refl _⟩
 have hc : resL.contains s.data.toList = false := by rw [Bool.eq_false_iff]; exact fun h => hm (List.contains_iff_mem.1 h)
 obtain rfl : q = z := by rw [WB.out, hc]; rfl
 clear WB hm
 simp only [resL, List.contains_cons, List.contains_nil, Bool.or_false, Bool.or_eq_false_iff] at hc
 obtain ⟨k0, k1, k2, k3, k4, k5, k6, k7, k8⟩ := hc
 rw [← Qad] at k0
 rw [← Qad] at k1
 rw [← Qad] at k2
 rw [← Qad] at k3
 rw [← Qad] at k4
 rw [← Qad] at k5
 rw [← Qad] at k6
 rw [← Qad] at k7
 rw [← Qad] at k8
 go_enter Tryz.func83, Tryz.ntmps83
 go_wp2_with (go_at_call 123; refine (CN.out _).mono ?_; rintro e W2 ⟨rfl, hb2⟩)
 go_ret
 exact ⟨rfl, hb2⟩
end Go.Proofs.YtjckpkamhdbcnaaGreatDoor
