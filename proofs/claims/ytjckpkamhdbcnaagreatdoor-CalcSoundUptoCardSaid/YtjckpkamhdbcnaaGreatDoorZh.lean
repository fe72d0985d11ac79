import Derived.Test.YtjckpkamhdbcnaaGreatDoorZg
namespace Go.Proofs.YtjckpkamhdbcnaaGreatDoor
set_option maxRecDepth 100000
set_option maxHeartbeats 64000000
set_option linter.unusedSimpArgs false
set_option linter.unusedVariables false
section
open Go.RowKit
theorem Qad (s : ByteArray) (l : List UInt8) : (s.toList == l) = (s.data.toList == l) := by rw [ByteArray.toList_eq]
def resL : List (List UInt8) := [[110, 117, 108, 108], [116, 114, 117, 101], [102, 97, 108, 115, 101], [97, 110, 100], [111, 114], [110, 111, 116], [105, 102], [116, 104, 101, 110], [101, 108, 115, 101]]
def wordB (s : ByteArray) : Bool := !(resL.contains s.data.toList) && nameB s
theorem Qtv : ∀ c : UInt8, decide (0 <= Lib.indexByte (⟨#[43, 45, 42, 47, 61, 60, 62, 40, 41, 91, 93, 44]⟩ : ByteArray).data.toList c) = sg1.contains c := by
 intro c
 rw [Bool.eq_iff_iff, decide_eq_true_eq, List.contains_iff_mem]
 have h1 := @Lib.indexByte_none (⟨#[43, 45, 42, 47, 61, 60, 62, 40, 41, 91, 93, 44]⟩ : ByteArray).data.toList c
 have h2 := @Lib.indexByte_some (⟨#[43, 45, 42, 47, 61, 60, 62, 40, 41, 91, 93, 44]⟩ : ByteArray).data.toList c
 have h3 := Lib.indexByte_ge (⟨#[43, 45, 42, 47, 61, 60, 62, 40, 41, 91, 93, 44]⟩ : ByteArray).data.toList c
 have e : (⟨#[43, 45, 42, 47, 61, 60, 62, 40, 41, 91, 93, 44]⟩ : ByteArray).data.toList = sg1 := rfl
 rw [e] at h1 h2 h3 ⊢
 constructor
 ·intro h
  obtain ⟨o, ho⟩ : ∃ o : Nat, Lib.indexByte sg1 c = o := ⟨(Lib.indexByte sg1 c).toNat, by omega⟩
  exact List.mem_of_getElem? (h2 ho).1
 intro hm
 rcases Int.lt_or_le (Lib.indexByte sg1 c) 0 with hlt | hge
 ·obtain ⟨i, hi⟩ := List.mem_iff_getElem?.1 hm
  exact absurd hi (h1 (by omega) i)
 exact hge
theorem Qqj {l : List UInt8} {c : UInt8} {t : List UInt8} (h : l = c :: t) : l.take 1 = [c] := by rw [h]; rfl
theorem Qqk {l : List UInt8} {c : UInt8} {t : List UInt8} (h : l = c :: t) (h2 : sg2.contains (l.take 2) = false) : sigL l = if sg1.contains c = true then [c] else [] := by
 unfold sigL
 rw [iN (by rw [h2]; simp), Qqj h]
 by_cases hc : sg1.contains c = true
 ·rw [iP hc, iP ⟨c, List.contains_iff_mem.1 hc, rfl⟩]
 rw [iN hc, iN]
 rintro ⟨d, hd, e⟩
 obtain rfl : c = d := by simpa using e
 exact hc (List.contains_iff_mem.2 hd)
theorem Qho (s : ByteArray) (hs : s.size <= 9223372036854775807) (w : World) :
  Calls Tryz.prog 136 #[.string s] w fun e w' => e = .returned (.string (Qaa (sigL s.data.toList))) /\ Bel w w' := by
 have SG := Hd (show sigL s.data.toList = sigL s.data.toList from rfl)
 have hlz := Qag s
 have X2 : (s.extract 0 2).data.toList = s.data.toList.take 2 := by rw [Qcr, Qam]; simp
 have X1 : (s.extract 0 1) = Qaa (s.data.toList.take 1) := by rw [Qcr]; simp
 have x2 : s.extract 0 2 = Qaa (s.data.toList.take 2) := by rw [Qcr]; simp
 obtain ⟨q, hq⟩ : ∃ q, q = sigL s.data.toList := ⟨_, rfl⟩
 rw [← hq]
 by_cases h2 : s.data.toList.take 2 ∈ sg2
 ·have hq2 : q = s.data.toList.take 2 := by rw [hq]; unfold sigL; rw [iP (List.contains_iff_mem.2 h2)]
  have hsz : 2 <= s.size := by
   have : (s.data.toList.take 2).length = 2 := by
    have hh : ∀ g ∈ sg2, g.length = 2 := by decide
    exact hh _ h2
   rw [List.length_take] at this
   omega
  have i2 : (2 : Int) <= s.size := by omega
  have QX := Hd (show s.extract 0 2 = Qaa q from by rw [x2, hq2])
  clear hq hq2 X1 x2 SG hlz
  simp only [sg2, List.mem_cons, List.not_mem_nil, or_false] at h2
  rw [← X2] at h2
  clear X2
  rcases h2 with hk | hk | hk | hk
  ·have r0 : ((s.extract 0 2).toList == [46, 46]) = true := by rw [Qad, hk]; decide
   clear hk
   go_enter Tryz.func136, Tryz.ntmps136
   go_wp2_with fail
   go_ret
   exact ⟨by rw [QX.out]; rfl, Bel.refl _⟩
  ·have r0 : ((s.extract 0 2).toList == [46, 46]) = false := by rw [Qad, hk]; decide
   have r1 : ((s.extract 0 2).toList == [33, 61]) = true := by rw [Qad, hk]; decide
   clear hk
   go_enter Tryz.func136, Tryz.ntmps136
   go_wp2_with fail
   go_ret
   exact ⟨by rw [QX.out]; rfl, Bel.refl _⟩
  ·have r0 : ((s.extract 0 2).toList == [46, 46]) = false := by rw [Qad, hk]; decide
   have r1 : ((s.extract 0 2).toList == [33, 61]) = false := by rw [Qad, hk]; decide
   have r2 : ((s.extract 0 2).toList == [60, 61]) = true := by rw [Qad, hk]; decide
   clear hk
   go_enter Tryz.func136, Tryz.ntmps136
   go_wp2_with fail
   go_ret
   exact ⟨by rw [QX.out]; rfl, Bel.refl _⟩
  have r0 : ((s.extract 0 2).toList == [46, 46]) = false := by rw [Qad, hk]; decide
  have r1 : ((s.extract 0 2).toList == [33, 61]) = false := by rw [Qad, hk]; decide
  have r2 : ((s.extract 0 2).toList == [60, 61]) = false := by rw [Qad, hk]; decide
  have r3 : ((s.extract 0 2).toList == [62, 61]) = true := by rw [Qad, hk]; decide
  clear hk
  go_enter Tryz.func136, Tryz.ntmps136
  go_wp2_with fail
  go_ret
  exact ⟨by rw [QX.out]; rfl, Bel.refl _⟩
 have hc : sg2.contains (s.data.toList.take 2) = false := by rw [Bool.eq_false_iff]; exact fun h => h2 (List.contains_iff_mem.1 h)
 clear h2
 cases hl : s.data.toList with
 | nil =>
  have hz : s.size = 0 := by rw [hl] at hlz; simpa using hlz.symm
  obtain rfl : q = [] := by rw [hq, hl]; decide
  have i2 : ¬ (2 : Int) <= s.size := by omega
  have i3 : decide ((s.size : Int) >= 2) = false := dF (by omega)
  have e0 : s.toList.isEmpty = true := by rw [ByteArray.toList_eq, hl]; rfl
  have e1 : s.toList = [] := by rw [ByteArray.toList_eq, hl]
  clear hq hl hlz hz X1 X2 x2 SG hc
  go_enter Tryz.func136, Tryz.ntmps136
  go_wp2_with fail
  go_ret
  exact ⟨rfl, Bel.refl _⟩
 | cons c t =>
  have hsz : 1 <= s.size := by rw [hl] at hlz; simp only [List.length_cons] at hlz; omega
  have i1 : (1 : Int) <= s.size := by omega
  have e0 : s.toList.isEmpty = false := by rw [ByteArray.toList_eq, hl]; rfl
  have hqs := Qqk hl hc
  rw [← hq] at hqs
  have CC := Hd fun W => Tryz.strings_Contains_one ⟨#[43, 45, 42, 47, 61, 60, 62, 40, 41, 91, 93, 44]⟩ c W
  rw [Qtv] at CC
  have GX := Hd (show s.extract 0 1 = ⟨#[c]⟩ from by rw [X1, hl]; rfl)
  have QC := Hd hqs
  have XL := Hd (show ∀ g, sg2.contains g = false -> g = (s.extract 0 2).data.toList -> True from fun _ _ _ => trivial)
  rw [← X2] at hc
  clear hq hl hlz X1 X2 x2 SG hqs
  simp only [sg2, List.contains_cons, List.contains_nil, Bool.or_false, Bool.or_eq_false_iff] at hc
  obtain ⟨k0, k1, k2, k3⟩ := hc
  rw [← Qad] at k0 k1 k2 k3
  have h2 : (2 : Int) <= s.size \/ s.size = 1 := by omega
  cases hz : sg1.contains c with
  | true =>
   rw [hz] at CC
   have QC := Hd (show q = [c] from by rw [QC.out, hz]; rfl)
   rcases h2 with h2 | h2
   ·clear hz
    go_enter Tryz.func136, Tryz.ntmps136
    go_wp2_with (go_at_call 174; rw [GX.out]; refine (CC.out _).mono ?_; rintro e W2 ⟨rfl, rfl⟩)
    go_ret
    exact ⟨by rw [GX.out, QC.out]; rfl, Bel.refl _⟩
   ·have i3 : decide ((s.size : Int) >= 2) = false := dF (by omega)
    have i4 : ¬ (2 : Int) <= s.size := by omega
    have i5 : (s.size : Int) < 2 := by omega
    clear hz h2
    go_enter Tryz.func136, Tryz.ntmps136
    go_wp2_with (go_at_call 174; rw [GX.out]; refine (CC.out _).mono ?_; rintro e W2 ⟨rfl, rfl⟩)
    go_ret
    exact ⟨by rw [GX.out, QC.out]; rfl, Bel.refl _⟩
  | false =>
   rw [hz] at CC
   have QC := Hd (show q = [] from by rw [QC.out, hz]; rfl)
   rcases h2 with h2 | h2
   ·clear hz
    go_enter Tryz.func136, Tryz.ntmps136
    go_wp2_with (go_at_call 174; rw [GX.out]; refine (CC.out _).mono ?_; rintro e W2 ⟨rfl, rfl⟩)
    go_ret
    exact ⟨by rw [QC.out]; rfl, Bel.refl _⟩
   have i3 : decide ((s.size : Int) >= 2) = false := dF (by omega)
   have i4 : ¬ (2 : Int) <= s.size := by omega
   have i5 : (s.size : Int) < 2 := by omega
   clear hz h2
   go_enter Tryz.func136, Tryz.ntmps136
   go_wp2_with (go_at_call 174; rw [GX.out]; refine (CC.out _).mono ?_; rintro e W2 ⟨rfl, rfl⟩)
   go_ret
   exact ⟨by rw [QC.out]; rfl, Bel.refl _⟩
end
section
open Go.RowKit
theorem Qfl (s : ByteArray) (hs : s.size <= 9223372036854775807) (w : World) :
  Calls Tryz.prog 74 #[.string s] w fun e w' => e = .returned (.bool (wordB s)) /\ Bel w w' := by
 have CN := Hd fun W => Qgp s hs W
 have WB := Hd (show wordB s = (!(resL.contains s.data.toList) && nameB s) from rfl)
 generalize wordB s = q at WB ⊢
 generalize nameB s = z at WB CN
 by_cases hm : s.data.toList ∈ resL
 ·obtain rfl : q = false := by
   rw [WB.out, List.contains_iff_mem.2 hm]; rfl
  clear WB
  simp only [resL, List.mem_cons, List.not_mem_nil, or_false] at hm
  rcases hm with hk | hk | hk | hk | hk | hk | hk | hk | hk
  ·have r0 : (s.toList == [110, 117, 108, 108]) = true := by rw [Qad, hk]; decide
   clear hk
   go_enter Tryz.func74, Tryz.ntmps74
   go_wp2_with fail
   go_ret
   exact ⟨rfl, Bel.refl _⟩
  ·have r0 : (s.toList == [110, 117, 108, 108]) = false := by rw [Qad, hk]; decide
   have r1 : (s.toList == [116, 114, 117, 101]) = true := by rw [Qad, hk]; decide
   clear hk
   go_enter Tryz.func74, Tryz.ntmps74
   go_wp2_with fail
   go_ret
   exact ⟨rfl, Bel.refl _⟩
  ·have r0 : (s.toList == [110, 117, 108, 108]) = false := by rw [Qad, hk]; decide
   have r1 : (s.toList == [116, 114, 117, 101]) = false := by rw [Qad, hk]; decide
   have r2 : (s.toList == [102, 97, 108, 115, 101]) = true := by rw [Qad, hk]; decide
   clear hk
   go_enter Tryz.func74, Tryz.ntmps74
   go_wp2_with fail
   go_ret
   exact ⟨rfl, Bel.refl _⟩
  ·have r0 : (s.toList == [110, 117, 108, 108]) = false := by rw [Qad, hk]; decide
   have r1 : (s.toList == [116, 114, 117, 101]) = false := by rw [Qad, hk]; decide
   have r2 : (s.toList == [102, 97, 108, 115, 101]) = false := by rw [Qad, hk]; decide
   have r3 : (s.toList == [97, 110, 100]) = true := by rw [Qad, hk]; decide
   clear hk
   go_enter Tryz.func74, Tryz.ntmps74
   go_wp2_with fail
   go_ret
   exact ⟨rfl, Bel.refl _⟩
  ·have r0 : (s.toList == [110, 117, 108, 108]) = false := by rw [Qad, hk]; decide
   have r1 : (s.toList == [116, 114, 117, 101]) = false := by rw [Qad, hk]; decide
   have r2 : (s.toList == [102, 97, 108, 115, 101]) = false := by rw [Qad, hk]; decide
   have r3 : (s.toList == [97, 110, 100]) = false := by rw [Qad, hk]; decide
   have r4 : (s.toList == [111, 114]) = true := by rw [Qad, hk]; decide
   clear hk
   go_enter Tryz.func74, Tryz.ntmps74
   go_wp2_with fail
   go_ret
   exact ⟨rfl, Bel.refl _⟩
  ·have r0 : (s.toList == [110, 117, 108, 108]) = false := by rw [Qad, hk]; decide
   have r1 : (s.toList == [116, 114, 117, 101]) = false := by rw [Qad, hk]; decide
   have r2 : (s.toList == [102, 97, 108, 115, 101]) = false := by rw [Qad, hk]; decide
   have r3 : (s.toList == [97, 110, 100]) = false := by rw [Qad, hk]; decide
   have r4 : (s.toList == [111, 114]) = false := by rw [Qad, hk]; decide
   have r5 : (s.toList == [110, 111, 116]) = true := by rw [Qad, hk]; decide
   clear hk
   go_enter Tryz.func74, Tryz.ntmps74
   go_wp2_with fail
   go_ret
   exact ⟨rfl, Bel.refl _⟩
  ·have r0 : (s.toList == [110, 117, 108, 108]) = false := by rw [Qad, hk]; decide
   have r1 : (s.toList == [116, 114, 117, 101]) = false := by rw [Qad, hk]; decide
   have r2 : (s.toList == [102, 97, 108, 115, 101]) = false := by rw [Qad, hk]; decide
   have r3 : (s.toList == [97, 110, 100]) = false := by rw [Qad, hk]; decide
   have r4 : (s.toList == [111, 114]) = false := by rw [Qad, hk]; decide
   have r5 : (s.toList == [110, 111, 116]) = false := by rw [Qad, hk]; decide
   have r6 : (s.toList == [105, 102]) = true := by rw [Qad, hk]; decide
   clear hk
   go_enter Tryz.func74, Tryz.ntmps74
   go_wp2_with fail
   go_ret
   exact ⟨rfl, Bel.refl _⟩
  ·have r0 : (s.toList == [110, 117, 108, 108]) = false := by rw [Qad, hk]; decide
   have r1 : (s.toList == [116, 114, 117, 101]) = false := by rw [Qad, hk]; decide
   have r2 : (s.toList == [102, 97, 108, 115, 101]) = false := by rw [Qad, hk]; decide
   have r3 : (s.toList == [97, 110, 100]) = false := by rw [Qad, hk]; decide
   have r4 : (s.toList == [111, 114]) = false := by rw [Qad, hk]; decide
   have r5 : (s.toList == [110, 111, 116]) = false := by rw [Qad, hk]; decide
   have r6 : (s.toList == [105, 102]) = false := by rw [Qad, hk]; decide
   have r7 : (s.toList == [116, 104, 101, 110]) = true := by rw [Qad, hk]; decide
   clear hk
   go_enter Tryz.func74, Tryz.ntmps74
   go_wp2_with fail
   go_ret
   exact ⟨rfl, Bel.refl _⟩
  have r0 : (s.toList == [110, 117, 108, 108]) = false := by rw [Qad, hk]; decide
  have r1 : (s.toList == [116, 114, 117, 101]) = false := by rw [Qad, hk]; decide
  have r2 : (s.toList == [102, 97, 108, 115, 101]) = false := by rw [Qad, hk]; decide
  have r3 : (s.toList == [97, 110, 100]) = false := by rw [Qad, hk]; decide
  have r4 : (s.toList == [111, 114]) = false := by rw [Qad, hk]; decide
  have r5 : (s.toList == [110, 111, 116]) = false := by rw [Qad, hk]; decide
  have r6 : (s.toList == [105, 102]) = false := by rw [Qad, hk]; decide
  have r7 : (s.toList == [116, 104, 101, 110]) = false := by rw [Qad, hk]; decide
  have r8 : (s.toList == [101, 108, 115, 101]) = true := by rw [Qad, hk]; decide
  clear hk
  go_enter Tryz.func74, Tryz.ntmps74
  go_wp2_with fail
  go_ret
  exact ⟨rfl, Bel.refl _⟩
 have hc : resL.contains s.data.toList = false := by rw [Bool.eq_false_iff]; exact fun h => hm (List.contains_iff_mem.1 h)
 obtain rfl : q = z := by rw [WB.out, hc]; rfl
 clear WB hm
 simp only [resL, List.contains_cons, List.contains_nil, Bool.or_false, Bool.or_eq_false_iff] at hc
 obtain ⟨k0, k1, k2, k3, k4, k5, k6, k7, k8⟩ := hc
 rw [← Qad] at k0
 rw [← Qad] at k1
 rw [← Qad] at k2
 rw [← Qad] at k3
 rw [← Qad] at k4
 rw [← Qad] at k5
 rw [← Qad] at k6
 rw [← Qad] at k7
 rw [← Qad] at k8
 go_enter Tryz.func74, Tryz.ntmps74
 go_wp2_with (go_at_call 102; refine (CN.out _).mono ?_; rintro e W2 ⟨rfl, hb2⟩)
 go_ret
 exact ⟨rfl, hb2⟩
end
end Go.Proofs.YtjckpkamhdbcnaaGreatDoor
