import Derived.Test.YtjckpkamhdbcnaaGreatDoorLxg
namespace Go.Proofs.YtjckpkamhdbcnaaGreatDoor
set_option linter.unusedSimpArgs false
set_option linter.unusedVariables false
open Go.RowKit
/-! Words that are kept; signs; dates. -/
theorem tl_eq (s : ByteArray) (l : List UInt8) : (s.toList == l) = (s.data.toList == l) := by rw [ByteArray.toList_eq]
def resL : List (List UInt8) := [[110, 117, 108, 108], [116, 114, 117, 101], [102, 97, 108, 115, 101], [97, 110, 100], [111, 114], [110, 111, 116], [105, 102], [116, 104, 101, 110], [101, 108, 115, 101]]
def wordB (s : ByteArray) : Bool := !(resL.contains s.data.toList) && nameB s
theorem idx_sg1 : ∀ c : UInt8, decide (0 ≤ Lib.indexByte (⟨#[43, 45, 42, 47, 61, 60, 62, 40, 41, 91, 93, 44]⟩ : ByteArray).data.toList c) = sg1.contains c := by
 intro c
 rw [Bool.eq_iff_iff, decide_eq_true_eq, List.contains_iff_mem]
 have h1 := @Lib.indexByte_none (⟨#[43, 45, 42, 47, 61, 60, 62, 40, 41, 91, 93, 44]⟩ : ByteArray).data.toList c
 have h2 := @Lib.indexByte_some (⟨#[43, 45, 42, 47, 61, 60, 62, 40, 41, 91, 93, 44]⟩ : ByteArray).data.toList c
 have h3 := Lib.indexByte_ge (⟨#[43, 45, 42, 47, 61, 60, 62, 40, 41, 91, 93, 44]⟩ : ByteArray).data.toList c
 have e : (⟨#[43, 45, 42, 47, 61, 60, 62, 40, 41, 91, 93, 44]⟩ : ByteArray).data.toList = sg1 := rfl
 rw [e] at h1 h2 h3 ⊢
 constructor
 ·intro h
  obtain ⟨o, ho⟩ : ∃ o : Nat, Lib.indexByte sg1 c = o := ⟨(Lib.indexByte sg1 c).toNat, by omega⟩
  exact List.mem_of_getElem? (h2 ho).1
 ·intro hm
  rcases Int.lt_or_le (Lib.indexByte sg1 c) 0 with hlt | hge
  ·obtain ⟨i, hi⟩ := List.mem_iff_getElem?.1 hm
   exact absurd hi (h1 (by omega) i)
  ·exact hge
theorem take1_is {l : List UInt8} {c : UInt8} {t : List UInt8} (h : l = c :: t) : l.take 1 = [c] := by rw [h]; rfl
theorem sigL_one {l : List UInt8} {c : UInt8} {t : List UInt8} (h : l = c :: t) (h2 : sg2.contains (l.take 2) = false) : sigL l = if sg1.contains c = true then [c] else [] := by
 unfold sigL
 rw [if_neg (by rw [h2]; simp), take1_is h]
 by_cases hc : sg1.contains c = true
 ·rw [if_pos hc, if_pos ⟨c, List.contains_iff_mem.1 hc, rfl⟩]
 ·rw [if_neg hc, if_neg]
  rintro ⟨d, hd, e⟩
  obtain rfl : c = d := by simpa using e
  exact hc (List.contains_iff_mem.2 hd)
set_option maxRecDepth 100000 in
set_option maxHeartbeats 4000000 in
theorem xsign_any (s : ByteArray) (hs : s.size ≤ 9223372036854775807) (w : World) :
  Calls Tryz.prog 136 #[.string s] w fun e w' => e = .returned (.string (bytesOf (sigL s.data.toList))) ∧ Bel w w' := by
 have SG := Lib.hid (show sigL s.data.toList = sigL s.data.toList from rfl)
 have hlz := size_list s
 have X2 : (s.extract 0 2).data.toList = s.data.toList.take 2 := by rw [ext_bytes, bytes_toList]; simp
 have X1 : (s.extract 0 1) = bytesOf (s.data.toList.take 1) := by rw [ext_bytes]; simp
 have x2 : s.extract 0 2 = bytesOf (s.data.toList.take 2) := by rw [ext_bytes]; simp
 obtain ⟨q, hq⟩ : ∃ q, q = sigL s.data.toList := ⟨_, rfl⟩
 rw [← hq]
 by_cases h2 : s.data.toList.take 2 ∈ sg2
 ·have hq2 : q = s.data.toList.take 2 := by rw [hq]; unfold sigL; rw [if_pos (List.contains_iff_mem.2 h2)]
  have hsz : 2 ≤ s.size := by
   have : (s.data.toList.take 2).length = 2 := by
    have hh : ∀ g ∈ sg2, g.length = 2 := by decide
    exact hh _ h2
   rw [List.length_take] at this
   omega
  have i2 : (2 : Int) ≤ s.size := by omega
  have QX := Lib.hid (show s.extract 0 2 = bytesOf q from by rw [x2, hq2])
  clear hq hq2 X1 x2 SG hlz
  simp only [sg2, List.mem_cons, List.not_mem_nil, or_false] at h2
  rw [← X2] at h2
  clear X2
  rcases h2 with hk | hk | hk | hk
  ·have r0 : ((s.extract 0 2).toList == [46, 46]) = true := by rw [tl_eq, hk]; decide
   clear hk
   go_enter Tryz.func136, Tryz.ntmps136
   go_wp2_with fail
   go_ret
   exact ⟨by rw [QX.out]; rfl, Bel.refl _⟩
  ·have r0 : ((s.extract 0 2).toList == [46, 46]) = false := by rw [tl_eq, hk]; decide
   have r1 : ((s.extract 0 2).toList == [33, 61]) = true := by rw [tl_eq, hk]; decide
   clear hk
   go_enter Tryz.func136, Tryz.ntmps136
   go_wp2_with fail
   go_ret
   exact ⟨by rw [QX.out]; rfl, Bel.refl _⟩
  ·have r0 : ((s.extract 0 2).toList == [46, 46]) = false := by rw [tl_eq, hk]; decide
   have r1 : ((s.extract 0 2).toList == [33, 61]) = false := by rw [tl_eq, hk]; decide
   have r2 : ((s.extract 0 2).toList == [60, 61]) = true := by rw [tl_eq, hk]; decide
   clear hk
   go_enter Tryz.func136, Tryz.ntmps136
   go_wp2_with fail
   go_ret
   exact ⟨by rw [QX.out]; rfl, Bel.refl _⟩
  ·have r0 : ((s.extract 0 2).toList == [46, 46]) = false := by rw [tl_eq, hk]; decide
   have r1 : ((s.extract 0 2).toList == [33, 61]) = false := by rw [tl_eq, hk]; decide
   have r2 : ((s.extract 0 2).toList == [60, 61]) = false := by rw [tl_eq, hk]; decide
   have r3 : ((s.extract 0 2).toList == [62, 61]) = true := by rw [tl_eq, hk]; decide
   clear hk
   go_enter Tryz.func136, Tryz.ntmps136
   go_wp2_with fail
   go_ret
   exact ⟨by rw [QX.out]; rfl, Bel.refl _⟩
 ·have hc : sg2.contains (s.data.toList.take 2) = false := by rw [Bool.eq_false_iff]; exact fun h => h2 (List.contains_iff_mem.1 h)
  clear h2
  cases hl : s.data.toList with
  | nil =>
   have hz : s.size = 0 := by rw [hl] at hlz; simpa using hlz.symm
   obtain rfl : q = [] := by rw [hq, hl]; decide
   have i2 : ¬ (2 : Int) ≤ s.size := by omega
   have i3 : decide ((s.size : Int) ≥ 2) = false := decide_eq_false (by omega)
   have e0 : s.toList.isEmpty = true := by rw [ByteArray.toList_eq, hl]; rfl
   have e1 : s.toList = [] := by rw [ByteArray.toList_eq, hl]
   clear hq hl hlz hz X1 X2 x2 SG hc
   go_enter Tryz.func136, Tryz.ntmps136
   go_wp2_with fail
   go_ret
   exact ⟨rfl, Bel.refl _⟩
  | cons c t =>
   have hsz : 1 ≤ s.size := by rw [hl] at hlz; simp only [List.length_cons] at hlz; omega
   have i1 : (1 : Int) ≤ s.size := by omega
   have e0 : s.toList.isEmpty = false := by rw [ByteArray.toList_eq, hl]; rfl
   have hqs := sigL_one hl hc
   rw [← hq] at hqs
   have CC := Lib.hid fun W => Tryz.strings_Contains_one ⟨#[43, 45, 42, 47, 61, 60, 62, 40, 41, 91, 93, 44]⟩ c W
   rw [idx_sg1] at CC
   have GX := Lib.hid (show s.extract 0 1 = ⟨#[c]⟩ from by rw [X1, hl]; rfl)
   have QC := Lib.hid hqs
   have XL := Lib.hid (show ∀ g, sg2.contains g = false → g = (s.extract 0 2).data.toList → True from fun _ _ _ => trivial)
   rw [← X2] at hc
   clear hq hl hlz X1 X2 x2 SG hqs
   simp only [sg2, List.contains_cons, List.contains_nil, Bool.or_false, Bool.or_eq_false_iff] at hc
   obtain ⟨k0, k1, k2, k3⟩ := hc
   rw [← tl_eq] at k0 k1 k2 k3
   have h2 : (2 : Int) ≤ s.size ∨ s.size = 1 := by omega
   cases hz : sg1.contains c with
   | true =>
    rw [hz] at CC
    have QC := Lib.hid (show q = [c] from by rw [QC.out, hz]; rfl)
    rcases h2 with h2 | h2
    ·clear hz
     go_enter Tryz.func136, Tryz.ntmps136
     go_wp2_with (go_at_call 174; rw [GX.out]; refine (CC.out _).mono ?_; rintro e W2 ⟨rfl, rfl⟩)
     go_ret
     exact ⟨by rw [GX.out, QC.out]; rfl, Bel.refl _⟩
    ·have i3 : decide ((s.size : Int) ≥ 2) = false := decide_eq_false (by omega)
     have i4 : ¬ (2 : Int) ≤ s.size := by omega
     have i5 : (s.size : Int) < 2 := by omega
     clear hz h2
     go_enter Tryz.func136, Tryz.ntmps136
     go_wp2_with (go_at_call 174; rw [GX.out]; refine (CC.out _).mono ?_; rintro e W2 ⟨rfl, rfl⟩)
     go_ret
     exact ⟨by rw [GX.out, QC.out]; rfl, Bel.refl _⟩
   | false =>
    rw [hz] at CC
    have QC := Lib.hid (show q = [] from by rw [QC.out, hz]; rfl)
    rcases h2 with h2 | h2
    ·clear hz
     go_enter Tryz.func136, Tryz.ntmps136
     go_wp2_with (go_at_call 174; rw [GX.out]; refine (CC.out _).mono ?_; rintro e W2 ⟨rfl, rfl⟩)
     go_ret
     exact ⟨by rw [QC.out]; rfl, Bel.refl _⟩
    ·have i3 : decide ((s.size : Int) ≥ 2) = false := decide_eq_false (by omega)
     have i4 : ¬ (2 : Int) ≤ s.size := by omega
     have i5 : (s.size : Int) < 2 := by omega
     clear hz h2
     go_enter Tryz.func136, Tryz.ntmps136
     go_wp2_with (go_at_call 174; rw [GX.out]; refine (CC.out _).mono ?_; rintro e W2 ⟨rfl, rfl⟩)
     go_ret
     exact ⟨by rw [QC.out]; rfl, Bel.refl _⟩
end Go.Proofs.YtjckpkamhdbcnaaGreatDoor
