import Derived.Test.YtjckpkamhdbcnaaGreatDoorLxh
namespace Go.Proofs.YtjckpkamhdbcnaaGreatDoor
set_option linter.unusedSimpArgs false
set_option linter.unusedVariables false
open Go.RowKit
/-! lex.Word. -/
set_option maxRecDepth 100000 in
set_option maxHeartbeats 4000000 in
theorem xword_any (s : ByteArray) (hs : s.size ≤ 9223372036854775807) (w : World) :
  Calls Tryz.prog 74 #[.string s] w fun e w' => e = .returned (.bool (wordB s)) ∧ Bel w w' := by
 have CN := Lib.hid fun W => name_any s hs W
 have WB := Lib.hid (show wordB s = (!(resL.contains s.data.toList) && nameB s) from rfl)
 generalize wordB s = q at WB ⊢
 generalize nameB s = z at WB CN
 by_cases hm : s.data.toList ∈ resL
 ·obtain rfl : q = false := by
   rw [WB.out, List.contains_iff_mem.2 hm]; rfl
  clear WB
  simp only [resL, List.mem_cons, List.not_mem_nil, or_false] at hm
  rcases hm with hk | hk | hk | hk | hk | hk | hk | hk | hk
  ·have r0 : (s.toList == [110, 117, 108, 108]) = true := by rw [tl_eq, hk]; decide
   clear hk
   go_enter Tryz.func74, Tryz.ntmps74
   go_wp2_with fail
   go_ret
   exact ⟨rfl, Bel.refl _⟩
  ·have r0 : (s.toList == [110, 117, 108, 108]) = false := by rw [tl_eq, hk]; decide
   have r1 : (s.toList == [116, 114, 117, 101]) = true := by rw [tl_eq, hk]; decide
   clear hk
   go_enter Tryz.func74, Tryz.ntmps74
   go_wp2_with fail
   go_ret
   exact ⟨rfl, Bel.refl _⟩
  ·have r0 : (s.toList == [110, 117, 108, 108]) = false := by rw [tl_eq, hk]; decide
   have r1 : (s.toList == [116, 114, 117, 101]) = false := by rw [tl_eq, hk]; decide
   have r2 : (s.toList == [102, 97, 108, 115, 101]) = true := by rw [tl_eq, hk]; decide
   clear hk
   go_enter Tryz.func74, Tryz.ntmps74
   go_wp2_with fail
   go_ret
   exact ⟨rfl, Bel.refl _⟩
  ·have r0 : (s.toList == [110, 117, 108, 108]) = false := by rw [tl_eq, hk]; decide
   have r1 : (s.toList == [116, 114, 117, 101]) = false := by rw [tl_eq, hk]; decide
   have r2 : (s.toList == [102, 97, 108, 115, 101]) = false := by rw [tl_eq, hk]; decide
   have r3 : (s.toList == [97, 110, 100]) = true := by rw [tl_eq, hk]; decide
   clear hk
   go_enter Tryz.func74, Tryz.ntmps74
   go_wp2_with fail
   go_ret
   exact ⟨rfl, Bel.refl _⟩
  ·have r0 : (s.toList == [110, 117, 108, 108]) = false := by rw [tl_eq, hk]; decide
   have r1 : (s.toList == [116, 114, 117, 101]) = false := by rw [tl_eq, hk]; decide
   have r2 : (s.toList == [102, 97, 108, 115, 101]) = false := by rw [tl_eq, hk]; decide
   have r3 : (s.toList == [97, 110, 100]) = false := by rw [tl_eq, hk]; decide
   have r4 : (s.toList == [111, 114]) = true := by rw [tl_eq, hk]; decide
   clear hk
   go_enter Tryz.func74, Tryz.ntmps74
   go_wp2_with fail
   go_ret
   exact ⟨rfl, Bel.refl _⟩
  ·have r0 : (s.toList == [110, 117, 108, 108]) = false := by rw [tl_eq, hk]; decide
   have r1 : (s.toList == [116, 114, 117, 101]) = false := by rw [tl_eq, hk]; decide
   have r2 : (s.toList == [102, 97, 108, 115, 101]) = false := by rw [tl_eq, hk]; decide
   have r3 : (s.toList == [97, 110, 100]) = false := by rw [tl_eq, hk]; decide
   have r4 : (s.toList == [111, 114]) = false := by rw [tl_eq, hk]; decide
   have r5 : (s.toList == [110, 111, 116]) = true := by rw [tl_eq, hk]; decide
   clear hk
   go_enter Tryz.func74, Tryz.ntmps74
   go_wp2_with fail
   go_ret
   exact ⟨rfl, Bel.refl _⟩
  ·have r0 : (s.toList == [110, 117, 108, 108]) = false := by rw [tl_eq, hk]; decide
   have r1 : (s.toList == [116, 114, 117, 101]) = false := by rw [tl_eq, hk]; decide
   have r2 : (s.toList == [102, 97, 108, 115, 101]) = false := by rw [tl_eq, hk]; decide
   have r3 : (s.toList == [97, 110, 100]) = false := by rw [tl_eq, hk]; decide
   have r4 : (s.toList == [111, 114]) = false := by rw [tl_eq, hk]; decide
   have r5 : (s.toList == [110, 111, 116]) = false := by rw [tl_eq, hk]; decide
   have r6 : (s.toList == [105, 102]) = true := by rw [tl_eq, hk]; decide
   clear hk
   go_enter Tryz.func74, Tryz.ntmps74
   go_wp2_with fail
   go_ret
   exact ⟨rfl, Bel.refl _⟩
  ·have r0 : (s.toList == [110, 117, 108, 108]) = false := by rw [tl_eq, hk]; decide
   have r1 : (s.toList == [116, 114, 117, 101]) = false := by rw [tl_eq, hk]; decide
   have r2 : (s.toList == [102, 97, 108, 115, 101]) = false := by rw [tl_eq, hk]; decide
   have r3 : (s.toList == [97, 110, 100]) = false := by rw [tl_eq, hk]; decide
   have r4 : (s.toList == [111, 114]) = false := by rw [tl_eq, hk]; decide
   have r5 : (s.toList == [110, 111, 116]) = false := by rw [tl_eq, hk]; decide
   have r6 : (s.toList == [105, 102]) = false := by rw [tl_eq, hk]; decide
   have r7 : (s.toList == [116, 104, 101, 110]) = true := by rw [tl_eq, hk]; decide
   clear hk
   go_enter Tryz.func74, Tryz.ntmps74
   go_wp2_with fail
   go_ret
   exact ⟨rfl, Bel.refl _⟩
  ·have r0 : (s.toList == [110, 117, 108, 108]) = false := by rw [tl_eq, hk]; decide
   have r1 : (s.toList == [116, 114, 117, 101]) = false := by rw [tl_eq, hk]; decide
   have r2 : (s.toList == [102, 97, 108, 115, 101]) = false := by rw [tl_eq, hk]; decide
   have r3 : (s.toList == [97, 110, 100]) = false := by rw [tl_eq, hk]; decide
   have r4 : (s.toList == [111, 114]) = false := by rw [tl_eq, hk]; decide
   have r5 : (s.toList == [110, 111, 116]) = false := by rw [tl_eq, hk]; decide
   have r6 : (s.toList == [105, 102]) = false := by rw [tl_eq, hk]; decide
   have r7 : (s.toList == [116, 104, 101, 110]) = false := by rw [tl_eq, hk]; decide
   have r8 : (s.toList == [101, 108, 115, 101]) = true := by rw [tl_eq, hk]; decide
   clear hk
   go_enter Tryz.func74, Tryz.ntmps74
   go_wp2_with fail
   go_ret
   exact ⟨rfl, Bel.refl _⟩
 ·have hc : resL.contains s.data.toList = false := by rw [Bool.eq_false_iff]; exact fun h => hm (List.contains_iff_mem.1 h)
  obtain rfl : q = z := by rw [WB.out, hc]; rfl
  clear WB hm
  simp only [resL, List.contains_cons, List.contains_nil, Bool.or_false, Bool.or_eq_false_iff] at hc
  obtain ⟨k0, k1, k2, k3, k4, k5, k6, k7, k8⟩ := hc
  rw [← tl_eq] at k0
  rw [← tl_eq] at k1
  rw [← tl_eq] at k2
  rw [← tl_eq] at k3
  rw [← tl_eq] at k4
  rw [← tl_eq] at k5
  rw [← tl_eq] at k6
  rw [← tl_eq] at k7
  rw [← tl_eq] at k8
  go_enter Tryz.func74, Tryz.ntmps74
  go_wp2_with (go_at_call 102; refine (CN.out _).mono ?_; rintro e W2 ⟨rfl, hb2⟩)
  go_ret
  exact ⟨rfl, hb2⟩
end Go.Proofs.YtjckpkamhdbcnaaGreatDoor
