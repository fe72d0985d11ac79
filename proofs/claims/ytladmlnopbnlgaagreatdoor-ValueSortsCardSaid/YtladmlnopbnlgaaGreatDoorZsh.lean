import Derived.Test.YtladmlnopbnlgaaGreatDoorZsg
namespace Go.Proofs.YtladmlnopbnlgaaGreatDoor
set_option linter.unusedSimpArgs false
set_option linter.unusedVariables false
open Go.RowKit Go.Lib Go.Sort

set_option maxRecDepth 100000 in
set_option maxHeartbeats 1500000 in
theorem vsort_some (vs : List Val) (b off c : Nat) (w : World) (hv : Vals w (some ⟨b, off, none⟩) vs) (hl : vs.length ≤ 1000000) (ho : ∀ v ∈ vs, v.text.size ≤ 9223372036854775807) (hall : allV vs = true) :
    Calls Tryz.prog 4 #[.slice (some ⟨b, off, none⟩) vs.length c] w (SortPost vs w) := by
  have ca := fun w hv => allSound_any_V vs (some ⟨b, off, none⟩) c w hv (by unfold maxLen; omega) ho
  rw [hall] at ca
  obtain ⟨xs, hx⟩ := sv_of vs hall
  have C1 := Lib.hid fun w hv => clone_any vs (some ⟨b, off, none⟩) b off c rfl w hl hv
  have CA := Lib.hid ca
  have HV := Lib.hid hv
  have X := Lib.hid (show xs.map Subtype.val = vs ∧ xs.length = vs.length ∧ vs.length ≤ 1000000 from ⟨hx, by rw [← hx, List.length_map], hl⟩)
  clear ca hv ho hall hx hl
  go_enter Tryz.func4, Tryz.ntmps4
  go_wp2_with (first
    | (go_at_call 8; refine (CA.out _ HV.out).mono ?_; rintro e W1 ⟨rfl, hb1⟩)
    | (go_at_call 9
       refine (C1.out _ (HV.out.keep hb1)).mono ?_
       rintro e W2 ⟨v', rfl, hown, hne, hb2⟩
       rw [← X.out.1] at hown
       obtain ⟨g, cap, rfl, hg, hlt, hnc, hcm, hxl, hH⟩ := holds_of_own hown hne
       rw [X.out.1] at hnc hxl
       have hB := hb1.trans hb2
       have hgw : w.heap.size ≤ g := Nat.le_trans hb1.size hg
       have G := Lib.hid (And.intro hB (And.intro hgw (And.intro hlt (And.intro hnc (And.intro hcm (And.intro hxl hH))))))
       clear hown hne hb2 hg hlt hnc hcm hxl hH hB hgw)
    | (go_at_call 10
       rw [show vs.length = xs.length from X.out.2.1.symm]
       refine (sortF_any xs g 0 cap _ G.out.2.2.2.2.2.2 G.out.2.2.1 (by have := X.out.2; omega)).mono ?_
       rintro e W3 ⟨rfl, n, os, rfl⟩
       have hB3 := sortW_bel (n := n) (d := (xs.mergeSort fun x y => !(ltOf cfV) y x).toArray) (os := os) G.out.1 G.out.2.1
       have hV3 := vrow_of_holds (lt_sortWorldK encV 5 _ g 0 n (xs.mergeSort fun x y => !(ltOf cfV) y x).toArray os G.out.2.2.1) (holdsK_sortWorldK encV 5 _ g 0 n xs.toArray (xs.mergeSort fun x y => !(ltOf cfV) y x).toArray os G.out.2.2.1 G.out.2.2.2.2.2.2 (by simp))
       generalize sortWorldK encV 5 _ g 0 n _ os = W3 at hB3 hV3 ⊢
       obtain ⟨d, hd⟩ : ∃ d, d = (xs.mergeSort fun x y => !(ltOf cfV) y x).toArray.map Subtype.val := ⟨_, rfl⟩
       rw [← hd] at hV3
       have hds : d.size = vs.length := by rw [hd]; simp [X.out.2.1]
       have S := Lib.hid (sorted_srt vs xs X.out.1 d (by rw [hd]; simp))
       have D := Lib.hid (And.intro hB3 (And.intro hV3 (And.intro hds trivial)))
       clear hB3 hV3 hd hds)
    | (go_at_call 13
       go_loud (
       try rw [show vs.length = xs.length from X.out.2.1.symm]
       rw [show xs.length = d.size from X.out.2.1.trans D.out.2.2.1.symm]
       refine (compact_any d g 0 cap w _ D.out.1 G.out.2.1 D.out.2.1 (by have := D.out.2.2.1; have := G.out.2.2.2.1; omega) (by have := G.out.2.2.2.2.1; unfold maxLen at this; omega)).mono ?_
       rintro e W4 ⟨rfl, hb4, hv4⟩
       have hle4 : (Lib.compactUpTo d d.size).length ≤ cap := by
         have h1 := D.out.2.2.1
         have h2 := G.out.2.2.2.1
         have h3 : (Lib.compactUpTo d d.size).length ≤ d.size := by
           unfold Lib.compactUpTo
           rw [List.length_map]
           exact Nat.le_trans (List.length_filter_le ..) (by simp)
         omega
       have E4 := Lib.hid (And.intro hb4 (And.intro hv4 hle4))
       clear hb4 hv4 hle4
       generalize Lib.compactUpTo d d.size = r at S E4 ⊢))
    | (go_at_call 12
       refine (clip_any (some ⟨g, 0, none⟩) r.length cap E4.out.2.2 G.out.2.2.2.2.1 _ (fun h => by cases h)).mono ?_
       rintro e W5 ⟨rfl, hb5⟩))
  go_ret2
  exact ⟨r, some ⟨g, 0, none⟩, _, rfl, S.out, E4.out.2.1.keep hb5, E4.out.1.trans hb5⟩
end Go.Proofs.YtladmlnopbnlgaaGreatDoor
