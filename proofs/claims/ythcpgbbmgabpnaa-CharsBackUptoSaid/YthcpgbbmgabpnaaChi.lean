import Derived.Test.YthcpgbbmgabpnaaChh
namespace Go.Proofs.Ythcpgbbmgabpnaa
set_option linter.unusedSimpArgs false
set_option linter.unusedVariables false
open Go.RowKit

/-! Chars: the program's names. -/
theorem dec_low (g : Nat → Nat) (m : Nat) (h : g 0 < 128) : dec g m = (g 0, 1) := if_pos h
theorem dec_hi (g : Nat → Nat) (m : Nat) (h : ¬ g 0 < 128) : 128 ≤ (dec g m).1 := by
  unfold dec
  rw [if_neg h]
  repeat' split
  all_goals simp only
  all_goals omega
theorem gOf_add (s : ByteArray) (pos : Nat) : gOf s pos 0 = gOf s 0 pos := by unfold gOf; rw [Nat.zero_add, Nat.add_zero]
set_option maxRecDepth 100000 in
set_option maxHeartbeats 4000000 in
theorem name_any (s : ByteArray) (hs : s.size ≤ 9223372036854775807) (w : World) : Calls Try.prog 14 #[.string s] w fun e w' => e = .returned (.bool (nameB s)) ∧ Bel w w' := by
  have i2 : (s.size : Int) ≤ 9223372036854775807 := by omega
  by_cases h0 : s.size = 0
  · have L := Lib.hid (show nameB s = false by rw [nameB, decide_eq_false (by omega)]; rfl)
    have e0 : s.toList.isEmpty = true := by
      rw [ByteArray.toList_eq, List.isEmpty_iff]
      exact List.eq_nil_of_length_eq_zero (by rw [size_list]; exact h0)
    clear h0
    go_enter Try.func14, Try.ntmps14
    go_wp2
    go_ret
    exact ⟨by (rw [L.out]) <;> rfl, Bel.refl _⟩
  · have e0 : s.toList.isEmpty = false := by
      rw [ByteArray.toList_eq, Bool.eq_false_iff, ne_eq, List.isEmpty_iff]
      intro h
      have := size_list s
      rw [h] at this
      simp at this; omega
    by_cases h32 : (32 : Int) < s.size
    · have L := Lib.hid (show nameB s = false by rw [nameB, decide_eq_false (by omega)]; rfl)
      clear h0
      go_enter Try.func14, Try.ntmps14
      go_wp2
      go_ret
      exact ⟨by (rw [L.out]) <;> rfl, Bel.refl _⟩
    · have SZ := Lib.hid (And.intro (show 0 < s.size by omega) (show s.size ≤ 32 by omega))
      clear h0
      go_enter Try.func14, Try.ntmps14
      go_wp2
      have hit0 : (w.iter s 0).heap[w.heap.size]? = some (.stringIter s 0) := World.iter_heap w s 0
      have hb0 : Bel w (w.iter s 0) := (Bel.refl w).alloc _
      have HB := Lib.hid (And.intro hit0 hb0)
      clear hit0 hb0
      go_loopg [] s.size (fun g wr => ∃ pos : Nat, Hid (wr.heap[w.heap.size]? = some (.stringIter s pos)) ∧ Bel w wr ∧ Hid (pos ≤ s.size ∧ (∀ i, i < pos → okN i (gOf s 0 i) = true) ∧ g = s.size - pos))
      case atStart => exact ⟨0, HB.out.1, HB.out.2, ⟨Nat.zero_le _, fun i h => by omega, rfl⟩⟩
      case round =>
        obtain ⟨pos, hit, hb, hh⟩ := hrel
        by_cases hp : pos < s.size
        · have hd := decode_is s pos hp
          have hr := decode_le s pos
          obtain ⟨r, hr0⟩ : ∃ r, r = (dec (gOf s pos) (s.size - pos)).1 := ⟨_, rfl⟩
          rw [hd, ← hr0] at hr
          have hr' := hr
          have hnx0 : ∀ ty, (Instr.next (.pointer (some ⟨w.heap.size, 0, none⟩)) true ty).run Try.prog wr = .ok (.tuple #[.bool true, .int .i64 pos, .int .i32 (r : Nat)]) (wr.iterAt w.heap.size s (pos + wdAt s pos)) := fun ty => by
            have h := Lib.run_next_any_at (P := Try.prog) wr w.heap.size s pos ty hit.out hp
            rw [hd, ← hr0] at h
            exact h
          have hit2 := Lib.hid (Lib.iterAt_heap wr w.heap.size s pos (pos + wdAt s pos) hit.out)
          have hb2 : Bel w (wr.iterAt w.heap.size s (pos + wdAt s pos)) := Lib.below_iterAt hb (k := w.heap.size) (Nat.le_refl _) s _
          obtain ⟨W2, hW2⟩ : ∃ W2, W2 = wr.iterAt w.heap.size s (pos + wdAt s pos) := ⟨_, rfl⟩
          rw [← hW2] at hit2 hb2
          have hnx : ∀ ty, (Instr.next (.pointer (some ⟨w.heap.size, 0, none⟩)) true ty).run Try.prog wr = .ok (.tuple #[.bool true, .int .i64 pos, .int .i32 (r : Nat)]) W2 := fun ty => by rw [hW2]; exact hnx0 ty
          have hkey : okN pos r = okN pos (gOf s 0 pos) ∧ (okN pos r = true → wdAt s pos = 1) := by
            by_cases hl : gOf s pos 0 < 128
            · have hdl := dec_low (gOf s pos) (s.size - pos) hl
              rw [hdl] at hr0
              refine ⟨by rw [hr0, gOf_add], fun _ => by unfold wdAt; rw [hdl]⟩
            · have hh1 := dec_hi (gOf s pos) (s.size - pos) hl
              rw [← hr0] at hh1
              have f1 := okN_high pos r hh1
              refine ⟨by rw [f1, okN_high pos _ (by rw [← gOf_add]; omega)], fun h => by rw [f1] at h; cases h⟩
          have KEY := Lib.hid hkey
          have i1 : (pos : Int) < s.size := by omega
          have hok : okN pos r = (letB r || (decide (pos ≠ 0) && dgB r)) := rfl
          have HOK := Lib.hid hok
          have p0 : pos = 0 ∨ pos ≠ 0 := by omega
          clear hd hr hr0 hnx0 hW2 hb hkey hok
          cases hv : letB r with
          | true =>
            have HV := Lib.hid hv
            have HK := HV
            have L := Lib.hid (show okN pos r = true by rw [HOK.out, hv]; rfl)
            clear hv p0
            go_wp2_with (first
              | (go_at_call 24; refine (letter_any r hr' _).mono ?_; rintro e V1 ⟨rfl, rfl⟩; rw [HV.out])
              | (go_at_call 25; refine (digit10_any r hr' _).mono ?_; rintro e V2 ⟨rfl, rfl⟩; rw [HK.out]))
            go_roundg (s.size - (pos + 1))
            case measure => have := hh.out.2.2; omega
            case rel =>
              have h1 := KEY.out.2 L.out
              rw [h1] at hit2
              refine ⟨pos + 1, hit2, hb2, ⟨by omega, fun i hi => ?_, rfl⟩⟩
              by_cases he : i = pos
              · subst he; rw [← KEY.out.1]; exact L.out
              · exact hh.out.2.1 i (by omega)
          | false =>
            have HV := Lib.hid hv
            cases hk : dgB r with
            | true =>
              have HK := Lib.hid hk
              by_cases hz : pos = 0
              · have L := Lib.hid (show nameB s = false from name_no hp (by rw [← KEY.out.1, HOK.out, hv, hz]; rfl))
                subst hz
                clear hv hk p0
                go_wp2_with (first
                  | (go_at_call 24; refine (letter_any r hr' _).mono ?_; rintro e V1 ⟨rfl, rfl⟩; rw [HV.out])
                  | (go_at_call 25; refine (digit10_any r hr' _).mono ?_; rintro e V2 ⟨rfl, rfl⟩; rw [HK.out]))
                go_ret
                exact ⟨by (rw [L.out]) <;> rfl, hb2⟩
              · have L := Lib.hid (show okN pos r = true by rw [HOK.out, hv, hk, decide_eq_true hz]; rfl)
                have e1 : ((pos : Int) == 0) = false := by rw [beq_eq_false_iff_ne]; omega
                clear hv hk p0
                go_wp2_with (first
                  | (go_at_call 24; refine (letter_any r hr' _).mono ?_; rintro e V1 ⟨rfl, rfl⟩; rw [HV.out])
                  | (go_at_call 25; refine (digit10_any r hr' _).mono ?_; rintro e V2 ⟨rfl, rfl⟩; rw [HK.out]))
                go_roundg (s.size - (pos + 1))
                case measure => have := hh.out.2.2; omega
                case rel =>
                  have h1 := KEY.out.2 L.out
                  rw [h1] at hit2
                  refine ⟨pos + 1, hit2, hb2, ⟨by omega, fun i hi => ?_, rfl⟩⟩
                  by_cases he : i = pos
                  · subst he; rw [← KEY.out.1]; exact L.out
                  · exact hh.out.2.1 i (by omega)
            | false =>
              have HK := Lib.hid hk
              have L := Lib.hid (show nameB s = false from name_no hp (by rw [← KEY.out.1, HOK.out, hv, hk]; simp))
              clear hv hk
              rcases p0 with hz | hz
              · subst hz
                go_wp2_with (first
                  | (go_at_call 24; refine (letter_any r hr' _).mono ?_; rintro e V1 ⟨rfl, rfl⟩; rw [HV.out])
                  | (go_at_call 25; refine (digit10_any r hr' _).mono ?_; rintro e V2 ⟨rfl, rfl⟩; rw [HK.out]))
                go_ret
                exact ⟨by (rw [L.out]) <;> rfl, hb2⟩
              · have e1 : ((pos : Int) == 0) = false := by rw [beq_eq_false_iff_ne]; omega
                clear hz
                go_wp2_with (first
                  | (go_at_call 24; refine (letter_any r hr' _).mono ?_; rintro e V1 ⟨rfl, rfl⟩; rw [HV.out])
                  | (go_at_call 25; refine (digit10_any r hr' _).mono ?_; rintro e V2 ⟨rfl, rfl⟩; rw [HK.out]))
                go_ret
                exact ⟨by (rw [L.out]) <;> rfl, hb2⟩
        · have hnx : ∀ ty, (Instr.next (.pointer (some ⟨w.heap.size, 0, none⟩)) true ty).run Try.prog wr = .ok (.tuple #[.bool false]) wr := fun ty => Lib.run_next_end_at wr w.heap.size s pos ty hit.out hp
          have L := Lib.hid (show nameB s = true from name_yes SZ.out.1 SZ.out.2 fun i hi => hh.out.2.1 i (by omega))
          go_wp2
          go_ret
          exact ⟨by (rw [L.out]) <;> rfl, hb⟩
end Go.Proofs.Ythcpgbbmgabpnaa
