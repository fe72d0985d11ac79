import Derived.Test.YtladmlnopbnlgaaGreatDoorZsk
namespace Go.Proofs.YtladmlnopbnlgaaGreatDoor
set_option linter.unusedSimpArgs false
set_option linter.unusedVariables false
open Go.RowKit

/-! Values: the law Sorts. -/
theorem nodup_len : ∀ {r vs : List Val}, r.Pairwise (fun a b => a ≠ b) → (∀ v ∈ r, v ∈ vs) → r.length ≤ vs.length
  | [], _, _, _ => Nat.zero_le _
  | a :: r, vs, hp, hm => by
    rw [List.pairwise_cons] at hp
    have ha := hm a (List.mem_cons_self ..)
    have := nodup_len (vs := vs.erase a) hp.2 fun v hv => (List.mem_erase_of_ne (fun e => hp.1 v hv e.symm)).2 (hm v (List.mem_cons_of_mem _ hv))
    rw [List.length_erase_of_mem ha] at this
    have := List.length_pos_of_mem ha
    simp only [List.length_cons]
    omega
theorem SrtOf.len {vs r : List Val} (h : SrtOf vs r) : r.length ≤ vs.length :=
  nodup_len (h.1.imp (fun {a b} hlt e => by rw [e] at hlt; have := vcmp_anti b b; omega)) fun v hv => (h.2 v).1 hv
theorem rsort_nil (w : World) :
    Calls Tryz.prog 5 #[.slice none 0 0] w (SortPost [] w) := by
  go_enter Tryz.func5, Tryz.ntmps5
  go_wp2_with fail
  go_loopg [5] 0 (fun g i wr => i = .int .i64 0 ∧ Bel w wr)
  case atStart => exact ⟨rfl, (Bel.refl _).alloc _⟩
  case round =>
    obtain ⟨rfl, hb⟩ := hrel
    go_wp2_with fail
    go_loopg [4, 6] 0 (fun g o i wr => o = .slice (some ⟨w.heap.size, 0, none⟩) 0 0 ∧ i = .int .i64 0 ∧ Bel w wr)
    case atStart => exact ⟨rfl, rfl, hb⟩
    case round =>
      obtain ⟨rfl, rfl, hb2⟩ := hrel
      go_wp2_with fail
      go_ret2
      exact ⟨[], some ⟨w.heap.size, 0, none⟩, 0, rfl, ⟨List.Pairwise.nil, fun v => Iff.rfl⟩, fun h => absurd h (by simp), hb2⟩
def AddrOf (w : World) (A : Option Addr) (c : Nat) (vs : List Val) : Prop := (A = none ∧ c = 0 ∧ vs = []) ∨ ∃ b off, A = some ⟨b, off, none⟩ ∧ b < w.heap.size
theorem AddrOf.keep {w w' : World} {A : Option Addr} {c : Nat} {vs : List Val} (h : AddrOf w A c vs) (hb : Bel w w') : AddrOf w' A c vs := by
  rcases h with h | ⟨b, off, e, hlt⟩
  · exact .inl h
  · exact .inr ⟨b, off, e, Nat.lt_of_lt_of_le hlt hb.size⟩
theorem vsort_all (vs : List Val) (A : Option Addr) (c : Nat) (w : World) (hv : Vals w A vs) (hA : AddrOf w A c vs) (hl : vs.length ≤ 60) (ho : ∀ v ∈ vs, v.text.size ≤ 9223372036854775807) (hall : allV vs = true) : Calls Tryz.prog 4 #[.slice A vs.length c] w (SortPost vs w) := by
  rcases hA with ⟨rfl, rfl, rfl⟩ | ⟨b, off, rfl, hlt⟩
  · exact vsort_nil 0 rfl w
  · exact vsort_some vs b off c w hv (by omega) ho hall
theorem rsort_all (vs : List Val) (A : Option Addr) (c : Nat) (w : World) (hv : Vals w A vs) (hA : AddrOf w A c vs) (hl : vs.length ≤ 60) (ho : ∀ v ∈ vs, v.text.size ≤ 9223372036854775807) (hall : allV vs = true) : Calls Tryz.prog 5 #[.slice A vs.length c] w (SortPost vs w) := by
  rcases hA with ⟨rfl, rfl, rfl⟩ | ⟨b, off, rfl, hlt⟩
  · exact rsort_nil w
  · exact rsort_ok vs b off c w hv hlt (by omega) ho hall
set_option maxRecDepth 100000 in
set_option maxHeartbeats 2000000 in
theorem law_Sorts (vs : List Val) (A : Option Addr) (c : Nat) (w : World) (hv : Vals w A vs) (hA : AddrOf w A c vs) (hc : vs.length ≤ c) (ho : ∀ v ∈ vs, v.text.size ≤ 9223372036854775807) (ht : Tab w) (hm : Mx w) :
    Calls Tryz.prog 3 #[.slice A vs.length c] w fun e w' => e = .returned (.bool true) ∧ Bel w w' := by
  have HT := Lib.hid ht
  have HM := Lib.hid hm
  clear ht hm
  by_cases h60 : 60 < vs.length
  · rcases hA with ⟨rfl, rfl, rfl⟩ | ⟨b, off, rfl, hlt⟩
    · simp at h60
    · obtain ⟨u, hu⟩ : ∃ u, u = vs.take 60 := ⟨_, rfl⟩
      have hul : u.length = 60 := by rw [hu, List.length_take]; omega
      have hv : Vals w (some ⟨b, off, none⟩) u := by rw [hu]; exact hv.take 60
      have ho : ∀ v ∈ u, v.text.size ≤ 9223372036854775807 := fun v hv => ho v (by rw [hu] at hv; exact List.mem_of_mem_take hv)
      have hA : AddrOf w (some ⟨b, off, none⟩) c u := .inr ⟨b, off, rfl, hlt⟩
      have hl : u.length ≤ 60 := by omega
      have i1 : (60 : Int) < vs.length := by omega
      have i2 : (60 : Int) ≤ c := by omega
      have i3 : ¬ c = 0 := by omega
      clear hu
      cases hq : allV u with
      | true =>
        have VS := Lib.hid (show ∀ W, Bel w W → Calls Tryz.prog 4 #[.slice (some ⟨b, off, none⟩) 60 c] W (SortPost u W) from fun W hb => by rw [← hul]; exact vsort_all u (some ⟨b, off, none⟩) c W (hv.keep hb) (hA.keep hb) hl ho hq)
        have RS := Lib.hid (show ∀ W, Bel w W → Calls Tryz.prog 5 #[.slice (some ⟨b, off, none⟩) 60 c] W (SortPost u W) from fun W hb => by rw [← hul]; exact rsort_all u (some ⟨b, off, none⟩) c W (hv.keep hb) (hA.keep hb) hl ho hq)
        have UN := Lib.hid (show ∀ r s, SrtOf u r → SrtOf u s → r = s ∧ r.length ≤ maxLen from fun r s h1 h2 => ⟨srt_unique (fun v hv => by unfold allV at hq; rw [List.all_eq_true] at hq; exact hq v hv) h1 h2, Nat.le_trans h1.len (Nat.le_trans hl (by simp [maxLen]))⟩)
        have HA := Lib.hid hA
        clear hv hA ho hq
        go_enter Tryz.func3, Tryz.ntmps3
        go_wp2_with (first
          | (go_at_call 4
             refine (VS.out _ (Bel.refl _)).mono ?_
             rintro e W1 ⟨r, B1, c1, rfl, hs1, hv1, hb1⟩)
          | (go_at_call 5
             refine (RS.out _ hb1).mono ?_
             rintro e W2 ⟨s, B2, c2, rfl, hs2, hv2, hb2⟩
             have U := UN.out r s hs1 hs2
             obtain ⟨rfl, hrl⟩ := U
             have G := Lib.hid (And.intro (hv1.keep hb2) (And.intro hv2 hrl))
             clear hs1 hs2 hv1 hv2 hrl)
          | (go_at_call 6
             refine (awake_V _ (HT.out.keep (hb1.trans hb2)) (HM.out.keep (hb1.trans hb2))).mono ?_
             rintro e W3 ⟨rfl, hb3⟩)
          | (go_at_call 7
             refine (rsame_any r r B1 B2 c1 c2 _ (G.out.1.keep hb3) (G.out.2.1.keep hb3) G.out.2.2 G.out.2.2).mono ?_
             rw [show decide (r = r) = true from decide_eq_true rfl]
             rintro e W4 ⟨rfl, hb4⟩))
        go_ret
        exact ⟨rfl, ((hb1.trans hb2).trans hb3).trans hb4⟩
      | false =>
        have VS := Lib.hid (show ∀ W, Bel w W → Calls Tryz.prog 4 #[.slice (some ⟨b, off, none⟩) 60 c] W (fun e w' => e = .returned (.tuple #[.slice none 0 0, .int .i64 2]) ∧ Bel W w') from fun W hb => by rw [← hul]; exact vsort_no u (some ⟨b, off, none⟩) c W (hv.keep hb) (by omega) ho hq)
        have RS := Lib.hid (show ∀ W, Bel w W → Calls Tryz.prog 5 #[.slice (some ⟨b, off, none⟩) 60 c] W (fun e w' => e = .returned (.tuple #[.slice none 0 0, .int .i64 2]) ∧ Bel W w') from fun W hb => by rw [← hul]; exact rsort_no u (some ⟨b, off, none⟩) c W (hv.keep hb) (by omega) ho hq)
        have HA := Lib.hid hA
        clear hv hA ho hq
        go_enter Tryz.func3, Tryz.ntmps3
        go_wp2_with (first
          | (go_at_call 4
             refine (VS.out _ (Bel.refl _)).mono ?_
             rintro e W1 ⟨rfl, hb1⟩)
          | (go_at_call 5
             refine (RS.out _ hb1).mono ?_
             rintro e W2 ⟨rfl, hb2⟩)
          | (go_at_call 6
             refine (awake_V _ (HT.out.keep (hb1.trans hb2)) (HM.out.keep (hb1.trans hb2))).mono ?_
             rintro e W3 ⟨rfl, hb3⟩)
          | (go_at_call 7
             refine (rsame_any [] [] none none 0 0 _ (fun h => absurd h (by simp)) (fun h => absurd h (by simp)) (by simp) (by simp)).mono ?_
             rw [show decide (([] : List Val) = []) = true from decide_eq_true rfl]
             rintro e W4 ⟨rfl, hb4⟩))
        go_ret
        exact ⟨rfl, ((hb1.trans hb2).trans hb3).trans hb4⟩
  · have hl : vs.length ≤ 60 := by omega
    have i1 : ¬ (60 : Int) < vs.length := by omega
    cases hq : allV vs with
    | true =>
      have VS := Lib.hid (show ∀ W, Bel w W → Calls Tryz.prog 4 #[.slice A vs.length c] W (SortPost vs W) from fun W hb => vsort_all vs A c W (hv.keep hb) (hA.keep hb) hl ho hq)
      have RS := Lib.hid (show ∀ W, Bel w W → Calls Tryz.prog 5 #[.slice A vs.length c] W (SortPost vs W) from fun W hb => rsort_all vs A c W (hv.keep hb) (hA.keep hb) hl ho hq)
      have UN := Lib.hid (show ∀ r s, SrtOf vs r → SrtOf vs s → r = s ∧ r.length ≤ maxLen from fun r s h1 h2 => ⟨srt_unique (fun v hv => by unfold allV at hq; rw [List.all_eq_true] at hq; exact hq v hv) h1 h2, Nat.le_trans h1.len (Nat.le_trans hl (by simp [maxLen]))⟩)
      have HA := Lib.hid hA
      clear hv hA ho hq
      go_enter Tryz.func3, Tryz.ntmps3
      go_wp2_with (first
        | (go_at_call 4
           refine (VS.out _ (Bel.refl _)).mono ?_
           rintro e W1 ⟨r, B1, c1, rfl, hs1, hv1, hb1⟩)
        | (go_at_call 5
           refine (RS.out _ hb1).mono ?_
           rintro e W2 ⟨s, B2, c2, rfl, hs2, hv2, hb2⟩
           have U := UN.out r s hs1 hs2
           obtain ⟨rfl, hrl⟩ := U
           have G := Lib.hid (And.intro (hv1.keep hb2) (And.intro hv2 hrl))
           clear hs1 hs2 hv1 hv2 hrl)
        | (go_at_call 6
           refine (awake_V _ (HT.out.keep (hb1.trans hb2)) (HM.out.keep (hb1.trans hb2))).mono ?_
           rintro e W3 ⟨rfl, hb3⟩)
        | (go_at_call 7
           refine (rsame_any r r B1 B2 c1 c2 _ (G.out.1.keep hb3) (G.out.2.1.keep hb3) G.out.2.2 G.out.2.2).mono ?_
           rw [show decide (r = r) = true from decide_eq_true rfl]
           rintro e W4 ⟨rfl, hb4⟩))
      go_ret
      exact ⟨rfl, ((hb1.trans hb2).trans hb3).trans hb4⟩
    | false =>
      have VS := Lib.hid (show ∀ W, Bel w W → Calls Tryz.prog 4 #[.slice A vs.length c] W (fun e w' => e = .returned (.tuple #[.slice none 0 0, .int .i64 2]) ∧ Bel W w') from fun W hb => vsort_no vs A c W (hv.keep hb) (by omega) ho hq)
      have RS := Lib.hid (show ∀ W, Bel w W → Calls Tryz.prog 5 #[.slice A vs.length c] W (fun e w' => e = .returned (.tuple #[.slice none 0 0, .int .i64 2]) ∧ Bel W w') from fun W hb => rsort_no vs A c W (hv.keep hb) (by omega) ho hq)
      have HA := Lib.hid hA
      clear hv hA ho hq
      go_enter Tryz.func3, Tryz.ntmps3
      go_wp2_with (first
        | (go_at_call 4
           refine (VS.out _ (Bel.refl _)).mono ?_
           rintro e W1 ⟨rfl, hb1⟩)
        | (go_at_call 5
           refine (RS.out _ hb1).mono ?_
           rintro e W2 ⟨rfl, hb2⟩)
        | (go_at_call 6
           refine (awake_V _ (HT.out.keep (hb1.trans hb2)) (HM.out.keep (hb1.trans hb2))).mono ?_
           rintro e W3 ⟨rfl, hb3⟩)
        | (go_at_call 7
           refine (rsame_any [] [] none none 0 0 _ (fun h => absurd h (by simp)) (fun h => absurd h (by simp)) (by simp) (by simp)).mono ?_
           rw [show decide (([] : List Val) = []) = true from decide_eq_true rfl]
           rintro e W4 ⟨rfl, hb4⟩))
      go_ret
      exact ⟨rfl, ((hb1.trans hb2).trans hb3).trans hb4⟩
end Go.Proofs.YtladmlnopbnlgaaGreatDoor
