import Derived.Test.YtinbhhcppiamjaaGrt
namespace Go.Proofs.Ytinbhhcppiamjaa
set_option linter.unusedSimpArgs false
set_option linter.unusedVariables false
open Go.RowKit Go.Lib Go.Maps

/-! The laws GraphOrders and GraphAbove. -/
theorem ordOut_len (l : List ByteArray) (ns : List (List ByteArray)) : (ordOut l ns).1.length ≤ l.length := by
  unfold ordOut
  split
  · simp
  · split
    · exact (ord_ok l.length).2.2
    · simp
theorem aboveOut_len (l : List ByteArray) (ns : List (List ByteArray)) (m : Int) : (aboveOut l ns m).1.length ≤ l.length := by
  unfold aboveOut
  split
  · simp
  · split
    · simp
    · unfold above
      have := List.length_filter_le (fun i => @decide (Reach (gr l ns) m.toNat i) (Classical.propDecidable _)) (List.range l.length)
      simpa using this
theorem ints_same {W : World} {A B : Option Addr} (c c' : Nat) {L : List Nat} (h : L.length ≤ 60) (ha : Ints W A (natsI L)) (hb : Ints W B (natsI L)) :
    Calls Try.prog 11 #[.slice A L.length c, .slice B L.length c'] W fun e w' => e = .returned (.bool true) ∧ Bel W w' := by
  have := ints_any A B c c' (natsI L) (natsI L) W ha hb (by rw [natsI_len]; omega) (by rw [natsI_len]; omega)
  rw [natsI_len] at this
  refine this.mono fun e w' ⟨he, hw⟩ => ⟨?_, hw⟩
  rw [he]
  simp
set_option maxRecDepth 100000 in
set_option maxHeartbeats 2000000 in
theorem law_Orders (d : Sl) (A : Option Addr) (c : Nat) (ls : List Sl) (w : World) (hd : SlOk w d) (hn : Nds w A ls) (hz : ls.length ≤ 9223372036854775807) :
    Calls Try.prog 3 #[d.val, .slice A ls.length c] w fun e w' => e = .returned (.bool true) ∧ Bel w w' := by
  have HS := Lib.hid (small_any d A c ls w hd hn hz)
  by_cases hsm : d.l.length ≤ 60 ∧ ls.length ≤ 60 ∧ ∀ d ∈ ls, d.l.length ≤ 60
  · rw [smallB_iff.2 hsm] at HS
    obtain ⟨s1, s2, s3⟩ := hsm
    have HA := Lib.hid fun W => awake_any W
    have H1 := Lib.hid (order_any d A c ls w hd hn s1 s2 s3)
    have H2 := Lib.hid fun W (hW : Bel w W) => rorder_any d A c ls W (hd.keep hW) (hn.keep hW) s1 s2 s3
    have HL := Lib.hid (Nat.le_trans (ordOut_len d.l (nsOf ls)) s1)
    unfold OrdOut at H1 H2
    generalize (ordOut d.l (nsOf ls)).1 = L at H1 H2 HL
    generalize (ordOut d.l (nsOf ls)).2.1 = z at H1 H2
    generalize (ordOut d.l (nsOf ls)).2.2 = q at H1 H2
    have HI := Lib.hid fun W (A B : Option Addr) c c' ha hb => ints_same (W := W) (A := A) (B := B) c c' HL.out ha hb
    clear s3 hd hn
    simp only [Sl.val] at HS H1 H2 ⊢
    go_enter Try.func3, Try.ntmps3
    go_wp2_with (first
      | (go_at_call 7; refine HS.out.mono ?_; rintro e w0 ⟨rfl, h1⟩; obtain rfl : w = w0 := h1.symm)
      | (go_at_call 9; refine H1.out.mono ?_; rintro e w1 ⟨A1, c1, rfl, hi1, hb1⟩)
      | (go_at_call 10; refine (H2.out _ hb1).mono ?_; rintro e w2 ⟨A2, c2, rfl, hi2, hb2⟩)
      | (go_at_call 8; refine (HA.out _).mono ?_; rintro e w3 ⟨rfl, hb3⟩)
      | (go_at_call 11; refine (HI.out _ _ _ _ _ ((hi1.keep hb2).keep hb3) (hi2.keep hb3)).mono ?_; rintro e w4 ⟨rfl, hb4⟩)
      | go_in)
    go_ret
    exact ⟨by simp, ((hb1.trans hb2).trans hb3).trans hb4⟩
  · rw [smallB_no hsm] at HS
    have HA := Lib.hid fun W => awake_any W
    clear hsm hd hn
    simp only [Sl.val] at HS ⊢
    go_enter Try.func3, Try.ntmps3
    go_wp2_with (first
      | (go_at_call 7; refine HS.out.mono ?_; rintro e w0 ⟨rfl, h1⟩; obtain rfl : w = w0 := h1.symm)
      | (go_at_call 8; refine (HA.out _).mono ?_; rintro e w3 ⟨rfl, hb3⟩)
      | go_in)
    go_ret
    exact ⟨rfl, hb3⟩
set_option maxRecDepth 100000 in
set_option maxHeartbeats 2000000 in
theorem law_Above (d : Sl) (A : Option Addr) (c : Nat) (ls : List Sl) (m : Int) (w : World) (hd : SlOk w d) (hn : Nds w A ls) (hz : ls.length ≤ 9223372036854775807) (hm : In64 m) :
    Calls Try.prog 4 #[d.val, .slice A ls.length c, .int .i64 m] w fun e w' => e = .returned (.bool true) ∧ Bel w w' := by
  have HS := Lib.hid (small_any d A c ls w hd hn hz)
  by_cases hsm : d.l.length ≤ 60 ∧ ls.length ≤ 60 ∧ ∀ d ∈ ls, d.l.length ≤ 60
  · rw [smallB_iff.2 hsm] at HS
    obtain ⟨s1, s2, s3⟩ := hsm
    have HA := Lib.hid fun W => awake_any W
    have H1 := Lib.hid (above_any d A c ls m w hd hn s1 s2 s3 hm)
    have H2 := Lib.hid fun W (hW : Bel w W) => rabove_any d A c ls m W (hd.keep hW) (hn.keep hW) s1 s2 s3 hm
    have HL := Lib.hid (Nat.le_trans (aboveOut_len d.l (nsOf ls) m) s1)
    unfold AbOut at H1 H2
    generalize (aboveOut d.l (nsOf ls) m).1 = L at H1 H2 HL
    generalize (aboveOut d.l (nsOf ls) m).2 = q at H1 H2
    have HI := Lib.hid fun W (A B : Option Addr) c c' ha hb => ints_same (W := W) (A := A) (B := B) c c' HL.out ha hb
    clear s3 hd hn hm
    simp only [Sl.val] at HS H1 H2 ⊢
    go_enter Try.func4, Try.ntmps4
    go_wp2_with (first
      | (go_at_call 7; refine HS.out.mono ?_; rintro e w0 ⟨rfl, h1⟩; obtain rfl : w = w0 := h1.symm)
      | (go_at_call 12; refine H1.out.mono ?_; rintro e w1 ⟨A1, c1, rfl, hi1, hb1⟩)
      | (go_at_call 13; refine (H2.out _ hb1).mono ?_; rintro e w2 ⟨A2, c2, rfl, hi2, hb2⟩)
      | (go_at_call 8; refine (HA.out _).mono ?_; rintro e w3 ⟨rfl, hb3⟩)
      | (go_at_call 11; refine (HI.out _ _ _ _ _ ((hi1.keep hb2).keep hb3) (hi2.keep hb3)).mono ?_; rintro e w4 ⟨rfl, hb4⟩)
      | go_in)
    go_ret
    exact ⟨by simp, ((hb1.trans hb2).trans hb3).trans hb4⟩
  · rw [smallB_no hsm] at HS
    have HA := Lib.hid fun W => awake_any W
    clear hsm hd hn hm
    simp only [Sl.val] at HS ⊢
    go_enter Try.func4, Try.ntmps4
    go_wp2_with (first
      | (go_at_call 7; refine HS.out.mono ?_; rintro e w0 ⟨rfl, h1⟩; obtain rfl : w = w0 := h1.symm)
      | (go_at_call 8; refine (HA.out _).mono ?_; rintro e w3 ⟨rfl, hb3⟩)
      | go_in)
    go_ret
    exact ⟨rfl, hb3⟩
end Go.Proofs.Ytinbhhcppiamjaa
