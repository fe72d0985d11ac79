import Derived.Test.YtcknjhgolajclaaDoorDgs
import Derived.Test.YtcknjhgolajclaaDoorDgp
import Derived.Test.YtcknjhgolajclaaDoorDes
namespace Go.Proofs.YtcknjhgolajclaaDoor
set_option linter.unusedSimpArgs false
set_option linter.unusedVariables false
open Go.RowKit

set_option maxHeartbeats 2000000 in
theorem rtext_any (n s : Int) (w : World) : Calls Tryd.prog 20 #[decA n s] w fun e w' => e = .returned (textV n s) ∧ Bel w w' := by
  by_cases h : SndD n s
  · rw [show textV n s = _ from if_pos h]
    have h0 := h.1
    have := rtext_raw n s.toNat (by rwa [show ((s.toNat : Nat) : Int) = s by omega]) w
    rwa [show ((s.toNat : Nat) : Int) = s by omega] at this
  · have hv : Hid (textV n s = .tuple #[.string ⟨#[]⟩, .int .i64 2]) := if_neg h
    have hs := Lib.hid (sndB_f h)
    clear h
    go_enter Tryd.func20, Tryd.ntmps20
    go_wp2_with fail
    refine under_call ((Bel.refl w).alloc _) fun W hc hf hz hb => ?_
    have hA : Arr2 W w.heap.size n s := by simp [Arr2, hz, hc, hf, go_sem]
    clear hc hf hz
    go_wp2_with (go_at_call 14; refine (rsound_any n s _).mono ?_; rintro e W1 ⟨rfl, hb1⟩; rw [hs.out]; replace hb := hb.trans hb1; clear hb1)
    go_ret2
    exact ⟨by (rw [hv.out]) <;> rfl, hb⟩
theorem textV_sh (n s : Int) : ∃ T e, textV n s = .tuple #[.string T, .int .i64 e] := by
  unfold textV
  split
  · exact ⟨_, _, rfl⟩
  · exact ⟨_, _, rfl⟩
theorem parseV_sh (l : List UInt8) : ∃ a b e, parseV l = .tuple #[decA a b, .int .i64 e] := by
  unfold parseV partsV
  split
  · exact ⟨_, _, _, rfl⟩
  · split
    · exact ⟨_, _, _, rfl⟩
    · exact decV_sh _ _ _
set_option maxRecDepth 100000 in
set_option maxHeartbeats 4000000 in
/-- Any number as text, and the number that any text is. -/
theorem law_Texts (n s : Int) (x : ByteArray) (hx : x.size ≤ 9223372036854775807) (w : World) (ht : Tab w) : Calls Tryd.prog 6 #[decA n s, .string x] w fun e w' => e = .returned (.bool true) ∧ Bel w w' := by
  obtain ⟨T, e, h1⟩ := textV_sh n s
  obtain ⟨a, b, g, h2⟩ := parseV_sh x.data.toList
  have c1 := fun w => text_any n s w
  have c2 := fun w => rtext_any n s w
  have c3 := fun w => parse_any x hx w
  have c4 := fun w => rparse_any x hx w
  rw [h1] at c1 c2
  rw [h2] at c3 c4
  have C1 := Lib.hid c1
  have C2 := Lib.hid c2
  have C3 := Lib.hid c3
  have C4 := Lib.hid c4
  clear c1 c2 c3 c4 h1 h2 hx
  go_enter Tryd.func6, Tryd.ntmps6
  go_wp2_with fail
  refine under_call ((Bel.refl w).alloc _) fun W hc hf hz hb => ?_
  have hA : Arr2 W w.heap.size n s := by simp [Arr2, hz, hc, hf, go_sem]
  have htW : Tab W := ht.keep hb
  clear hc hf hz
  go_wp2_with (first
    | (go_at_call 19; with_reducible refine (C1.out _ htW).mono ?_; rintro e W1 ⟨rfl, hb1⟩; replace hA := hA.keep hb1; replace htW := htW.keep hb1; replace hb := hb.trans hb1; clear hb1)
    | (go_at_call 20; with_reducible refine (C2.out _).mono ?_; rintro e W2 ⟨rfl, hb1⟩; replace htW := htW.keep hb1; replace hb := hb.trans hb1; clear hb1 hA)
    | (go_at_call 21; with_reducible refine (C3.out _).mono ?_; rintro e W3 ⟨rfl, hb1⟩; replace htW := htW.keep hb1; replace hb := hb.trans hb1; clear hb1)
    | (go_at_call 22; with_reducible refine (C4.out _).mono ?_; rintro e W4 ⟨rfl, hb1⟩
       have hX : Arr2 W4 W3.heap.size a b := Arr2.keep (w := W3.alloc (.cells #[.int .i64 a, .int .i64 b] 23)) (by simp [Arr2, go_sem]) hb1
       have hk := Bel.trans ((Bel.refl W3).alloc _) hb1
       replace htW := htW.keep hk; replace hb := hb.trans hk; have l3 := hX.1; clear hb1 hk)
    | (go_at_call 12; refine (awake_any _ (htW.keep ((Bel.refl W4).alloc _))).mono ?_; rintro e W5 ⟨rfl, hb1⟩
       have hY : Arr2 W5 W4.heap.size a b := Arr2.keep (w := W4.alloc (.cells #[.int .i64 a, .int .i64 b] 23)) (by simp [Arr2, go_sem]) hb1
       have hk := Bel.trans ((Bel.refl W4).alloc _) hb1
       replace hX := hX.keep hk; replace hb := hb.trans hk; have l4 := hX.1; have l5 := hY.1; clear hb1 hk))
  go_ret
  exact ⟨rfl, hb⟩
end Go.Proofs.YtcknjhgolajclaaDoor
