import Derived.Test.YtobdokeklcdpoaaDoorMlk
import Derived.Test.YtobdokeklcdpoaaDoorMla
namespace Go.Proofs.YtobdokeklcdpoaaDoor
set_option linter.unusedSimpArgs false
set_option linter.unusedVariables false
open Go.RowKit

/-! The law Writes. -/
set_option maxRecDepth 100000 in
set_option maxHeartbeats 4000000 in
theorem law_Writes (ms : List Mk) (A : Option Addr) (c : Nat) (w : World) (hM : Mks w A ms) (hs : ∀ m ∈ ms, Sml m) (hl : ms.length ≤ 1048576) (hc : ms.length ≤ c) (hcm : c ≤ maxLen) (hm : Mx w) :
    Calls Tryd.prog 3 #[.slice A ms.length c] w fun r w' => r = .returned (.bool true) ∧ Bel w w' := by
  have CA := Lib.hid fun W (hb : Bel w W) => mawake_any W (hm.keep hb)
  have hci : (c : Int) ≤ 9223372036854775807 := by unfold maxLen at hcm; omega
  by_cases h2 : 200 < ms.length
  · have hn : (ms.take 200).length = 200 := by rw [List.length_take]; omega
    have C1 := Lib.hid fun W (hb : Bel w W) => text_any (ms.take 200) A c W ((hM.take 200).keep hb) (fun m h => hs m (List.mem_of_mem_take h)) (by omega)
    have C2 := Lib.hid fun W (hb : Bel w W) => rtext_any (ms.take 200) A c W ((hM.take 200).keep hb) (fun m h => hs m (List.mem_of_mem_take h)) (by omega)
    unfold textV at C1 C2
    rw [hn] at C1 C2
    generalize textS (ms.take 200) = te at C1 C2
    obtain ⟨t, e⟩ := te
    simp only at C1 C2
    obtain ⟨b, off, rfl, hlt, _⟩ := hM (by omega)
    have i1 : (200 : Int) < ms.length := by omega
    have i2 : (200 : Int) ≤ c := by omega
    clear hM hs hl hc h2 hm hn hcm
    go_enter Tryd.func3, Tryd.ntmps3
    go_wp2_with (first
      | (go_at_call 9; refine (CA.out _ (hb1.trans hb2)).mono ?_; rintro r W3 ⟨rfl, hb3⟩)
      | (go_at_call 8; refine (C2.out _ hb1).mono ?_; rintro r W2 ⟨rfl, hb2⟩)
      | (go_at_call 7; refine (C1.out _ (Bel.refl _)).mono ?_; rintro r W1 ⟨rfl, hb1⟩))
    go_ret
    exact ⟨rfl, (hb1.trans hb2).trans hb3⟩
  · have C1 := Lib.hid fun W (hb : Bel w W) => text_any ms A c W (hM.keep hb) hs (by omega)
    have C2 := Lib.hid fun W (hb : Bel w W) => rtext_any ms A c W (hM.keep hb) hs (by omega)
    unfold textV at C1 C2
    generalize textS ms = te at C1 C2
    obtain ⟨t, e⟩ := te
    simp only at C1 C2
    have i1 : ¬ (200 : Int) < ms.length := by omega
    clear hM hs hl hc h2 hm hcm
    go_enter Tryd.func3, Tryd.ntmps3
    go_wp2_with (first
      | (go_at_call 9; refine (CA.out _ (hb1.trans hb2)).mono ?_; rintro r W3 ⟨rfl, hb3⟩)
      | (go_at_call 8; refine (C2.out _ hb1).mono ?_; rintro r W2 ⟨rfl, hb2⟩)
      | (go_at_call 7; refine (C1.out _ (Bel.refl _)).mono ?_; rintro r W1 ⟨rfl, hb1⟩))
    go_ret
    exact ⟨rfl, (hb1.trans hb2).trans hb3⟩
end Go.Proofs.YtobdokeklcdpoaaDoor
