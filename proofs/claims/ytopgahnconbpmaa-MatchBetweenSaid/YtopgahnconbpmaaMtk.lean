import Derived.Test.YtopgahnconbpmaaMtj
import Derived.Test.YtopgahnconbpmaaMtf
namespace Go.Proofs.Ytopgahnconbpmaa
set_option linter.unusedSimpArgs false
set_option linter.unusedVariables false
open Go.RowKit Go.Lib

/-! The document's May. -/
theorem may_any (any not : Bool) (l : List Tst) (A : Option Addr) (c : Nat) (v : Val) (w : World) (hs : Tsts w A l) (hl : l.length ≤ 9223372036854775807) (ht : ∀ t ∈ l, TOk t) (hv : v.text.size ≤ 9223372036854775807) :
    Calls Try.prog 9 #[tsv any not (.slice A l.length c), v.val] w fun e w' => e = .returned (.bool (usnd any not l && vsnd v)) ∧ Bel w w' := by
  have C1 := Lib.hid fun W (hW : Bel w W) => rusound_any any not l A c W (hs.keep hW) hl ht
  have C2 := Lib.hid fun W => rvsound_any v hv W
  generalize usnd any not l = q1 at C1 ⊢
  generalize vsnd v = q2 at C2 ⊢
  obtain ⟨v0, v1, v2, v3, v4⟩ := v
  clear hs hl ht hv
  cases q1 <;> cases q2
  all_goals
    go_enter Try.func9, Try.ntmps9
    go_wp2_with (first
      | (go_at_call 15; refine (C1.out _ (((Bel.refl w).alloc _).alloc _)).mono ?_; rintro e W1 ⟨rfl, hb1⟩; have hc1 := hb1.cells; have hz1 := hb1.lt2)
      | (go_at_call 16; refine (C2.out _).mono ?_; rintro e W2 ⟨rfl, hb2⟩))
    go_ret
    refine ⟨rfl, ?_⟩
    (repeat (first | with_reducible exact Bel.refl _ | with_reducible refine Bel.setCell ?_ (by first | exact Nat.le_refl _ | (dsimp only; omega)) _ | with_reducible refine Bel.alloc ?_ _ | with_reducible refine Bel.drew ?_ | with_reducible assumption | with_reducible refine Bel.trans ?_ (by assumption)))
end Go.Proofs.Ytopgahnconbpmaa
