import Derived.Test.YteblpdoljhmcmaaPlt
import Derived.Lib.OthersKept
namespace Go.Proofs.Yteblpdoljhmcmaa
set_option linter.unusedSimpArgs false
set_option linter.unusedVariables false
open Go.RowKit Go.Lib
attribute [local go_sem ↓] eql_val neq_val

/-! The document's answers: Known. -/
def KL : List Int := [85, 65, 80, 70, 43, 60, 62, 35]
def KS : ByteArray := ⟨#[85, 65, 80, 70, 43, 60, 62, 35]⟩
theorem known_KL (p : Int) : known p = KL.any fun x => decide (p = x) := by simp [known, KL]
theorem KS_size : KS.size = 8 := rfl
theorem KS_at : ∀ pos : Fin 8, ((KS[pos.1]'pos.2).toNat : Int) = KL.getD pos.1 0 ∧ (KS[pos.1]'pos.2).toNat < 128 := by decide +kernel
set_option maxRecDepth 100000 in
set_option maxHeartbeats 4000000 in
theorem rknown_any (p : Int) (w : World) : Calls Try.prog 13 #[.int .i64 p] w fun e w' => e = .returned (.bool (known p)) ∧ Bel w w' := by
  obtain ⟨R, hR⟩ : ∃ R, R = known p := ⟨_, rfl⟩
  rw [← hR]
  have RR := Lib.hid (hR.trans (known_KL p))
  clear hR
  go_enter Try.func13, Try.ntmps13
  go_wp2
  have hit0 : (w.iter KS 0).heap[w.heap.size]? = some (.stringIter KS 0) := World.iter_heap w KS 0
  have hb0 : Bel w (w.iter KS 0) := (Bel.refl w).alloc _
  have HB := Lib.hid (And.intro hit0 hb0)
  clear hit0 hb0
  go_loopg [] 8 (fun g wr => ∃ pos : Nat, Hid (wr.heap[w.heap.size]? = some (.stringIter KS pos)) ∧ Bel w wr ∧ Hid (R = ((KL.drop pos).any fun x => decide (p = x)) ∧ pos ≤ 8 ∧ g = 8 - pos))
  case atStart => exact ⟨0, HB.out.1, HB.out.2, ⟨RR.out, by omega, rfl⟩⟩
  case round =>
    obtain ⟨pos, hit, hb, hh⟩ := hrel
    by_cases hp : pos < 8
    · have ks := KS_at ⟨pos, hp⟩
      simp only at ks
      have h := fun ty => Lib.run_next_ascii_at (P := Try.prog) wr w.heap.size KS pos ty hit.out hp ks.2
      have hit2 := Lib.hid (Lib.iterAt_heap wr w.heap.size KS pos (pos + 1) hit.out)
      have hb2 : Bel w (wr.iterAt w.heap.size KS (pos + 1)) := Lib.below_iterAt hb (k := w.heap.size) (Nat.le_refl _) KS _
      have hdr : KL.drop pos = KL.getD pos 0 :: KL.drop (pos + 1) := by
        have : ∀ q : Fin 8, KL.drop q.1 = KL.getD q.1 0 :: KL.drop (q.1 + 1) := by decide +kernel
        exact this ⟨pos, hp⟩
      have RN := Lib.hid (show R = (decide (p = KL.getD pos 0) || (KL.drop (pos + 1)).any fun x => decide (p = x)) from by rw [hh.out.1, hdr]; rfl)
      obtain ⟨x, hx⟩ : ∃ x : Nat, x = (KS[pos]'hp).toNat := ⟨_, rfl⟩
      rw [← hx] at h ks
      rw [← ks.1] at RN
      have x1 : (x : Int) < 128 := by omega
      obtain ⟨W2, hW2⟩ : ∃ W2, W2 = wr.iterAt w.heap.size KS (pos + 1) := ⟨_, rfl⟩
      rw [← hW2] at hit2 hb2
      have hnx : ∀ ty, (Instr.next (.pointer (some ⟨w.heap.size, 0, none⟩)) true ty).run Try.prog wr = .ok (.tuple #[.bool true, .int .i64 pos, .int .i32 x]) W2 := fun ty => by rw [hW2]; exact h ty
      have i1 : (pos : Int) < 8 := by omega
      clear h hdr hx ks hW2 hb
      by_cases e : p = x
      · subst e
        obtain rfl : R = true := RN.out.trans (by simp)
        go_wp2
        go_ret
        exact ⟨rfl, hb2⟩
      · have RN := Lib.hid (show R = ((KL.drop (pos + 1)).any fun x => decide (p = x)) from RN.out.trans (by simp [e]))
        have e1 : (p == (x : Int)) = false := beq_eq_false_iff_ne.2 e
        go_wp2
        go_roundg (8 - (pos + 1))
        case measure => have := hh.out.2.2; omega
        case rel => exact ⟨pos + 1, hit2, hb2, ⟨RN.out, by omega, rfl⟩⟩
    · have hnx : ∀ ty, (Instr.next (.pointer (some ⟨w.heap.size, 0, none⟩)) true ty).run Try.prog wr = .ok (.tuple #[.bool false]) wr := fun ty => Lib.run_next_end_at wr w.heap.size KS pos ty hit.out hp
      obtain rfl : R = false := by
        have h := hh.out.1
        rw [List.drop_eq_nil_of_le (by show 8 ≤ pos; omega)] at h
        exact h
      go_wp2
      go_ret
      exact ⟨rfl, hb⟩
end Go.Proofs.Yteblpdoljhmcmaa
