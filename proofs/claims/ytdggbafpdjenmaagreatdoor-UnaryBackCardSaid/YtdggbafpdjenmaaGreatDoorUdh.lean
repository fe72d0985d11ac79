
import Derived.Test.YtdggbafpdjenmaaGreatDoorUde
import Derived.Test.YtdggbafpdjenmaaGreatDoorUcw
import Derived.Test.YtdggbafpdjenmaaGreatDoorUnc
import Derived.Test.YtdggbafpdjenmaaGreatDoorUnd
import Derived.Test.YtdggbafpdjenmaaGreatDoorMtf
namespace Go.Proofs.YtdggbafpdjenmaaGreatDoor
set_option linter.unusedSimpArgs false
set_option linter.unusedVariables false
open Go.RowKit
/-! What is written is read; the simplest facts. -/
theorem vsnd_size {v : Val} (h : vsnd v = true) : v.text.size ≤ 256 := by
  unfold vsnd at h
  have z0 : (⟨#[]⟩ : ByteArray).size = 0 := rfl
  split at h
  · rw [veq_iff] at h; rw [h]; show (⟨#[]⟩ : ByteArray).size ≤ 256; rw [z0]; omega
  split at h
  · rw [Bool.and_eq_true, veq_iff] at h; rw [h.1]; show (⟨#[]⟩ : ByteArray).size ≤ 256; rw [z0]; omega
  split at h
  · rw [Bool.and_eq_true, Bool.and_eq_true] at h; exact of_decide_eq_true h.2.1
  split at h
  · rw [Bool.and_eq_true, veq_iff] at h; rw [h.1]; show (⟨#[]⟩ : ByteArray).size ≤ 256; rw [z0]; omega
  split at h
  · rw [Bool.and_eq_true, veq_iff] at h; rw [h.1]; show (⟨#[]⟩ : ByteArray).size ≤ 256; rw [z0]; omega
  · cases h
theorem tsnd_ok {x : Tst} (h : tsnd x = true) : TOk x := by
  have hz : zv.text.size ≤ 9223372036854775807 := by decide
  rcases tst_form (fun v h => val_form h) h with ⟨v, rfl, -, hv⟩ | ⟨k, v, rfl, -, -, hv, -⟩ | ⟨lo, hi, a, b, rfl, -, -, h1, h2, -, -⟩
  · exact ⟨by have := vsnd_size hv; simp only; omega, hz⟩
  · exact ⟨by have := vsnd_size hv; simp only; omega, hz⟩
  · exact ⟨by have := vsnd_size h1; simp only; omega, by have := vsnd_size h2; simp only; omega⟩
theorem par_any : parU ⟨#[45]⟩ = (⟨true, false, []⟩, 0, 0) := by
  unfold parU
  rw [if_pos (by decide)]
/-- Sound tests: their text is read as they. -/
theorem par_txt {any no : Bool} {l : List Tst} (h : usnd any no l = true) : parU (bytesOf (txU ⟨any, no, l⟩)) = (⟨any, no, l⟩, 0, 0) ∧ (bytesOf (txU ⟨any, no, l⟩)).size ≤ 20000 ∧ l.length ≤ 8 ∧ ∀ x ∈ l, tsnd x = true := by
  unfold usnd at h
  cases any with
  | true =>
    simp only [if_true, Bool.and_eq_true, Bool.not_eq_true', decide_eq_true_eq] at h
    obtain ⟨rfl, h2⟩ := h
    obtain rfl := List.eq_nil_of_length_eq_zero h2
    exact ⟨par_any, by decide, by decide, by simp⟩
  | false =>
    rw [if_neg (by decide)] at h
    by_cases h8 : l.length = 0 ∨ 8 < l.length
    · rw [if_pos h8] at h; cases h
    · rw [if_neg h8] at h
      have hs := List.all_eq_true.1 h
      have hl : l ≠ [] := fun e => by rw [e] at h8; simp at h8
      refine ⟨read_written no l hl (by omega) hs, ?_, by omega, hs⟩
      rw [bytesOf_size]
      have := txU_len v_reads no l (fun x hx => tst_form (fun v h => val_form h) (hs x hx)) (by omega)
      omega
/-- What is read is sound. -/
theorem par_sound {s : ByteArray} {u : Uts} (h : parU s = (u, 0, 0)) : usnd u.any u.no u.list = true := by
  rcases read_good h with ⟨h1, h2, h3⟩ | ⟨h1, h2, h3, h4⟩
  · unfold usnd
    rw [h1, h2, h3]
    rfl
  · unfold usnd
    rw [h1, if_neg (by decide), if_neg (by omega)]
    exact List.all_eq_true.2 h2
deriving instance DecidableEq for Uts
def litA : ByteArray := ⟨#[110, 111, 116, 40, 32, 60, 32, 53, 44, 32, 91, 49, 46, 46, 50, 41, 44, 32, 45, 51, 44, 32, 34, 120, 34, 32, 41]⟩
def utsA : Uts := ⟨false, true, [⟨2, ⟨1, 5, 0, ⟨#[]⟩, 0⟩, zv, false, false⟩, ⟨6, ⟨1, 1, 0, ⟨#[]⟩, 0⟩, ⟨1, 2, 0, ⟨#[]⟩, 0⟩, false, true⟩, ⟨1, ⟨1, -3, 0, ⟨#[]⟩, 0⟩, zv, false, false⟩, ⟨1, ⟨2, 0, 0, ⟨#[120]⟩, 0⟩, zv, false, false⟩]⟩
theorem par_A : parU litA = (utsA, 0, 0) := by decide +kernel
theorem tx_A : bytesOf (txU utsA) = (⟨#[110, 111, 116, 40, 60, 32, 53, 44, 32, 91, 49, 46, 46, 50, 41, 44, 32, 45, 51, 44, 32, 34, 120, 34, 41]⟩ : ByteArray) := by decide +kernel
set_option maxRecDepth 100000 in
set_option maxHeartbeats 4000000 in
theorem awake_T (w : World) (ht : Tab w) (hm : Mx w) : Calls Tryz.prog 7 #[] w fun e w' => e = .returned (.bool true) ∧ Bel w w' := by
  have CP := Lib.hid (show Calls Tryz.prog 9 #[.string ⟨#[110, 111, 116, 40, 32, 60, 32, 53, 44, 32, 91, 49, 46, 46, 50, 41, 44, 32, 45, 51, 44, 32, 34, 120, 34, 32, 41]⟩] w fun e w' => ∃ A c, e = .returned (.tuple #[.agg #[.bool false, .bool true, .slice A 4 c], .int .i64 0, .int .i64 0]) ∧ Tsts w' A utsA.list ∧ Bel w w' from by
    refine (uParse_any litA (by decide) w hm).mono fun e w' h => ?_
    rw [par_A] at h
    obtain ⟨A, c, h1, h2, h3⟩ := h
    exact ⟨A, c, h1, rows_tsts h2, h3⟩)
  have CT := Lib.hid fun (W : World) (hW : Bel w W) A c (hT : Tsts W A utsA.list) => (show Calls Tryz.prog 6 #[.agg #[.bool false, .bool true, .slice A 4 c]] W fun e w' => e = .returned (.tuple #[.string ⟨#[110, 111, 116, 40, 60, 32, 53, 44, 32, 91, 49, 46, 46, 50, 41, 44, 32, 45, 51, 44, 32, 34, 120, 34, 41]⟩, .int .i64 0]) ∧ Bel W w' from by
    have hu : usnd false true utsA.list = true := par_sound par_A
    have h := uText_any false true utsA.list A c W hT (by decide) (fun t h => tsnd_ok ((par_txt hu).2.2.2 t h)) (ht.keep hW) (hm.keep hW)
    unfold utxV at h
    rw [if_pos hu] at h
    rw [show (⟨false, true, utsA.list⟩ : Uts) = utsA from rfl, tx_A] at h
    exact h)
  clear ht hm
  go_enter Tryz.func7, Tryz.ntmps7
  go_upto_region 2 with (go_at_call 9; refine (CP.out).mono ?_; rintro e V1 ⟨A, c, rfl, hT, hb1⟩; have hT := Lib.hid hT; have hb1 := Lib.hid hb1)
  refine under_name (w0 := V1) (by (repeat (first | with_reducible exact Bel.refl _ | with_reducible refine Bel.setCell ?_ (by first | exact Nat.le_refl _ | (dsimp only; omega)) _ | with_reducible refine Bel.alloc ?_ _ | with_reducible refine Bel.drew ?_ | with_reducible assumption | with_reducible refine Bel.trans ?_ (by assumption)))) fun W hc hf hz hb => ?_
  have T : UFree W V1.heap.size true (.slice A 4 c) := by simp [UFree, hc, hf, hz, go_sem]
  clear hc hf hz
  have hT2 := Lib.hid (hT.out.keep hb)
  have hq := Lib.hid (hb1.out.trans hb)
  clear hb
  generalize V1.heap.size = N at T
  have K := Lib.hid T
  obtain ⟨z, ⟨a0, a1, a2⟩, ⟨f0, f1, f2⟩⟩ := T
  go_upto_region 3 with (go_at_call 6; (with_reducible refine Calls.mono (CT.out _ hq.out _ _ hT2.out) ?_); rintro e V2 ⟨rfl, hb2⟩; have hb2 := Lib.hid hb2; clear z a0 a1 a2 f0 f1 f2; obtain ⟨z, ⟨a0, a1, a2⟩, ⟨f0, f1, f2⟩⟩ := K.out.keep hb2.out)
  go_wp2_with fail
  go_ret
  exact ⟨rfl, hq.out.trans hb2.out⟩
end Go.Proofs.YtdggbafpdjenmaaGreatDoor
namespace Go.Proofs.YtdggbafpdjenmaaGreatDoor
set_option linter.unusedSimpArgs false
set_option linter.unusedVariables false
open Go.RowKit
/-! Tests that are written are read as they were. -/
/-- A block that holds tests, whatever they are. -/
def UAt (w : World) (b : Nat) (a n : Bool) (v : Value) : Prop := b < w.heap.size ∧ w.cell? ⟨b, 0, none⟩ = some (.bool a) ∧ w.cell? ⟨b, 1, none⟩ = some (.bool n) ∧ w.cell? ⟨b, 2, none⟩ = some v
theorem UAt.keep {w w' : World} {b : Nat} {a n : Bool} {v : Value} (h : UAt w b a n v) (hb : Bel w w') : UAt w' b a n v := by
  obtain ⟨h0, h1, h2, h3⟩ := h
  exact ⟨Nat.lt_of_lt_of_le h0 hb.size, by rw [hb.cells _ _ h0]; exact h1, by rw [hb.cells _ _ h0]; exact h2, by rw [hb.cells _ _ h0]; exact h3⟩
set_option maxRecDepth 100000 in
set_option maxHeartbeats 8000000 in
theorem law_Back (any no : Bool) (l : List Tst) (A : Option Addr) (c : Nat) (w : World) (hs : Tsts w A l) (hl : l.length ≤ 9223372036854775807) (ht : ∀ t ∈ l, TOk t) (hT : Tab w) (hm : Mx w) :
    Calls Tryz.prog 3 #[tsv any no (.slice A l.length c)] w fun e w' => e = .returned (.bool true) ∧ Bel w w' := by
  have CT := Lib.hid fun W (hW : Bel w W) => uText_any any no l A c W (hs.keep hW) hl ht (hT.keep hW) (hm.keep hW)
  have CA := Lib.hid fun W (hW : Bel w W) => awake_T W (hT.keep hW) (hm.keep hW)
  have CS := Lib.hid fun W (hW : Bel w W) => rusound_any any no l A c W (hs.keep hW) hl ht
  cases hu : usnd any no l with
  | false =>
    have V := show utxV any no l = .tuple #[.string ⟨#[]⟩, .int .i64 2] from if_neg (by rw [hu]; decide)
    rw [V] at CT
    rw [hu] at CS
    clear hs hl ht hT hm V hu
    go_enter Tryz.func3, Tryz.ntmps3
    go_upto_region 1 with fail
    refine under_name ((Bel.refl w).alloc _) fun W hcc hf hz hb => ?_
    have T1 : UAt W w.heap.size any no (.slice A l.length c) := by simp [UAt, hcc, hz, go_sem]
    clear hcc hf hz
    generalize w.heap.size = N at T1
    have K := Lib.hid T1
    obtain ⟨z, a0, a1, a2⟩ := T1
    go_upto_region 2 with (go_at_call 6; (with_reducible refine Calls.mono (CT.out _ hb) ?_); rintro e V2 ⟨rfl, hb2⟩; have hq2 := Lib.hid (hb.trans hb2); have hk2 := Lib.hid (K.out.keep hb2); clear hb2 z a0 a1 a2)
    go_upto_region 3 with (go_at_call 7; (with_reducible refine Calls.mono (CA.out _ hq2.out) ?_); rintro e V3 ⟨rfl, hb3⟩; have hq3 := Lib.hid (hq2.out.trans hb3); have hk3 := Lib.hid (hk2.out.keep hb3); clear hb3)
    go_wp2_with (first
      | (go_at_call 7; (with_reducible refine Calls.mono (CA.out _ hq3.out) ?_); rintro e V4 ⟨rfl, hb4⟩; have hq4 := Lib.hid (hq3.out.trans hb4); obtain ⟨z, a0, a1, a2⟩ := hk3.out.keep hb4; clear hb4)
      | (go_at_call 8; (with_reducible refine Calls.mono (CS.out _ hq4.out) ?_); rintro e V5 ⟨rfl, hb5⟩; have hq5 := Lib.hid (hq4.out.trans hb5); clear hb5))
    go_ret
    exact ⟨rfl, hq5.out⟩
  | true =>
    obtain ⟨hP, hz, h8, hss⟩ := par_txt hu
    have V := show utxV any no l = .tuple #[.string (bytesOf (txU ⟨any, no, l⟩)), .int .i64 0] from if_pos hu
    rw [V] at CT
    have CP := fun W (hW : Bel w W) => uParse_any (bytesOf (txU ⟨any, no, l⟩)) (by omega) W (hm.keep hW)
    rw [hP] at CP
    have CP := Lib.hid CP
    have CM := Lib.hid fun B cb W (h1 : Bel w W) (h2 : Tsts W B l) => rsame_true any no l A B c cb W (hs.keep h1) h2 (by omega)
    generalize bytesOf (txU ⟨any, no, l⟩) = txt at CT CP
    clear hs hl ht hT hm V hu hP hz h8 hss
    go_enter Tryz.func3, Tryz.ntmps3
    go_upto_region 1 with fail
    refine under_name ((Bel.refl w).alloc _) fun W hcc hf hz hb => ?_
    have T1 : UAt W w.heap.size any no (.slice A l.length c) := by simp [UAt, hcc, hz, go_sem]
    clear hcc hf hz
    generalize w.heap.size = N at T1
    have K := Lib.hid T1
    obtain ⟨z, a0, a1, a2⟩ := T1
    go_upto_region 2 with (go_at_call 6; (with_reducible refine Calls.mono (CT.out _ hb) ?_); rintro e V2 ⟨rfl, hb2⟩; have hq2 := Lib.hid (hb.trans hb2); have hk2 := Lib.hid (K.out.keep hb2); clear hb2 z a0 a1 a2)
    go_upto_region 4 with (go_at_call 7; (with_reducible refine Calls.mono (CA.out _ hq2.out) ?_); rintro e V3 ⟨rfl, hb3⟩; have hq3 := Lib.hid (hq2.out.trans hb3); have hk3 := Lib.hid (hk2.out.keep hb3); clear hb3)
    go_upto_region 5 with (go_at_call 9; (with_reducible refine Calls.mono (CP.out _ hq3.out) ?_); rintro e V4 ⟨B, cb, rfl, h4, hb4⟩; have hq4 := Lib.hid (hq3.out.trans hb4); have hk4 := Lib.hid (hk3.out.keep hb4); have h4 := Lib.hid (rows_tsts h4); clear hb4)
    refine under_name (w0 := V4) (by (repeat (first | with_reducible exact Bel.refl _ | with_reducible refine Bel.setCell ?_ (by first | exact Nat.le_refl _ | (dsimp only; omega)) _ | with_reducible refine Bel.alloc ?_ _ | with_reducible refine Bel.drew ?_ | with_reducible assumption | with_reducible refine Bel.trans ?_ (by assumption)))) fun W5 hcc hf hz hb5 => ?_
    have T5 : UAt W5 V4.heap.size any no (.slice B l.length cb) := by simp [UAt, hcc, hz, go_sem]
    clear hcc hf hz
    have hNM : N < V4.heap.size := hk4.out.1
    generalize V4.heap.size = M at T5 hNM
    obtain ⟨z, a0, a1, a2⟩ := hk4.out.keep hb5
    obtain ⟨y, b0, b1, b2⟩ := T5
    have hq5 := Lib.hid (hq4.out.trans hb5)
    have h5 := Lib.hid (h4.out.keep hb5)
    clear hb5
    go_wp2_with (go_at_call 10; (with_reducible refine Calls.mono (CM.out _ _ _ hq5.out h5.out) ?_); rintro e V6 ⟨rfl, hb6⟩; have hq6 := Lib.hid (hq5.out.trans hb6); clear hb6)
    go_ret
    exact ⟨rfl, hq6.out⟩
end Go.Proofs.YtdggbafpdjenmaaGreatDoor
namespace Go.Proofs.YtdggbafpdjenmaaGreatDoor
set_option linter.unusedSimpArgs false
set_option linter.unusedVariables false
open Go.RowKit
/-! What is read is sound, and what is written of it is read as the same again. -/
theorem par_zero {s : ByteArray} (h : (parU s).2.2 = 0) : (parU s).2.1 = 0 := by
  unfold parU at h ⊢
  split
  · rfl
  · rename_i h1
    rw [if_neg h1] at h
    split
    · rename_i h2
      rw [if_pos h2] at h
      cases hw : whoP (tokS s).1 with
      | bad r e =>
        rw [hw] at h
        have := whoP_err hw
        simp only at h
        omega
      | ok y r => rfl
    · rename_i h2
      rw [if_neg h2] at h
      exact absurd h h2
theorem par_tst {s : ByteArray} {u : Uts} (h : parU s = (u, 0, 0)) : ∀ t ∈ u.list, TOk t := fun t ht => tsnd_ok ((par_txt (par_sound h)).2.2.2 t ht)
set_option maxRecDepth 100000 in
set_option maxHeartbeats 8000000 in
theorem law_Once (s : ByteArray) (hs : s.size ≤ 9223372036854775807) (w : World) (hT : Tab w) (hm : Mx w) :
    Calls Tryz.prog 4 #[.string s] w fun e w' => e = .returned (.bool true) ∧ Bel w w' := by
  have CP := Lib.hid fun W (hW : Bel w W) => uParse_any s hs W (hm.keep hW)
  have CA := Lib.hid fun W (hW : Bel w W) => awake_T W (hT.keep hW) (hm.keep hW)
  have hat := parU_at s
  have si : (s.size : Int) ≤ 9223372036854775807 := by omega
  by_cases he : (parU s).2.2 = 0
  · have hpu : parU s = ((parU s).1, 0, 0) := by
      have h0 : (parU s).2.1 = 0 := par_zero he
      rw [← h0, ← he]
    generalize (parU s).1 = u at hpu
    rw [hpu] at CP
    have hsn := par_sound hpu
    have hok := par_tst hpu
    obtain ⟨any, no, l⟩ := u
    simp only at hsn hok
    obtain ⟨hP, hz, h8, hss⟩ := par_txt hsn
    have CT := Lib.hid fun A c W (hW : Bel w W) (h2 : Tsts W A l) => uText_any any no l A c W h2 (by omega) hok (hT.keep hW) (hm.keep hW)
    have CS := Lib.hid fun A c W (h2 : Tsts W A l) => usound_any any no l A c W h2 (by omega) hok
    have V := show utxV any no l = .tuple #[.string (bytesOf (txU ⟨any, no, l⟩)), .int .i64 0] from if_pos hsn
    rw [V] at CT
    rw [hsn] at CS
    have CQ := fun W (hW : Bel w W) => uParse_any (bytesOf (txU ⟨any, no, l⟩)) (by omega) W (hm.keep hW)
    rw [hP] at CQ
    have CQ := Lib.hid CQ
    have CM := Lib.hid fun A ca B cb W (h1 : Tsts W A l) (h2 : Tsts W B l) => rsame_true any no l A B ca cb W h1 h2 (by omega)
    generalize bytesOf (txU ⟨any, no, l⟩) = txt at CT CQ
    clear hs hT hm V hP hz h8 hss hsn hok hpu he hat si
    go_enter Tryz.func4, Tryz.ntmps4
    go_upto_region 2 with (go_at_call 9; (with_reducible refine Calls.mono (CP.out _ (Bel.refl _)) ?_); rintro e V1 ⟨A, c, rfl, h1, hb1⟩; have hq1 := Lib.hid hb1; have h1 := Lib.hid (rows_tsts h1); clear hb1)
    refine under_name (w0 := V1) (by (repeat (first | with_reducible exact Bel.refl _ | with_reducible refine Bel.setCell ?_ (by first | exact Nat.le_refl _ | (dsimp only; omega)) _ | with_reducible refine Bel.alloc ?_ _ | with_reducible refine Bel.drew ?_ | with_reducible assumption | with_reducible refine Bel.trans ?_ (by assumption)))) fun W2 hcc hf hz hb2 => ?_
    have T2 : UAt W2 V1.heap.size any no (.slice A l.length c) := by simp [UAt, hcc, hz, go_sem]
    clear hcc hf hz
    generalize V1.heap.size = N at T2
    have hq2 := Lib.hid (hq1.out.trans hb2)
    have h2 := Lib.hid (h1.out.keep hb2)
    have k2 := Lib.hid T2
    clear hb2 T2
    go_upto_region 4 with (go_at_call 7; (with_reducible refine Calls.mono (CA.out _ hq2.out) ?_); rintro e V3 ⟨rfl, hb3⟩; have hq3 := Lib.hid (hq2.out.trans hb3); have k3 := Lib.hid (k2.out.keep hb3); have h3 := Lib.hid (h2.out.keep hb3); clear hb3)
    obtain ⟨z, a0, a1, a2⟩ := k3.out
    go_upto_region 5 with (go_at_call 6; (with_reducible refine Calls.mono (CT.out _ _ _ hq3.out h3.out) ?_); rintro e V4 ⟨rfl, hb4⟩; have hq4 := Lib.hid (hq3.out.trans hb4); have k4 := Lib.hid (k3.out.keep hb4); have h4 := Lib.hid (h3.out.keep hb4); clear hb4 z a0 a1 a2)
    go_upto_region 6 with (go_at_call 9; (with_reducible refine Calls.mono (CQ.out _ hq4.out) ?_); rintro e V5 ⟨B, cb, rfl, g5, hb5⟩; have hq5 := Lib.hid (hq4.out.trans hb5); have k5 := Lib.hid (k4.out.keep hb5); have h5 := Lib.hid (h4.out.keep hb5); have g5 := Lib.hid (rows_tsts g5); clear hb5)
    refine under_name (w0 := V5) (by (repeat (first | with_reducible exact Bel.refl _ | with_reducible refine Bel.setCell ?_ (by first | exact Nat.le_refl _ | (dsimp only; omega)) _ | with_reducible refine Bel.alloc ?_ _ | with_reducible refine Bel.drew ?_ | with_reducible assumption | with_reducible refine Bel.trans ?_ (by assumption)))) fun W6 hcc hf hz hb6 => ?_
    have T6 : UAt W6 V5.heap.size any no (.slice B l.length cb) := by simp [UAt, hcc, hz, go_sem]
    clear hcc hf hz
    have hNM : N < V5.heap.size := k5.out.1
    generalize V5.heap.size = M at T6 hNM
    have k6 := Lib.hid (And.intro (k5.out.keep hb6) T6)
    have hq6 := Lib.hid (hq5.out.trans hb6)
    have h6 := Lib.hid (And.intro (h5.out.keep hb6) (g5.out.keep hb6))
    clear hb6 T6
    obtain ⟨z, a0, a1, a2⟩ := k6.out.1
    go_wp2_with (first
      | (go_at_call 11; (with_reducible refine Calls.mono (CS.out _ _ _ h6.out.1) ?_); rintro e V7 ⟨rfl, hb7⟩; have hq7 := Lib.hid (hq6.out.trans hb7); have h7 := Lib.hid (And.intro (h6.out.1.keep hb7) (h6.out.2.keep hb7)); clear z a0 a1 a2; obtain ⟨z, a0, a1, a2⟩ := k6.out.1.keep hb7; obtain ⟨y, b0, b1, b2⟩ := k6.out.2.keep hb7; clear hb7)
      | (go_at_call 10; (with_reducible refine Calls.mono (CM.out _ _ _ _ _ h7.out.1 h7.out.2) ?_); rintro e V8 ⟨rfl, hb8⟩; have hq8 := Lib.hid (hq7.out.trans hb8); clear hb8))
    go_ret
    exact ⟨rfl, hq8.out⟩
  · have g1 : (((parU s).2.2 : Int) != 0) = true := by rw [bne_iff_ne]; omega
    have g2 : 0 ≤ (parU s).2.1 := hat.1
    have g3 : (parU s).2.1 ≤ (s.size : Int) := hat.2
    generalize parU s = R at CP g1 g2 g3
    obtain ⟨u, pl, er⟩ := R
    simp only at CP g1 g2 g3
    clear hs hT hm hat he
    go_enter Tryz.func4, Tryz.ntmps4
    go_upto_region 2 with (go_at_call 9; (with_reducible refine Calls.mono (CP.out _ (Bel.refl _)) ?_); rintro e V1 ⟨A, c, rfl, h1, hb1⟩; have hq1 := Lib.hid hb1; clear hb1 h1)
    refine under_name (w0 := V1) (by (repeat (first | with_reducible exact Bel.refl _ | with_reducible refine Bel.setCell ?_ (by first | exact Nat.le_refl _ | (dsimp only; omega)) _ | with_reducible refine Bel.alloc ?_ _ | with_reducible refine Bel.drew ?_ | with_reducible assumption | with_reducible refine Bel.trans ?_ (by assumption)))) fun W2 hcc hf hz hb2 => ?_
    clear hcc hf hz
    have hq2 := Lib.hid (hq1.out.trans hb2)
    clear hb2
    go_upto_region 3 with (go_at_call 7; (with_reducible refine Calls.mono (CA.out _ hq2.out) ?_); rintro e V3 ⟨rfl, hb3⟩; have hq3 := Lib.hid (hq2.out.trans hb3); clear hb3)
    go_wp2_with (go_at_call 7; (with_reducible refine Calls.mono (CA.out _ hq3.out) ?_); rintro e V4 ⟨rfl, hb4⟩; have hq4 := Lib.hid (hq3.out.trans hb4); clear hb4)
    go_ret
    exact ⟨rfl, hq4.out⟩
end Go.Proofs.YtdggbafpdjenmaaGreatDoor
