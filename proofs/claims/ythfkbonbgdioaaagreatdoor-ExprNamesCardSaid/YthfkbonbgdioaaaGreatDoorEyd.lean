import Derived.Test.YthfkbonbgdioaaaGreatDoorEyc
import Derived.Test.YthfkbonbgdioaaaGreatDoorExu
namespace Go.Proofs.YthfkbonbgdioaaaGreatDoor
set_option linter.unusedSimpArgs false
set_option linter.unusedVariables false
open Go.RowKit
/-! The simplest facts. -/
theorem par_sm {s : ByteArray} {x : Ex} {n : Int} (h : parE s = (x, n, 0)) : smX x := by
  obtain ⟨_, _, _, p, ⟨_, k, hk⟩⟩ := parE_ok h
  have h1 := parX_sm k .inner 0 0 (tokS s).1 trivial (toks_snd s)
  rw [hk k (Nat.le_refl _)] at h1
  exact h1
theorem snd_ok {x : Ex} (h : sndX x = true) : okX x = true := by
  unfold sndX at h
  rw [Bool.and_eq_true] at h
  exact h.1
theorem eparse_is {s : ByteArray} {x : Ex} {n : Int} {e : Nat} (h : parE s = (x, n, e)) (hs : s.size ≤ 9223372036854775807) (w : World) (hm : Mx w) :
    Calls Tryz.prog 15 #[.string s] w fun r w' => ∃ A c, r = .returned (.tuple #[exV x.op x.v (bytesOf x.nm) A x.ks.length c, .int .i64 n, .int .i64 e]) ∧ Lie (fun _ => True) w' A x.ks ∧ Bel w w' := by
  refine (eparse_any s hs w hm).mono fun r w' h' => ?_
  unfold EOut at h'
  rw [h] at h'
  obtain ⟨A, c, h1, h2, h3⟩ := h'
  exact ⟨A, c, h1, h2.weak (fun _ _ _ => trivial), h3⟩
def litA : ByteArray := ⟨#[97, 32, 43, 32, 50, 32, 42, 32, 45, 98, 32, 61, 32, 51, 32, 97, 110, 100, 32, 110, 111, 116, 40, 99, 41]⟩
def exA : Ex := .mk 14 zv [] [.mk 8 zv [] [.mk 4 zv [] [.mk 2 zv [97] [], .mk 6 zv [] [.mk 1 ⟨1, 2, 0, ⟨#[]⟩, 0⟩ [] [], .mk 3 zv [] [.mk 2 zv [98] []]]], .mk 1 ⟨1, 3, 0, ⟨#[]⟩, 0⟩ [] []], .mk 16 zv [] [.mk 2 zv [99] []]]
theorem par_A : parE litA = (exA, 0, 0) := by kernel_rfl
theorem tx_A : bytesOf (txX exA) = (⟨#[40, 40, 97, 32, 43, 32, 40, 50, 32, 42, 32, 40, 45, 98, 41, 41, 41, 32, 61, 32, 51, 41, 32, 97, 110, 100, 32, 40, 110, 111, 116, 40, 99, 41, 41]⟩ : ByteArray) := by decide +kernel
set_option maxRecDepth 100000 in
set_option maxHeartbeats 8000000 in
theorem awake_T (w : World) (ht : Tab w) (hm : Mx w) : Calls Tryz.prog 9 #[] w fun e w' => e = .returned (.bool true) ∧ Bel w w' := by
  have CP := Lib.hid (show Calls Tryz.prog 15 #[.string ⟨#[97, 32, 43, 32, 50, 32, 42, 32, 45, 98, 32, 61, 32, 51, 32, 97, 110, 100, 32, 110, 111, 116, 40, 99, 41]⟩] w fun e w' => ∃ A c, e = .returned (.tuple #[.agg #[.int .i64 14, .int .i64 0, .int .i64 0, .int .i64 0, .string ⟨#[]⟩, .int .i64 0, .string ⟨#[]⟩, .slice A 2 c], .int .i64 0, .int .i64 0]) ∧ Lie (fun _ => True) w' A exA.ks ∧ Bel w w' from eparse_is par_A (by decide) w hm)
  have CT := Lib.hid fun (W : World) (hW : Bel w W) A c (hL : Lie (fun _ => True) W A exA.ks) => (show Calls Tryz.prog 14 #[.agg #[.int .i64 14, .int .i64 0, .int .i64 0, .int .i64 0, .string ⟨#[]⟩, .int .i64 0, .string ⟨#[]⟩, .slice A 2 c]] W fun e w' => e = .returned (.tuple #[.string ⟨#[40, 40, 97, 32, 43, 32, 40, 50, 32, 42, 32, 40, 45, 98, 41, 41, 41, 32, 61, 32, 51, 41, 32, 97, 110, 100, 32, 40, 110, 111, 116, 40, 99, 41, 41]⟩, .int .i64 0]) ∧ Bel W w' from by
    have h := etext_any exA A c W (par_sm par_A) hL (ht.keep hW) (hm.keep hW)
    have hl : (txX exA).length ≤ 65536 := by
      rw [← bytesOf_size, tx_A]
      decide
    unfold etxV at h
    rw [if_pos (parE_ok par_A).2.1, if_pos hl, tx_A] at h
    exact h)
  clear ht hm
  go_enter Tryz.func9, Tryz.ntmps9
  go_upto_region 2 with (go_at_call 15; (with_reducible refine Calls.mono CP.out ?_); rintro e V1 ⟨A, c, rfl, hT, hb1⟩; have hT := Lib.hid hT; have hb1 := Lib.hid hb1)
  refine under_name (w0 := V1) (by (repeat (first | with_reducible exact Bel.refl _ | with_reducible refine Bel.setCell ?_ (by first | exact Nat.le_refl _ | (dsimp only; omega)) _ | with_reducible refine Bel.alloc ?_ _ | with_reducible refine Bel.drew ?_ | with_reducible assumption | with_reducible refine Bel.trans ?_ (by assumption)))) fun W hcc hf hz hb => ?_
  have T : XFree W V1.heap.size 14 ⟨0, 0, 0, ⟨#[]⟩, 0⟩ ⟨#[]⟩ A 2 c := by simp [XFree, ExAt, hcc, hf, hz, go_sem]
  clear hcc hf hz
  have hT2 := Lib.hid (hT.out.keep hb)
  have hq := Lib.hid (hb1.out.trans hb)
  clear hb
  generalize V1.heap.size = N at T
  have K := Lib.hid T
  obtain ⟨tz, ⟨t0, t1, t2, t3, t4, t5, t6, t7⟩, ⟨tf0, tf1, tf2, tf3, tf4, tf5, tf6, tf7⟩⟩ := T
  simp only [Nat.zero_add] at t0 t1 t2 t3 t4 t5 t6 t7
  go_upto_region 3 with (go_at_call 14; (with_reducible refine Calls.mono (CT.out _ hq.out _ _ hT2.out) ?_); rintro e V2 ⟨rfl, hb2⟩; have hb2 := Lib.hid hb2; clear tz t0 t1 t2 t3 t4 t5 t6 t7 tf0 tf1 tf2 tf3 tf4 tf5 tf6 tf7; obtain ⟨tz, ⟨t0, t1, t2, t3, t4, t5, t6, t7⟩, ⟨tf0, tf1, tf2, tf3, tf4, tf5, tf6, tf7⟩⟩ := K.out.keep hb2.out; simp only [Nat.zero_add] at t0 t1 t2 t3 t4 t5 t6 t7)
  go_wp2_with fail
  go_ret
  exact ⟨rfl, hq.out.trans hb2.out⟩
end Go.Proofs.YthfkbonbgdioaaaGreatDoor
