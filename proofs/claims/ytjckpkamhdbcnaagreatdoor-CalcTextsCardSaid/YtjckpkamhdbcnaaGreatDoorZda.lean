import Derived.Test.YtjckpkamhdbcnaaGreatDoorZbg
import Derived.Test.YtjckpkamhdbcnaaGreatDoorZca
namespace Go.Proofs.YtjckpkamhdbcnaaGreatDoor
set_option maxRecDepth 100000
set_option maxHeartbeats 64000000
set_option linter.unusedSimpArgs false
set_option linter.unusedVariables false
open Go.RowKit
attribute [local go_sem ↓] Qas Qau
theorem Qii (op : Int) (hop : op = 4 \/ op = 5 \/ op = 6 \/ op = 7) (a b : Val) (ha : vsnd a = true) (hb : vsnd b = true) (w : World) : Calls Tryz.prog 58 #[.int .i64 op, a.val, b.val] w fun e w' => e = .returned (rck op a b).val /\ Bel w w' := by
 by_cases hk : ¬ (a.kind = 1 /\ b.kind = 1)
 ·have L := Hd (show rck op a b = zero from Qkx hk)
  obtain ⟨k', n', s', t', m'⟩ := b
  obtain ⟨k, n, s, t, m⟩ := a
  replace hk : ¬ (k = 1 /\ k' = 1) := hk
  clear ha hb hop
  by_cases h1 : k = 1
  ·subst h1
   have f2 : (k' != 1) = true := by rw [bne_iff_ne]; omega
   clear hk
   go_enter Tryz.func58, Tryz.ntmps58
   go_wp2_with fail
   refine pR (by simp [results, Tryz.results58, go_sem]; try rfl) rfl ⟨by rw [L.out] <;> rfl, ?_⟩
   exact Bel.y
  have f1 : (k != 1) = true := by rw [bne_iff_ne]; exact h1
  clear h1 hk
  go_enter Tryz.func58, Tryz.ntmps58
  go_wp2_with fail
  refine pR (by simp [results, Tryz.results58, go_sem]; try rfl) rfl ⟨by rw [L.out] <;> rfl, ?_⟩
  exact Bel.y
 replace hk := Classical.not_not.1 hk
 have d2 := Qdt hb hk.2
 have d1 := Qdt ha hk.1
 obtain ⟨k', n', s', t', m'⟩ := b
 obtain ⟨k, n, s, t, m⟩ := a
 obtain ⟨rfl, rfl⟩ : k = 1 /\ k' = 1 := hk
 clear ha hb
 have wn : IntKind.i64.wrap (-n') = -n' := by have h1 : -999999999999 <= n' := d2.2.2.1.1; have h2 : n' <= 999999999999 := d2.2.2.1.2; rw [IntKind.wrap_i64]; omega
 have E := Qea op n s n' s' d1 d2
 clear d1 d2
 rcases hop with rfl | rfl | rfl | rfl
 all_goals
  rcases E with ⟨x, y, he, -⟩ | ⟨e, he0, he⟩
  all_goals
   first
   | have L := Hd (show rck _ ⟨1, n, s, t, m⟩ ⟨1, n', s', t', m'⟩ = _ from Qhc (a3 := t) (a4 := m) he)
   | (have L := Hd (show rck _ ⟨1, n, s, t, m⟩ ⟨1, n', s', t', m'⟩ = _ from Qhd he0 (a3 := t) (a4 := m) he); have f3 : (((e : Nat) : Int) != 0) = true := by rw [bne_iff_ne]; omega)
   first
   | (have HC := Hd (show ∀ w, Calls Tryz.prog 84 #[decA n s, decA n' s'] w fun e w' => e = .returned (opV 4 n s n' s') /\ Bel w w' from fun w => Qk5 n s n' s' w); rw [he] at HC)
   | (have HC := Hd (show ∀ w, Calls Tryz.prog 84 #[decA n s, decA (-n') s'] w fun e w' => e = .returned (opV 5 n s n' s') /\ Bel w w' from fun w => Qk5 n s (-n') s' w); rw [he] at HC)
   | (have HC := Hd (show ∀ w, Calls Tryz.prog 85 #[decA n s, decA n' s'] w fun e w' => e = .returned (opV 6 n s n' s') /\ Bel w w' from fun w => Qrz n s n' s' w); rw [he] at HC)
   | (have HC := Hd (show ∀ w, Calls Tryz.prog 86 #[decA n s, decA n' s'] w fun e w' => e = .returned (opV 7 n s n' s') /\ Bel w w' from fun w => Qr3 n s n' s' w); rw [he] at HC)
   clear he
   go_enter Tryz.func58, Tryz.ntmps58
   go_upto_region 5 with fail
   refine uN (w0 := w) (by exact Bel.y) fun W hc hf hz hbW => ?_
   have A0 : Slot W w.heap.size ⟨1, n, s, t, m⟩ := by simp [Slot, Qal, Qah, hc, hf, hz, go_sem]
   have B0 : Slot W (w.heap.size + 1) ⟨1, n', s', t', m'⟩ := by simp [Slot, Qal, Qah, hc, hf, hz, go_sem]
   have V0 : Slot W (w.heap.size + 1 + 1) zero := by simp [Slot, Qal, Qah, zero, hc, hf, hz, go_sem]
   have D0 : Qfv W (w.heap.size + 1 + 1 + 1) 0 0 := by simp [Qfv, hc, hf, hz, go_sem]
   clear hc hf hz
   go_wp2_with (first
    | (go_at_call 84; with_reducible refine (HC.out _).mono ?_; rintro e W1 ⟨rfl, hb1⟩; have V1 := V0.keep hb1; have D1 := D0.keep hb1; clear A0 B0 V0 D0)
    | (go_at_call 85; with_reducible refine (HC.out _).mono ?_; rintro e W1 ⟨rfl, hb1⟩; have V1 := V0.keep hb1; have D1 := D0.keep hb1; clear A0 B0 V0 D0)
    | (go_at_call 86; with_reducible refine (HC.out _).mono ?_; rintro e W1 ⟨rfl, hb1⟩; have V1 := V0.keep hb1; have D1 := D0.keep hb1; clear A0 B0 V0 D0))
   refine pR (by simp [results, Tryz.results58, go_sem, V1]; try rfl) rfl ⟨by rw [L.out] <;> rfl, ?_⟩
   exact Bel.y
end Go.Proofs.YtjckpkamhdbcnaaGreatDoor
