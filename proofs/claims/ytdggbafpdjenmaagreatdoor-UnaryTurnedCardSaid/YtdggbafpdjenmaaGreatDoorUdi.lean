import Derived.Test.YtdggbafpdjenmaaGreatDoorUdh
namespace Go.Proofs.YtdggbafpdjenmaaGreatDoor
set_option linter.unusedSimpArgs false
set_option linter.unusedVariables false
open Go.RowKit
/-! Tests with not( ) around. -/
theorem Tsts.but {w w' : World} {A : Option Addr} {l : List Tst} {N : Nat} (h : Tsts w A l) (hb : But N w w') (hA : ∀ b o, A = some ⟨b, o, none⟩ → 0 < l.length → b ≠ N) : Tsts w' A l := fun h0 => by
  obtain ⟨b, off, e, hlt, hc⟩ := h h0
  refine ⟨b, off, e, Nat.lt_of_lt_of_le hlt hb.size, fun i t ht => ?_⟩
  have c : ∀ o, w'.cell? ⟨b, o, none⟩ = w.cell? ⟨b, o, none⟩ := fun o => hb.cell (p := ⟨b, o, none⟩) hlt (hA b off e h0)
  have := hc i t ht
  simp only [TstAt, c]
  exact this
theorem UFree.no {w : World} {b : Nat} {n : Bool} {v : Value} (h : UFree w b n v) (n' : Bool) : UFree (w.setCell ⟨b, 1, none⟩ (.bool n')) b n' v := by
  obtain ⟨z, ⟨a0, a1, a2⟩, ⟨f0, f1, f2⟩⟩ := h
  simp [UFree, go_sem, z, a0, a1, a2, f0, f1, f2]
set_option maxRecDepth 100000 in
set_option maxHeartbeats 8000000 in
theorem law_Turned (s : ByteArray) (hs : s.size ≤ 9223372036854775807) (w : World) (hT : Tab w) (hm : Mx w) :
    Calls Tryz.prog 5 #[.string s] w fun e w' => e = .returned (.bool true) ∧ Bel w w' := by
  have CP := Lib.hid fun W (hW : Bel w W) => uParse_any s hs W (hm.keep hW)
  have CA := Lib.hid fun W (hW : Bel w W) => awake_T W (hT.keep hW) (hm.keep hW)
  have si : (s.size : Int) ≤ 9223372036854775807 := by omega
  by_cases hgo : (parU s).2.2 = 0 ∧ (parU s).1.any = false ∧ (parU s).1.no = false ∧ s.size ≤ 60000
  · obtain ⟨he, ha, hn, h6⟩ := hgo
    have hpu : parU s = ((parU s).1, 0, 0) := by
      have h0 : (parU s).2.1 = 0 := par_zero he
      rw [← h0, ← he]
    generalize (parU s).1 = u at hpu ha hn
    obtain ⟨any, no, l⟩ := u
    obtain rfl : any = false := ha
    obtain rfl : no = false := hn
    rw [hpu] at CP
    have h8 : l.length ≤ 8 := (par_txt (par_sound hpu)).2.2.1
    have hN := read_not h6 hpu
    have e1 : (⟨#[110, 111, 116, 40]⟩ : ByteArray) ++ s ++ ⟨#[41]⟩ = bytesOf ([110, 111, 116] ++ ([40] ++ (s.data.toList ++ [41]))) := by
      rw [← bytesOf_data ((⟨#[110, 111, 116, 40]⟩ : ByteArray) ++ s ++ ⟨#[41]⟩)]
      congr 1
    rw [← e1] at hN
    have CQ := fun W (hW : Bel w W) => uParse_any ((⟨#[110, 111, 116, 40]⟩ : ByteArray) ++ s ++ ⟨#[41]⟩) (by rw [e1, bytesOf_size]; simp only [List.length_append, List.length_cons, List.length_nil]; have : s.data.toList.length = s.size := size_l s; omega) W (hm.keep hW)
    rw [hN] at CQ
    have CQ := Lib.hid CQ
    have CM := Lib.hid fun A ca B cb W (h1 : Tsts W A l) (h2 : Tsts W B l) => rsame_true false true l A B ca cb W h1 h2 (by omega)
    have l6 : (s.size : Int) ≤ 60000 := by omega
    have l7 : ¬ (60000 : Int) < (s.size : Int) := by omega
    clear hs hT hm he hpu h8 hN e1
    go_enter Tryz.func5, Tryz.ntmps5
    go_upto_region 2 with (go_at_call 9; (with_reducible refine Calls.mono (CP.out _ (Bel.refl _)) ?_); rintro e V1 ⟨A, c, rfl, h1, hb1⟩; have hq1 := Lib.hid hb1; have h1 := Lib.hid h1; clear hb1)
    refine under_name (w0 := V1) (by (repeat (first | with_reducible exact Bel.refl _ | with_reducible refine Bel.setCell ?_ (by first | exact Nat.le_refl _ | (dsimp only; omega)) _ | with_reducible refine Bel.alloc ?_ _ | with_reducible refine Bel.drew ?_ | with_reducible assumption | with_reducible refine Bel.trans ?_ (by assumption)))) fun W2 hcc hf hz hb2 => ?_
    have T2 : UFree W2 V1.heap.size false (.slice A l.length c) := by simp [UFree, hcc, hf, hz, go_sem]
    clear hcc hf hz
    have hN1 := Lib.hid (show w.heap.size ≤ V1.heap.size from hq1.out.size)
    have hT1 := Lib.hid (show ∀ (b o : Nat), A = some ⟨b, o, none⟩ → 0 < l.length → b < V1.heap.size from fun b o e _ => (rows_in h1.out e).2)
    replace h1 := Lib.hid (rows_tsts h1.out)
    generalize V1.heap.size = N at T2 hN1 hT1
    have hq2 := Lib.hid (hq1.out.trans hb2)
    have h2 := Lib.hid (h1.out.keep hb2)
    have k2 := Lib.hid T2
    clear hb2 T2
    go_upto_region 4 with (go_at_call 7; (with_reducible refine Calls.mono (CA.out _ hq2.out) ?_); rintro e V3 ⟨rfl, hb3⟩; have hq3 := Lib.hid (hq2.out.trans hb3); have k3 := Lib.hid (k2.out.keep hb3); have h3 := Lib.hid (h2.out.keep hb3); clear hb3; obtain ⟨z, ⟨a0, a1, a2⟩, ⟨f0, f1, f2⟩⟩ := k3.out)
    clear z a0 a1 a2 f0 f1 f2
    go_upto_region 5 with (go_at_call 9; (with_reducible refine Calls.mono (CQ.out _ hq3.out) ?_); rintro e V5 ⟨B, cb, rfl, g5, hb5⟩; have hq5 := Lib.hid (hq3.out.trans hb5); have k5 := Lib.hid (k3.out.keep hb5); have h5 := Lib.hid (h3.out.keep hb5); have hT5 := Lib.hid (show ∀ (b o : Nat), B = some ⟨b, o, none⟩ → 0 < l.length → b ≠ N from fun b o e _ => by have h7 := (rows_in g5 e).1; have h8 := k3.out.1; omega); have g5 := Lib.hid (rows_tsts g5); clear hb5)
    refine under_name (w0 := V5) (by (repeat (first | with_reducible exact Bel.refl _ | with_reducible refine Bel.setCell ?_ (by first | exact Nat.le_refl _ | (dsimp only; omega)) _ | with_reducible refine Bel.alloc ?_ _ | with_reducible refine Bel.drew ?_ | with_reducible assumption | with_reducible refine Bel.trans ?_ (by assumption)))) fun W6 hcc hf hz hb6 => ?_
    have T6 : UFree W6 V5.heap.size true (.slice B l.length cb) := by simp [UFree, hcc, hf, hz, go_sem]
    clear hcc hf hz
    have hNM : N < V5.heap.size := k5.out.1
    generalize V5.heap.size = M at T6 hNM
    have k6 := Lib.hid (And.intro (k5.out.keep hb6) T6)
    have hq6 := Lib.hid (hq5.out.trans hb6)
    have h6 := Lib.hid (And.intro (h5.out.keep hb6) (g5.out.keep hb6))
    clear hb6 T6
    obtain ⟨z, ⟨a0, a1, a2⟩, ⟨f0, f1, f2⟩⟩ := k6.out.1
    go_upto_region 6 with fail
    clear z a0 a1 a2 f0 f1 f2
    have hBN : But N W6 (W6.setCell ⟨N, 1, none⟩ (.bool true)) := (But.refl N W6).setCell (p := ⟨N, 1, none⟩) rfl _
    have hq7 := Lib.hid (hq6.out.setCell (p := ⟨N, 1, none⟩) hN1.out (.bool true))
    have k7 := Lib.hid (And.intro (k6.out.1.no true) (k6.out.2.but hBN (by omega)))
    have h7 := Lib.hid (And.intro (h6.out.1.but hBN (fun b o e h0 => by have := hT1.out b o e h0; omega)) (h6.out.2.but hBN hT5.out))
    refine at_world (W6.setCell ⟨N, 1, none⟩ (.bool true)) rfl ?_
    clear hBN
    generalize W6.setCell ⟨N, 1, none⟩ (.bool true) = W7 at hq7 k7 h7 ⊢
    obtain ⟨z, ⟨a0, a1, a2⟩, -⟩ := k7.out.1
    obtain ⟨y, ⟨b0, b1, b2⟩, -⟩ := k7.out.2
    go_wp2_with (go_at_call 10; (with_reducible refine Calls.mono (CM.out _ _ _ _ _ h7.out.1 h7.out.2) ?_); rintro e V8 ⟨rfl, hb8⟩; have hq8 := Lib.hid (hq7.out.trans hb8); clear hb8)
    go_ret
    exact ⟨rfl, hq8.out⟩
  · have hq : (parU s).2.2 ≠ 0 ∨ ((parU s).2.2 = 0 ∧ (parU s).1.any = true) ∨ ((parU s).2.2 = 0 ∧ (parU s).1.any = false ∧ (parU s).1.no = true) ∨ ((parU s).2.2 = 0 ∧ (parU s).1.any = false ∧ (parU s).1.no = false ∧ 60000 < s.size) := by
      by_cases h1 : (parU s).2.2 = 0
      · cases h2 : (parU s).1.any with
        | true => exact .inr (.inl ⟨h1, rfl⟩)
        | false =>
          cases h3 : (parU s).1.no with
          | true => exact .inr (.inr (.inl ⟨h1, rfl, rfl⟩))
          | false => exact .inr (.inr (.inr ⟨h1, rfl, rfl, by
              rcases Nat.lt_or_ge 60000 s.size with h4 | h4
              · exact h4
              · exact absurd ⟨h1, h2, h3, h4⟩ hgo⟩))
      · exact .inl h1
    generalize parU s = R at CP hq
    obtain ⟨⟨any, no, l⟩, pl, er⟩ := R
    simp only at CP hq
    clear hgo hs hT hm
    rcases hq with hq | ⟨rfl, rfl⟩ | ⟨rfl, rfl, rfl⟩ | ⟨rfl, rfl, rfl, h6⟩
    · have g1 : ((er : Int) != 0) = true := by rw [bne_iff_ne]; omega
      clear hq
      go_enter Tryz.func5, Tryz.ntmps5
      go_upto_region 2 with (go_at_call 9; (with_reducible refine Calls.mono (CP.out _ (Bel.refl _)) ?_); rintro e V1 ⟨A, c, rfl, h1, hb1⟩; have hq1 := Lib.hid hb1; clear hb1 h1)
      refine under_name (w0 := V1) (by (repeat (first | with_reducible exact Bel.refl _ | with_reducible refine Bel.setCell ?_ (by first | exact Nat.le_refl _ | (dsimp only; omega)) _ | with_reducible refine Bel.alloc ?_ _ | with_reducible refine Bel.drew ?_ | with_reducible assumption | with_reducible refine Bel.trans ?_ (by assumption)))) fun W2 hcc hf hz hb2 => ?_
      have T2 : UAt W2 V1.heap.size any no (.slice A l.length c) := by simp [UAt, hcc, hz, go_sem]
      clear hcc hf hz
      generalize V1.heap.size = N at T2
      have hq2 := Lib.hid (hq1.out.trans hb2)
      have k2 := Lib.hid T2
      clear hb2 T2
      go_upto_region 3 with (go_at_call 7; (with_reducible refine Calls.mono (CA.out _ hq2.out) ?_); rintro e V3 ⟨rfl, hb3⟩; have hq3 := Lib.hid (hq2.out.trans hb3); obtain ⟨z, a0, a1, a2⟩ := k2.out.keep hb3; clear hb3)
      go_wp2_with (go_at_call 7; (with_reducible refine Calls.mono (CA.out _ hq3.out) ?_); rintro e V4 ⟨rfl, hb4⟩; have hq4 := Lib.hid (hq3.out.trans hb4); clear hb4)
      go_ret
      exact ⟨rfl, hq4.out⟩
    · go_enter Tryz.func5, Tryz.ntmps5
      go_upto_region 2 with (go_at_call 9; (with_reducible refine Calls.mono (CP.out _ (Bel.refl _)) ?_); rintro e V1 ⟨A, c, rfl, h1, hb1⟩; have hq1 := Lib.hid hb1; clear hb1 h1)
      refine under_name (w0 := V1) (by (repeat (first | with_reducible exact Bel.refl _ | with_reducible refine Bel.setCell ?_ (by first | exact Nat.le_refl _ | (dsimp only; omega)) _ | with_reducible refine Bel.alloc ?_ _ | with_reducible refine Bel.drew ?_ | with_reducible assumption | with_reducible refine Bel.trans ?_ (by assumption)))) fun W2 hcc hf hz hb2 => ?_
      have T2 : UAt W2 V1.heap.size true no (.slice A l.length c) := by simp [UAt, hcc, hz, go_sem]
      clear hcc hf hz
      generalize V1.heap.size = N at T2
      have hq2 := Lib.hid (hq1.out.trans hb2)
      have k2 := Lib.hid T2
      clear hb2 T2
      go_upto_region 3 with (go_at_call 7; (with_reducible refine Calls.mono (CA.out _ hq2.out) ?_); rintro e V3 ⟨rfl, hb3⟩; have hq3 := Lib.hid (hq2.out.trans hb3); obtain ⟨z, a0, a1, a2⟩ := k2.out.keep hb3; clear hb3)
      go_wp2_with (go_at_call 7; (with_reducible refine Calls.mono (CA.out _ hq3.out) ?_); rintro e V4 ⟨rfl, hb4⟩; have hq4 := Lib.hid (hq3.out.trans hb4); clear hb4)
      go_ret
      exact ⟨rfl, hq4.out⟩
    · go_enter Tryz.func5, Tryz.ntmps5
      go_upto_region 2 with (go_at_call 9; (with_reducible refine Calls.mono (CP.out _ (Bel.refl _)) ?_); rintro e V1 ⟨A, c, rfl, h1, hb1⟩; have hq1 := Lib.hid hb1; clear hb1 h1)
      refine under_name (w0 := V1) (by (repeat (first | with_reducible exact Bel.refl _ | with_reducible refine Bel.setCell ?_ (by first | exact Nat.le_refl _ | (dsimp only; omega)) _ | with_reducible refine Bel.alloc ?_ _ | with_reducible refine Bel.drew ?_ | with_reducible assumption | with_reducible refine Bel.trans ?_ (by assumption)))) fun W2 hcc hf hz hb2 => ?_
      have T2 : UAt W2 V1.heap.size false true (.slice A l.length c) := by simp [UAt, hcc, hz, go_sem]
      clear hcc hf hz
      generalize V1.heap.size = N at T2
      have hq2 := Lib.hid (hq1.out.trans hb2)
      have k2 := Lib.hid T2
      clear hb2 T2
      go_upto_region 3 with (go_at_call 7; (with_reducible refine Calls.mono (CA.out _ hq2.out) ?_); rintro e V3 ⟨rfl, hb3⟩; have hq3 := Lib.hid (hq2.out.trans hb3); obtain ⟨z, a0, a1, a2⟩ := k2.out.keep hb3; clear hb3)
      go_wp2_with (go_at_call 7; (with_reducible refine Calls.mono (CA.out _ hq3.out) ?_); rintro e V4 ⟨rfl, hb4⟩; have hq4 := Lib.hid (hq3.out.trans hb4); clear hb4)
      go_ret
      exact ⟨rfl, hq4.out⟩
    · have l7 : (60000 : Int) < (s.size : Int) := by omega
      clear h6
      go_enter Tryz.func5, Tryz.ntmps5
      go_upto_region 2 with (go_at_call 9; (with_reducible refine Calls.mono (CP.out _ (Bel.refl _)) ?_); rintro e V1 ⟨A, c, rfl, h1, hb1⟩; have hq1 := Lib.hid hb1; clear hb1 h1)
      refine under_name (w0 := V1) (by (repeat (first | with_reducible exact Bel.refl _ | with_reducible refine Bel.setCell ?_ (by first | exact Nat.le_refl _ | (dsimp only; omega)) _ | with_reducible refine Bel.alloc ?_ _ | with_reducible refine Bel.drew ?_ | with_reducible assumption | with_reducible refine Bel.trans ?_ (by assumption)))) fun W2 hcc hf hz hb2 => ?_
      have T2 : UAt W2 V1.heap.size false false (.slice A l.length c) := by simp [UAt, hcc, hz, go_sem]
      clear hcc hf hz
      generalize V1.heap.size = N at T2
      have hq2 := Lib.hid (hq1.out.trans hb2)
      have k2 := Lib.hid T2
      clear hb2 T2
      go_upto_region 3 with (go_at_call 7; (with_reducible refine Calls.mono (CA.out _ hq2.out) ?_); rintro e V3 ⟨rfl, hb3⟩; have hq3 := Lib.hid (hq2.out.trans hb3); obtain ⟨z, a0, a1, a2⟩ := k2.out.keep hb3; clear hb3)
      go_wp2_with (go_at_call 7; (with_reducible refine Calls.mono (CA.out _ hq3.out) ?_); rintro e V4 ⟨rfl, hb4⟩; have hq4 := Lib.hid (hq3.out.trans hb4); clear hb4)
      go_ret
      exact ⟨rfl, hq4.out⟩
end Go.Proofs.YtdggbafpdjenmaaGreatDoor
