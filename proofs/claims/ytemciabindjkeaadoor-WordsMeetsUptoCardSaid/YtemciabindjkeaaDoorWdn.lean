import Derived.Test.YtemciabindjkeaaDoorWdm
import Derived.Test.YtemciabindjkeaaDoorWtb
namespace Go.Proofs.YtemciabindjkeaaDoor
set_option linter.unusedSimpArgs false
set_option linter.unusedVariables false
open Go.RowKit Go.Lib

/-! Words: Pick. -/
theorem eg28 : ∀ args w, (callFunc 28 args).run Tryd.prog w = .ok (.enter 28 args) w := enters_of Tryd.func28 (by kernel_rfl) rfl
def PickAll (l : List ByteArray) (s : ByteArray) : Prop :=
  (∃ n, n ≤ 256 ∧ s = asn n ∧ inl l (asn n) = false ∧ ∀ k, k < n → inl l (asn k) = true) ∨ ((∀ k, k < 257 → inl l (asn k) = true) ∧ ∃ n, n ≤ 9223372036854775807 ∧ s = itn n ∧ inl l (itn n) = false)
def PickOk (all : Bool) (l : List ByteArray) (s : ByteArray) (x : Int) : Prop :=
  (all = false ∧ keptl okw l = [] ∧ s = ⟨#[]⟩ ∧ x = 16) ∨ (all = false ∧ x = 0 ∧ ∃ t, keptl okw l = s :: t) ∨ (all = true ∧ x = 0 ∧ PickAll l s)
theorem pickAll_kept (l : List ByteArray) (s : ByteArray) (h : PickAll (keptl okw l) s) : PickAll l s := by
  rcases h with ⟨n, h1, h2, h3, h4⟩ | ⟨h1, n, h2, h3, h4⟩
  · exact .inl ⟨n, h1, h2, by rw [← inl_kept l _ (asn_ok n h1)]; exact h3, fun k hk => by rw [← inl_kept l _ (asn_ok k (by omega))]; exact h4 k hk⟩
  · exact .inr ⟨fun k hk => by rw [← inl_kept l _ (asn_ok k (by omega))]; exact h1 k hk, n, h2, h3, by rw [← inl_kept l _ (itn_ok n h2)]; exact h4⟩
set_option maxRecDepth 100000 in
set_option maxHeartbeats 4000000 in
theorem pick_any (all : Bool) (l : List ByteArray) (A : Option Addr) (c : Nat) (w : World) (ht : Tab w) (hl : Strs w A l) (hn : l.length * 16 ≤ 140737488355328) (hs : ∀ s ∈ l, Fits s) :
    Calls Tryd.prog 18 #[wset all A l.length c] w fun e w' => ∃ s x, e = .returned (.tuple #[.string s, .int .i64 x]) ∧ PickOk all l s x ∧ Bel w w' := by
  have MK := Lib.hid fun W (hW : Bel w W) => make_any all l A c W (hl.keep hW) hn hs
  have KL := Lib.hid (keptl_len okw l)
  have KS := Lib.hid (keptl_srt okw l)
  have HT := Lib.hid ht
  clear hl hs ht
  unfold wset
  go_enter Tryd.func18, Tryd.ntmps18
  go_upto_region 1 with fail
  refine under_name ((Bel.refl w).alloc _) fun W hc hf hz hb => ?_
  have m0 : W.cell? ⟨w.heap.size, 0, none⟩ = some (.bool all) := by simp [hc, go_sem]
  have m1 : W.cell? ⟨w.heap.size, 1, none⟩ = some (.slice A l.length c) := by simp [hc, go_sem]
  have g0 : W.frozen? ⟨w.heap.size, 0, none⟩ = false := by simp [hf, go_sem]
  have g1 : W.frozen? ⟨w.heap.size, 1, none⟩ = false := by simp [hf, go_sem]
  have z0 : w.heap.size < W.heap.size := by simp [hz]
  clear hc hf hz
  go_upto_region 2 with (go_at_call 8; refine (MK.out _ hb).mono ?_; rintro e W1 ⟨A1, c1, rfl, h1, h2, h3, hb1⟩; have hz1 := hb1.size; have u0 := (hb1.cells w.heap.size 0 z0).trans m0; have u1 := (hb1.cells w.heap.size 1 z0).trans m1; have f0 := (hb1.frozens w.heap.size 0 z0).trans g0; have f1 := (hb1.frozens w.heap.size 1 z0).trans g1; have HH := Lib.hid (And.intro h1 (And.intro h2 (And.intro h3 hb1))); clear h1 h2 h3 hb1)
  have hbX := hb.trans HH.out.2.2.2
  have hz1 := HH.out.2.2.2.size
  have hS2 := Lib.hid (fun (W2 : World) (hz : W2.heap.size = W1.heap.size) (hk : ∀ k o, w.heap.size < k → W2.cell? ⟨k, o, none⟩ = W1.cell? ⟨k, o, none⟩) => HH.out.1.other hz hk (by
    rcases HH.out.2.2.1 with h3 | ⟨g, h3, h4⟩
    · exact .inl h3
    · exact .inr ⟨g, h3, by omega⟩))
  have PK := Lib.hid (pickAll_kept l)
  have hPO : ∀ s x, ((all = false ∧ keptl okw l = [] ∧ s = ⟨#[]⟩ ∧ x = 16) ∨ (all = false ∧ x = 0 ∧ ∃ t, keptl okw l = s :: t) ∨ (all = true ∧ x = 0 ∧ PickAll l s)) → PickOk all l s x := fun s x h => h
  have PO := Lib.hid hPO
  clear hPO
  refine under_name (w0 := w) (by (repeat (first | with_reducible exact Bel.refl _ | with_reducible refine Bel.setCell ?_ (by first | exact Nat.le_refl _ | (dsimp only; omega)) _ | with_reducible refine Bel.alloc ?_ _ | with_reducible refine Bel.drew ?_ | with_reducible assumption | with_reducible refine Bel.trans ?_ (by assumption)))) fun W2 hc hf hz hb2 => ?_
  have k0 : W2.cell? ⟨w.heap.size, 0, none⟩ = some (.bool all) := by simp [hc, go_sem, u0, u1]
  have k1 : W2.cell? ⟨w.heap.size, 1, none⟩ = some (.slice A1 (keptl okw l).length c1) := by simp [hc, go_sem, u0, u1]
  have z2 : w.heap.size < W2.heap.size := by simp [hz]; omega
  have hS := hS2.out W2 (by simp [hz]) (fun k o hk => by
    have ne : ¬ k = w.heap.size := by omega
    have ne' : ¬ w.heap.size = k := by omega
    simp [hc, go_sem, ne, ne'])
  clear hc hf hz u0 u1 f0 f1 m0 m1 g0 g1 hS2 HH MK hbX hz1
  generalize keptl okw l = r at hS k1 KL KS PK PO
  generalize w.heap.size = B at k0 k1 z2 ⊢
  cases all with
  | false =>
    cases r with
    | nil =>
      simp only [List.length_nil] at k1
      have P1 := Lib.hid (PO.out ⟨#[]⟩ 16 (.inl ⟨rfl, rfl, rfl, rfl⟩))
      clear PO PK
      go_wp2
      go_ret2
      exact ⟨_, _, rfl, P1.out, hb2⟩
    | cons x t =>
      have P1 := Lib.hid (PO.out x 0 (.inr (.inl ⟨rfl, rfl, t, rfl⟩)))
      obtain ⟨b, off, rfl, hltb, hat⟩ := hS.blk (by simp)
      have hx : W2.cell? ⟨b, off, none⟩ = some (.string x) := hat 0 x rfl
      clear PO PK hS hat KL KS
      generalize hL : (x :: t).length = n at k1
      have i1 : (0 : Int) < n := by rw [← hL]; simp
      have i2 : ¬ n = 0 := by rw [← hL]; simp
      have i3 : 0 < n := by rw [← hL]; simp
      clear hL
      go_wp2
      go_ret2
      exact ⟨_, _, rfl, P1.out, hb2⟩
  | true =>
    have PR := Lib.hid (pred28 r A1 c1 B W2 z2 k1 hS KS.out (by have := KL.out; omega))
    obtain ⟨N, hN1, hN2⟩ := itn_hole r
    have HN := Lib.hid (And.intro ((inl_false r (itn N)).2 hN2) (show N ≤ 9223372036854775807 by have := KL.out; omega))
    have hNi : (N : Int) ≤ 9223372036854775807 := by have := HN.out.2; omega
    have P1 := Lib.hid (fun s h => PO.out s 0 (.inr (.inr ⟨rfl, rfl, PK.out s h⟩)))
    clear PO PK hS KS hN1 hN2
    go_wp2
    go_loopg [25] 257 (fun g i wr => ∃ k : Nat, i = .int .i64 k ∧ k ≤ 257 ∧ Hid (∀ j, j < k → inl r (asn j) = true) ∧ Hid (g = 257 - k) ∧ Bel W2 wr)
    case atStart => exact ⟨0, rfl, Nat.zero_le _, fun j hj => absurd hj (Nat.not_lt_zero _), rfl, Bel.refl _⟩
    case round =>
      obtain ⟨k, rfl, hk, ha, hh, hb⟩ := hrel
      by_cases hlt : k < 257
      · have R := Lib.hid (fun w => rep_a k (by omega) w)
        have C := Lib.hid (fun W' (hW : Bel W2 W') => PR.out W' (asn k) hW (asn_fits k (by omega)))
        have i1 : (k : Int) < 257 := by omega
        have i2 : k < 257 := hlt
        cases hq : inl r (asn k) with
        | false =>
          simp only [hq] at C
          have P2 := Lib.hid (P1.out (asn k) (.inl ⟨k, by omega, rfl, hq, ha.out⟩))
          clear hq
          go_wp2_with (first
            | (go_at_call 29; refine (R.out _).mono ?_; rintro e w1 ⟨rfl, hb1⟩; have hb := hb.trans hb1)
            | (go_at_call 28; refine (C.out _ hb).mono ?_; rintro e w2 ⟨rfl, hb2'⟩; have hb := hb.trans hb2'))
          go_ret2
          exact ⟨_, _, rfl, P2.out, hb2.trans hb⟩
        | true =>
          simp only [hq] at C
          have HA := Lib.hid (show ∀ j, j < k + 1 → inl r (asn j) = true from fun j hj => by
            by_cases e : j = k
            · subst e; exact hq
            · exact ha.out j (by omega))
          clear hq
          go_wp2_with (first
            | (go_at_call 29; refine (R.out _).mono ?_; rintro e w1 ⟨rfl, hb1⟩; have hb := hb.trans hb1)
            | (go_at_call 28; refine (C.out _ hb).mono ?_; rintro e w2 ⟨rfl, hb2'⟩; have hb := hb.trans hb2'))
          go_roundg (257 - (k + 1))
          case measure => have := hh.out; omega
          case rel => exact ⟨k + 1, by go_num, by omega, HA.out, rfl, hb⟩
      · obtain rfl : k = 257 := by omega
        have HB := Lib.hid hb
        go_wp2
        go_loopg [7] N (fun g i wr => ∃ n : Nat, i = .int .i64 n ∧ n ≤ N ∧ Hid (g = N - n) ∧ Bel W2 wr)
        case atStart => exact ⟨0, rfl, Nat.zero_le _, rfl, HB.out⟩
        case round =>
          clear hb
          obtain ⟨n, rfl, hk2, hh2, hb⟩ := hrel
          have hN64 := HN.out.2
          have R := Lib.hid (fun w h => itoa_n n (by omega) w h)
          have C := Lib.hid (fun W' (hW : Bel W2 W') => PR.out W' (itn n) hW (itn_fits n (by omega)))
          have HT2 := Lib.hid (HT.out.keep hb2)
          cases hq : inl r (itn n) with
          | false =>
            simp only [hq] at C
            have P2 := Lib.hid (P1.out (itn n) (.inr ⟨ha.out, n, by omega, rfl, hq⟩))
            clear hq
            go_wp2_with (first
              | (go_at_call 30; refine (R.out _ (HT2.out.keep hb)).mono ?_; rintro e w1 ⟨rfl, hb1⟩; have hb := hb.trans hb1)
              | (go_at_call 28; refine (C.out _ hb).mono ?_; rintro e w2 ⟨rfl, hb2'⟩; have hb := hb.trans hb2'))
            go_ret2
            exact ⟨_, _, rfl, P2.out, hb2.trans hb⟩
          | true =>
            simp only [hq] at C
            have hlt2 : n < N := by
              rcases Nat.lt_or_ge n N with h | h
              · exact h
              · obtain rfl : n = N := by omega
                rw [HN.out.1] at hq
                cases hq
            clear hq
            go_wp2_with (first
              | (go_at_call 30; refine (R.out _ (HT2.out.keep hb)).mono ?_; rintro e w1 ⟨rfl, hb1⟩; have hb := hb.trans hb1)
              | (go_at_call 28; refine (C.out _ hb).mono ?_; rintro e w2 ⟨rfl, hb2'⟩; have hb := hb.trans hb2'))
            go_roundg (N - (n + 1))
            case measure => have := hh2.out; omega
            case rel => exact ⟨n + 1, by go_num, by omega, rfl, hb⟩
end Go.Proofs.YtemciabindjkeaaDoor
