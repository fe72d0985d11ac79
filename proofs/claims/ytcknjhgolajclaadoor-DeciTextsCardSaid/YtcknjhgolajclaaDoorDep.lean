import Derived.Test.YtcknjhgolajclaaDoorDeo
import Derived.Test.YtcknjhgolajclaaDoorTab
namespace Go.Proofs.YtcknjhgolajclaaDoor
set_option linter.unusedSimpArgs false
set_option linter.unusedVariables false
open Go.RowKit

/-! Deci: a number as text. -/
def txtL (neg : Bool) (x s : Nat) : List UInt8 := (if neg = true then [45] else []) ++ (Lib.decDigits (x / P10 s) ++ (if s = 0 then [] else 46 :: padL s (x % P10 s)))
def textV (n s : Int) : Value := if SndD n s then .tuple #[.string ⟨(txtL (decide (n < 0)) n.natAbs s.toNat).toArray⟩, .int .i64 0] else .tuple #[.string ⟨#[]⟩, .int .i64 2]
set_option maxRecDepth 100000 in
set_option maxHeartbeats 4000000 in
theorem text_raw (n : Int) (x s : Nat) (hn : (n = x ∧ decide (n < 0) = false) ∨ (n = -x ∧ decide (n < 0) = true)) (h : SndD n s) (w : World) (ht : Tab w) :
    Calls Tryd.prog 19 #[decA n s] w fun e w' => e = .returned (.tuple #[.string ⟨(txtL (decide (n < 0)) x s).toArray⟩, .int .i64 0]) ∧ Bel w w' := by
  have hs := Lib.hid (sndB_t h)
  obtain ⟨h1, h2, ⟨h3, h4⟩, -⟩ := h
  have hx : x ≤ 999999999999 := by omega
  have p2 := P10_6 (show s ≤ 6 by omega)
  have p20 := P10_pos s
  have cp := Lib.hid fun w => power_any s (by omega) w
  have hv : Hid (txtL (decide (n < 0)) x s = (if decide (n < 0) = true then [45] else []) ++ (Lib.decDigits (x / P10 s) ++ (if s = 0 then [] else 46 :: padL s (x % P10 s)))) := rfl
  have hmod : x % P10 s < P10 s := Nat.mod_lt _ p20
  have hlen : s ≠ 0 → (Lib.decDigits (x % P10 s)).length ≤ s := fun h0 => by
    obtain ⟨j, rfl⟩ : ∃ j, s = j + 1 := ⟨s - 1, by omega⟩
    exact dec_len_le j _ hmod
  obtain ⟨p, hp⟩ : ∃ p, p = P10 s := ⟨_, rfl⟩
  rw [← hp] at p2 p20 cp hv hmod hlen
  clear hp
  have hw1 := dec_len_le 12 (x / p) (by have := Nat.div_le_self x p; omega)
  have ci := Lib.hid fun w ht => itoa_n (x / p) (by have := Nat.div_le_self x p; omega) w ht
  have cj := Lib.hid fun w ht => itoa_n (x % p) (by omega) w ht
  have e1 : (x : Int) / (p : Int) = ((x / p : Nat) : Int) := (Int.natCast_ediv ..).symm
  have e2 : (x : Int) % (p : Int) = ((x % p : Nat) : Int) := (Int.natCast_emod ..).symm
  have hcr : ∀ c : Nat, c ≤ 6 → ∀ w, Calls Tryd.prog 41 #[.string ⟨#[48]⟩, .int .i64 c] w fun e w' => e = .returned (.string ⟨(Lib.repeatL [48] c).toArray⟩) ∧ Bel w w' := fun c hc w => rep_n c (by omega) w
  have hpd : Hid (padL s (x % p) = Lib.repeatL [48] (s - (Lib.decDigits (x % p)).length) ++ Lib.decDigits (x % p)) := rfl
  obtain ⟨a, ha⟩ : ∃ a, a = x / p := ⟨_, rfl⟩
  obtain ⟨b, hb0⟩ : ∃ b, b = x % p := ⟨_, rfl⟩
  have i5 : (a : Int) ≤ 999999999999 := by have := Nat.div_le_self x p; omega
  have i6 : (b : Int) ≤ 999999999999 := by omega
  rw [← ha] at ci e1 hv hw1
  rw [← hb0] at cj e2 hv hlen hpd
  obtain ⟨A, hA0⟩ : ∃ A, A = Lib.decDigits a := ⟨_, rfl⟩
  obtain ⟨B, hB0⟩ : ∃ B, B = Lib.decDigits b := ⟨_, rfl⟩
  rw [← hA0] at ci hv hw1
  rw [← hB0] at cj hlen hpd
  have i1 : (1 : Int) ≤ p := by omega
  have i2 : (x : Int) ≤ 999999999999 := by omega
  have i3 : ¬ (p : Int) = 0 := by omega
  have h26 : s ≤ 6 := by omega
  have H := Lib.hid (And.intro hw1 hlen)
  have H6 := Lib.hid h26
  clear ha hb0 hA0 hB0 hmod p2 p20 hx h1 h2 h3 h4 hw1 hlen h26
  have fin0 : ∀ d : Bool, True := fun _ => trivial
  clear fin0
  by_cases h0 : s = 0
  · subst h0
    have cr := Lib.hid (hcr 0 (by omega))
    have hv3 : Hid ((if (0 : Nat) = 0 then [] else 46 :: padL 0 b) = []) := by rw [Hid, if_pos rfl]
    clear hcr
    have l1 := H.out.1
    have q0 : ¬ 9223372036854775807 < A.length := by omega
    have q1 : ¬ 9223372036854775807 < 1 + A.length := by omega
    clear l1
    replace hs : Hid (sndB n 0 = true) := hs.out
    replace cp : Hid (∀ w, Calls Tryd.prog 37 #[.int .i64 0] w fun e w' => e = .returned (.int .i64 p) ∧ Bel w w') := cp.out
    rcases hn with ⟨rfl, hd⟩ | ⟨rfl, hd⟩
    · rw [hd] at hv ⊢
      go_enter Tryd.func19, Tryd.ntmps19
      go_wp2_with fail
      refine under_call (((Bel.refl w).alloc _).alloc _) fun W hc hf hz hb => ?_
      have hA : Arr2 W w.heap.size ((x : Int)) 0 := by simp [Arr2, hz, hc, hf, go_sem]
      have hD : DecsAt W (w.heap.size + 1) [((x : Int), (0 : Int))] := decs1 (by simp [hz]) (by simp [hc, go_sem]) (by simp [hc, go_sem])
      clear hc hf hz
      go_wp2_with (go_at_call 31; refine (allSound_1 _ _ _ _ hD).mono ?_; rintro e W1 ⟨rfl, hb1⟩; rw [hs.out]
                   replace hA := hA.keep hb1; replace hb := hb.trans hb1; clear hb1 hD)
      go_region
      replace hA := hA.keep (Bel.refl W1).drew; replace hb := hb.drew
      generalize W1.drew = W2 at *
      go_wp2_with (first
        | (go_at_call 37; refine (cp.out _).mono ?_; rintro e W3 ⟨rfl, hb1⟩; replace hA := hA.keep hb1; replace hb := hb.trans hb1; clear hb1)
        | (go_at_call_of 40 (Value.int .i64 (a : Int)); refine (ci.out _ (ht.keep hb)).mono ?_; rintro e W4 ⟨rfl, hb1⟩; replace hA := hA.keep hb1; replace hb := hb.trans hb1; clear hb1)
        | (go_at_call_of 40 (Value.int .i64 (b : Int)); refine (cj.out _ (ht.keep hb)).mono ?_; rintro e W4 ⟨rfl, hb1⟩; replace hA := hA.keep hb1; replace hb := hb.trans hb1; clear hb1)
        | (go_at_call 41; refine (cr.out _).mono ?_; rintro e W5 ⟨rfl, hb1⟩; replace hA := hA.keep hb1; replace hb := hb.trans hb1; clear hb1))
      go_ret2
      have hfin : Hid ((⟨#[]⟩ ++ ⟨A.toArray⟩ : ByteArray) = ⟨(txtL false x 0).toArray⟩) := by
        rw [Hid, hv.out, hv3.out]
        exact ByteArray.ext (by simp [ByteArray.data_append])
      exact ⟨by rw [hfin.out]; rfl, hb⟩
    · rw [hd] at hv ⊢
      have hx1 : -(x : Int) < 0 := by simpa using hd
      clear hd
      go_enter Tryd.func19, Tryd.ntmps19
      go_wp2_with fail
      refine under_call (((Bel.refl w).alloc _).alloc _) fun W hc hf hz hb => ?_
      have hA : Arr2 W w.heap.size (-(x : Int)) 0 := by simp [Arr2, hz, hc, hf, go_sem]
      have hD : DecsAt W (w.heap.size + 1) [(-(x : Int), (0 : Int))] := decs1 (by simp [hz]) (by simp [hc, go_sem]) (by simp [hc, go_sem])
      clear hc hf hz
      go_wp2_with (go_at_call 31; refine (allSound_1 _ _ _ _ hD).mono ?_; rintro e W1 ⟨rfl, hb1⟩; rw [hs.out]
                   replace hA := hA.keep hb1; replace hb := hb.trans hb1; clear hb1 hD)
      go_region
      replace hA := hA.keep (Bel.refl W1).drew; replace hb := hb.drew
      generalize W1.drew = W2 at *
      go_wp2_with (first
        | (go_at_call 37; refine (cp.out _).mono ?_; rintro e W3 ⟨rfl, hb1⟩; replace hA := hA.keep hb1; replace hb := hb.trans hb1; clear hb1)
        | (go_at_call_of 40 (Value.int .i64 (a : Int)); refine (ci.out _ (ht.keep hb)).mono ?_; rintro e W4 ⟨rfl, hb1⟩; replace hA := hA.keep hb1; replace hb := hb.trans hb1; clear hb1)
        | (go_at_call_of 40 (Value.int .i64 (b : Int)); refine (cj.out _ (ht.keep hb)).mono ?_; rintro e W4 ⟨rfl, hb1⟩; replace hA := hA.keep hb1; replace hb := hb.trans hb1; clear hb1)
        | (go_at_call 41; refine (cr.out _).mono ?_; rintro e W5 ⟨rfl, hb1⟩; replace hA := hA.keep hb1; replace hb := hb.trans hb1; clear hb1))
      go_ret2
      have hfin : Hid ((⟨#[45]⟩ ++ ⟨A.toArray⟩ : ByteArray) = ⟨(txtL true x 0).toArray⟩) := by
        rw [Hid, hv.out, hv3.out]
        exact ByteArray.ext (by simp [ByteArray.data_append])
      exact ⟨by rw [hfin.out]; rfl, hb⟩
  · have k0 : ((s : Int) == 0) = false := by simp; omega
    have k00 : ¬ (s : Int) = 0 := by omega
    obtain ⟨c, hc0⟩ : ∃ c, c = s - B.length := ⟨_, rfl⟩
    have hBl := H.out.2 h0
    have h26 := H6.out
    have e3 : (s : Int) - (B.length : Int) = c := by omega
    have cr := Lib.hid (hcr c (by omega))
    have i7 : (c : Int) ≤ 6 := by omega
    have i8 : (B.length : Int) ≤ 6 := by omega
    have i9 : (s : Int) ≤ 6 := by omega
    have hv3 : Hid ((if s = 0 then [] else 46 :: padL s b) = 46 :: (Lib.repeatL [48] c ++ B)) := by rw [Hid, if_neg h0, hpd.out, hc0]
    have hrl := Lib.repeatL_length [48] c
    have hRl : (Lib.repeatL [48] c).length ≤ 6 := by simp at hrl; omega
    generalize Lib.repeatL [48] c = R at *
    have hB6 : B.length ≤ 6 := by omega
    have HQ := Lib.hid (And.intro hB6 hRl)
    clear hc0 hrl hBl hRl h0 hcr h26 hB6
    have l1 := H.out.1
    have l2 := HQ.out.1
    have l3 := HQ.out.2
    have q0 : ¬ 9223372036854775807 < A.length := by omega
    have q1 : ¬ 9223372036854775807 < A.length + 1 := by omega
    have q2 : ¬ 9223372036854775807 < A.length + 1 + R.length := by omega
    have q3 : ¬ 9223372036854775807 < A.length + 1 + R.length + B.length := by omega
    have q4 : ¬ 9223372036854775807 < 1 + A.length := by omega
    have q5 : ¬ 9223372036854775807 < 1 + A.length + 1 := by omega
    have q6 : ¬ 9223372036854775807 < 1 + A.length + 1 + R.length := by omega
    have q7 : ¬ 9223372036854775807 < 1 + A.length + 1 + R.length + B.length := by omega
    clear l1 l2 l3
    rcases hn with ⟨rfl, hd⟩ | ⟨rfl, hd⟩
    · rw [hd] at hv ⊢
      go_enter Tryd.func19, Tryd.ntmps19
      go_wp2_with fail
      refine under_call (((Bel.refl w).alloc _).alloc _) fun W hc hf hz hb => ?_
      have hA : Arr2 W w.heap.size ((x : Int)) s := by simp [Arr2, hz, hc, hf, go_sem]
      have hD : DecsAt W (w.heap.size + 1) [((x : Int), (s : Int))] := decs1 (by simp [hz]) (by simp [hc, go_sem]) (by simp [hc, go_sem])
      clear hc hf hz
      go_wp2_with (go_at_call 31; refine (allSound_1 _ _ _ _ hD).mono ?_; rintro e W1 ⟨rfl, hb1⟩; rw [hs.out]
                   replace hA := hA.keep hb1; replace hb := hb.trans hb1; clear hb1 hD)
      go_region
      replace hA := hA.keep (Bel.refl W1).drew; replace hb := hb.drew
      generalize W1.drew = W2 at *
      go_wp2_with (first
        | (go_at_call 37; refine (cp.out _).mono ?_; rintro e W3 ⟨rfl, hb1⟩; replace hA := hA.keep hb1; replace hb := hb.trans hb1; clear hb1)
        | (go_at_call_of 40 (Value.int .i64 (a : Int)); refine (ci.out _ (ht.keep hb)).mono ?_; rintro e W4 ⟨rfl, hb1⟩; replace hA := hA.keep hb1; replace hb := hb.trans hb1; clear hb1)
        | (go_at_call_of 40 (Value.int .i64 (b : Int)); refine (cj.out _ (ht.keep hb)).mono ?_; rintro e W4 ⟨rfl, hb1⟩; replace hA := hA.keep hb1; replace hb := hb.trans hb1; clear hb1)
        | (go_at_call 41; refine (cr.out _).mono ?_; rintro e W5 ⟨rfl, hb1⟩; replace hA := hA.keep hb1; replace hb := hb.trans hb1; clear hb1))
      go_ret2
      have hfin : Hid ((⟨#[]⟩ ++ ⟨A.toArray⟩ ++ ⟨#[46]⟩ ++ ⟨R.toArray⟩ ++ ⟨B.toArray⟩ : ByteArray) = ⟨(txtL false x s).toArray⟩) := by
        rw [Hid, hv.out, hv3.out]
        exact ByteArray.ext (by simp [ByteArray.data_append])
      exact ⟨by rw [hfin.out]; rfl, hb⟩
    · rw [hd] at hv ⊢
      have hx1 : -(x : Int) < 0 := by simpa using hd
      clear hd
      go_enter Tryd.func19, Tryd.ntmps19
      go_wp2_with fail
      refine under_call (((Bel.refl w).alloc _).alloc _) fun W hc hf hz hb => ?_
      have hA : Arr2 W w.heap.size (-(x : Int)) s := by simp [Arr2, hz, hc, hf, go_sem]
      have hD : DecsAt W (w.heap.size + 1) [(-(x : Int), (s : Int))] := decs1 (by simp [hz]) (by simp [hc, go_sem]) (by simp [hc, go_sem])
      clear hc hf hz
      go_wp2_with (go_at_call 31; refine (allSound_1 _ _ _ _ hD).mono ?_; rintro e W1 ⟨rfl, hb1⟩; rw [hs.out]
                   replace hA := hA.keep hb1; replace hb := hb.trans hb1; clear hb1 hD)
      go_region
      replace hA := hA.keep (Bel.refl W1).drew; replace hb := hb.drew
      generalize W1.drew = W2 at *
      go_wp2_with (first
        | (go_at_call 37; refine (cp.out _).mono ?_; rintro e W3 ⟨rfl, hb1⟩; replace hA := hA.keep hb1; replace hb := hb.trans hb1; clear hb1)
        | (go_at_call_of 40 (Value.int .i64 (a : Int)); refine (ci.out _ (ht.keep hb)).mono ?_; rintro e W4 ⟨rfl, hb1⟩; replace hA := hA.keep hb1; replace hb := hb.trans hb1; clear hb1)
        | (go_at_call_of 40 (Value.int .i64 (b : Int)); refine (cj.out _ (ht.keep hb)).mono ?_; rintro e W4 ⟨rfl, hb1⟩; replace hA := hA.keep hb1; replace hb := hb.trans hb1; clear hb1)
        | (go_at_call 41; refine (cr.out _).mono ?_; rintro e W5 ⟨rfl, hb1⟩; replace hA := hA.keep hb1; replace hb := hb.trans hb1; clear hb1))
      go_ret2
      have hfin : Hid ((⟨#[45]⟩ ++ ⟨A.toArray⟩ ++ ⟨#[46]⟩ ++ ⟨R.toArray⟩ ++ ⟨B.toArray⟩ : ByteArray) = ⟨(txtL true x s).toArray⟩) := by
        rw [Hid, hv.out, hv3.out]
        exact ByteArray.ext (by simp [ByteArray.data_append])
      exact ⟨by rw [hfin.out]; rfl, hb⟩
theorem text_any (n s : Int) (w : World) (ht : Tab w) : Calls Tryd.prog 19 #[decA n s] w fun e w' => e = .returned (textV n s) ∧ Bel w w' := by
  by_cases h : SndD n s
  · rw [show textV n s = _ from if_pos h]
    obtain ⟨k, hk⟩ : ∃ k : Nat, s = k := ⟨s.toNat, by have := h.1; omega⟩
    subst hk
    refine text_raw n n.natAbs k ?_ h w ht
    by_cases hn : n < 0
    · exact .inr ⟨by omega, by simpa using hn⟩
    · exact .inl ⟨by omega, by simpa using hn⟩
  · rw [show textV n s = _ from if_neg h]
    have hs := Lib.hid (sndB_f h)
    clear h
    go_enter Tryd.func19, Tryd.ntmps19
    go_wp2_with fail
    refine under_call (((Bel.refl w).alloc _).alloc _) fun W hc hf hz hb => ?_
    have hD : DecsAt W (w.heap.size + 1) [(n, s)] := decs1 (by simp [hz]) (by simp [hc, go_sem]) (by simp [hc, go_sem])
    clear hc hf hz
    go_wp2_with (go_at_call 31; refine (allSound_1 _ _ _ _ hD).mono ?_; rintro e W1 ⟨rfl, hb1⟩; rw [hs.out]
                 replace hb := hb.trans hb1; clear hb1 hD)
    go_ret2
    exact ⟨rfl, hb⟩
end Go.Proofs.YtcknjhgolajclaaDoor
