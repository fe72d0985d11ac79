import Derived.Test.YthcpgbbmgabpnaaChd
namespace Go.Proofs.Ythcpgbbmgabpnaa
set_option linter.unusedSimpArgs false
set_option linter.unusedVariables false
open Go.RowKit

/-! Chars: the document's sign that bytes begin with. -/
def accF (r0 : Nat) (g : Nat → Nat) : Nat → Nat
  | 0 => r0
  | k + 1 => accF r0 g k * 64 + (g (k + 1) - 0x80)
def conts (g : Nat → Nat) (k : Nat) : Prop := ∀ i, 1 ≤ i → i ≤ k → 0x80 ≤ g i ∧ g i < 0xC0
instance (g : Nat → Nat) (k : Nat) : Decidable (conts g k) := by
  have : conts g k ↔ ∀ i, i < k → 0x80 ≤ g (i + 1) ∧ g (i + 1) < 0xC0 := by
    constructor
    · intro h i hi; exact h (i + 1) (by omega) (by omega)
    · intro h i h1 h2
      have := h (i - 1) (by omega)
      rwa [show i - 1 + 1 = i by omega] at this
  exact decidable_of_iff _ this.symm
/-- What comes out of so many bytes. -/
def firstT (r0 n least : Nat) (g : Nat → Nat) (m : Nat) : Nat × Nat :=
  if n ≤ m ∧ conts g (n - 1) ∧ least ≤ accF r0 g (n - 1) ∧ sgn (accF r0 g (n - 1)) = true then (accF r0 g (n - 1), n) else (0, 0)
theorem conts1 (g : Nat → Nat) : conts g 0 := fun i h1 h2 => by omega
theorem conts_s (g : Nat → Nat) (k : Nat) : conts g (k + 1) ↔ conts g k ∧ 0x80 ≤ g (k + 1) ∧ g (k + 1) < 0xC0 := by
  constructor
  · intro h; exact ⟨fun i h1 h2 => h i h1 (by omega), h (k + 1) (by omega) (by omega)⟩
  · rintro ⟨h, h'⟩ i h1 h2
    by_cases hi : i = k + 1
    · subst hi; exact h'
    · exact h i h1 (by omega)
theorem first_T (g : Nat → Nat) (m : Nat) (hm : 0 < m) : first g m = if g 0 < 0x80 then firstT (g 0) 1 0 g m else if 0xC0 ≤ g 0 ∧ g 0 < 0xE0 then firstT (g 0 - 0xC0) 2 0x80 g m
    else if 0xE0 ≤ g 0 ∧ g 0 < 0xF0 then firstT (g 0 - 0xE0) 3 0x800 g m else if 0xF0 ≤ g 0 ∧ g 0 < 0xF8 then firstT (g 0 - 0xF0) 4 0x10000 g m else (0, 0) := by
  unfold first firstT
  refine ite_ext Iff.rfl (fun _ => ite_ext ?_ (fun _ => rfl) fun _ => rfl) fun _ => ite_ext Iff.rfl (fun _ => ite_ext ?_ (fun _ => rfl) fun _ => rfl) fun _ => ite_ext Iff.rfl (fun _ => ite_ext ?_ (fun _ => rfl) fun _ => rfl) fun _ => ite_ext Iff.rfl (fun _ => ite_ext ?_ (fun _ => rfl) fun _ => rfl) fun _ => rfl
  · exact ⟨fun h => ⟨hm, conts1 g, Nat.zero_le _, h⟩, fun h => h.2.2.2⟩
  · rw [show (2 : Nat) - 1 = 0 + 1 from rfl, conts_s]
    exact ⟨fun ⟨a, b, c, d, e⟩ => ⟨a, ⟨conts1 g, b, c⟩, d, e⟩, fun ⟨a, ⟨_, b, c⟩, d, e⟩ => ⟨a, b, c, d, e⟩⟩
  · rw [show (3 : Nat) - 1 = 0 + 1 + 1 from rfl, conts_s, conts_s]
    exact ⟨fun ⟨a, b, c, b', c', d, e⟩ => ⟨a, ⟨⟨conts1 g, b, c⟩, b', c'⟩, d, e⟩, fun ⟨a, ⟨⟨_, b, c⟩, b', c'⟩, d, e⟩ => ⟨a, b, c, b', c', d, e⟩⟩
  · rw [show (4 : Nat) - 1 = 0 + 1 + 1 + 1 from rfl, conts_s, conts_s, conts_s]
    exact ⟨fun ⟨a, b, c, b', c', b'', c'', d, e⟩ => ⟨a, ⟨⟨⟨conts1 g, b, c⟩, b', c'⟩, b'', c''⟩, d, e⟩, fun ⟨a, ⟨⟨⟨_, b, c⟩, b', c'⟩, b'', c''⟩, d, e⟩ => ⟨a, b, c, b', c', b'', c'', d, e⟩⟩
theorem gOf_at (s : ByteArray) (i : Nat) (h : i < s.size) : (s[i]'h).toNat = gOf s 0 i := by
  rw [gOf, Nat.zero_add, get_list, List.getD_eq_getElem?_getD, List.getElem?_eq_getElem (by rw [size_list]; exact h)]; rfl
theorem acc_bd (r0 : Nat) (g : Nat → Nat) (h : r0 ≤ 127) (hg : ∀ i, g i < 256) (k : Nat) (hk : k ≤ 3) : accF r0 g k ≤ 40000000 := by
  have st : ∀ j, accF r0 g (j + 1) ≤ accF r0 g j * 64 + 127 := fun j => by
    have := hg (j + 1)
    show accF r0 g j * 64 + (g (j + 1) - 0x80) ≤ _
    omega
  have s0 : accF r0 g 0 ≤ 127 := h
  have s1 : accF r0 g 1 ≤ accF r0 g 0 * 64 + 127 := st 0
  have s2 : accF r0 g 2 ≤ accF r0 g 1 * 64 + 127 := st 1
  have s3 : accF r0 g 3 ≤ accF r0 g 2 * 64 + 127 := st 2
  have hc : k = 0 ∨ k = 1 ∨ k = 2 ∨ k = 3 := by omega
  rcases hc with rfl | rfl | rfl | rfl <;> omega
set_option maxRecDepth 100000 in
set_option maxHeartbeats 8000000 in
theorem rfirst_any (s : ByteArray) (h0 : 0 < s.size) (hs : s.size ≤ 9223372036854775807) (w : World) : Calls Try.prog 23 #[.string s] w fun e w' => e = .returned (.tuple #[.int .i64 ((first (gOf s 0) s.size).1 : Nat), .int .i64 ((first (gOf s 0) s.size).2 : Nat)]) ∧ w' = w := by
  have hF := first_T (gOf s 0) s.size h0
  have hg := gOf_lt s 0
  have e0 := gOf_at s 0 h0
  have i0 : (0 : Int) < s.size := by omega
  have i1 : (s.size : Int) ≤ 9223372036854775807 := by omega
  have b0 := hg 0
  have HG := Lib.hid hg
  have HA := Lib.hid (gOf_at s)
  by_cases c5 : gOf s 0 0 < 0x80 ∨ (0xC0 ≤ gOf s 0 0 ∧ gOf s 0 0 < 0xF8)
  · have hc4 : (gOf s 0 0 < 0x80) ∨ (0xC0 ≤ gOf s 0 0 ∧ gOf s 0 0 < 0xE0) ∨ (0xE0 ≤ gOf s 0 0 ∧ gOf s 0 0 < 0xF0) ∨ (0xF0 ≤ gOf s 0 0 ∧ gOf s 0 0 < 0xF8) := by omega
    clear c5
    rcases hc4 with cc | cc | cc | cc
    · have hT : first (gOf s 0) s.size = firstT (gOf s 0 0) 1 0 (gOf s 0) s.size := by rw [hF, if_pos cc]
      obtain ⟨R, hR⟩ : ∃ R, R = gOf s 0 0 := ⟨_, rfl⟩
      rw [← hR] at hT
      have hRi : (s[0].toNat : Int) = (R : Int) := by omega
      have hR127 : R ≤ 127 := by omega
      have b1 : (0 : Int) ≤ s[0].toNat := by omega
      have b2 : (s[0].toNat : Int) < 128 := by omega
      have BD := Lib.hid (fun k hk => acc_bd R (gOf s 0) hR127 HG.out k hk)
      have HT := Lib.hid hT
      have HRI := Lib.hid hRi
      have RB := Lib.hid hR127
      clear hF hT hRi hR127 hR cc hg b0 e0
      by_cases hm : (s.size : Int) < 1
      · have L := Lib.hid (show first (gOf s 0) s.size = (0, 0) by rw [HT.out, firstT, if_neg (fun h => by have := h.1; omega)])
        go_enter Try.func23, Try.ntmps23
        go_wp2
        go_ret2
        exact ⟨by (rw [L.out]) <;> rfl, rfl⟩
      · go_enter Try.func23, Try.ntmps23
        go_wp2_with fail
        go_loopg [6, 8] 1 (fun g v6 v8 wr => ∃ k : Nat, v6 = .int .i64 ((accF R (gOf s 0) k : Nat) : Int) ∧ v8 = .int .i64 ((k : Int) + 1) ∧ Hid (k ≤ 1 - 1 ∧ conts (gOf s 0) k ∧ g = 1 - k) ∧ wr = w)
        case atStart => exact ⟨0, by first | rw [HRI.out]; rfl | (rw [← HRI.out]; rfl), rfl, ⟨by omega, conts1 _, rfl⟩, rfl⟩
        case round =>
          obtain ⟨k, rfl, rfl, hh, rfl⟩ := hrel
          obtain ⟨hk, hct, -⟩ := hh.out
          have hbd := BD.out k (by omega)
          have hbi : ((accF R (gOf s 0) k : Nat) : Int) ≤ 40000000 := by omega
          by_cases hlt : k + 1 < 1
          · have hks : k + 1 < s.size := by omega
            have hga := HA.out (k + 1) hks
            have hg1 := HG.out (k + 1)
            have CS := Lib.hid (conts_s (gOf s 0) k)
            have HAC := Lib.hid (show accF R (gOf s 0) (k + 1) = accF R (gOf s 0) k * 64 + (gOf s 0 (k + 1) - 0x80) from rfl)
            have k1 : (k : Int) + 1 < 1 := by omega
            have k2 : (k : Int) + 1 < s.size := by omega
            rw [← hga] at CS HAC hg1
            obtain ⟨a, ha⟩ : ∃ a, a = accF R (gOf s 0) k := ⟨_, rfl⟩
            rw [← ha] at hbi HAC ⊢
            have k3 : (s[k + 1].toNat : Int) ≤ 255 := by omega
            by_cases hc : 0x80 ≤ s[k + 1].toNat ∧ s[k + 1].toNat < 0xC0
            · obtain ⟨hc1, hc2⟩ := hc
              have k4 : (128 : Int) ≤ s[k + 1].toNat := by omega
              have k5 : (s[k + 1].toNat : Int) < 192 := by omega
              have NC := Lib.hid (CS.out.2 ⟨hct, hc1, hc2⟩)
              have E := Lib.hid (show (a : Int) * 64 + (s[k + 1].toNat : Int) - 128 = ((accF R (gOf s 0) (k + 1) : Nat) : Int) by rw [HAC.out]; omega)
              clear hbd ha hga hg1 hc1 hc2 hk hct
              exfalso; omega
            · have L := Lib.hid (show first (gOf s 0) s.size = (0, 0) by
                rw [HT.out, firstT, if_neg (fun h => hc (by rw [hga]; exact h.2.1 (k + 1) (by omega) (by omega)))])
              have k4 : (s[k + 1].toNat : Int) < 128 ∨ (192 : Int) ≤ s[k + 1].toNat := by omega
              clear hbd ha hga hg1 hc hk hct
              rcases k4 with k4 | k4
              all_goals
                exfalso; omega
          · obtain rfl : k = 1 - 1 := by omega
            have hsg := fun w => rsign_any (accF R (gOf s 0) (1 - 1)) (by omega) w
            have HF2 := Lib.hid (show firstT R 1 0 (gOf s 0) s.size = if 1 ≤ s.size ∧ conts (gOf s 0) (1 - 1) ∧ 0 ≤ accF R (gOf s 0) (1 - 1) ∧ sgn (accF R (gOf s 0) (1 - 1)) = true then (accF R (gOf s 0) (1 - 1), 1) else (0, 0) from rfl)
            obtain ⟨a, ha⟩ : ∃ a, a = accF R (gOf s 0) (1 - 1) := ⟨_, rfl⟩
            rw [← ha] at hbi hsg HF2 ⊢
            have HSG := Lib.hid hsg
            have HCT := Lib.hid hct
            clear hbd ha hsg hk hct
            have hns : 1 ≤ s.size := by omega
            cases hsv : sgn a with
            | false =>
              have HSV := Lib.hid hsv
              have L := Lib.hid (show first (gOf s 0) s.size = (0, 0) by rw [HT.out, HF2.out, if_neg (fun h => by have := h.2.2.2; rw [hsv] at this; cases this)])
              clear hsv hns
              by_cases hl : (a : Int) < 0
              · exfalso; omega
              · go_wp2_with (go_at_call 20; refine (HSG.out _).mono ?_; rintro e W1 ⟨rfl, rfl⟩; rw [HSV.out])
                go_ret2
                exact ⟨by (rw [L.out]) <;> rfl, rfl⟩
            | true =>
              have HSV := Lib.hid hsv
              by_cases hl : (a : Int) < 0
              · exfalso; omega
              · have L := Lib.hid (show first (gOf s 0) s.size = (a, 1) by rw [HT.out, HF2.out, if_pos ⟨hns, HCT.out, by omega, hsv⟩])
                clear hsv hns
                go_wp2_with (go_at_call 20; refine (HSG.out _).mono ?_; rintro e W1 ⟨rfl, rfl⟩; rw [HSV.out])
                go_ret2
                exact ⟨by (rw [L.out]) <;> rfl, rfl⟩
    · have hT : first (gOf s 0) s.size = firstT (gOf s 0 0 - 0xC0) 2 128 (gOf s 0) s.size := by rw [hF, if_neg (by omega), if_pos cc]
      obtain ⟨R, hR⟩ : ∃ R, R = gOf s 0 0 - 0xC0 := ⟨_, rfl⟩
      rw [← hR] at hT
      have hRi : (s[0].toNat : Int) - 192 = (R : Int) := by omega
      have hR127 : R ≤ 127 := by omega
      have b1 : (192 : Int) ≤ s[0].toNat := by omega
      have b2 : (s[0].toNat : Int) < 224 := by omega
      have BD := Lib.hid (fun k hk => acc_bd R (gOf s 0) hR127 HG.out k hk)
      have HT := Lib.hid hT
      have HRI := Lib.hid hRi
      have RB := Lib.hid hR127
      clear hF hT hRi hR127 hR cc hg b0 e0
      by_cases hm : (s.size : Int) < 2
      · have L := Lib.hid (show first (gOf s 0) s.size = (0, 0) by rw [HT.out, firstT, if_neg (fun h => by have := h.1; omega)])
        go_enter Try.func23, Try.ntmps23
        go_wp2
        go_ret2
        exact ⟨by (rw [L.out]) <;> rfl, rfl⟩
      · go_enter Try.func23, Try.ntmps23
        go_wp2_with fail
        go_loopg [6, 8] 2 (fun g v6 v8 wr => ∃ k : Nat, v6 = .int .i64 ((accF R (gOf s 0) k : Nat) : Int) ∧ v8 = .int .i64 ((k : Int) + 1) ∧ Hid (k ≤ 2 - 1 ∧ conts (gOf s 0) k ∧ g = 2 - k) ∧ wr = w)
        case atStart => exact ⟨0, by first | rw [HRI.out]; rfl | (rw [← HRI.out]; rfl), rfl, ⟨by omega, conts1 _, rfl⟩, rfl⟩
        case round =>
          obtain ⟨k, rfl, rfl, hh, rfl⟩ := hrel
          obtain ⟨hk, hct, -⟩ := hh.out
          have hbd := BD.out k (by omega)
          have hbi : ((accF R (gOf s 0) k : Nat) : Int) ≤ 40000000 := by omega
          by_cases hlt : k + 1 < 2
          · have hks : k + 1 < s.size := by omega
            have hga := HA.out (k + 1) hks
            have hg1 := HG.out (k + 1)
            have CS := Lib.hid (conts_s (gOf s 0) k)
            have HAC := Lib.hid (show accF R (gOf s 0) (k + 1) = accF R (gOf s 0) k * 64 + (gOf s 0 (k + 1) - 0x80) from rfl)
            have k1 : (k : Int) + 1 < 2 := by omega
            have k2 : (k : Int) + 1 < s.size := by omega
            rw [← hga] at CS HAC hg1
            obtain ⟨a, ha⟩ : ∃ a, a = accF R (gOf s 0) k := ⟨_, rfl⟩
            rw [← ha] at hbi HAC ⊢
            have k3 : (s[k + 1].toNat : Int) ≤ 255 := by omega
            by_cases hc : 0x80 ≤ s[k + 1].toNat ∧ s[k + 1].toNat < 0xC0
            · obtain ⟨hc1, hc2⟩ := hc
              have k4 : (128 : Int) ≤ s[k + 1].toNat := by omega
              have k5 : (s[k + 1].toNat : Int) < 192 := by omega
              have NC := Lib.hid (CS.out.2 ⟨hct, hc1, hc2⟩)
              have E := Lib.hid (show (a : Int) * 64 + (s[k + 1].toNat : Int) - 128 = ((accF R (gOf s 0) (k + 1) : Nat) : Int) by rw [HAC.out]; omega)
              clear hbd ha hga hg1 hc1 hc2 hk hct
              · go_wp2
                go_roundg (gk - 1)
                case measure => have := hh.out.2.2; omega
                case rel => exact ⟨k + 1, by rw [E.out], by go_num, ⟨by omega, NC.out, by have := hh.out.2.2; omega⟩, rfl⟩
            · have L := Lib.hid (show first (gOf s 0) s.size = (0, 0) by
                rw [HT.out, firstT, if_neg (fun h => hc (by rw [hga]; exact h.2.1 (k + 1) (by omega) (by omega)))])
              have k4 : (s[k + 1].toNat : Int) < 128 ∨ (192 : Int) ≤ s[k + 1].toNat := by omega
              clear hbd ha hga hg1 hc hk hct
              rcases k4 with k4 | k4
              all_goals
                · go_wp2
                  go_ret2
                  exact ⟨by (rw [L.out]) <;> rfl, rfl⟩
          · obtain rfl : k = 2 - 1 := by omega
            have hsg := fun w => rsign_any (accF R (gOf s 0) (2 - 1)) (by omega) w
            have HF2 := Lib.hid (show firstT R 2 128 (gOf s 0) s.size = if 2 ≤ s.size ∧ conts (gOf s 0) (2 - 1) ∧ 128 ≤ accF R (gOf s 0) (2 - 1) ∧ sgn (accF R (gOf s 0) (2 - 1)) = true then (accF R (gOf s 0) (2 - 1), 2) else (0, 0) from rfl)
            obtain ⟨a, ha⟩ : ∃ a, a = accF R (gOf s 0) (2 - 1) := ⟨_, rfl⟩
            rw [← ha] at hbi hsg HF2 ⊢
            have HSG := Lib.hid hsg
            have HCT := Lib.hid hct
            clear hbd ha hsg hk hct
            have hns : 2 ≤ s.size := by omega
            cases hsv : sgn a with
            | false =>
              have HSV := Lib.hid hsv
              have L := Lib.hid (show first (gOf s 0) s.size = (0, 0) by rw [HT.out, HF2.out, if_neg (fun h => by have := h.2.2.2; rw [hsv] at this; cases this)])
              clear hsv hns
              by_cases hl : (a : Int) < 128
              · · go_wp2_with fail
                  go_ret2
                  exact ⟨by (rw [L.out]) <;> rfl, rfl⟩
              · go_wp2_with (go_at_call 20; refine (HSG.out _).mono ?_; rintro e W1 ⟨rfl, rfl⟩; rw [HSV.out])
                go_ret2
                exact ⟨by (rw [L.out]) <;> rfl, rfl⟩
            | true =>
              have HSV := Lib.hid hsv
              by_cases hl : (a : Int) < 128
              · · have L := Lib.hid (show first (gOf s 0) s.size = (0, 0) by rw [HT.out, HF2.out, if_neg (fun h => by have := h.2.2.1; omega)])
                  clear hsv hns
                  go_wp2_with fail
                  go_ret2
                  exact ⟨by (rw [L.out]) <;> rfl, rfl⟩
              · have L := Lib.hid (show first (gOf s 0) s.size = (a, 2) by rw [HT.out, HF2.out, if_pos ⟨hns, HCT.out, by omega, hsv⟩])
                clear hsv hns
                go_wp2_with (go_at_call 20; refine (HSG.out _).mono ?_; rintro e W1 ⟨rfl, rfl⟩; rw [HSV.out])
                go_ret2
                exact ⟨by (rw [L.out]) <;> rfl, rfl⟩
    · have hT : first (gOf s 0) s.size = firstT (gOf s 0 0 - 0xE0) 3 2048 (gOf s 0) s.size := by rw [hF, if_neg (by omega), if_neg (by omega), if_pos cc]
      obtain ⟨R, hR⟩ : ∃ R, R = gOf s 0 0 - 0xE0 := ⟨_, rfl⟩
      rw [← hR] at hT
      have hRi : (s[0].toNat : Int) - 224 = (R : Int) := by omega
      have hR127 : R ≤ 127 := by omega
      have b1 : (224 : Int) ≤ s[0].toNat := by omega
      have b2 : (s[0].toNat : Int) < 240 := by omega
      have BD := Lib.hid (fun k hk => acc_bd R (gOf s 0) hR127 HG.out k hk)
      have HT := Lib.hid hT
      have HRI := Lib.hid hRi
      have RB := Lib.hid hR127
      clear hF hT hRi hR127 hR cc hg b0 e0
      by_cases hm : (s.size : Int) < 3
      · have L := Lib.hid (show first (gOf s 0) s.size = (0, 0) by rw [HT.out, firstT, if_neg (fun h => by have := h.1; omega)])
        go_enter Try.func23, Try.ntmps23
        go_wp2
        go_ret2
        exact ⟨by (rw [L.out]) <;> rfl, rfl⟩
      · go_enter Try.func23, Try.ntmps23
        go_wp2_with fail
        go_loopg [6, 8] 3 (fun g v6 v8 wr => ∃ k : Nat, v6 = .int .i64 ((accF R (gOf s 0) k : Nat) : Int) ∧ v8 = .int .i64 ((k : Int) + 1) ∧ Hid (k ≤ 3 - 1 ∧ conts (gOf s 0) k ∧ g = 3 - k) ∧ wr = w)
        case atStart => exact ⟨0, by first | rw [HRI.out]; rfl | (rw [← HRI.out]; rfl), rfl, ⟨by omega, conts1 _, rfl⟩, rfl⟩
        case round =>
          obtain ⟨k, rfl, rfl, hh, rfl⟩ := hrel
          obtain ⟨hk, hct, -⟩ := hh.out
          have hbd := BD.out k (by omega)
          have hbi : ((accF R (gOf s 0) k : Nat) : Int) ≤ 40000000 := by omega
          by_cases hlt : k + 1 < 3
          · have hks : k + 1 < s.size := by omega
            have hga := HA.out (k + 1) hks
            have hg1 := HG.out (k + 1)
            have CS := Lib.hid (conts_s (gOf s 0) k)
            have HAC := Lib.hid (show accF R (gOf s 0) (k + 1) = accF R (gOf s 0) k * 64 + (gOf s 0 (k + 1) - 0x80) from rfl)
            have k1 : (k : Int) + 1 < 3 := by omega
            have k2 : (k : Int) + 1 < s.size := by omega
            rw [← hga] at CS HAC hg1
            obtain ⟨a, ha⟩ : ∃ a, a = accF R (gOf s 0) k := ⟨_, rfl⟩
            rw [← ha] at hbi HAC ⊢
            have k3 : (s[k + 1].toNat : Int) ≤ 255 := by omega
            by_cases hc : 0x80 ≤ s[k + 1].toNat ∧ s[k + 1].toNat < 0xC0
            · obtain ⟨hc1, hc2⟩ := hc
              have k4 : (128 : Int) ≤ s[k + 1].toNat := by omega
              have k5 : (s[k + 1].toNat : Int) < 192 := by omega
              have NC := Lib.hid (CS.out.2 ⟨hct, hc1, hc2⟩)
              have E := Lib.hid (show (a : Int) * 64 + (s[k + 1].toNat : Int) - 128 = ((accF R (gOf s 0) (k + 1) : Nat) : Int) by rw [HAC.out]; omega)
              clear hbd ha hga hg1 hc1 hc2 hk hct
              · go_wp2
                go_roundg (gk - 1)
                case measure => have := hh.out.2.2; omega
                case rel => exact ⟨k + 1, by rw [E.out], by go_num, ⟨by omega, NC.out, by have := hh.out.2.2; omega⟩, rfl⟩
            · have L := Lib.hid (show first (gOf s 0) s.size = (0, 0) by
                rw [HT.out, firstT, if_neg (fun h => hc (by rw [hga]; exact h.2.1 (k + 1) (by omega) (by omega)))])
              have k4 : (s[k + 1].toNat : Int) < 128 ∨ (192 : Int) ≤ s[k + 1].toNat := by omega
              clear hbd ha hga hg1 hc hk hct
              rcases k4 with k4 | k4
              all_goals
                · go_wp2
                  go_ret2
                  exact ⟨by (rw [L.out]) <;> rfl, rfl⟩
          · obtain rfl : k = 3 - 1 := by omega
            have hsg := fun w => rsign_any (accF R (gOf s 0) (3 - 1)) (by omega) w
            have HF2 := Lib.hid (show firstT R 3 2048 (gOf s 0) s.size = if 3 ≤ s.size ∧ conts (gOf s 0) (3 - 1) ∧ 2048 ≤ accF R (gOf s 0) (3 - 1) ∧ sgn (accF R (gOf s 0) (3 - 1)) = true then (accF R (gOf s 0) (3 - 1), 3) else (0, 0) from rfl)
            obtain ⟨a, ha⟩ : ∃ a, a = accF R (gOf s 0) (3 - 1) := ⟨_, rfl⟩
            rw [← ha] at hbi hsg HF2 ⊢
            have HSG := Lib.hid hsg
            have HCT := Lib.hid hct
            clear hbd ha hsg hk hct
            have hns : 3 ≤ s.size := by omega
            cases hsv : sgn a with
            | false =>
              have HSV := Lib.hid hsv
              have L := Lib.hid (show first (gOf s 0) s.size = (0, 0) by rw [HT.out, HF2.out, if_neg (fun h => by have := h.2.2.2; rw [hsv] at this; cases this)])
              clear hsv hns
              by_cases hl : (a : Int) < 2048
              · · go_wp2_with fail
                  go_ret2
                  exact ⟨by (rw [L.out]) <;> rfl, rfl⟩
              · go_wp2_with (go_at_call 20; refine (HSG.out _).mono ?_; rintro e W1 ⟨rfl, rfl⟩; rw [HSV.out])
                go_ret2
                exact ⟨by (rw [L.out]) <;> rfl, rfl⟩
            | true =>
              have HSV := Lib.hid hsv
              by_cases hl : (a : Int) < 2048
              · · have L := Lib.hid (show first (gOf s 0) s.size = (0, 0) by rw [HT.out, HF2.out, if_neg (fun h => by have := h.2.2.1; omega)])
                  clear hsv hns
                  go_wp2_with fail
                  go_ret2
                  exact ⟨by (rw [L.out]) <;> rfl, rfl⟩
              · have L := Lib.hid (show first (gOf s 0) s.size = (a, 3) by rw [HT.out, HF2.out, if_pos ⟨hns, HCT.out, by omega, hsv⟩])
                clear hsv hns
                go_wp2_with (go_at_call 20; refine (HSG.out _).mono ?_; rintro e W1 ⟨rfl, rfl⟩; rw [HSV.out])
                go_ret2
                exact ⟨by (rw [L.out]) <;> rfl, rfl⟩
    · have hT : first (gOf s 0) s.size = firstT (gOf s 0 0 - 0xF0) 4 65536 (gOf s 0) s.size := by rw [hF, if_neg (by omega), if_neg (by omega), if_neg (by omega), if_pos cc]
      obtain ⟨R, hR⟩ : ∃ R, R = gOf s 0 0 - 0xF0 := ⟨_, rfl⟩
      rw [← hR] at hT
      have hRi : (s[0].toNat : Int) - 240 = (R : Int) := by omega
      have hR127 : R ≤ 127 := by omega
      have b1 : (240 : Int) ≤ s[0].toNat := by omega
      have b2 : (s[0].toNat : Int) < 248 := by omega
      have BD := Lib.hid (fun k hk => acc_bd R (gOf s 0) hR127 HG.out k hk)
      have HT := Lib.hid hT
      have HRI := Lib.hid hRi
      have RB := Lib.hid hR127
      clear hF hT hRi hR127 hR cc hg b0 e0
      by_cases hm : (s.size : Int) < 4
      · have L := Lib.hid (show first (gOf s 0) s.size = (0, 0) by rw [HT.out, firstT, if_neg (fun h => by have := h.1; omega)])
        go_enter Try.func23, Try.ntmps23
        go_wp2
        go_ret2
        exact ⟨by (rw [L.out]) <;> rfl, rfl⟩
      · go_enter Try.func23, Try.ntmps23
        go_wp2_with fail
        go_loopg [6, 8] 4 (fun g v6 v8 wr => ∃ k : Nat, v6 = .int .i64 ((accF R (gOf s 0) k : Nat) : Int) ∧ v8 = .int .i64 ((k : Int) + 1) ∧ Hid (k ≤ 4 - 1 ∧ conts (gOf s 0) k ∧ g = 4 - k) ∧ wr = w)
        case atStart => exact ⟨0, by first | rw [HRI.out]; rfl | (rw [← HRI.out]; rfl), rfl, ⟨by omega, conts1 _, rfl⟩, rfl⟩
        case round =>
          obtain ⟨k, rfl, rfl, hh, rfl⟩ := hrel
          obtain ⟨hk, hct, -⟩ := hh.out
          have hbd := BD.out k (by omega)
          have hbi : ((accF R (gOf s 0) k : Nat) : Int) ≤ 40000000 := by omega
          by_cases hlt : k + 1 < 4
          · have hks : k + 1 < s.size := by omega
            have hga := HA.out (k + 1) hks
            have hg1 := HG.out (k + 1)
            have CS := Lib.hid (conts_s (gOf s 0) k)
            have HAC := Lib.hid (show accF R (gOf s 0) (k + 1) = accF R (gOf s 0) k * 64 + (gOf s 0 (k + 1) - 0x80) from rfl)
            have k1 : (k : Int) + 1 < 4 := by omega
            have k2 : (k : Int) + 1 < s.size := by omega
            rw [← hga] at CS HAC hg1
            obtain ⟨a, ha⟩ : ∃ a, a = accF R (gOf s 0) k := ⟨_, rfl⟩
            rw [← ha] at hbi HAC ⊢
            have k3 : (s[k + 1].toNat : Int) ≤ 255 := by omega
            by_cases hc : 0x80 ≤ s[k + 1].toNat ∧ s[k + 1].toNat < 0xC0
            · obtain ⟨hc1, hc2⟩ := hc
              have k4 : (128 : Int) ≤ s[k + 1].toNat := by omega
              have k5 : (s[k + 1].toNat : Int) < 192 := by omega
              have NC := Lib.hid (CS.out.2 ⟨hct, hc1, hc2⟩)
              have E := Lib.hid (show (a : Int) * 64 + (s[k + 1].toNat : Int) - 128 = ((accF R (gOf s 0) (k + 1) : Nat) : Int) by rw [HAC.out]; omega)
              clear hbd ha hga hg1 hc1 hc2 hk hct
              · go_wp2
                go_roundg (gk - 1)
                case measure => have := hh.out.2.2; omega
                case rel => exact ⟨k + 1, by rw [E.out], by go_num, ⟨by omega, NC.out, by have := hh.out.2.2; omega⟩, rfl⟩
            · have L := Lib.hid (show first (gOf s 0) s.size = (0, 0) by
                rw [HT.out, firstT, if_neg (fun h => hc (by rw [hga]; exact h.2.1 (k + 1) (by omega) (by omega)))])
              have k4 : (s[k + 1].toNat : Int) < 128 ∨ (192 : Int) ≤ s[k + 1].toNat := by omega
              clear hbd ha hga hg1 hc hk hct
              rcases k4 with k4 | k4
              all_goals
                · go_wp2
                  go_ret2
                  exact ⟨by (rw [L.out]) <;> rfl, rfl⟩
          · obtain rfl : k = 4 - 1 := by omega
            have hsg := fun w => rsign_any (accF R (gOf s 0) (4 - 1)) (by omega) w
            have HF2 := Lib.hid (show firstT R 4 65536 (gOf s 0) s.size = if 4 ≤ s.size ∧ conts (gOf s 0) (4 - 1) ∧ 65536 ≤ accF R (gOf s 0) (4 - 1) ∧ sgn (accF R (gOf s 0) (4 - 1)) = true then (accF R (gOf s 0) (4 - 1), 4) else (0, 0) from rfl)
            obtain ⟨a, ha⟩ : ∃ a, a = accF R (gOf s 0) (4 - 1) := ⟨_, rfl⟩
            rw [← ha] at hbi hsg HF2 ⊢
            have HSG := Lib.hid hsg
            have HCT := Lib.hid hct
            clear hbd ha hsg hk hct
            have hns : 4 ≤ s.size := by omega
            cases hsv : sgn a with
            | false =>
              have HSV := Lib.hid hsv
              have L := Lib.hid (show first (gOf s 0) s.size = (0, 0) by rw [HT.out, HF2.out, if_neg (fun h => by have := h.2.2.2; rw [hsv] at this; cases this)])
              clear hsv hns
              by_cases hl : (a : Int) < 65536
              · · go_wp2_with fail
                  go_ret2
                  exact ⟨by (rw [L.out]) <;> rfl, rfl⟩
              · go_wp2_with (go_at_call 20; refine (HSG.out _).mono ?_; rintro e W1 ⟨rfl, rfl⟩; rw [HSV.out])
                go_ret2
                exact ⟨by (rw [L.out]) <;> rfl, rfl⟩
            | true =>
              have HSV := Lib.hid hsv
              by_cases hl : (a : Int) < 65536
              · · have L := Lib.hid (show first (gOf s 0) s.size = (0, 0) by rw [HT.out, HF2.out, if_neg (fun h => by have := h.2.2.1; omega)])
                  clear hsv hns
                  go_wp2_with fail
                  go_ret2
                  exact ⟨by (rw [L.out]) <;> rfl, rfl⟩
              · have L := Lib.hid (show first (gOf s 0) s.size = (a, 4) by rw [HT.out, HF2.out, if_pos ⟨hns, HCT.out, by omega, hsv⟩])
                clear hsv hns
                go_wp2_with (go_at_call 20; refine (HSG.out _).mono ?_; rintro e W1 ⟨rfl, rfl⟩; rw [HSV.out])
                go_ret2
                exact ⟨by (rw [L.out]) <;> rfl, rfl⟩
  · have L := Lib.hid (show first (gOf s 0) s.size = (0, 0) by
      rw [hF, if_neg (fun h => c5 (.inl h)), if_neg (fun h => c5 (.inr (by omega))), if_neg (fun h => c5 (.inr (by omega))), if_neg (fun h => c5 (.inr (by omega)))])
    have b1 : (128 : Int) ≤ s[0].toNat := by omega
    have b2 : (s[0].toNat : Int) < 192 ∨ (248 : Int) ≤ s[0].toNat := by omega
    have b3 : (s[0].toNat : Int) ≤ 255 := by omega
    clear hF c5 hg e0 b0
    rcases b2 with b2 | b2
    all_goals
      go_enter Try.func23, Try.ntmps23
      go_wp2
      go_ret2
      exact ⟨by (rw [L.out]) <;> rfl, rfl⟩
end Go.Proofs.Ythcpgbbmgabpnaa
