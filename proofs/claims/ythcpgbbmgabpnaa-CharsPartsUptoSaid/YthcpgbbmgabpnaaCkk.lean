import Derived.Test.YthcpgbbmgabpnaaCkj
import Derived.Test.YthcpgbbmgabpnaaChb
namespace Go.Proofs.Ythcpgbbmgabpnaa
set_option linter.unusedSimpArgs false
set_option linter.unusedVariables false
open Go.RowKit

/-! Chars: the document's references. -/
def entV (o : Option Nat) : Value := match o with
  | some n => .tuple #[.string (bytesOf (Lib.encodeRune (n : Int))), .bool true]
  | none => .tuple #[.string ⟨#[]⟩, .bool false]
def entR : List UInt8 → Option Nat
  | 35 :: 120 :: t => numL 16 t
  | 35 :: t => numL 10 t
  | _ => none
theorem entL_rest (l : List UInt8) (h1 : l ≠ [97, 109, 112]) (h2 : l ≠ [108, 116]) (h3 : l ≠ [103, 116]) (h4 : l ≠ [113, 117, 111, 116]) (h5 : l ≠ [97, 112, 111, 115]) : entL l = entR l := by
  unfold entL
  rw [if_neg h1, if_neg h2, if_neg h3, if_neg h4, if_neg h5]
  rfl
theorem ent_hex (t : List UInt8) : entL (35 :: 120 :: t) = numL 16 t := entL_rest _ (by simp) (by simp) (by simp) (by simp) (by simp)
theorem ent_dec (c : UInt8) (t : List UInt8) (h : c ≠ 120) : entL (35 :: c :: t) = numL 10 (c :: t) := by
  rw [entL_rest _ (by simp) (by simp) (by simp) (by simp) (by simp)]
  unfold entR
  split
  · rename_i heq
    simp only [List.cons.injEq] at heq
    exact absurd heq.2.1 h
  · rename_i heq
    simp only [List.cons.injEq] at heq
    rw [heq.2]
  · rename_i heq1 heq2
    exact absurd rfl (heq2 _)
theorem ent_no (c : UInt8) (t : List UInt8) (h : c ≠ 35) (h1 : c :: t ≠ [97, 109, 112]) (h2 : c :: t ≠ [108, 116]) (h3 : c :: t ≠ [103, 116]) (h4 : c :: t ≠ [113, 117, 111, 116]) (h5 : c :: t ≠ [97, 112, 111, 115]) : entL (c :: t) = none := by
  rw [entL_rest _ h1 h2 h3 h4 h5]
  unfold entR
  split
  · rename_i heq
    simp only [List.cons.injEq] at heq
    exact absurd heq.1 h
  · rename_i heq
    simp only [List.cons.injEq] at heq
    exact absurd heq.1 h
  · rfl
theorem drop0 (s : ByteArray) (h : 0 < s.size) : s.data.toList = s[0] :: s.data.toList.drop 1 := by
  have := drop_step s 0 h
  rwa [List.drop_zero] at this
set_option maxRecDepth 100000 in
theorem rsign_big (r : Nat) (hr : r ≤ 9223372036854775807) (w : World) : Calls Try.prog 20 #[.int .i64 r] w fun e w' => e = .returned (.bool (sgn r)) ∧ w' = w := by
  by_cases h : r ≤ 2147483647
  · exact rsign_any r h w
  · have L := Lib.hid (show sgn r = false from by rw [Bool.eq_false_iff]; exact fun h' => by have := (sgn_iff r).1 h'; omega)
    have e9 : ((r : Int) == 9) = false := by rw [beq_eq_false_iff_ne]; omega
    have e10 : ((r : Int) == 10) = false := by rw [beq_eq_false_iff_ne]; omega
    have e13 : ((r : Int) == 13) = false := by rw [beq_eq_false_iff_ne]; omega
    have g32 : decide ((32 : Int) ≤ r) = true := by exact decide_eq_true (by omega)
    have g57344 : decide ((57344 : Int) ≤ r) = true := by exact decide_eq_true (by omega)
    have g65536 : decide ((65536 : Int) ≤ r) = true := by exact decide_eq_true (by omega)
    have l55295 : decide ((r : Int) ≤ 55295) = false := by exact decide_eq_false (by omega)
    have l65533 : decide ((r : Int) ≤ 65533) = false := by exact decide_eq_false (by omega)
    have l1114111 : decide ((r : Int) ≤ 1114111) = false := by exact decide_eq_false (by omega)
    clear h hr
    go_enter Try.func20, Try.ntmps20
    go_wp2
    go_ret
    exact ⟨by (rw [L.out]) <;> rfl, rfl⟩
set_option maxRecDepth 100000 in
set_option maxHeartbeats 8000000 in
theorem entity_any (s : ByteArray) (hs : s.size ≤ 9223372036854775807) (w : World) : Calls Try.prog 32 #[.string s] w fun e w' => e = .returned (entV (entL s.data.toList)) ∧ Bel w w' := by
  have i2 : (s.size : Int) ≤ 9223372036854775807 := by omega
  by_cases hamp : s.data.toList = [97, 109, 112]
  · rw [of_list hamp]
    clear hamp
    show Calls Try.prog 32 #[.string ⟨#[97, 109, 112]⟩] w fun e w' => e = .returned (entV (entL [97, 109, 112])) ∧ Bel w w'
    go_enter Try.func32, Try.ntmps32
    go_wp2_with fail
    go_ret2
    exact ⟨rfl, Bel.refl _⟩
  by_cases hlt : s.data.toList = [108, 116]
  · rw [of_list hlt]
    clear hamp hlt
    show Calls Try.prog 32 #[.string ⟨#[108, 116]⟩] w fun e w' => e = .returned (entV (entL [108, 116])) ∧ Bel w w'
    go_enter Try.func32, Try.ntmps32
    go_wp2_with fail
    go_ret2
    exact ⟨rfl, Bel.refl _⟩
  by_cases hgt : s.data.toList = [103, 116]
  · rw [of_list hgt]
    clear hamp hlt hgt
    show Calls Try.prog 32 #[.string ⟨#[103, 116]⟩] w fun e w' => e = .returned (entV (entL [103, 116])) ∧ Bel w w'
    go_enter Try.func32, Try.ntmps32
    go_wp2_with fail
    go_ret2
    exact ⟨rfl, Bel.refl _⟩
  by_cases hquot : s.data.toList = [113, 117, 111, 116]
  · rw [of_list hquot]
    clear hamp hlt hgt hquot
    show Calls Try.prog 32 #[.string ⟨#[113, 117, 111, 116]⟩] w fun e w' => e = .returned (entV (entL [113, 117, 111, 116])) ∧ Bel w w'
    go_enter Try.func32, Try.ntmps32
    go_wp2_with fail
    go_ret2
    exact ⟨rfl, Bel.refl _⟩
  by_cases hapos : s.data.toList = [97, 112, 111, 115]
  · rw [of_list hapos]
    clear hamp hlt hgt hquot hapos
    show Calls Try.prog 32 #[.string ⟨#[97, 112, 111, 115]⟩] w fun e w' => e = .returned (entV (entL [97, 112, 111, 115])) ∧ Bel w w'
    go_enter Try.func32, Try.ntmps32
    go_wp2_with fail
    go_ret2
    exact ⟨rfl, Bel.refl _⟩
  have NEQ := Lib.hid (And.intro hamp (And.intro hlt (And.intro hgt (And.intro hquot hapos))))
  have eamp := toList_ne s _ hamp
  have elt := toList_ne s _ hlt
  have egt := toList_ne s _ hgt
  have equot := toList_ne s _ hquot
  have eapos := toList_ne s _ hapos
  clear hamp hlt hgt hquot hapos
  by_cases h0 : s.size = 0
  · have hl : s.data.toList = [] := List.eq_nil_of_length_eq_zero (by rw [size_list]; exact h0)
    have L := Lib.hid (show entL s.data.toList = none by (rw [hl]) <;> rfl)
    have e0 : s.toList.isEmpty = true := by rw [ByteArray.toList_eq, List.isEmpty_iff]; exact hl
    clear h0 hl
    go_enter Try.func32, Try.ntmps32
    go_wp2_with fail
    go_ret2
    exact ⟨by (rw [L.out]) <;> rfl, Bel.refl _⟩
  have z0 : 0 < s.size := by omega
  have e0 : s.toList.isEmpty = false := by
    rw [ByteArray.toList_eq, Bool.eq_false_iff, ne_eq, List.isEmpty_iff]
    intro h
    have := size_list s
    rw [h] at this
    simp at this; omega
  have hl0 := drop0 s z0
  have j0 : (0 : Int) < s.size := by omega
  clear h0
  by_cases h35 : s[0] = 35
  · have e35 : ((s[0].toNat : Int) == 35) = true := by rw [h35]; rfl
    by_cases h1 : s.size = 1
    · have L := Lib.hid (show entL s.data.toList = none by
        rw [hl0, h35, List.drop_of_length_le (by rw [size_list]; omega)]
        rfl)
      have g1 : decide ((1 : Int) < s.size) = false := by exact decide_eq_false (by omega)
      have g2 : decide ((s.size : Int) ≤ 1) = true := by exact decide_eq_true (by omega)
      clear h35 hl0 h1
      go_enter Try.func32, Try.ntmps32
      go_wp2_with fail
      go_ret2
      exact ⟨by (rw [L.out]) <;> rfl, Bel.refl _⟩
    · have z1 : 1 < s.size := by omega
      have j1 : (1 : Int) < s.size := by omega
      have g1 : decide ((1 : Int) < s.size) = true := by exact decide_eq_true j1
      have hl1 := drop_step s 1 z1
      rw [hl1, h35] at hl0
      clear h1 h35
      by_cases h120 : s[1] = 120
      · have e120 : ((s[1].toNat : Int) == 120) = true := by rw [h120]; rfl
        rw [h120] at hl0
        have NE := Lib.hid (show entL s.data.toList = numL 16 (s.data.toList.drop 2) by rw [hl0, ent_hex]; rfl)
        clear hl0 hl1 h120
        by_cases hsz : s.size = 2
        · have L := Lib.hid (show entL s.data.toList = none by rw [NE.out]; exact numL_nil _ _ (.inl (List.drop_of_length_le (by rw [size_list]; omega))))
          have g2 : decide ((s.size : Int) ≤ 2) = true := by exact decide_eq_true (by omega)
          clear hsz
          go_enter Try.func32, Try.ntmps32
          go_wp2_with fail
          go_ret2
          exact ⟨by (rw [L.out]) <;> rfl, Bel.refl _⟩
        · have g2 : decide ((s.size : Int) ≤ 2) = false := by exact decide_eq_false (by omega)
          have j2 : (2 : Int) < s.size := by omega
          by_cases hbig : (8 : Int) < (s.size : Int) - 2
          · have L := Lib.hid (show entL s.data.toList = none by rw [NE.out]; exact numL_nil _ _ (.inr (by rw [drop_len]; omega)))
            have g8 : decide ((8 : Int) < (s.size : Int) - 2) = true := by exact decide_eq_true hbig
            clear hsz
            go_enter Try.func32, Try.ntmps32
            go_wp2_with fail
            go_ret2
            exact ⟨by (rw [L.out]) <;> rfl, Bel.refl _⟩
          · have NN := Lib.hid (show ¬ (s.data.toList.drop 2 = [] ∨ 8 < (s.data.toList.drop 2).length) by
              rintro (h | h)
              · have := drop_len s 2
                rw [h] at this
                simp at this; omega
              · rw [drop_len] at h; omega)
            have g8 : decide ((8 : Int) < (s.size : Int) - 2) = false := by exact decide_eq_false hbig
            have SZ := Lib.hid (show s.size ≤ 10 by omega)
            clear hsz
            go_enter Try.func32, Try.ntmps32
            go_wp2_with fail
            go_loopg [6, 7] (s.size - 2) (fun g v i wr => ∃ k n : Nat, v = .int .i64 n ∧ i = .int .i64 k ∧ k ≤ s.size ∧ n < 4294967296 ∧ Hid (2 ≤ k ∧ foldD 16 (s.data.toList.drop k) n = foldD 16 (s.data.toList.drop 2) 0 ∧ n < 16 ^ (k - 2) ∧ g = s.size - k) ∧ wr = w)
            case atStart => exact ⟨2, 0, rfl, rfl, by omega, by omega, ⟨Nat.le_refl _, rfl, by decide, rfl⟩, rfl⟩
            case round =>
              obtain ⟨k, n, rfl, rfl, hk, hn9, hh, rfl⟩ := hrel
              by_cases hp : k < s.size
              · have hst := drop_step s k hp
                have j1 : (k : Int) < s.size := by omega
                have hn : n < 268435456 := by
                  have h1 := hh.out.2.2.1
                  have h2 : 16 ^ (k - 2) ≤ 16 ^ 7 := Nat.pow_le_pow_right (by omega) (by have := SZ.out; omega)
                  omega
                have hni : (n : Int) < 268435456 := by omega
                have hcb := s[k].toNat_lt
                have kc : (48 : Int) ≤ k ∨ (k : Int) < 48 := by omega
                have hcc : (0 ≤ s[k].toNat ∧ s[k].toNat ≤ 47) ∨ (48 ≤ s[k].toNat ∧ s[k].toNat ≤ 57) ∨ (58 ≤ s[k].toNat ∧ s[k].toNat ≤ 64) ∨ (65 ≤ s[k].toNat ∧ s[k].toNat ≤ 70) ∨ (71 ≤ s[k].toNat ∧ s[k].toNat ≤ 96) ∨ (97 ≤ s[k].toNat ∧ s[k].toNat ≤ 102) ∨ (103 ≤ s[k].toNat ∧ s[k].toNat ≤ 255) := by omega
                have HST := Lib.hid hst
                have HF := Lib.hid (show ∀ d, dvB s[k].toNat = d → d < 16 → foldD 16 (s.data.toList.drop (k + 1)) (n * 16 + d) = foldD 16 (s.data.toList.drop 2) 0 ∧ n * 16 + d < 16 ^ (k + 1 - 2) ∧ n * 16 + d < 4294967296 by
                  intro d hd hlt
                  refine ⟨?_, ?_, by omega⟩
                  · rw [← hh.out.2.1, hst]
                    show _ = if dvB s[k].toNat < 16 then _ else _
                    rw [hd, if_pos hlt]
                  · have h1 := hh.out.2.2.1
                    have h0 := hh.out.1
                    rw [show k + 1 - 2 = (k - 2) + 1 from by omega, Nat.pow_succ]
                    have h3 : (n + 1) * 16 ≤ 16 ^ (k - 2) * 16 := Nat.mul_le_mul (by omega) (by omega)
                    rw [Nat.add_mul] at h3
                    omega)
                have HN := Lib.hid (show ¬ dvB s[k].toNat < 16 → entL s.data.toList = none from fun h => by
                  rw [NE.out, numL_of _ _ NN.out, ← hh.out.2.1, hst]
                  have : foldD 16 (s[k] :: s.data.toList.drop (k + 1)) n = none := by
                    show (if dvB s[k].toNat < 16 then _ else none) = none
                    rw [if_neg h]
                  rw [this])
                clear hst hn kc hcb
                rcases hcc with cc | cc | cc | cc | cc | cc | cc
                · have hd : dvB s[k].toNat = 99 := by unfold dvB; rw [if_neg (by omega), if_neg (by omega), if_neg (by omega)]
                  have g48 : decide ((48 : Int) ≤ (s[k].toNat : Int)) = false := by exact decide_eq_false (by omega)
                  have g65 : decide ((65 : Int) ≤ (s[k].toNat : Int)) = false := by exact decide_eq_false (by omega)
                  have g97 : decide ((97 : Int) ≤ (s[k].toNat : Int)) = false := by exact decide_eq_false (by omega)
                  have l57 : decide ((s[k].toNat : Int) ≤ 57) = true := by exact decide_eq_true (by omega)
                  have l70 : decide ((s[k].toNat : Int) ≤ 70) = true := by exact decide_eq_true (by omega)
                  have l102 : decide ((s[k].toNat : Int) ≤ 102) = true := by exact decide_eq_true (by omega)
                  have b1 : (0 : Int) ≤ (s[k].toNat : Int) := by omega
                  have b2 : (s[k].toNat : Int) ≤ 47 := by omega
                  have L := Lib.hid (HN.out (by omega))
                  clear cc hd
                  go_wp2_with fail
                  go_ret2
                  exact ⟨by (rw [L.out]) <;> rfl, Bel.refl _⟩
                · have hd : dvB s[k].toNat = s[k].toNat - 48 := by unfold dvB; rw [if_pos (by omega)]
                  have g48 : decide ((48 : Int) ≤ (s[k].toNat : Int)) = true := by exact decide_eq_true (by omega)
                  have g65 : decide ((65 : Int) ≤ (s[k].toNat : Int)) = false := by exact decide_eq_false (by omega)
                  have g97 : decide ((97 : Int) ≤ (s[k].toNat : Int)) = false := by exact decide_eq_false (by omega)
                  have l57 : decide ((s[k].toNat : Int) ≤ 57) = true := by exact decide_eq_true (by omega)
                  have l70 : decide ((s[k].toNat : Int) ≤ 70) = true := by exact decide_eq_true (by omega)
                  have l102 : decide ((s[k].toNat : Int) ≤ 102) = true := by exact decide_eq_true (by omega)
                  have b1 : (48 : Int) ≤ (s[k].toNat : Int) := by omega
                  have b2 : (s[k].toNat : Int) ≤ 57 := by omega
                  have gb : decide ((16 : Int) ≤ (s[k].toNat : Int) - 48) = false := by exact decide_eq_false (by omega)
                  have OK := Lib.hid (HF.out _ hd (by omega))
                  have EQ := Lib.hid (show (n : Int) * 16 + ((s[k].toNat : Int) - 48) = ((n * 16 + (s[k].toNat - 48) : Nat) : Int) by omega)
                  clear cc hd
                  go_wp2_with fail
                  go_roundg (s.size - (k + 1))
                  case measure => have := hh.out.2.2.2; omega
                  case rel => exact ⟨k + 1, n * 16 + (s[k].toNat - 48), congrArg (fun z => Value.int .i64 z) EQ.out, by go_num, by omega, OK.out.2.2, ⟨by have := hh.out.1; omega, OK.out.1, OK.out.2.1, rfl⟩, rfl⟩
                · have hd : dvB s[k].toNat = 99 := by unfold dvB; rw [if_neg (by omega), if_neg (by omega), if_neg (by omega)]
                  have g48 : decide ((48 : Int) ≤ (s[k].toNat : Int)) = true := by exact decide_eq_true (by omega)
                  have g65 : decide ((65 : Int) ≤ (s[k].toNat : Int)) = false := by exact decide_eq_false (by omega)
                  have g97 : decide ((97 : Int) ≤ (s[k].toNat : Int)) = false := by exact decide_eq_false (by omega)
                  have l57 : decide ((s[k].toNat : Int) ≤ 57) = false := by exact decide_eq_false (by omega)
                  have l70 : decide ((s[k].toNat : Int) ≤ 70) = true := by exact decide_eq_true (by omega)
                  have l102 : decide ((s[k].toNat : Int) ≤ 102) = true := by exact decide_eq_true (by omega)
                  have b1 : (58 : Int) ≤ (s[k].toNat : Int) := by omega
                  have b2 : (s[k].toNat : Int) ≤ 64 := by omega
                  have L := Lib.hid (HN.out (by omega))
                  clear cc hd
                  go_wp2_with fail
                  go_ret2
                  exact ⟨by (rw [L.out]) <;> rfl, Bel.refl _⟩
                · have hd : dvB s[k].toNat = s[k].toNat - 55 := by unfold dvB; rw [if_neg (by omega), if_neg (by omega), if_pos (by omega)]
                  have g48 : decide ((48 : Int) ≤ (s[k].toNat : Int)) = true := by exact decide_eq_true (by omega)
                  have g65 : decide ((65 : Int) ≤ (s[k].toNat : Int)) = true := by exact decide_eq_true (by omega)
                  have g97 : decide ((97 : Int) ≤ (s[k].toNat : Int)) = false := by exact decide_eq_false (by omega)
                  have l57 : decide ((s[k].toNat : Int) ≤ 57) = false := by exact decide_eq_false (by omega)
                  have l70 : decide ((s[k].toNat : Int) ≤ 70) = true := by exact decide_eq_true (by omega)
                  have l102 : decide ((s[k].toNat : Int) ≤ 102) = true := by exact decide_eq_true (by omega)
                  have b1 : (65 : Int) ≤ (s[k].toNat : Int) := by omega
                  have b2 : (s[k].toNat : Int) ≤ 70 := by omega
                  have gb : decide ((16 : Int) ≤ (s[k].toNat : Int) - 65 + 10) = false := by exact decide_eq_false (by omega)
                  have OK := Lib.hid (HF.out _ hd (by omega))
                  have EQ := Lib.hid (show (n : Int) * 16 + ((s[k].toNat : Int) - 65 + 10) = ((n * 16 + (s[k].toNat - 55) : Nat) : Int) by omega)
                  clear cc hd
                  go_wp2_with fail
                  go_roundg (s.size - (k + 1))
                  case measure => have := hh.out.2.2.2; omega
                  case rel => exact ⟨k + 1, n * 16 + (s[k].toNat - 55), congrArg (fun z => Value.int .i64 z) EQ.out, by go_num, by omega, OK.out.2.2, ⟨by have := hh.out.1; omega, OK.out.1, OK.out.2.1, rfl⟩, rfl⟩
                · have hd : dvB s[k].toNat = 99 := by unfold dvB; rw [if_neg (by omega), if_neg (by omega), if_neg (by omega)]
                  have g48 : decide ((48 : Int) ≤ (s[k].toNat : Int)) = true := by exact decide_eq_true (by omega)
                  have g65 : decide ((65 : Int) ≤ (s[k].toNat : Int)) = true := by exact decide_eq_true (by omega)
                  have g97 : decide ((97 : Int) ≤ (s[k].toNat : Int)) = false := by exact decide_eq_false (by omega)
                  have l57 : decide ((s[k].toNat : Int) ≤ 57) = false := by exact decide_eq_false (by omega)
                  have l70 : decide ((s[k].toNat : Int) ≤ 70) = false := by exact decide_eq_false (by omega)
                  have l102 : decide ((s[k].toNat : Int) ≤ 102) = true := by exact decide_eq_true (by omega)
                  have b1 : (71 : Int) ≤ (s[k].toNat : Int) := by omega
                  have b2 : (s[k].toNat : Int) ≤ 96 := by omega
                  have L := Lib.hid (HN.out (by omega))
                  clear cc hd
                  go_wp2_with fail
                  go_ret2
                  exact ⟨by (rw [L.out]) <;> rfl, Bel.refl _⟩
                · have hd : dvB s[k].toNat = s[k].toNat - 87 := by unfold dvB; rw [if_neg (by omega), if_pos (by omega)]
                  have g48 : decide ((48 : Int) ≤ (s[k].toNat : Int)) = true := by exact decide_eq_true (by omega)
                  have g65 : decide ((65 : Int) ≤ (s[k].toNat : Int)) = true := by exact decide_eq_true (by omega)
                  have g97 : decide ((97 : Int) ≤ (s[k].toNat : Int)) = true := by exact decide_eq_true (by omega)
                  have l57 : decide ((s[k].toNat : Int) ≤ 57) = false := by exact decide_eq_false (by omega)
                  have l70 : decide ((s[k].toNat : Int) ≤ 70) = false := by exact decide_eq_false (by omega)
                  have l102 : decide ((s[k].toNat : Int) ≤ 102) = true := by exact decide_eq_true (by omega)
                  have b1 : (97 : Int) ≤ (s[k].toNat : Int) := by omega
                  have b2 : (s[k].toNat : Int) ≤ 102 := by omega
                  have gb : decide ((16 : Int) ≤ (s[k].toNat : Int) - 97 + 10) = false := by exact decide_eq_false (by omega)
                  have OK := Lib.hid (HF.out _ hd (by omega))
                  have EQ := Lib.hid (show (n : Int) * 16 + ((s[k].toNat : Int) - 97 + 10) = ((n * 16 + (s[k].toNat - 87) : Nat) : Int) by omega)
                  clear cc hd
                  go_wp2_with fail
                  go_roundg (s.size - (k + 1))
                  case measure => have := hh.out.2.2.2; omega
                  case rel => exact ⟨k + 1, n * 16 + (s[k].toNat - 87), congrArg (fun z => Value.int .i64 z) EQ.out, by go_num, by omega, OK.out.2.2, ⟨by have := hh.out.1; omega, OK.out.1, OK.out.2.1, rfl⟩, rfl⟩
                · have hd : dvB s[k].toNat = 99 := by unfold dvB; rw [if_neg (by omega), if_neg (by omega), if_neg (by omega)]
                  have g48 : decide ((48 : Int) ≤ (s[k].toNat : Int)) = true := by exact decide_eq_true (by omega)
                  have g65 : decide ((65 : Int) ≤ (s[k].toNat : Int)) = true := by exact decide_eq_true (by omega)
                  have g97 : decide ((97 : Int) ≤ (s[k].toNat : Int)) = true := by exact decide_eq_true (by omega)
                  have l57 : decide ((s[k].toNat : Int) ≤ 57) = false := by exact decide_eq_false (by omega)
                  have l70 : decide ((s[k].toNat : Int) ≤ 70) = false := by exact decide_eq_false (by omega)
                  have l102 : decide ((s[k].toNat : Int) ≤ 102) = false := by exact decide_eq_false (by omega)
                  have b1 : (103 : Int) ≤ (s[k].toNat : Int) := by omega
                  have b2 : (s[k].toNat : Int) ≤ 255 := by omega
                  have L := Lib.hid (HN.out (by omega))
                  clear cc hd
                  go_wp2_with fail
                  go_ret2
                  exact ⟨by (rw [L.out]) <;> rfl, Bel.refl _⟩
              · have hf : foldD 16 (s.data.toList.drop 2) 0 = some n := by
                  rw [← hh.out.2.1, List.drop_of_length_le (by rw [size_list]; omega)]
                  rfl
                have hni : (n : Int) < 4294967296 := by omega
                have hn9' : n ≤ 9223372036854775807 := by omega
                have NF := Lib.hid (show entL s.data.toList = if sgn n = true then some n else none by
                  rw [NE.out, numL_of _ _ NN.out, hf])
                clear hf
                cases hv : sgn n with
                | true =>
                  have HV := Lib.hid hv
                  have L := Lib.hid (show entL s.data.toList = some n by rw [NF.out, if_pos hv])
                  have UT := Lib.hid fun w => utf_any n hv w
                  have SG := Lib.hid fun w => rsign_any n (by have := (sgn_iff n).1 hv; omega) w
                  clear hv
                  go_wp2_with (first
                    | (go_at_call 20; refine (SG.out _).mono ?_; rintro e V1 ⟨rfl, rfl⟩; rw [HV.out])
                    | (go_at_call 39; refine (UT.out _).mono ?_; rintro e V2 ⟨rfl, hb⟩))
                  go_ret2
                  exact ⟨by (rw [L.out]) <;> rfl, hb⟩
                | false =>
                  have HV := Lib.hid hv
                  have L := Lib.hid (show entL s.data.toList = none by rw [NF.out, if_neg (by rw [hv]; decide)])
                  have SG := Lib.hid fun w => rsign_big n (by omega) w
                  clear hv
                  go_wp2_with (go_at_call 20; refine (SG.out _).mono ?_; rintro e V1 ⟨rfl, rfl⟩; rw [HV.out])
                  go_ret2
                  exact ⟨by (rw [L.out]) <;> rfl, Bel.refl _⟩
      · have e120 : ((s[1].toNat : Int) == 120) = false := by
          rw [beq_eq_false_iff_ne]
          intro h
          exact h120 (byte_eq (n := 120) (by decide) (by omega))
        have NE := Lib.hid (show entL s.data.toList = numL 10 (s.data.toList.drop 1) by
          rw [hl1]
          rw [hl0, ent_dec _ _ h120]
          rfl)
        clear hl0 hl1 h120
        have g2 : decide ((s.size : Int) ≤ 1) = false := by exact decide_eq_false (by omega)
        by_cases hbig : (8 : Int) < (s.size : Int) - 1
        · have L := Lib.hid (show entL s.data.toList = none by rw [NE.out]; exact numL_nil _ _ (.inr (by rw [drop_len]; omega)))
          have g8 : decide ((8 : Int) < (s.size : Int) - 1) = true := by exact decide_eq_true hbig
          go_enter Try.func32, Try.ntmps32
          go_wp2_with fail
          go_ret2
          exact ⟨by (rw [L.out]) <;> rfl, Bel.refl _⟩
        · have NN := Lib.hid (show ¬ (s.data.toList.drop 1 = [] ∨ 8 < (s.data.toList.drop 1).length) by
            rintro (h | h)
            · have := drop_len s 1
              rw [h] at this
              simp at this; omega
            · rw [drop_len] at h; omega)
          have g8 : decide ((8 : Int) < (s.size : Int) - 1) = false := by exact decide_eq_false hbig
          have SZ := Lib.hid (show s.size ≤ 9 by omega)
          go_enter Try.func32, Try.ntmps32
          go_wp2_with fail
          go_loopg [6, 7] (s.size - 1) (fun g v i wr => ∃ k n : Nat, v = .int .i64 n ∧ i = .int .i64 k ∧ k ≤ s.size ∧ n < 4294967296 ∧ Hid (1 ≤ k ∧ foldD 10 (s.data.toList.drop k) n = foldD 10 (s.data.toList.drop 1) 0 ∧ n < 16 ^ (k - 1) ∧ g = s.size - k) ∧ wr = w)
          case atStart => exact ⟨1, 0, rfl, rfl, by omega, by omega, ⟨Nat.le_refl _, rfl, by decide, rfl⟩, rfl⟩
          case round =>
            obtain ⟨k, n, rfl, rfl, hk, hn9, hh, rfl⟩ := hrel
            by_cases hp : k < s.size
            · have hst := drop_step s k hp
              have j1 : (k : Int) < s.size := by omega
              have hn : n < 268435456 := by
                have h1 := hh.out.2.2.1
                have h2 : 16 ^ (k - 1) ≤ 16 ^ 7 := Nat.pow_le_pow_right (by omega) (by have := SZ.out; omega)
                omega
              have hni : (n : Int) < 268435456 := by omega
              have hcb := s[k].toNat_lt
              have kc : (48 : Int) ≤ k ∨ (k : Int) < 48 := by omega
              have hcc : (0 ≤ s[k].toNat ∧ s[k].toNat ≤ 47) ∨ (48 ≤ s[k].toNat ∧ s[k].toNat ≤ 57) ∨ (58 ≤ s[k].toNat ∧ s[k].toNat ≤ 64) ∨ (65 ≤ s[k].toNat ∧ s[k].toNat ≤ 70) ∨ (71 ≤ s[k].toNat ∧ s[k].toNat ≤ 96) ∨ (97 ≤ s[k].toNat ∧ s[k].toNat ≤ 102) ∨ (103 ≤ s[k].toNat ∧ s[k].toNat ≤ 255) := by omega
              have HST := Lib.hid hst
              have HF := Lib.hid (show ∀ d, dvB s[k].toNat = d → d < 10 → foldD 10 (s.data.toList.drop (k + 1)) (n * 10 + d) = foldD 10 (s.data.toList.drop 1) 0 ∧ n * 10 + d < 16 ^ (k + 1 - 1) ∧ n * 10 + d < 4294967296 by
                intro d hd hlt
                refine ⟨?_, ?_, by omega⟩
                · rw [← hh.out.2.1, hst]
                  show _ = if dvB s[k].toNat < 10 then _ else _
                  rw [hd, if_pos hlt]
                · have h1 := hh.out.2.2.1
                  have h0 := hh.out.1
                  rw [show k + 1 - 1 = (k - 1) + 1 from by omega, Nat.pow_succ]
                  have h3 : (n + 1) * 10 ≤ 16 ^ (k - 1) * 16 := Nat.mul_le_mul (by omega) (by omega)
                  rw [Nat.add_mul] at h3
                  omega)
              have HN := Lib.hid (show ¬ dvB s[k].toNat < 10 → entL s.data.toList = none from fun h => by
                rw [NE.out, numL_of _ _ NN.out, ← hh.out.2.1, hst]
                have : foldD 10 (s[k] :: s.data.toList.drop (k + 1)) n = none := by
                  show (if dvB s[k].toNat < 10 then _ else none) = none
                  rw [if_neg h]
                rw [this])
              clear hst hn kc hcb
              rcases hcc with cc | cc | cc | cc | cc | cc | cc
              · have hd : dvB s[k].toNat = 99 := by unfold dvB; rw [if_neg (by omega), if_neg (by omega), if_neg (by omega)]
                have g48 : decide ((48 : Int) ≤ (s[k].toNat : Int)) = false := by exact decide_eq_false (by omega)
                have g65 : decide ((65 : Int) ≤ (s[k].toNat : Int)) = false := by exact decide_eq_false (by omega)
                have g97 : decide ((97 : Int) ≤ (s[k].toNat : Int)) = false := by exact decide_eq_false (by omega)
                have l57 : decide ((s[k].toNat : Int) ≤ 57) = true := by exact decide_eq_true (by omega)
                have l70 : decide ((s[k].toNat : Int) ≤ 70) = true := by exact decide_eq_true (by omega)
                have l102 : decide ((s[k].toNat : Int) ≤ 102) = true := by exact decide_eq_true (by omega)
                have b1 : (0 : Int) ≤ (s[k].toNat : Int) := by omega
                have b2 : (s[k].toNat : Int) ≤ 47 := by omega
                have L := Lib.hid (HN.out (by omega))
                clear cc hd
                go_wp2_with fail
                go_ret2
                exact ⟨by (rw [L.out]) <;> rfl, Bel.refl _⟩
              · have hd : dvB s[k].toNat = s[k].toNat - 48 := by unfold dvB; rw [if_pos (by omega)]
                have g48 : decide ((48 : Int) ≤ (s[k].toNat : Int)) = true := by exact decide_eq_true (by omega)
                have g65 : decide ((65 : Int) ≤ (s[k].toNat : Int)) = false := by exact decide_eq_false (by omega)
                have g97 : decide ((97 : Int) ≤ (s[k].toNat : Int)) = false := by exact decide_eq_false (by omega)
                have l57 : decide ((s[k].toNat : Int) ≤ 57) = true := by exact decide_eq_true (by omega)
                have l70 : decide ((s[k].toNat : Int) ≤ 70) = true := by exact decide_eq_true (by omega)
                have l102 : decide ((s[k].toNat : Int) ≤ 102) = true := by exact decide_eq_true (by omega)
                have b1 : (48 : Int) ≤ (s[k].toNat : Int) := by omega
                have b2 : (s[k].toNat : Int) ≤ 57 := by omega
                have gb : decide ((10 : Int) ≤ (s[k].toNat : Int) - 48) = false := by exact decide_eq_false (by omega)
                have OK := Lib.hid (HF.out _ hd (by omega))
                have EQ := Lib.hid (show (n : Int) * 10 + ((s[k].toNat : Int) - 48) = ((n * 10 + (s[k].toNat - 48) : Nat) : Int) by omega)
                clear cc hd
                go_wp2_with fail
                go_roundg (s.size - (k + 1))
                case measure => have := hh.out.2.2.2; omega
                case rel => exact ⟨k + 1, n * 10 + (s[k].toNat - 48), congrArg (fun z => Value.int .i64 z) EQ.out, by go_num, by omega, OK.out.2.2, ⟨by have := hh.out.1; omega, OK.out.1, OK.out.2.1, rfl⟩, rfl⟩
              · have hd : dvB s[k].toNat = 99 := by unfold dvB; rw [if_neg (by omega), if_neg (by omega), if_neg (by omega)]
                have g48 : decide ((48 : Int) ≤ (s[k].toNat : Int)) = true := by exact decide_eq_true (by omega)
                have g65 : decide ((65 : Int) ≤ (s[k].toNat : Int)) = false := by exact decide_eq_false (by omega)
                have g97 : decide ((97 : Int) ≤ (s[k].toNat : Int)) = false := by exact decide_eq_false (by omega)
                have l57 : decide ((s[k].toNat : Int) ≤ 57) = false := by exact decide_eq_false (by omega)
                have l70 : decide ((s[k].toNat : Int) ≤ 70) = true := by exact decide_eq_true (by omega)
                have l102 : decide ((s[k].toNat : Int) ≤ 102) = true := by exact decide_eq_true (by omega)
                have b1 : (58 : Int) ≤ (s[k].toNat : Int) := by omega
                have b2 : (s[k].toNat : Int) ≤ 64 := by omega
                have L := Lib.hid (HN.out (by omega))
                clear cc hd
                go_wp2_with fail
                go_ret2
                exact ⟨by (rw [L.out]) <;> rfl, Bel.refl _⟩
              · have hd : dvB s[k].toNat = s[k].toNat - 55 := by unfold dvB; rw [if_neg (by omega), if_neg (by omega), if_pos (by omega)]
                have g48 : decide ((48 : Int) ≤ (s[k].toNat : Int)) = true := by exact decide_eq_true (by omega)
                have g65 : decide ((65 : Int) ≤ (s[k].toNat : Int)) = true := by exact decide_eq_true (by omega)
                have g97 : decide ((97 : Int) ≤ (s[k].toNat : Int)) = false := by exact decide_eq_false (by omega)
                have l57 : decide ((s[k].toNat : Int) ≤ 57) = false := by exact decide_eq_false (by omega)
                have l70 : decide ((s[k].toNat : Int) ≤ 70) = true := by exact decide_eq_true (by omega)
                have l102 : decide ((s[k].toNat : Int) ≤ 102) = true := by exact decide_eq_true (by omega)
                have b1 : (65 : Int) ≤ (s[k].toNat : Int) := by omega
                have b2 : (s[k].toNat : Int) ≤ 70 := by omega
                have gb : decide ((10 : Int) ≤ (s[k].toNat : Int) - 65 + 10) = true := by exact decide_eq_true (by omega)
                have L := Lib.hid (HN.out (by omega))
                clear cc hd
                go_wp2_with fail
                go_ret2
                exact ⟨by (rw [L.out]) <;> rfl, Bel.refl _⟩
              · have hd : dvB s[k].toNat = 99 := by unfold dvB; rw [if_neg (by omega), if_neg (by omega), if_neg (by omega)]
                have g48 : decide ((48 : Int) ≤ (s[k].toNat : Int)) = true := by exact decide_eq_true (by omega)
                have g65 : decide ((65 : Int) ≤ (s[k].toNat : Int)) = true := by exact decide_eq_true (by omega)
                have g97 : decide ((97 : Int) ≤ (s[k].toNat : Int)) = false := by exact decide_eq_false (by omega)
                have l57 : decide ((s[k].toNat : Int) ≤ 57) = false := by exact decide_eq_false (by omega)
                have l70 : decide ((s[k].toNat : Int) ≤ 70) = false := by exact decide_eq_false (by omega)
                have l102 : decide ((s[k].toNat : Int) ≤ 102) = true := by exact decide_eq_true (by omega)
                have b1 : (71 : Int) ≤ (s[k].toNat : Int) := by omega
                have b2 : (s[k].toNat : Int) ≤ 96 := by omega
                have L := Lib.hid (HN.out (by omega))
                clear cc hd
                go_wp2_with fail
                go_ret2
                exact ⟨by (rw [L.out]) <;> rfl, Bel.refl _⟩
              · have hd : dvB s[k].toNat = s[k].toNat - 87 := by unfold dvB; rw [if_neg (by omega), if_pos (by omega)]
                have g48 : decide ((48 : Int) ≤ (s[k].toNat : Int)) = true := by exact decide_eq_true (by omega)
                have g65 : decide ((65 : Int) ≤ (s[k].toNat : Int)) = true := by exact decide_eq_true (by omega)
                have g97 : decide ((97 : Int) ≤ (s[k].toNat : Int)) = true := by exact decide_eq_true (by omega)
                have l57 : decide ((s[k].toNat : Int) ≤ 57) = false := by exact decide_eq_false (by omega)
                have l70 : decide ((s[k].toNat : Int) ≤ 70) = false := by exact decide_eq_false (by omega)
                have l102 : decide ((s[k].toNat : Int) ≤ 102) = true := by exact decide_eq_true (by omega)
                have b1 : (97 : Int) ≤ (s[k].toNat : Int) := by omega
                have b2 : (s[k].toNat : Int) ≤ 102 := by omega
                have gb : decide ((10 : Int) ≤ (s[k].toNat : Int) - 97 + 10) = true := by exact decide_eq_true (by omega)
                have L := Lib.hid (HN.out (by omega))
                clear cc hd
                go_wp2_with fail
                go_ret2
                exact ⟨by (rw [L.out]) <;> rfl, Bel.refl _⟩
              · have hd : dvB s[k].toNat = 99 := by unfold dvB; rw [if_neg (by omega), if_neg (by omega), if_neg (by omega)]
                have g48 : decide ((48 : Int) ≤ (s[k].toNat : Int)) = true := by exact decide_eq_true (by omega)
                have g65 : decide ((65 : Int) ≤ (s[k].toNat : Int)) = true := by exact decide_eq_true (by omega)
                have g97 : decide ((97 : Int) ≤ (s[k].toNat : Int)) = true := by exact decide_eq_true (by omega)
                have l57 : decide ((s[k].toNat : Int) ≤ 57) = false := by exact decide_eq_false (by omega)
                have l70 : decide ((s[k].toNat : Int) ≤ 70) = false := by exact decide_eq_false (by omega)
                have l102 : decide ((s[k].toNat : Int) ≤ 102) = false := by exact decide_eq_false (by omega)
                have b1 : (103 : Int) ≤ (s[k].toNat : Int) := by omega
                have b2 : (s[k].toNat : Int) ≤ 255 := by omega
                have L := Lib.hid (HN.out (by omega))
                clear cc hd
                go_wp2_with fail
                go_ret2
                exact ⟨by (rw [L.out]) <;> rfl, Bel.refl _⟩
            · have hf : foldD 10 (s.data.toList.drop 1) 0 = some n := by
                rw [← hh.out.2.1, List.drop_of_length_le (by rw [size_list]; omega)]
                rfl
              have hni : (n : Int) < 4294967296 := by omega
              have hn9' : n ≤ 9223372036854775807 := by omega
              have NF := Lib.hid (show entL s.data.toList = if sgn n = true then some n else none by
                rw [NE.out, numL_of _ _ NN.out, hf])
              clear hf
              cases hv : sgn n with
              | true =>
                have HV := Lib.hid hv
                have L := Lib.hid (show entL s.data.toList = some n by rw [NF.out, if_pos hv])
                have UT := Lib.hid fun w => utf_any n hv w
                have SG := Lib.hid fun w => rsign_any n (by have := (sgn_iff n).1 hv; omega) w
                clear hv
                go_wp2_with (first
                  | (go_at_call 20; refine (SG.out _).mono ?_; rintro e V1 ⟨rfl, rfl⟩; rw [HV.out])
                  | (go_at_call 39; refine (UT.out _).mono ?_; rintro e V2 ⟨rfl, hb⟩))
                go_ret2
                exact ⟨by (rw [L.out]) <;> rfl, hb⟩
              | false =>
                have HV := Lib.hid hv
                have L := Lib.hid (show entL s.data.toList = none by rw [NF.out, if_neg (by rw [hv]; decide)])
                have SG := Lib.hid fun w => rsign_big n (by omega) w
                clear hv
                go_wp2_with (go_at_call 20; refine (SG.out _).mono ?_; rintro e V1 ⟨rfl, rfl⟩; rw [HV.out])
                go_ret2
                exact ⟨by (rw [L.out]) <;> rfl, Bel.refl _⟩
  · have e35 : ((s[0].toNat : Int) == 35) = false := by
      rw [beq_eq_false_iff_ne]
      intro h
      exact h35 (byte_eq (n := 35) (by decide) (by omega))
    have L := Lib.hid (show entL s.data.toList = none by
      have h := NEQ.out
      rw [hl0] at h ⊢
      exact ent_no _ _ h35 h.1 h.2.1 h.2.2.1 h.2.2.2.1 h.2.2.2.2)
    clear hl0 h35
    go_enter Try.func32, Try.ntmps32
    go_wp2_with fail
    go_ret2
    exact ⟨by (rw [L.out]) <;> rfl, Bel.refl _⟩
end Go.Proofs.Ythcpgbbmgabpnaa
