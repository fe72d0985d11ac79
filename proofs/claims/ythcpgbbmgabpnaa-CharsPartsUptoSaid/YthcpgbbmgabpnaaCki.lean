import Derived.Test.YthcpgbbmgabpnaaCkh
namespace Go.Proofs.Ythcpgbbmgabpnaa
set_option linter.unusedSimpArgs false
set_option linter.unusedVariables false
open Go.RowKit

/-! Chars: what a reference stands for. -/
theorem cutP_yes (p : UInt8) (s : ByteArray) (t : List UInt8) (h : s.data.toList = p :: t) (w : World) : Calls Try.prog 37 #[.string s, .string ⟨#[p]⟩] w fun e w' => e = .returned (.tuple #[.string (bytesOf t), .bool true]) ∧ w' = w := by
  have h1 := Try.strings_CutPrefix s ⟨#[p]⟩ w
  have e1 : Lib.hasPrefix s.data.toList [p] = true := by rw [h]; simp [Lib.hasPrefix]
  have e2 : Lib.trimPrefix s.data.toList [p] = t := by
    unfold Lib.trimPrefix
    rw [e1, if_pos rfl, h]
    rfl
  rw [show (⟨#[p]⟩ : ByteArray).data.toList = [p] from rfl, e1, e2] at h1
  exact h1
theorem cutP_no (p : UInt8) (s : ByteArray) (h : ∀ t, s.data.toList ≠ p :: t) (w : World) : Calls Try.prog 37 #[.string s, .string ⟨#[p]⟩] w fun e w' => e = .returned (.tuple #[.string s, .bool false]) ∧ w' = w := by
  have h1 := Try.strings_CutPrefix s ⟨#[p]⟩ w
  have e1 : Lib.hasPrefix s.data.toList [p] = false := by
    unfold Lib.hasPrefix
    cases hl : s.data.toList with
    | nil => rfl
    | cons c t =>
      have : p ≠ c := fun e => h t (by rw [hl, e])
      simp [List.isPrefixOf, this]
  have e2 : Lib.trimPrefix s.data.toList [p] = s.data.toList := by
    unfold Lib.trimPrefix
    rw [e1]
    rfl
  rw [show (⟨#[p]⟩ : ByteArray).data.toList = [p] from rfl, e1, e2] at h1
  exact h1
theorem toList_ne (s : ByteArray) (l : List UInt8) (h : s.data.toList ≠ l) : (s.toList == l) = false := by
  rw [ByteArray.toList_eq, beq_eq_false_iff_ne]
  exact h
theorem of_list {s : ByteArray} {l : List UInt8} (h : s.data.toList = l) : s = bytesOf l := by rw [← h, bytesOf_data]
set_option maxRecDepth 100000 in
set_option maxHeartbeats 2000000 in
theorem referred_any (s : ByteArray) (hs : s.size ≤ 9223372036854775807) (w : World) : Calls Try.prog 31 #[.string s] w fun e w' => e = .returned (numV (entL s.data.toList)) ∧ Bel w w' := by
  by_cases hamp : s.data.toList = [97, 109, 112]
  · rw [of_list hamp]
    clear hamp
    show Calls Try.prog 31 #[.string ⟨#[97, 109, 112]⟩] w fun e w' => e = .returned (numV (entL [97, 109, 112])) ∧ Bel w w'
    go_enter Try.func31, Try.ntmps31
    go_wp2_with fail
    go_ret2
    exact ⟨rfl, Bel.refl _⟩
  by_cases hlt : s.data.toList = [108, 116]
  · rw [of_list hlt]
    clear hamp hlt
    show Calls Try.prog 31 #[.string ⟨#[108, 116]⟩] w fun e w' => e = .returned (numV (entL [108, 116])) ∧ Bel w w'
    go_enter Try.func31, Try.ntmps31
    go_wp2_with fail
    go_ret2
    exact ⟨rfl, Bel.refl _⟩
  by_cases hgt : s.data.toList = [103, 116]
  · rw [of_list hgt]
    clear hamp hlt hgt
    show Calls Try.prog 31 #[.string ⟨#[103, 116]⟩] w fun e w' => e = .returned (numV (entL [103, 116])) ∧ Bel w w'
    go_enter Try.func31, Try.ntmps31
    go_wp2_with fail
    go_ret2
    exact ⟨rfl, Bel.refl _⟩
  by_cases hquot : s.data.toList = [113, 117, 111, 116]
  · rw [of_list hquot]
    clear hamp hlt hgt hquot
    show Calls Try.prog 31 #[.string ⟨#[113, 117, 111, 116]⟩] w fun e w' => e = .returned (numV (entL [113, 117, 111, 116])) ∧ Bel w w'
    go_enter Try.func31, Try.ntmps31
    go_wp2_with fail
    go_ret2
    exact ⟨rfl, Bel.refl _⟩
  by_cases hapos : s.data.toList = [97, 112, 111, 115]
  · rw [of_list hapos]
    clear hamp hlt hgt hquot hapos
    show Calls Try.prog 31 #[.string ⟨#[97, 112, 111, 115]⟩] w fun e w' => e = .returned (numV (entL [97, 112, 111, 115])) ∧ Bel w w'
    go_enter Try.func31, Try.ntmps31
    go_wp2_with fail
    go_ret2
    exact ⟨rfl, Bel.refl _⟩
  have NE := Lib.hid (show entL s.data.toList = match s.data.toList with
    | 35 :: 120 :: t => numL 16 t
    | 35 :: t => numL 10 t
    | _ => none by unfold entL; rw [if_neg hamp, if_neg hlt, if_neg hgt, if_neg hquot, if_neg hapos]; rfl)
  have eamp := toList_ne s _ hamp
  have elt := toList_ne s _ hlt
  have egt := toList_ne s _ hgt
  have equot := toList_ne s _ hquot
  have eapos := toList_ne s _ hapos
  clear hamp hlt hgt hquot hapos
  by_cases h35 : ∃ t, s.data.toList = 35 :: t
  · obtain ⟨t, ht⟩ := h35
    have hts : (bytesOf t).size ≤ 9223372036854775807 := by
      have h1 := size_list s
      rw [ht, List.length_cons] at h1
      have : (bytesOf t).size = t.length := List.size_toArray
      omega
    have C1 := Lib.hid fun w => cutP_yes 35 s t ht w
    by_cases h120 : ∃ h, t = 120 :: h
    · obtain ⟨h, hh⟩ := h120
      have C2 := Lib.hid fun w => cutP_yes 120 (bytesOf t) h hh w
      have hhs : (bytesOf h).size ≤ 9223372036854775807 := by
        have h1 : (bytesOf t).size = t.length := List.size_toArray
        have h2 : (bytesOf h).size = h.length := List.size_toArray
        have h3 : t.length = h.length + 1 := by rw [hh]; rfl
        omega
      have C3 := Lib.hid fun w => numbered16_any (bytesOf h) hhs w
      have L := Lib.hid (show entL s.data.toList = numL 16 h by (rw [NE.out, ht, hh]) <;> rfl)
      obtain ⟨o, ho⟩ : ∃ o, o = numL 16 h := ⟨_, rfl⟩
      have C3 := Lib.hid (show ∀ w, Calls Try.prog 38 #[.string (bytesOf h), .int .i64 16] w fun e w' => e = .returned (numV o) ∧ Bel w w' by rw [ho]; exact C3.out)
      rw [← ho] at L
      clear ht hh hts hhs ho
      cases o with
      | none =>
        go_enter Try.func31, Try.ntmps31
        go_wp2_with (first
          | (go_at_call 37; with_reducible refine (C1.out _).mono ?_; rintro e V1 ⟨rfl, rfl⟩)
          | (go_at_call 37; with_reducible refine (C2.out _).mono ?_; rintro e V1 ⟨rfl, rfl⟩)
          | (go_at_call 38; refine (C3.out _).mono ?_; rintro e V1 ⟨rfl, hb⟩; dsimp only [numV]))
        go_ret2
        exact ⟨by (rw [L.out]) <;> rfl, hb⟩
      | some n =>
        go_enter Try.func31, Try.ntmps31
        go_wp2_with (first
          | (go_at_call 37; with_reducible refine (C1.out _).mono ?_; rintro e V1 ⟨rfl, rfl⟩)
          | (go_at_call 37; with_reducible refine (C2.out _).mono ?_; rintro e V1 ⟨rfl, rfl⟩)
          | (go_at_call 38; refine (C3.out _).mono ?_; rintro e V1 ⟨rfl, hb⟩; dsimp only [numV]))
        go_ret2
        exact ⟨by (rw [L.out]) <;> rfl, hb⟩
    · have C2 := Lib.hid fun w => cutP_no 120 (bytesOf t) (fun h e => h120 ⟨h, e⟩) w
      have C3 := Lib.hid fun w => numbered10_any (bytesOf t) hts w
      have L := Lib.hid (show entL s.data.toList = numL 10 t by
        rw [NE.out, ht]
        match t with
        | [] => rfl
        | c :: r =>
          by_cases hc : c = 120
          · exact absurd ⟨r, by rw [hc]⟩ h120
          · split
            · rename_i heq
              simp at heq
              exact absurd heq.1 hc
            · rename_i heq
              simp at heq
              rw [heq]
            · rename_i heq1 heq2
              exact absurd rfl (heq2 _))
      obtain ⟨o, ho⟩ : ∃ o, o = numL 10 t := ⟨_, rfl⟩
      have C3 := Lib.hid (show ∀ w, Calls Try.prog 38 #[.string (bytesOf t), .int .i64 10] w fun e w' => e = .returned (numV o) ∧ Bel w w' by rw [ho]; exact C3.out)
      rw [← ho] at L
      clear ht h120 hts ho
      cases o with
      | none =>
        go_enter Try.func31, Try.ntmps31
        go_wp2_with (first
          | (go_at_call 37; with_reducible refine (C1.out _).mono ?_; rintro e V1 ⟨rfl, rfl⟩)
          | (go_at_call 37; with_reducible refine (C2.out _).mono ?_; rintro e V1 ⟨rfl, rfl⟩)
          | (go_at_call 38; refine (C3.out _).mono ?_; rintro e V1 ⟨rfl, hb⟩; dsimp only [numV]))
        go_ret2
        exact ⟨by (rw [L.out]) <;> rfl, hb⟩
      | some n =>
        go_enter Try.func31, Try.ntmps31
        go_wp2_with (first
          | (go_at_call 37; with_reducible refine (C1.out _).mono ?_; rintro e V1 ⟨rfl, rfl⟩)
          | (go_at_call 37; with_reducible refine (C2.out _).mono ?_; rintro e V1 ⟨rfl, rfl⟩)
          | (go_at_call 38; refine (C3.out _).mono ?_; rintro e V1 ⟨rfl, hb⟩; dsimp only [numV]))
        go_ret2
        exact ⟨by (rw [L.out]) <;> rfl, hb⟩
  · have C1 := Lib.hid fun w => cutP_no 35 s (fun t e => h35 ⟨t, e⟩) w
    have L := Lib.hid (show entL s.data.toList = none by
      rw [NE.out]
      split
      · rename_i heq
        exact absurd ⟨_, heq⟩ h35
      · rename_i heq
        exact absurd ⟨_, heq⟩ h35
      · rfl)
    clear h35
    go_enter Try.func31, Try.ntmps31
    go_wp2_with (go_at_call 37; with_reducible refine (C1.out _).mono ?_; rintro e V1 ⟨rfl, rfl⟩)
    go_ret2
    exact ⟨by (rw [L.out]) <;> rfl, Bel.refl _⟩
end Go.Proofs.Ythcpgbbmgabpnaa
