import Derived.Test.YteblpdoljhmcmaaPlb
import Derived.Test.YteblpdoljhmcmaaPli
namespace Go.Proofs.Yteblpdoljhmcmaa
set_option linter.unusedSimpArgs false
set_option linter.unusedVariables false
open Go.RowKit Go.Lib
attribute [local go_sem ↓] eql_val neq_val

/-! What comes out of a table: plain words. -/
def nul : Val := ⟨0, 0, 0, ⟨#[]⟩, 0⟩
def hd (r : List Val) : Val := r.headD nul
def known (p : Int) : Bool := decide (p = 85) || (decide (p = 65) || (decide (p = 80) || (decide (p = 70) || (decide (p = 43) || (decide (p = 60) || (decide (p = 62) || decide (p = 35)))))))
/-- Do numbers rise, from one on and below another? -/
def risF (c : Int) : Int → List Int → Bool
  | _, [] => true
  | nx, i :: l => !(decide (i < nx) || decide (c ≤ i)) && risF c (i + 1) l
def uniq (r : List Val) : Val := if 1 < r.length then nul else hd r
def comm (r : List Val) : Val := if r.any (fun v => !veq v (hd r)) then nul else hd r
def memV (r : List Val) (v : Val) : Bool := r.any fun u => veq v u
def prio (r : List Val) : List Val → Val
  | [] => hd r
  | v :: l => if memV r v then v else prio r l
def addT (n s m t : Int) : Int × Int × Int :=
  if SndD n s ∧ SndD m t then
    (if 999999999999 < (trim (unt n s + unt m t).natAbs 6).1 then (0, 0, 3)
     else (if unt n s + unt m t < 0 then -((trim (unt n s + unt m t).natAbs 6).1 : Int) else (trim (unt n s + unt m t).natAbs 6).1, ((trim (unt n s + unt m t).natAbs 6).2 : Nat), 0))
  else (0, 0, 2)
theorem addV_T (n s m t : Int) : addV n s m t = .tuple #[decA (addT n s m t).1 (addT n s m t).2.1, .int .i64 (addT n s m t).2.2] := by
  unfold addV addT
  by_cases h : SndD n s ∧ SndD m t
  · rw [if_pos h, if_pos h]
    unfold decV
    split
    · rfl
    · simp
  · rw [if_neg h, if_neg h]
def sumF : Int → Int → List Val → Val
  | n, s, [] => ⟨1, n, s, ⟨#[]⟩, 0⟩
  | n, s, v :: l => if v.kind = 1 ∧ (addT n s v.n v.scale).2.2 = 0 then sumF (addT n s v.n v.scale).1 (addT n s v.n v.scale).2.1 l else nul
def extF (way : Int) : Val → List Val → Val
  | b, [] => b
  | b, v :: l => if v.kind = 0 ∨ v.kind ≠ b.kind then nul else extF way (if vcmp v b = way then v else b) l
def outF (p : Int) (r order : List Val) : Val :=
  if p = 85 then uniq r else if p = 65 then comm r else if p = 80 then prio r order else if p = 43 then sumF 0 0 r else if p = 60 then extF (-1) (hd r) r else if p = 62 then extF 1 (hd r) r else hd r
def picks (outs : List Val) (fired : List Int) : List Val := fired.map fun i => outs.getD i.toNat nul
def outV (p : Int) (outs order : List Val) (d : Val) (fired : List Int) : Val × Int :=
  if (known p && risF outs.length 0 fired) = false then (nul, 1)
  else if (outs.all vsnd && (order.all vsnd && vsnd d)) = false then (nul, 2)
  else if p = 35 then (⟨1, fired.length, 0, ⟨#[]⟩, 0⟩, 0)
  else if fired.length = 0 then (d, 0)
  else (outF p (picks outs fired) order, 0)

/-! Functions that call little. -/
theorem known_any (p : Int) (w : World) : Calls Try.prog 12 #[.int .i64 p] w fun e w' => e = .returned (.bool (known p)) ∧ Bel w w' := by
  have K := Lib.hid (show known p = (decide (p = 85) || (decide (p = 65) || (decide (p = 80) || (decide (p = 70) || (decide (p = 43) || (decide (p = 60) || (decide (p = 62) || decide (p = 35)))))))) from rfl)
  generalize known p = R at K ⊢
  by_cases h : p = 85 ∨ p = 65 ∨ p = 80 ∨ p = 70 ∨ p = 43 ∨ p = 60 ∨ p = 62 ∨ p = 35
  · rcases h with rfl | rfl | rfl | rfl | rfl | rfl | rfl | rfl
    all_goals
      obtain rfl : R = true := K.out.trans (by simp)
      clear K
      go_enter Try.func12, Try.ntmps12
      go_wp2_with fail
      go_ret
      exact ⟨rfl, Bel.refl _⟩
  · obtain ⟨h1, h2, h3, h4, h5, h6, h7, h8⟩ : ¬ p = 85 ∧ ¬ p = 65 ∧ ¬ p = 80 ∧ ¬ p = 70 ∧ ¬ p = 43 ∧ ¬ p = 60 ∧ ¬ p = 62 ∧ ¬ p = 35 := by omega
    obtain rfl : R = false := K.out.trans (by simp [h1, h2, h3, h4, h5, h6, h7, h8])
    have e1 : (p == 85) = false := beq_eq_false_iff_ne.2 h1
    have e2 : (p == 65) = false := beq_eq_false_iff_ne.2 h2
    have e3 : (p == 80) = false := beq_eq_false_iff_ne.2 h3
    have e4 : (p == 70) = false := beq_eq_false_iff_ne.2 h4
    have e5 : (p == 43) = false := beq_eq_false_iff_ne.2 h5
    have e6 : (p == 60) = false := beq_eq_false_iff_ne.2 h6
    have e7 : (p == 62) = false := beq_eq_false_iff_ne.2 h7
    have e8 : (p == 35) = false := beq_eq_false_iff_ne.2 h8
    clear K h h1 h2 h3 h4 h5 h6 h7 h8
    go_enter Try.func12, Try.ntmps12
    go_wp2_with fail
    go_ret
    exact ⟨rfl, Bel.refl _⟩
set_option maxRecDepth 100000 in
theorem rising_any (c : Int) (l : List Int) (A : Option Addr) (cp : Nat) (w : World) (hv : Ints w A l) (hl : (l.length : Int) ≤ 9223372036854775807) (ho : ∀ i ∈ l, -9223372036854775808 ≤ i ∧ i ≤ 9223372036854775807) (hc : c ≤ 9223372036854775807) :
    Calls Try.prog 16 #[.int .i64 c, .slice A l.length cp] w fun e w' => e = .returned (.bool (risF c 0 l)) ∧ Bel w w' := by
  obtain ⟨R, hR⟩ : ∃ R, R = risF c 0 l := ⟨_, rfl⟩
  rw [← hR]
  have RR := Lib.hid hR
  have HO := Lib.hid ho
  clear ho hR
  go_enter Try.func16, Try.ntmps16
  go_wp2_with fail
  go_loopg [5, 10] l.length (fun g s5 s10 wr => ∃ (k : Nat) (nx : Int), s10 = .int .i64 k ∧ s5 = .int .i64 nx ∧ k ≤ l.length ∧ Hid (R = risF c nx (l.drop k) ∧ g = l.length - k) ∧ Bel w wr)
  case atStart => exact ⟨0, 0, rfl, rfl, Nat.zero_le _, ⟨by rw [RR.out]; rfl, rfl⟩, Bel.refl _⟩
  case round =>
    obtain ⟨k, nx, rfl, rfl, hk, hh, hb⟩ := hrel
    by_cases hp : k < l.length
    · have hln : 0 < (nums l).length := by rw [show (nums l).length = l.length by simp [nums]]; omega
      obtain ⟨b, off, rfl, hlt, hat⟩ := hv hln
      obtain ⟨i, hik⟩ : ∃ i, l[k]? = some i := ⟨_, List.getElem?_eq_getElem hp⟩
      have ha := (hb.cells _ _ hlt).trans (hat k _ (show (nums l)[k]? = some (.int .i64 i) by simp [nums, hik]))
      have lt1 := Nat.lt_of_lt_of_le hlt hb.size
      have hdr : l.drop k = i :: l.drop (k + 1) := by rw [List.drop_eq_getElem_cons hp]; simp [List.getElem?_eq_getElem hp] at hik; rw [hik]
      have RN := Lib.hid (show R = (!(decide (i < nx) || decide (c ≤ i)) && risF c (i + 1) (l.drop (k + 1))) from by rw [hh.out.1, hdr]; rfl)
      have i1 : (k : Int) < l.length := by omega
      have hio := HO.out i (List.mem_of_getElem? hik)
      clear hv hat hik hdr
      by_cases h1 : i < nx
      · obtain rfl : R = false := RN.out.trans (by simp [h1])
        clear RN
        go_wp2_with fail
        go_ret
        exact ⟨rfl, hb⟩
      · by_cases h2 : c ≤ i
        · obtain rfl : R = false := RN.out.trans (by simp [h2])
          have h3 : ¬ i < c := by omega
          clear RN
          go_wp2_with fail
          go_ret
          exact ⟨rfl, hb⟩
        · have RN := Lib.hid (show R = risF c (i + 1) (l.drop (k + 1)) from RN.out.trans (by simp [h1, h2]))
          have i2 : i + 1 ≤ 9223372036854775807 := by omega
          have i3 : -9223372036854775808 ≤ i + 1 := by omega
          go_wp2_with fail
          go_roundg (l.length - (k + 1))
          case measure => have := hh.out.2; omega
          case rel => exact ⟨k + 1, i + 1, by go_num, by go_num, hp, ⟨RN.out, rfl⟩, hb⟩
    · obtain rfl : k = l.length := by omega
      have h := hh.out.1
      rw [List.drop_length] at h
      obtain rfl : R = true := h
      go_wp2_with fail
      go_ret
      exact ⟨rfl, hb⟩
set_option maxRecDepth 100000 in
set_option maxHeartbeats 2000000 in
theorem psound_any (vs : List Val) (A : Option Addr) (c : Nat) (w : World) (hv : Vals w A vs) (hl : (vs.length : Int) ≤ 9223372036854775807) (ho : ∀ v ∈ vs, v.text.size ≤ 9223372036854775807) :
    Calls Try.prog 17 #[.slice A vs.length c] w fun e w' => e = .returned (.bool (vs.all vsnd)) ∧ Bel w w' := by
  obtain ⟨R, hR⟩ : ∃ R, R = vs.all vsnd := ⟨_, rfl⟩
  rw [← hR]
  have RR := Lib.hid hR
  have HO := Lib.hid ho
  clear ho hR
  go_enter Try.func17, Try.ntmps17
  go_wp2_with fail
  go_loopg [7] vs.length (fun g i wr => ∃ k : Nat, i = .int .i64 k ∧ k ≤ vs.length ∧ Hid ((vs.take k).all vsnd = true ∧ g = vs.length - k) ∧ Bel w wr)
  case atStart => exact ⟨0, rfl, Nat.zero_le _, ⟨rfl, rfl⟩, Bel.refl _⟩
  case round =>
    obtain ⟨k, rfl, hk, hh, hb⟩ := hrel
    by_cases hp : k < vs.length
    · obtain ⟨b, off, rfl, hlt, hat⟩ := hv (by omega)
      obtain ⟨v, hvk⟩ : ∃ v, vs[k]? = some v := ⟨_, List.getElem?_eq_getElem hp⟩
      have ha := (hat k v hvk).keep hb hlt
      have hmem : v ∈ vs := List.mem_of_getElem? hvk
      have cc := fun w => vsound_any v (HO.out v hmem) w
      have HC := Lib.hid (show vsnd v = true → (vs.take (k + 1)).all vsnd = true from fun h => by
        rw [List.take_add_one, hvk, List.all_append, hh.out.1]; simp [h])
      have HF := Lib.hid (show vsnd v = false → R = false from fun h => by
        rw [RR.out]
        cases hq : vs.all vsnd with
        | false => rfl
        | true => rw [List.all_eq_true] at hq; rw [hq v hmem] at h; cases h)
      obtain ⟨q, hq⟩ : ∃ q, q = vsnd v := ⟨_, rfl⟩
      rw [← hq] at cc HC HF
      have C := Lib.hid cc
      obtain ⟨vk, vn, vsc, vt, vm⟩ := v
      obtain ⟨a0, a1, a2, a3, a4⟩ := ha
      have i1 : (k : Int) < vs.length := by omega
      clear hv hat hvk cc hq hmem
      cases q with
      | false =>
        obtain rfl : R = false := HF.out rfl
        go_wp2_with (go_at_call 26; refine (C.out _).mono ?_; rintro e W1 ⟨rfl, hb1⟩)
        go_ret
        refine ⟨rfl, ?_⟩
        (repeat (first | with_reducible exact Bel.refl _ | with_reducible refine Bel.setCell ?_ (by first | exact Nat.le_refl _ | (dsimp only; omega)) _ | with_reducible refine Bel.alloc ?_ _ | with_reducible refine Bel.drew ?_ | with_reducible assumption | with_reducible refine Bel.trans ?_ (by assumption)))
      | true =>
        go_wp2_with (go_at_call 26; refine (C.out _).mono ?_; rintro e W1 ⟨rfl, hb1⟩)
        go_roundg (vs.length - (k + 1))
        case measure => have := hh.out.2; omega
        case rel =>
          refine ⟨k + 1, by go_num, by omega, ⟨HC.out (by trivial), rfl⟩, ?_⟩
          (repeat (first | with_reducible exact Bel.refl _ | with_reducible refine Bel.setCell ?_ (by first | exact Nat.le_refl _ | (dsimp only; omega)) _ | with_reducible refine Bel.alloc ?_ _ | with_reducible refine Bel.drew ?_ | with_reducible assumption | with_reducible refine Bel.trans ?_ (by assumption)))
    · obtain rfl : k = vs.length := by omega
      have h := hh.out.1
      rw [List.take_length] at h
      obtain rfl : R = true := RR.out.trans h
      go_wp2_with fail
      go_ret
      exact ⟨rfl, hb⟩
end Go.Proofs.Yteblpdoljhmcmaa
