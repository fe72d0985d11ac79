import Derived.Test.YtladmlnopbnlgaaDoorVdd
namespace Go.Proofs.YtladmlnopbnlgaaDoor
set_option linter.unusedSimpArgs false
set_option linter.unusedVariables false
open Go.RowKit
attribute [local go_sem ↓] eql_val neq_val

/-! Values in order. -/
theorem bless_iff : ∀ a b : List UInt8, Op.bytesLess a b = decide (Lib.compareBytes a b < 0)
  | [], [] => rfl
  | [], _ :: _ => rfl
  | _ :: _, [] => rfl
  | x :: a, y :: b => by
    have ih := bless_iff a b
    unfold Op.bytesLess Lib.compareBytes
    by_cases h1 : x < y
    · rw [if_pos h1, decide_eq_true h1]; rfl
    · rw [if_neg h1, decide_eq_false h1]
      by_cases h2 : y < x
      · rw [if_pos h2]
        have hne : (x == y) = false := by rw [beq_eq_false_iff_ne]; rintro rfl; exact h1 h2
        rw [hne]; rfl
      · rw [if_neg h2]
        have he : (x == y) = true := by
          rw [beq_iff_eq]
          apply UInt8.toNat_inj.1
          have g1 : ¬ x.toNat < y.toNat := fun h => h1 (UInt8.lt_iff_toNat_lt.2 h)
          have g2 : ¬ y.toNat < x.toNat := fun h => h2 (UInt8.lt_iff_toNat_lt.2 h)
          omega
        rw [he, ih]; simp
theorem cb_eq : ∀ a b : List UInt8, Lib.compareBytes a b = 0 ↔ a = b
  | [], [] => by simp [Lib.compareBytes]
  | [], _ :: _ => by simp [Lib.compareBytes]
  | _ :: _, [] => by simp [Lib.compareBytes]
  | x :: a, y :: b => by
    have ih := cb_eq a b
    unfold Lib.compareBytes
    by_cases h1 : x < y
    · rw [if_pos h1]
      constructor
      · intro h; omega
      · intro h
        have : x = y := (List.cons.inj h).1
        subst this
        exact absurd (UInt8.lt_iff_toNat_lt.1 h1) (Nat.lt_irrefl _)
    · rw [if_neg h1]
      by_cases h2 : y < x
      · rw [if_pos h2]
        constructor
        · intro h; omega
        · intro h
          have : x = y := (List.cons.inj h).1
          subst this
          exact absurd h2 h1
      · rw [if_neg h2, ih]
        have he : x = y := by
          apply UInt8.toNat_inj.1
          have g1 : ¬ x.toNat < y.toNat := fun h => h1 (UInt8.lt_iff_toNat_lt.2 h)
          have g2 : ¬ y.toNat < x.toNat := fun h => h2 (UInt8.lt_iff_toNat_lt.2 h)
          omega
        subst he
        simp
theorem cb_cases (a b : List UInt8) : Lib.compareBytes a b = -1 ∨ Lib.compareBytes a b = 0 ∨ Lib.compareBytes a b = 1 := by
  induction a generalizing b with
  | nil => cases b <;> simp [Lib.compareBytes]
  | cons x a ih =>
    cases b with
    | nil => simp [Lib.compareBytes]
    | cons y b =>
      unfold Lib.compareBytes
      split
      · left; rfl
      · split
        · right; right; rfl
        · exact ih b
def vcmp (a b : Val) : Int :=
  if a.kind ≠ b.kind then Lib.compareInt a.kind b.kind else if a.kind = 1 then sgn (unt a.n a.scale) (unt b.n b.scale) else if a.kind = 2 then Lib.compareBytes a.text.data.toList b.text.data.toList else Lib.compareInt a.num b.num
def allV (vs : List Val) : Bool := vs.all vsnd
def IdxPost (b : Bool) (w : World) (e : Ending) (w' : World) : Prop := ∃ r : Int, e = .returned (.int .i64 r) ∧ decide (0 ≤ r) = b ∧ Bel w w'
theorem notSound_any (v : Val) (hv : v.text.size ≤ 9223372036854775807) (w : World) : Calls Tryd.prog 33 #[v.val] w fun e w' => e = .returned (.bool (!vsnd v)) ∧ Bel w w' := by
  have c := fun w => vsound_any v hv w
  obtain ⟨b, hb⟩ : ∃ b, b = vsnd v := ⟨_, rfl⟩
  rw [← hb] at c
  have C := Lib.hid c
  have HB := Lib.hid hb
  clear c hb
  obtain ⟨k, n, s, t, m⟩ := v
  go_enter Tryd.func33, Tryd.ntmps33
  go_wp2_with (go_at_call 8; refine (C.out _).mono ?_; rintro e W1 ⟨rfl, hb1⟩)
  go_ret
  exact ⟨by (rw [← HB.out]) <;> rfl, ((Bel.refl _).alloc _).trans hb1⟩
set_option maxRecDepth 100000 in
set_option maxHeartbeats 2000000 in
theorem idxFunc_any (vs : List Val) (A : Option Addr) (c : Nat) (w : World) (hv : Vals w A vs) (hl : vs.length ≤ maxLen) (ho : ∀ v ∈ vs, v.text.size ≤ 9223372036854775807) :
    Calls Tryd.prog 51 #[.slice A vs.length c, .func (.func 33) #[] #[]] w (IdxPost (!allV vs) w) := by
  unfold maxLen at hl
  have hli : (vs.length : Int) ≤ 9223372036854775807 := by omega
  have HO := Lib.hid ho
  clear ho
  go_enter Tryd.func51, Tryd.ntmps51
  go_wp2_with fail
  go_loopg [8] vs.length (fun g i wr => ∃ k : Nat, i = .int .i64 k ∧ k ≤ vs.length ∧ Hid (allV (vs.take k) = true ∧ g = vs.length - k) ∧ Bel w wr)
  case atStart => exact ⟨0, rfl, Nat.zero_le _, ⟨rfl, rfl⟩, Bel.refl _⟩
  case round =>
    obtain ⟨k, rfl, hk, hh, hb⟩ := hrel
    by_cases hp : k < vs.length
    · obtain ⟨b, off, rfl, hlt, hat⟩ := hv (by omega)
      obtain ⟨v, hvk⟩ : ∃ v, vs[k]? = some v := ⟨_, List.getElem?_eq_getElem hp⟩
      have ha := (hat k v hvk).keep hb hlt
      have hmem : v ∈ vs := List.mem_of_getElem? hvk
      have c := fun w => notSound_any v (HO.out v hmem) w
      have hst : allV (vs.take (k + 1)) = (allV (vs.take k) && vsnd v) := by
        unfold allV
        rw [List.take_add_one, hvk, List.all_append]
        simp
      obtain ⟨q, hq⟩ : ∃ q, q = vsnd v := ⟨_, rfl⟩
      rw [← hq] at c hst
      have C := Lib.hid c
      have HS := Lib.hid (show allV (vs.take (k + 1)) = q by rw [hst, hh.out.1]; rfl)
      have HQ := Lib.hid (And.intro hq hmem)
      obtain ⟨vk, vn, vsc, vt, vm⟩ := v
      obtain ⟨a0, a1, a2, a3, a4⟩ := ha
      have i1 : (k : Int) < vs.length := by omega
      clear hv hat hvk c hst hq hmem
      cases q with
      | false =>
        have L := Lib.hid (show allV vs = false by
          unfold allV
          rw [List.all_eq_false]
          exact ⟨_, HQ.out.2, by rw [← HQ.out.1]; decide⟩)
        go_wp2_with (go_at_call 33; refine (C.out _).mono ?_; rintro e W1 ⟨rfl, hb1⟩)
        go_ret
        exact ⟨_, rfl, by rw [L.out]; exact decide_eq_true (by simp), hb.trans hb1⟩
      | true =>
        go_wp2_with (go_at_call 33; refine (C.out _).mono ?_; rintro e W1 ⟨rfl, hb1⟩)
        go_roundg (vs.length - (k + 1))
        case measure => have := hh.out.2; omega
        case rel => exact ⟨k + 1, by go_num, by omega, ⟨HS.out, rfl⟩, hb.trans hb1⟩
    · have L := Lib.hid (show allV vs = true by
        have h := hh.out.1
        rw [List.take_of_length_le (by omega)] at h
        exact h)
      go_wp2_with fail
      go_ret
      exact ⟨_, rfl, by rw [L.out]; rfl, hb⟩
set_option maxRecDepth 100000 in
theorem allSound_any_V (vs : List Val) (A : Option Addr) (c : Nat) (w : World) (hv : Vals w A vs) (hl : vs.length ≤ maxLen) (ho : ∀ v ∈ vs, v.text.size ≤ 9223372036854775807) :
    Calls Tryd.prog 20 #[.slice A vs.length c] w fun e w' => e = .returned (.bool (allV vs)) ∧ Bel w w' := by
  have ci := fun w hv => idxFunc_any vs A c w hv hl ho
  obtain ⟨q, hq⟩ : ∃ q, q = allV vs := ⟨_, rfl⟩
  rw [← hq] at ci ⊢
  have CI := Lib.hid ci
  have HV := Lib.hid hv
  have CC := Lib.hid (show ∀ w, Vals w A vs → Calls Tryd.prog 32 #[.slice A vs.length c, .func (.func 33) #[] #[]] w fun e w' => e = .returned (.bool (!q)) ∧ Bel w w' from fun w hv => by
    clear ci hq ho hl
    have HW := Lib.hid hv
    clear hv
    go_enter Tryd.func32, Tryd.ntmps32
    go_wp2_with (go_at_call 51; refine (CI.out _ HW.out).mono ?_; rintro e W1 ⟨r, rfl, hr, hb1⟩)
    go_ret
    exact ⟨rfl, hb1⟩)
  clear ci hq ho hl hv
  go_enter Tryd.func20, Tryd.ntmps20
  go_wp2_with (go_at_call 32; refine (CC.out _ HV.out).mono ?_; rintro e W1 ⟨rfl, hb1⟩)
  go_ret
  exact ⟨by simp, hb1⟩
end Go.Proofs.YtladmlnopbnlgaaDoor
