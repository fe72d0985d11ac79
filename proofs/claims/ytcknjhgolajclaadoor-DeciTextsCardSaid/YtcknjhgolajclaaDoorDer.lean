import Derived.Test.YtcknjhgolajclaaDoorDeq
import Derived.Lib.AtoiErrMem
namespace Go.Proofs.YtcknjhgolajclaaDoor
set_option linter.unusedSimpArgs false
set_option linter.unusedVariables false
open Go.RowKit

/-! Deci: the number that a text is. -/
def trimR (l : List UInt8) : List UInt8 := Lib.trimRightB l 48
def numL (l : List UInt8) : Nat := l.foldl (fun a c => a * 10 + (c.toNat - 48)) 0
theorem fold_bd (l : List UInt8) : ∀ a, dOk l = true → l.foldl (fun a c => a * 10 + (c.toNat - 48)) a + 1 ≤ (a + 1) * 10 ^ l.length := by
  induction l with
  | nil => intro a _; simp
  | cons c r ih =>
    intro a h
    simp only [dOk, List.all_cons, Bool.and_eq_true] at h
    have hc := h.1
    simp only [dB, decide_eq_true_eq] at hc
    have := ih (a * 10 + (c.toNat - 48)) h.2
    simp only [List.foldl_cons, List.length_cons, Nat.pow_succ]
    refine Nat.le_trans this ?_
    have h2 : a * 10 + (c.toNat - 48) + 1 ≤ (a + 1) * 10 := by omega
    calc (a * 10 + (c.toNat - 48) + 1) * 10 ^ r.length ≤ ((a + 1) * 10) * 10 ^ r.length := Nat.mul_le_mul_right _ h2
      _ = (a + 1) * (10 ^ r.length * 10) := by rw [Nat.mul_assoc, Nat.mul_comm 10]
theorem numL_bd (l : List UInt8) (h : dOk l = true) (hl : l.length ≤ 18) : numL l < 1000000000000000000 := by
  have := fold_bd l 0 h
  have h2 : 10 ^ l.length ≤ 10 ^ 18 := Nat.pow_le_pow_right (by omega) hl
  unfold numL
  omega
theorem decFrom_num (l : List UInt8) : ∀ a, dOk l = true → Lib.decFrom a l = some (l.foldl (fun a c => a * 10 + (c.toNat - 48)) a) := by
  induction l with
  | nil => intro a _; rfl
  | cons c r ih =>
    intro a h
    simp only [dOk, List.all_cons, Bool.and_eq_true] at h
    have hc := h.1
    simp only [dB, decide_eq_true_eq] at hc
    have hv : Lib.digitVal c = some (c.toNat - 48) := if_pos hc
    rw [List.foldl_cons, ← ih _ h.2]
    simp only [Lib.decFrom, hv]
theorem atoi_num (l : List UInt8) (h : digB l = true) : Lib.atoi l = some ((numL l : Nat) : Int) := by
  unfold digB at h
  rw [Bool.and_eq_true] at h
  obtain ⟨h1, h2⟩ := h
  cases l with
  | nil => cases h2
  | cons c r =>
    have hc : dB c = true := by simp [dOk] at h1; exact h1.1
    simp only [dB, decide_eq_true_eq] at hc
    have n1 : (c == 45) = false := by
      rw [beq_eq_false_iff_ne]
      rintro rfl
      simp at hc
    have n2 : (c == 43) = false := by
      rw [beq_eq_false_iff_ne]
      rintro rfl
      simp at hc
    unfold Lib.atoi
    simp only [n1, n2, Bool.false_eq_true, if_false]
    unfold Lib.decNat
    simp only [List.isEmpty_cons, Bool.false_eq_true, if_false]
    rw [decFrom_num _ _ h1]
    rfl
theorem dOk_app (a b : List UInt8) : dOk (a ++ b) = (dOk a && dOk b) := by simp [dOk]
theorem trimR_ok (l : List UInt8) (h : dOk l = true) : dOk (trimR l) = true := by
  simp only [dOk, List.all_eq_true] at h ⊢
  intro x hx
  refine h x ?_
  unfold trimR Lib.trimRightB at hx
  rw [List.mem_reverse] at hx
  have := (List.dropWhile_suffix (p := (· == (48 : UInt8))) (l := l.reverse)).subset hx
  exact List.mem_reverse.1 this
theorem aft_none (l : List UInt8) (h : has46 l = false) : aft46 l = [] := by
  unfold has46 at h
  unfold aft46
  have : l.dropWhile (· != 46) = [] := by simpa using h
  rw [this]; rfl

/-- What a whole part and a part behind the point are. -/
def partsV (mn : Bool) (W P : List UInt8) (pt : Bool) : Value :=
  if digB W = false ∨ (1 < W.length ∧ W[0]? = some 48) ∨ (pt = true ∧ digB P = false) then errV 5
  else if 12 < W.length ∨ 6 < (trimR P).length then errV 3
  else decV (mn && decide (0 < numL (W ++ trimR P))) (numL (W ++ trimR P)) (trimR P).length
def parseV (l : List UInt8) : Value :=
  partsV (Lib.hasPrefix l [45]) (bef46 (Lib.trimPrefix l [45])) (aft46 (Lib.trimPrefix l [45])) (has46 (Lib.trimPrefix l [45]))
theorem idx0 {W : ByteArray} (h : 0 < W.size) : W.data.toList[0]? = some (W[0]'h) := by
  rw [List.getElem?_eq_getElem (by rw [Array.length_toList]; exact h)]; rfl
theorem u8_eq48 {b : UInt8} : ((b.toNat : Int) == 48) = decide (b = 48) := by
  rw [Bool.eq_iff_iff]
  simp only [beq_iff_eq, decide_eq_true_eq]
  constructor
  · intro h
    exact UInt8.toNat_inj.mp (by have : b.toNat = 48 := by omega
                                 rw [this]; rfl)
  · rintro rfl; rfl
/-- Where the text is no number. -/
theorem parse_bad (s B W P : ByteArray) (mn pt : Bool)
    (c1 : ∀ w, Calls Tryd.prog 42 #[.string s, .string ⟨#[45]⟩] w fun e w' => e = .returned (.tuple #[.string B, .bool mn]) ∧ w' = w)
    (c2 : ∀ w, Calls Tryd.prog 43 #[.string B, .string ⟨#[46]⟩] w fun e w' => e = .returned (.tuple #[.string W, .string P, .bool pt]) ∧ Bel w w')
    (hW : W.size ≤ 9223372036854775807) (hP : P.size ≤ 9223372036854775807)
    (hbad : digB W.data.toList = false ∨ (digB W.data.toList = true ∧ 1 < W.size ∧ W.data.toList[0]? = some 48) ∨ (digB W.data.toList = true ∧ ¬ (1 < W.size ∧ W.data.toList[0]? = some 48) ∧ pt = true ∧ digB P.data.toList = false)) (w : World) :
    Calls Tryd.prog 21 #[.string s] w fun e w' => e = .returned (errV 5) ∧ Bel w w' := by
  have C1 := Lib.hid c1
  have C2 := Lib.hid c2
  have d1 := Lib.hid fun w => digits_any W hW w
  have d2 := Lib.hid fun w => digits_any P hP w
  clear c1 c2 hP
  rcases hbad with h | ⟨h, h2, h3⟩ | ⟨h, h2, rfl, h4⟩
  · rw [h] at d1
    clear h
    set_option maxRecDepth 100000 in
    go_enter Tryd.func21, Tryd.ntmps21
    go_wp2_with fail
    refine under_call ((Bel.refl w).alloc _) fun W0 hc hf hz hb => ?_
    have hR : Sl2 W0 w.heap.size 0 0 := by simp [Sl2, Arr2, Fr2, hz, hc, hf, go_sem]
    clear hc hf hz
    set_option maxRecDepth 100000 in
    go_wp2_with (first
      | (go_at_call 42; refine (C1.out _).mono ?_; rintro e W1 ⟨rfl, rfl⟩)
      | (go_at_call 43; refine (C2.out _).mono ?_; rintro e W2 ⟨rfl, hb1⟩; replace hR := hR.keep hb1; replace hb := hb.trans hb1; clear hb1)
      | (go_at_call_of 44 (Value.string W); refine (d1.out _).mono ?_; rintro e W3 ⟨rfl, hb1⟩; replace hR := hR.keep hb1; replace hb := hb.trans hb1; clear hb1))
    refine bodyPost_ret (by simp [results, Tryd.results21, go_sem, hR]; try rfl) rfl ⟨rfl, ?_⟩
    (repeat (first | with_reducible exact Bel.refl _ | with_reducible refine Bel.setCell ?_ (by first | exact Nat.le_refl _ | (dsimp only; omega)) _ | with_reducible refine Bel.alloc ?_ _ | with_reducible refine Bel.drew ?_ | with_reducible assumption | with_reducible refine Bel.trans ?_ (by assumption)))
  · rw [h] at d1
    have h0 : 0 < W.size := by omega
    have hx : (((W[0]'h0).toNat : Int) == 48) = true := by
      rw [u8_eq48]
      rw [idx0 h0] at h3
      simpa using h3
    have i1 : (1 : Int) < W.size := by omega
    clear h h3
    set_option maxRecDepth 100000 in
    go_enter Tryd.func21, Tryd.ntmps21
    go_wp2_with fail
    refine under_call ((Bel.refl w).alloc _) fun W0 hc hf hz hb => ?_
    have hR : Sl2 W0 w.heap.size 0 0 := by simp [Sl2, Arr2, Fr2, hz, hc, hf, go_sem]
    clear hc hf hz
    set_option maxRecDepth 100000 in
    go_wp2_with (first
      | (go_at_call 42; refine (C1.out _).mono ?_; rintro e W1 ⟨rfl, rfl⟩)
      | (go_at_call 43; refine (C2.out _).mono ?_; rintro e W2 ⟨rfl, hb1⟩; replace hR := hR.keep hb1; replace hb := hb.trans hb1; clear hb1)
      | (go_at_call_of 44 (Value.string W); refine (d1.out _).mono ?_; rintro e W3 ⟨rfl, hb1⟩; replace hR := hR.keep hb1; replace hb := hb.trans hb1; clear hb1))
    refine bodyPost_ret (by simp [results, Tryd.results21, go_sem, hR]; try rfl) rfl ⟨rfl, ?_⟩
    (repeat (first | with_reducible exact Bel.refl _ | with_reducible refine Bel.setCell ?_ (by first | exact Nat.le_refl _ | (dsimp only; omega)) _ | with_reducible refine Bel.alloc ?_ _ | with_reducible refine Bel.drew ?_ | with_reducible assumption | with_reducible refine Bel.trans ?_ (by assumption)))
  · rw [h] at d1
    rw [h4] at d2
    by_cases h1 : 1 < W.size
    · have h0 : 0 < W.size := by omega
      have hx : (((W[0]'h0).toNat : Int) == 48) = false := by
        rw [u8_eq48, decide_eq_false_iff_not]
        intro hh
        exact h2 ⟨h1, by rw [idx0 h0, hh]⟩
      have i1 : (1 : Int) < W.size := by omega
      clear h h2 h4
      set_option maxRecDepth 100000 in
      go_enter Tryd.func21, Tryd.ntmps21
      go_wp2_with fail
      refine under_call ((Bel.refl w).alloc _) fun W0 hc hf hz hb => ?_
      have hR : Sl2 W0 w.heap.size 0 0 := by simp [Sl2, Arr2, Fr2, hz, hc, hf, go_sem]
      clear hc hf hz
      set_option maxRecDepth 100000 in
      go_wp2_with (first
        | (go_at_call 42; refine (C1.out _).mono ?_; rintro e W1 ⟨rfl, rfl⟩)
        | (go_at_call 43; refine (C2.out _).mono ?_; rintro e W2 ⟨rfl, hb1⟩; replace hR := hR.keep hb1; replace hb := hb.trans hb1; clear hb1)
        | (go_at_call_of 44 (Value.string W); refine (d1.out _).mono ?_; rintro e W3 ⟨rfl, hb1⟩; replace hR := hR.keep hb1; replace hb := hb.trans hb1; clear hb1)
        | (go_at_call_of 44 (Value.string P); refine (d2.out _).mono ?_; rintro e W4 ⟨rfl, hb1⟩; replace hR := hR.keep hb1; replace hb := hb.trans hb1; clear hb1))
      refine bodyPost_ret (by simp [results, Tryd.results21, go_sem, hR]; try rfl) rfl ⟨rfl, ?_⟩
      (repeat (first | with_reducible exact Bel.refl _ | with_reducible refine Bel.setCell ?_ (by first | exact Nat.le_refl _ | (dsimp only; omega)) _ | with_reducible refine Bel.alloc ?_ _ | with_reducible refine Bel.drew ?_ | with_reducible assumption | with_reducible refine Bel.trans ?_ (by assumption)))
    · have i1 : ¬ (1 : Int) < W.size := by omega
      have i2 : decide (1 < W.size) = false := by simpa using h1
      clear h h2 h4
      set_option maxRecDepth 100000 in
      go_enter Tryd.func21, Tryd.ntmps21
      go_wp2_with fail
      refine under_call ((Bel.refl w).alloc _) fun W0 hc hf hz hb => ?_
      have hR : Sl2 W0 w.heap.size 0 0 := by simp [Sl2, Arr2, Fr2, hz, hc, hf, go_sem]
      clear hc hf hz
      set_option maxRecDepth 100000 in
      go_wp2_with (first
        | (go_at_call 42; refine (C1.out _).mono ?_; rintro e W1 ⟨rfl, rfl⟩)
        | (go_at_call 43; refine (C2.out _).mono ?_; rintro e W2 ⟨rfl, hb1⟩; replace hR := hR.keep hb1; replace hb := hb.trans hb1; clear hb1)
        | (go_at_call_of 44 (Value.string W); refine (d1.out _).mono ?_; rintro e W3 ⟨rfl, hb1⟩; replace hR := hR.keep hb1; replace hb := hb.trans hb1; clear hb1)
        | (go_at_call_of 44 (Value.string P); refine (d2.out _).mono ?_; rintro e W4 ⟨rfl, hb1⟩; replace hR := hR.keep hb1; replace hb := hb.trans hb1; clear hb1))
      refine bodyPost_ret (by simp [results, Tryd.results21, go_sem, hR]; try rfl) rfl ⟨rfl, ?_⟩
      (repeat (first | with_reducible exact Bel.refl _ | with_reducible refine Bel.setCell ?_ (by first | exact Nat.le_refl _ | (dsimp only; omega)) _ | with_reducible refine Bel.alloc ?_ _ | with_reducible refine Bel.drew ?_ | with_reducible assumption | with_reducible refine Bel.trans ?_ (by assumption)))

set_option maxRecDepth 100000 in
set_option maxHeartbeats 1000000 in
/-- Where it is one, or would be one of too many digits. -/
theorem parse_good (s B W P T : ByteArray) (mn pt : Bool)
    (c1 : ∀ w, Calls Tryd.prog 42 #[.string s, .string ⟨#[45]⟩] w fun e w' => e = .returned (.tuple #[.string B, .bool mn]) ∧ w' = w)
    (c2 : ∀ w, Calls Tryd.prog 43 #[.string B, .string ⟨#[46]⟩] w fun e w' => e = .returned (.tuple #[.string W, .string P, .bool pt]) ∧ Bel w w')
    (hW : W.size ≤ 9223372036854775807) (hP : P.size ≤ 9223372036854775807)
    (hd : digB W.data.toList = true) (hz0 : ¬ (1 < W.size ∧ W.data.toList[0]? = some 48)) (hpt : pt = true → digB P.data.toList = true)
    (c3 : ∀ w, Calls Tryd.prog 45 #[.string P, .string ⟨#[48]⟩] w fun e w' => e = .returned (.string T) ∧ w' = w)
    (V : Value)
    (hfin : (V = errV 3 ∧ (12 < W.size ∨ 6 < T.size)) ∨ (W.size ≤ 12 ∧ T.size ≤ 6 ∧ ∃ (m : Nat) (a b e : Int), m ≤ 1000000000000000000 ∧ V = .tuple #[decA a b, .int .i64 e] ∧
      (∀ w, Calls Tryd.prog 46 #[.string (W ++ T)] w fun e w' => e = .returned (.tuple #[.int .i64 (m : Int), .nilIface]) ∧ Bel w w') ∧
      (∀ w, Calls Tryd.prog 30 #[wideV (decide ((if mn = true then -(m : Int) else m) < 0)) 0 m 0 1 T.size] w fun e' w' => e' = .returned V ∧ Bel w w'))) (w : World) :
    Calls Tryd.prog 21 #[.string s] w fun e w' => e = .returned V ∧ Bel w w' := by
  have C1 := Lib.hid c1
  have C2 := Lib.hid c2
  have C3 := Lib.hid c3
  have d1 := fun w => digits_any W hW w
  rw [hd] at d1
  have D1 := Lib.hid d1
  have D2 := Lib.hid (show pt = true → ∀ w, Calls Tryd.prog 44 #[.string P] w fun e w' => e = .returned (.bool true) ∧ Bel w w' from fun h w => by have := digits_any P hP w; rw [hpt h] at this; exact this)
  have HX : Hid (∀ h0 : 0 < W.size, 1 < W.size → (((W[0]'h0).toNat : Int) == 48) = false) := fun h0 h1 => by
    rw [u8_eq48, decide_eq_false_iff_not]
    intro hh
    exact hz0 ⟨h1, by rw [idx0 h0, hh]⟩
  have HF := Lib.hid hfin
  clear c1 c2 c3 d1 hd hz0 hpt hP hfin
  go_enter Tryd.func21, Tryd.ntmps21
  go_wp2_with fail
  refine under_call ((Bel.refl w).alloc _) fun W0 hc hf hz hb => ?_
  have hR : Sl2 W0 w.heap.size 0 0 := by simp [Sl2, Arr2, Fr2, hz, hc, hf, go_sem]
  clear hc hf hz
  go_upto_region 3 with (first
    | (go_at_call 42; refine (C1.out _).mono ?_; rintro e W1 ⟨rfl, rfl⟩)
    | (go_at_call 43; refine (C2.out _).mono ?_; rintro e W2 ⟨rfl, hb1⟩; replace hR := hR.keep hb1; replace hb := hb.trans hb1; clear hb1))
  go_cut [42] (fun v wx => v = .bool false ∧ Sl2 wx w.heap.size 0 0 ∧ Bel w wx)
  case first =>
    clear HF
    by_cases h1 : 1 < W.size
    · have h0 : 0 < W.size := by omega
      have hx := HX.out h0 h1
      have i1 : (1 : Int) < W.size := by omega
      cases pt with
      | true =>
        have d2 := Lib.hid (D2.out rfl)
        clear D2
        go_wp2_with (first
          | (go_at_call_of 44 (Value.string W); refine (D1.out _).mono ?_; rintro e W3 ⟨rfl, hb1⟩; replace hR := hR.keep hb1; replace hb := hb.trans hb1; clear hb1)
          | (go_at_call_of 44 (Value.string P); refine (d2.out _).mono ?_; rintro e W4 ⟨rfl, hb1⟩; replace hR := hR.keep hb1; replace hb := hb.trans hb1; clear hb1))
        go_meet
        exact ⟨rfl, hR, hb⟩
      | false =>
        clear D2
        go_wp2_with (first
          | (go_at_call_of 44 (Value.string W); refine (D1.out _).mono ?_; rintro e W3 ⟨rfl, hb1⟩; replace hR := hR.keep hb1; replace hb := hb.trans hb1; clear hb1)
          | (go_at_call_of 44 (Value.string P); refine (d2.out _).mono ?_; rintro e W4 ⟨rfl, hb1⟩; replace hR := hR.keep hb1; replace hb := hb.trans hb1; clear hb1))
        go_meet
        exact ⟨rfl, hR, hb⟩
    · have i1 : ¬ (1 : Int) < W.size := by omega
      have i2 : decide (1 < W.size) = false := by simpa using h1
      cases pt with
      | true =>
        have d2 := Lib.hid (D2.out rfl)
        clear D2
        go_wp2_with (first
          | (go_at_call_of 44 (Value.string W); refine (D1.out _).mono ?_; rintro e W3 ⟨rfl, hb1⟩; replace hR := hR.keep hb1; replace hb := hb.trans hb1; clear hb1)
          | (go_at_call_of 44 (Value.string P); refine (d2.out _).mono ?_; rintro e W4 ⟨rfl, hb1⟩; replace hR := hR.keep hb1; replace hb := hb.trans hb1; clear hb1))
        go_meet
        exact ⟨rfl, hR, hb⟩
      | false =>
        clear D2
        go_wp2_with (first
          | (go_at_call_of 44 (Value.string W); refine (D1.out _).mono ?_; rintro e W3 ⟨rfl, hb1⟩; replace hR := hR.keep hb1; replace hb := hb.trans hb1; clear hb1)
          | (go_at_call_of 44 (Value.string P); refine (d2.out _).mono ?_; rintro e W4 ⟨rfl, hb1⟩; replace hR := hR.keep hb1; replace hb := hb.trans hb1; clear hb1))
        go_meet
        exact ⟨rfl, hR, hb⟩
  case rest =>
    obtain ⟨rfl, hR, hb⟩ := hcut
    clear D1 D2 HX C1 C2
    rcases HF.out with ⟨hV, hsz⟩ | ⟨h12, h6, m, a, b, e, hm, hV, ca, cd⟩
    · clear HF
      by_cases h12 : 12 < W.size
      · have k1 : (12 : Int) < W.size := by omega
        clear hsz h12
        go_wp2_with (go_at_call 45; refine (C3.out _).mono ?_; rintro e W1 ⟨rfl, rfl⟩)
        refine bodyPost_ret (by simp [results, Tryd.results21, go_sem, hR]; try rfl) rfl ⟨by rw [hV], ?_⟩
        (repeat (first | with_reducible exact Bel.refl _ | with_reducible refine Bel.setCell ?_ (by first | exact Nat.le_refl _ | (dsimp only; omega)) _ | with_reducible refine Bel.alloc ?_ _ | with_reducible refine Bel.drew ?_ | with_reducible assumption | with_reducible refine Bel.trans ?_ (by assumption)))
      · have k1 : ¬ (12 : Int) < W.size := by omega
        have k2 : (6 : Int) < T.size := by omega
        clear hsz h12
        go_wp2_with (go_at_call 45; refine (C3.out _).mono ?_; rintro e W1 ⟨rfl, rfl⟩)
        refine bodyPost_ret (by simp [results, Tryd.results21, go_sem, hR]; try rfl) rfl ⟨by rw [hV], ?_⟩
        (repeat (first | with_reducible exact Bel.refl _ | with_reducible refine Bel.setCell ?_ (by first | exact Nat.le_refl _ | (dsimp only; omega)) _ | with_reducible refine Bel.alloc ?_ _ | with_reducible refine Bel.drew ?_ | with_reducible assumption | with_reducible refine Bel.trans ?_ (by assumption)))
    · have k1 : ¬ (12 : Int) < W.size := by omega
      have k2 : ¬ (6 : Int) < T.size := by omega
      have k3 : ¬ 9223372036854775807 < W.size + T.size := by omega
      have CA := Lib.hid ca
      have i3 : (m : Int) ≤ 1000000000000000000 := by omega
      subst hV
      clear ca h12 h6 hm
      clear HF
      cases mn with
      | true =>
        have cw := Lib.hid fun w => wideOf_any (-(m : Int)) T.size ⟨by omega, by omega⟩ w
        rw [show (-(m : Int)).natAbs = m by omega] at cw
        have CD := Lib.hid cd
        simp only [if_true] at CD
        obtain ⟨d, hd⟩ : ∃ d, d = decide (-(m : Int) < 0) := ⟨_, rfl⟩
        rw [← hd] at cw CD
        clear cd hd
        go_wp2_with (first
          | (go_at_call 45; refine (C3.out _).mono ?_; rintro e W1 ⟨rfl, rfl⟩)
          | (go_at_call 46; refine (CA.out _).mono ?_; rintro e W2 ⟨rfl, hb1⟩; replace hR := hR.keep hb1; replace hb := hb.trans hb1; clear hb1)
          | (go_at_call 29; refine (cw.out _).mono ?_; rintro e W3 ⟨rfl, hb1⟩; replace hR := hR.keep hb1; replace hb := hb.trans hb1; clear hb1)
          | (go_at_call 30; refine (CD.out _).mono ?_; rintro e W4 ⟨rfl, hb1⟩; replace hR := hR.keep hb1; replace hb := hb.trans hb1; clear hb1))
        refine bodyPost_ret (by simp [results, Tryd.results21, go_sem, hR]; try rfl) rfl ⟨rfl, ?_⟩
        (repeat (first | with_reducible exact Bel.refl _ | with_reducible refine Bel.setCell ?_ (by first | exact Nat.le_refl _ | (dsimp only; omega)) _ | with_reducible refine Bel.alloc ?_ _ | with_reducible refine Bel.drew ?_ | with_reducible assumption | with_reducible refine Bel.trans ?_ (by assumption)))
      | false =>
        have cw := Lib.hid fun w => wideOf_any (m : Int) T.size ⟨by omega, by omega⟩ w
        rw [show ((m : Int)).natAbs = m by omega] at cw
        have CD := Lib.hid cd
        simp only [Bool.false_eq_true, if_false] at CD
        obtain ⟨d, hd⟩ : ∃ d, d = decide ((m : Int) < 0) := ⟨_, rfl⟩
        rw [← hd] at cw CD
        clear cd hd
        go_wp2_with (first
          | (go_at_call 45; refine (C3.out _).mono ?_; rintro e W1 ⟨rfl, rfl⟩)
          | (go_at_call 46; refine (CA.out _).mono ?_; rintro e W2 ⟨rfl, hb1⟩; replace hR := hR.keep hb1; replace hb := hb.trans hb1; clear hb1)
          | (go_at_call 29; refine (cw.out _).mono ?_; rintro e W3 ⟨rfl, hb1⟩; replace hR := hR.keep hb1; replace hb := hb.trans hb1; clear hb1)
          | (go_at_call 30; refine (CD.out _).mono ?_; rintro e W4 ⟨rfl, hb1⟩; replace hR := hR.keep hb1; replace hb := hb.trans hb1; clear hb1))
        refine bodyPost_ret (by simp [results, Tryd.results21, go_sem, hR]; try rfl) rfl ⟨rfl, ?_⟩
        (repeat (first | with_reducible exact Bel.refl _ | with_reducible refine Bel.setCell ?_ (by first | exact Nat.le_refl _ | (dsimp only; omega)) _ | with_reducible refine Bel.alloc ?_ _ | with_reducible refine Bel.drew ?_ | with_reducible assumption | with_reducible refine Bel.trans ?_ (by assumption)))
theorem atoi_t (l : List UInt8) (h : digB l = true) (hl : l.length ≤ 18) (w : World) : Calls Tryd.prog 46 #[.string ⟨l.toArray⟩] w fun e w' => e = .returned (.tuple #[.int .i64 (numL l : Int), .nilIface]) ∧ Bel w w' :=
  (Tryd.strconv_Atoi ⟨l.toArray⟩ (numL l) (by simpa [ByteArray.size] using hl) (by simpa using atoi_num l h) w).mono fun e w' ⟨he, t, hw⟩ => ⟨he, by rw [hw]; exact Lib.bytesWorld_below _ _ _⟩
theorem digB_app {a b : List UInt8} (h : digB a = true) (h2 : dOk b = true) : digB (a ++ b) = true := by
  unfold digB at *
  rw [Bool.and_eq_true] at h
  rw [dOk_app, h.1, h2]
  cases a with
  | nil => exact absurd h.2 (by simp)
  | cons c r => rfl
theorem parse_any (s : ByteArray) (hs : s.size ≤ 9223372036854775807) (w : World) : Calls Tryd.prog 21 #[.string s] w fun e w' => e = .returned (parseV s.data.toList) ∧ Bel w w' := by
  have c1 := fun w => Tryd.strings_CutPrefix s ⟨#[45]⟩ w
  obtain ⟨L, hL⟩ : ∃ L, L = Lib.trimPrefix s.data.toList [45] := ⟨_, rfl⟩
  have hLl : L.length ≤ s.size := by
    rw [hL]
    unfold Lib.trimPrefix
    split
    · rw [List.length_drop, Array.length_toList]; show s.data.size - _ ≤ s.data.size; omega
    · rw [Array.length_toList]; exact Nat.le_refl _
  have hbl : (bef46 L).length + (aft46 L).length ≤ L.length := by
    cases h : has46 L with
    | true => have := congrArg List.length (bef_aft L h); simp at this; omega
    | false => rw [bef_all L h, aft_none L h]; simp
  have c2 := fun w => cut_any ⟨L.toArray⟩ (show L.toArray.size ≤ _ by simp; omega) w
  have c3 := fun w => Tryd.strings_TrimRight_one ⟨(aft46 L).toArray⟩ 48 (by decide) w (show (aft46 L).toArray.size ≤ _ by simp; omega)
  simp only [List.toList_toArray] at c2 c3
  have hv : parseV s.data.toList = partsV (Lib.hasPrefix s.data.toList [45]) (bef46 L) (aft46 L) (has46 L) := by rw [hL]; rfl
  rw [hv]
  have hc1 : ∀ w, Calls Tryd.prog 42 #[.string s, .string ⟨#[45]⟩] w fun e w' => e = .returned (.tuple #[.string ⟨L.toArray⟩, .bool (Lib.hasPrefix s.data.toList [45])]) ∧ w' = w := by rw [hL]; exact c1
  have szW : (⟨(bef46 L).toArray⟩ : ByteArray).size = (bef46 L).length := by simp [ByteArray.size]
  have szT : (⟨(trimR (aft46 L)).toArray⟩ : ByteArray).size = (trimR (aft46 L)).length := by simp [ByteArray.size]
  by_cases hbad : digB (bef46 L) = false ∨ (1 < (bef46 L).length ∧ (bef46 L)[0]? = some 48) ∨ (has46 L = true ∧ digB (aft46 L) = false)
  · rw [show partsV _ _ _ _ = _ from if_pos hbad]
    refine parse_bad s ⟨L.toArray⟩ ⟨(bef46 L).toArray⟩ ⟨(aft46 L).toArray⟩ _ _ hc1 c2 (by rw [szW]; omega) (show (aft46 L).toArray.size ≤ _ by simp; omega) ?_ w
    rw [szW]
    show digB (bef46 L) = false ∨ (digB (bef46 L) = true ∧ 1 < (bef46 L).length ∧ (bef46 L)[0]? = some 48) ∨ (digB (bef46 L) = true ∧ ¬ (1 < (bef46 L).length ∧ (bef46 L)[0]? = some 48) ∧ has46 L = true ∧ digB (aft46 L) = false)
    cases h1 : digB (bef46 L)
    · exact .inl rfl
    · by_cases h2 : 1 < (bef46 L).length ∧ (bef46 L)[0]? = some 48
      · exact .inr (.inl ⟨rfl, h2⟩)
      · rcases hbad with h | h | h
        · rw [h1] at h; cases h
        · exact absurd h h2
        · exact .inr (.inr ⟨rfl, h2, h⟩)
  · rw [show partsV _ _ _ _ = _ from if_neg hbad]
    have hd : digB (bef46 L) = true := by
      cases h : digB (bef46 L)
      · exact absurd (.inl h) hbad
      · rfl
    have hpk : dOk (trimR (aft46 L)) = true := by
      cases h : has46 L with
      | false => rw [aft_none L h]; rfl
      | true =>
        refine trimR_ok _ ?_
        cases h2 : digB (aft46 L)
        · exact absurd (.inr (.inr ⟨h, h2⟩)) hbad
        · unfold digB at h2; rw [Bool.and_eq_true] at h2; exact h2.1
    refine parse_good s ⟨L.toArray⟩ ⟨(bef46 L).toArray⟩ ⟨(aft46 L).toArray⟩ ⟨(trimR (aft46 L)).toArray⟩ _ _ hc1 c2 (by rw [szW]; omega) (show (aft46 L).toArray.size ≤ _ by simp; omega) hd
      (by rw [szW]; exact fun h => hbad (.inr (.inl h))) (fun h => by
        cases h2 : digB (aft46 L)
        · exact absurd (.inr (.inr ⟨h, h2⟩)) hbad
        · rfl) c3 _ ?_ w
    rw [szW, szT]
    by_cases hlen : 12 < (bef46 L).length ∨ 6 < (trimR (aft46 L)).length
    · exact .inl ⟨if_pos hlen, hlen⟩
    · right
      rw [if_neg hlen]
      have hdig := digB_app hd hpk
      have hl18 : (bef46 L ++ trimR (aft46 L)).length ≤ 18 := by rw [List.length_append]; omega
      have hnb := numL_bd _ (by have := hdig; unfold digB at this; rw [Bool.and_eq_true] at this; exact this.1) hl18
      obtain ⟨m, hm⟩ : ∃ m, m = numL (bef46 L ++ trimR (aft46 L)) := ⟨_, rfl⟩
      rw [← hm] at hnb ⊢
      obtain ⟨a, b, e, hsh⟩ := decV_sh (Lib.hasPrefix s.data.toList [45] && decide (0 < m)) m (trimR (aft46 L)).length
      refine ⟨by omega, by omega, m, a, b, e, by omega, hsh, fun w => ?_, fun w => ?_⟩
      · rw [app_bytes, hm]; exact atoi_t _ hdig hl18 w
      · have := dec_any (Lib.hasPrefix s.data.toList [45] && decide (0 < m)) m (trimR (aft46 L)).length (by unfold big128; omega) (by omega) w
        rw [wide0 (by omega)] at this
        have hb : decide ((if Lib.hasPrefix s.data.toList [45] = true then -(m : Int) else m) < 0) = (Lib.hasPrefix s.data.toList [45] && decide (0 < m)) := by
          cases Lib.hasPrefix s.data.toList [45]
          · simp
          · simp
        rw [hb]
        exact this
end Go.Proofs.YtcknjhgolajclaaDoor
