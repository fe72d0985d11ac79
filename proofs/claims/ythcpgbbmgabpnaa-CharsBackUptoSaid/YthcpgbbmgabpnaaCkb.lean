import Derived.Test.YthcpgbbmgabpnaaChg
import Derived.Lib.MapLaws
namespace Go.Proofs.Ythcpgbbmgabpnaa
set_option linter.unusedSimpArgs false
set_option linter.unusedVariables false
open Go.RowKit

/-! Chars: texts as they stand in XML: the plain words. -/
/-- What stands for a byte. -/
def escB (c : UInt8) : List UInt8 :=
  if c = 38 then [38, 97, 109, 112, 59] else if c = 60 then [38, 108, 116, 59] else if c = 62 then [38, 103, 116, 59] else if c = 34 then [38, 113, 117, 111, 116, 59]
  else if c = 39 then [38, 97, 112, 111, 115, 59] else if c = 9 then [38, 35, 57, 59] else if c = 10 then [38, 35, 49, 48, 59] else if c = 13 then [38, 35, 49, 51, 59] else [c]
def escL (l : List UInt8) : List UInt8 := l.flatMap escB
/-- What stands for a sign, if not itself. -/
def wrtL (r : Nat) : List UInt8 :=
  if r = 38 then [38, 97, 109, 112, 59] else if r = 60 then [38, 108, 116, 59] else if r = 62 then [38, 103, 116, 59] else if r = 34 then [38, 113, 117, 111, 116, 59]
  else if r = 39 then [38, 97, 112, 111, 115, 59] else if r = 9 then [38, 35, 57, 59] else if r = 10 then [38, 35, 49, 48, 59] else if r = 13 then [38, 35, 49, 51, 59] else []
def okL (l : List UInt8) : Bool := may (fun i => (l.getD i 0).toNat) l.length
def decL (l : List UInt8) : Nat × Nat := dec (fun i => (l.getD i 0).toNat) l.length
def wL (l : List UInt8) : Nat := (decL l).2
theorem gOf_fun (s : ByteArray) (pos : Nat) : gOf s pos = fun i => ((s.data.toList.drop pos).getD i 0).toNat := funext fun i => gOf_list s pos i
theorem drop_len (s : ByteArray) (pos : Nat) : (s.data.toList.drop pos).length = s.size - pos := by rw [List.length_drop, size_list]
theorem okAt_L (s : ByteArray) (pos : Nat) : okAt s pos = okL (s.data.toList.drop pos) := by
  unfold okAt okL
  rw [gOf_fun, drop_len]
theorem decAt_L (s : ByteArray) (pos : Nat) : dec (gOf s pos) (s.size - pos) = decL (s.data.toList.drop pos) := by
  unfold decL
  rw [gOf_fun, drop_len]
theorem wdAt_L (s : ByteArray) (pos : Nat) : wdAt s pos = wL (s.data.toList.drop pos) := by
  unfold wdAt wL
  rw [decAt_L]
theorem decL_is (l : List UInt8) (h : l ≠ []) : Lib.decodeL l = decL l := by
  have hl : 0 < l.length := List.length_pos_iff.2 h
  have h1 := decode_is ⟨l.toArray⟩ 0 (by show 0 < l.toArray.size; rw [List.size_toArray]; exact hl)
  show Utf8.decode ⟨l.toArray⟩ 0 = _
  rw [h1, decAt_L]
  rfl
theorem dec_own (g : Nat → Nat) (m : Nat) (h : own g m = true) : dec g m = (65533, 3) := by
  have h4 := (own_iff _ _).1 h
  unfold dec
  rw [if_neg (by omega), if_neg (by omega), if_pos (by omega), if_pos (by omega)]
  rw [h4.2.1, h4.2.2.1, h4.2.2.2]
/-- Of a sign that may stand: its bytes are those that it is written as. -/
theorem enc_ok (l : List UInt8) (h : l ≠ []) (hok : okL l = true) : Lib.encodeRune ((decL l).1 : Int) = l.take (wL l) := by
  have hd := decL_is l h
  have := Lib.encode_decode l h (by
    rw [hd]
    rintro ⟨h1, h2⟩
    have h3 := ((may_iff _ _).1 hok).2 h1
    have h5 : decL l = (65533, 3) := dec_own _ _ h3
    rw [h5] at h2
    cases h2)
  rw [hd] at this
  exact this
theorem wL_pos (l : List UInt8) : 1 ≤ wL l := by
  unfold wL decL dec
  repeat' split
  all_goals simp
theorem wL_le (l : List UInt8) (h : l ≠ []) : wL l ≤ l.length := by
  have := Lib.decodeL_le l h
  rw [decL_is l h] at this
  exact this
theorem dec_shape (g : Nat → Nat) (m : Nat) : (g 0 < 128 ∧ dec g m = (g 0, 1)) ∨
    (128 ≤ g 0 ∧ 128 ≤ (dec g m).1 ∧ ∀ j, j < (dec g m).2 → 128 ≤ g j) := by
  unfold dec
  by_cases c1 : g 0 < 128
  · exact .inl ⟨c1, if_pos c1⟩
  · refine .inr ?_
    rw [if_neg c1]
    refine ⟨by omega, ?_⟩
    have one : ∀ j, j < 1 → 128 ≤ g j := fun j h => by
      have : j = 0 := by omega
      subst this; omega
    split
    · split
      · refine ⟨by omega, fun j h => ?_⟩
        have : j = 0 ∨ j = 1 := by simp at h; omega
        rcases this with rfl | rfl <;> omega
      · exact ⟨by omega, one⟩
    · split
      · split
        · refine ⟨by omega, fun j h => ?_⟩
          have : j = 0 ∨ j = 1 ∨ j = 2 := by simp at h; omega
          rcases this with rfl | rfl | rfl <;> omega
        · exact ⟨by omega, one⟩
      · split
        · split
          · refine ⟨by omega, fun j h => ?_⟩
            have : j = 0 ∨ j = 1 ∨ j = 2 ∨ j = 3 := by simp at h; omega
            rcases this with rfl | rfl | rfl | rfl <;> omega
          · exact ⟨by omega, one⟩
        · exact ⟨by omega, one⟩
theorem escB_hi (c : UInt8) (h : 128 ≤ c.toNat) : escB c = [c] := by
  have k : ∀ n : UInt8, n.toNat < 128 → c ≠ n := fun n hn e => by subst e; omega
  unfold escB
  rw [if_neg (k 38 (by decide)), if_neg (k 60 (by decide)), if_neg (k 62 (by decide)), if_neg (k 34 (by decide)), if_neg (k 39 (by decide)), if_neg (k 9 (by decide)), if_neg (k 10 (by decide)), if_neg (k 13 (by decide))]
theorem escL_hi : ∀ l : List UInt8, (∀ c ∈ l, 128 ≤ c.toNat) → escL l = l
  | [], _ => rfl
  | c :: t, h => by
    show escB c ++ escL t = c :: t
    rw [escB_hi c (h c (by simp)), escL_hi t (fun x hx => h x (by simp [hx]))]
    rfl
theorem escL_append (a b : List UInt8) : escL (a ++ b) = escL a ++ escL b := by simp [escL]
theorem wrtL_byte (c : UInt8) : (if wrtL c.toNat = [] then [c] else wrtL c.toNat) = escB c := by
  have k : ∀ n : UInt8, (c.toNat = n.toNat) = (c = n) := fun n => propext UInt8.toNat_inj
  have k38 := k 38; have k60 := k 60; have k62 := k 62; have k34 := k 34; have k39 := k 39; have k9 := k 9; have k10 := k 10; have k13 := k 13
  unfold wrtL escB
  simp only [show (38 : UInt8).toNat = 38 from rfl, show (60 : UInt8).toNat = 60 from rfl, show (62 : UInt8).toNat = 62 from rfl, show (34 : UInt8).toNat = 34 from rfl, show (39 : UInt8).toNat = 39 from rfl, show (9 : UInt8).toNat = 9 from rfl, show (10 : UInt8).toNat = 10 from rfl, show (13 : UInt8).toNat = 13 from rfl] at k38 k60 k62 k34 k39 k9 k10 k13
  simp only [k38, k60, k62, k34, k39, k9, k10, k13]
  repeat' split
  all_goals first | rfl | (exfalso; simp_all; done)
theorem wrtL_hi (r : Nat) (h : 128 ≤ r) : wrtL r = [] := by
  unfold wrtL
  rw [if_neg (by omega), if_neg (by omega), if_neg (by omega), if_neg (by omega), if_neg (by omega), if_neg (by omega), if_neg (by omega), if_neg (by omega)]
/-- One sign of the text, as it stands in XML. -/
theorem esc_sign (l : List UInt8) (h : l ≠ []) (hok : okL l = true) : escL (l.take (wL l)) = if wrtL (decL l).1 = [] then Lib.encodeRune ((decL l).1 : Int) else wrtL (decL l).1 := by
  rw [enc_ok l h hok]
  rcases dec_shape (fun i => (l.getD i 0).toNat) l.length with ⟨h1, h2⟩ | ⟨h1, h2, h3⟩
  · have hd : decL l = ((l.getD 0 0).toNat, 1) := h2
    have hw : wL l = 1 := by unfold wL; rw [hd]
    rw [hw, hd]
    match l, h with
    | c :: t, _ =>
      show escB c ++ [] = if wrtL c.toNat = [] then [c] else wrtL c.toNat
      rw [wrtL_byte, List.append_nil]
  · rw [if_pos (show wrtL (decL l).1 = [] from wrtL_hi _ h2)]
    apply escL_hi
    intro c hc
    obtain ⟨j, hj, rfl⟩ := List.mem_iff_getElem.1 hc
    rw [List.length_take] at hj
    have := h3 j (by show j < wL l; omega)
    rw [List.getElem_take]
    rw [List.getD_eq_getElem?_getD, List.getElem?_eq_getElem (by omega)] at this
    exact this
theorem take_step (l : List UInt8) (pos n : Nat) : l.take (pos + n) = l.take pos ++ (l.drop pos).take n := by rw [List.take_add]
theorem esc_step (s : ByteArray) (pos : Nat) (hp : pos < s.size) (hok : okAt s pos = true) :
    escL (s.data.toList.take (pos + wdAt s pos)) = escL (s.data.toList.take pos) ++ (if wrtL (dec (gOf s pos) (s.size - pos)).1 = [] then Lib.encodeRune ((dec (gOf s pos) (s.size - pos)).1 : Int) else wrtL (dec (gOf s pos) (s.size - pos)).1) := by
  have hne : s.data.toList.drop pos ≠ [] := by
    intro h
    have := drop_len s pos
    rw [h] at this
    simp at this; omega
  rw [take_step, escL_append, wdAt_L, decAt_L]
  congr 1
  rw [okAt_L] at hok
  exact esc_sign _ hne hok
theorem wdAt_le (s : ByteArray) (pos : Nat) (hp : pos < s.size) : pos + wdAt s pos ≤ s.size := by
  have hne : s.data.toList.drop pos ≠ [] := by
    intro h
    have := drop_len s pos
    rw [h] at this
    simp at this; omega
  have := wL_le _ hne
  rw [wdAt_L]
  rw [drop_len] at this
  omega
theorem escL_len (l : List UInt8) : (escL l).length ≤ 6 * l.length := by
  induction l with
  | nil => exact Nat.le_refl _
  | cons c t ih =>
    show (escB c ++ escL t).length ≤ _
    have : (escB c).length ≤ 6 := by unfold escB; repeat' split
                                     all_goals simp
    rw [List.length_append, List.length_cons]
    omega
end Go.Proofs.Ythcpgbbmgabpnaa
