import Derived.Test.YtladmlnopbnlgaaDoorVdg
import Derived.Lib.CountLaws
import Derived.Lib.SplitLaws
import Derived.Lib.IndexBytes
namespace Go.Proofs.YtladmlnopbnlgaaDoor
set_option linter.unusedSimpArgs false
set_option linter.unusedVariables false
open Go.RowKit
attribute [local go_sem ↓] eql_val neq_val

/-! Values: texts between quotes. -/
def qtB (c : UInt8) : List UInt8 := if c = 34 ∨ c = 92 then [92, c] else [c]
def qtL (l : List UInt8) : List UInt8 := l.flatMap qtB
theorem repl_one (c : UInt8) (new : List UInt8) : ∀ (l : List UInt8) (k : Nat), l.count c ≤ k → Lib.replaceK [c] new k l = l.flatMap fun x => if x = c then new else [x]
  | [], k, _ => by
    cases k with
    | zero => rfl
    | succ k => rfl
  | x :: l, k, h => by
    by_cases hx : x = c
    · subst hx
      rw [List.count_cons_self] at h
      obtain ⟨k', rfl⟩ : ∃ k', k = k' + 1 := ⟨k - 1, by omega⟩
      have h0 : Lib.index (x :: l) [x] = ((0 : Nat) : Int) := by unfold Lib.index; simp [List.isPrefixOf]
      rw [Lib.replaceK_hit _ _ _ _ 0 h0, List.flatMap_cons, if_pos rfl]
      show [] ++ new ++ Lib.replaceK [x] new k' l = _
      rw [repl_one x new l k' (by omega)]
      rfl
    · rw [List.count_cons_of_ne (by simpa using hx)] at h
      have ih := repl_one c new l k h
      rw [List.flatMap_cons, if_neg hx, ← ih]
      cases k with
      | zero => rfl
      | succ k =>
        have hi : Lib.index (x :: l) [c] = if Lib.index l [c] == -1 then -1 else Lib.index l [c] + 1 := by
          have hp : ([c] : List UInt8).isPrefixOf (x :: l) = false := by simp [List.isPrefixOf]; exact fun e => hx e.symm
          conv => lhs; unfold Lib.index
          rw [hp]
          rfl
        rw [Lib.replaceK, Lib.replaceK]
        by_cases hm : (Lib.index l [c] == -1) = true
        · rw [if_pos hm] at hi
          rw [hi, if_pos hm]
          rfl
        · rw [if_neg hm] at hi
          have hge := Lib.index_ge l [c]
          have hne : Lib.index l [c] ≠ -1 := fun e => hm (by rw [e]; rfl)
          have e1 : (Lib.index l [c] + 1).toNat = (Lib.index l [c]).toNat + 1 := by omega
          rw [hi, if_neg hm, if_neg (by rw [beq_iff_eq]; omega), e1]
          rfl
theorem replaceAll_one (c : UInt8) (new l : List UInt8) (hn : [c] ≠ new) : Lib.replaceAll l [c] new = l.flatMap fun x => if x = c then new else [x] := by
  unfold Lib.replaceAll Lib.replace
  rw [if_neg (by rw [beq_iff_eq]; exact hn)]
  have h1 : Lib.replaceNum l [c] (-1) = Lib.count l [c] := if_pos (.inl (by decide))
  rw [h1, Lib.count_one]
  exact repl_one c new l _ (Nat.le_refl _)
theorem qt_is (l : List UInt8) : Lib.replaceAll (Lib.replaceAll l [92] [92, 92]) [34] [92, 34] = qtL l := by
  rw [replaceAll_one 92 _ _ (by decide), replaceAll_one 34 _ _ (by decide)]
  unfold qtL
  rw [List.flatMap_assoc]
  congr 1
  funext x
  by_cases h1 : x = 92
  · subst h1; decide
  · by_cases h2 : x = 34
    · subst h2; decide
    · unfold qtB
      rw [if_neg h1, if_neg (by rintro (h | h); exact h2 h; exact h1 h)]
      simp [h2]
theorem repl_len (c : UInt8) (l : List UInt8) (new : List UInt8) (h : new.length = 2) : (l.flatMap fun x => if x = c then new else [x]).length ≤ 2 * l.length := by
  induction l with
  | nil => exact Nat.le_refl _
  | cons x l ih =>
    rw [List.flatMap_cons, List.length_append, List.length_cons]
    have : (if x = c then new else [x]).length ≤ 2 := by split; omega; simp
    omega
/-- The library's bound of a short search lies somewhere. -/
def Mx (w : World) : Prop := ∃ m, w.cell? ⟨0, 0, none⟩ = some (.int .i64 m)
theorem Mx.keep {w w' : World} (h : Mx w) (hb : Bel w w') : Mx w' := by
  obtain ⟨m, hm⟩ := h
  exact ⟨m, by rw [hb.cells _ _ (World.block_lt_of_cell? _ _ hm)]; exact hm⟩
theorem replAll_any (s : ByteArray) (c : UInt8) (new : ByteArray) (hz : new.size = 2) (hs : s.size ≤ 1024) (hn : ([c] : List UInt8) ≠ new.data.toList) (w : World) (hm : Mx w) :
    Calls Tryd.prog 43 #[.string s, .string ⟨#[c]⟩, .string new] w fun e w' => e = .returned (.string ⟨(s.data.toList.flatMap fun x => if x = c then new.data.toList else [x]).toArray⟩) ∧ Bel w w' := by
  obtain ⟨m, hm⟩ := hm
  have hc : Lib.countB s ⟨#[c]⟩ ≤ s.size + 1 := by
    have := Lib.count_le s.data.toList [c]
    rw [size_list_C] at this
    exact this
  have h := Tryd.strings_ReplaceAll s ⟨#[c]⟩ new m w (by omega) hm (by show 1 ≤ 1; omega) (by rw [hz]; omega)
  rw [show (⟨#[c]⟩ : ByteArray).data.toList = [c] from rfl, replaceAll_one c _ _ hn] at h
  exact h
theorem app_b (a b : List UInt8) : (⟨a.toArray⟩ : ByteArray) ++ ⟨b.toArray⟩ = ⟨(a ++ b).toArray⟩ := ByteArray.ext (by simp [ByteArray.data_append])
theorem bsize (l : List UInt8) : (⟨l.toArray⟩ : ByteArray).size = l.length := List.size_toArray
def quoL (l : List UInt8) : List UInt8 := [34] ++ qtL l ++ [34]
set_option maxRecDepth 100000 in
theorem quoted_any (s : ByteArray) (hs : s.size ≤ 256) (w : World) (hm : Mx w) : Calls Tryd.prog 24 #[.string s] w fun e w' => e = .returned (.string ⟨(quoL s.data.toList).toArray⟩) ∧ Bel w w' := by
  obtain ⟨a, ha⟩ : ∃ a : ByteArray, a = ⟨(s.data.toList.flatMap fun x => if x = 92 then [92, 92] else [x]).toArray⟩ := ⟨_, rfl⟩
  have hal : a.size ≤ 512 := by
    have := repl_len 92 s.data.toList [92, 92] rfl
    rw [size_list_C] at this
    rw [ha, bsize]; omega
  obtain ⟨b, hb⟩ : ∃ b : ByteArray, b = ⟨(a.data.toList.flatMap fun x => if x = 34 then [92, 34] else [x]).toArray⟩ := ⟨_, rfl⟩
  have hbl : (b.size : Int) ≤ 1024 := by
    have := repl_len 34 a.data.toList [92, 34] rfl
    rw [size_list_C] at this
    rw [hb, bsize]; omega
  have hbq : b = ⟨(qtL s.data.toList).toArray⟩ := by
    rw [hb, ha, ← qt_is, replaceAll_one 92 _ _ (by decide), replaceAll_one 34 _ _ (by decide)]
  have C1 := Lib.hid (show ∀ w, Mx w → Calls Tryd.prog 43 #[.string s, .string ⟨#[92]⟩, .string ⟨#[92, 92]⟩] w fun e w' => e = .returned (.string a) ∧ Bel w w' from fun w hm => by
    rw [ha]; exact replAll_any s 92 ⟨#[92, 92]⟩ rfl (by omega) (by decide) w hm)
  have C2 := Lib.hid (show ∀ w, Mx w → Calls Tryd.prog 43 #[.string a, .string ⟨#[34]⟩, .string ⟨#[92, 34]⟩] w fun e w' => e = .returned (.string b) ∧ Bel w w' from fun w hm => by
    rw [hb]; exact replAll_any a 34 ⟨#[92, 34]⟩ rfl (by omega) (by decide) w hm)
  have HM := Lib.hid hm
  have L := Lib.hid (show (⟨#[34]⟩ : ByteArray) ++ b ++ ⟨#[34]⟩ = ⟨(quoL s.data.toList).toArray⟩ by
    rw [hbq]
    exact (congrArg (· ++ (⟨[34].toArray⟩ : ByteArray)) (app_b [34] _)).trans (app_b _ [34]))
  have C1' := Lib.hid (C1.out w HM.out)
  clear ha hb hbq hal hm
  go_enter Tryd.func24, Tryd.ntmps24
  go_wp2_with (first
    | (go_at_call 43; with_reducible refine (C1.out _ HM.out).mono ?_; rintro e W1 ⟨rfl, hb1⟩)
    | (go_at_call 43; with_reducible refine (C2.out _ (HM.out.keep hb1)).mono ?_; rintro e W2 ⟨rfl, hb2⟩))
  go_ret
  exact ⟨by (rw [← L.out]) <;> rfl, hb1.trans hb2⟩
theorem qt_snoc (s : ByteArray) (k : Nat) (h : k < s.size) : qtL (s.data.toList.take (k + 1)) = qtL (s.data.toList.take k) ++ qtB s[k] := by
  rw [List.take_succ_eq_append_getElem (by rw [size_list_C]; exact h)]
  unfold qtL
  rw [List.flatMap_append]
  simp
  rfl
theorem qt_len (l : List UInt8) : (qtL l).length ≤ 2 * l.length := by
  induction l with
  | nil => exact Nat.le_refl _
  | cons x l ih =>
    show (qtB x ++ qtL l).length ≤ _
    have : (qtB x).length ≤ 2 := by unfold qtB; split <;> simp
    rw [List.length_append, List.length_cons]; omega
theorem ext_1 (s : ByteArray) (k : Nat) (h : k < s.size) : s.extract k (k + 1) = ⟨[s[k]].toArray⟩ := by
  have h1 : (s.extract k (k + 1)).data.toList = [s[k]] := by
    rw [Lib.extract_data, show k + 1 - k = 1 from by omega, List.drop_eq_getElem_cons (by rw [size_list_C]; exact h)]
    rfl
  have h2 : ∀ b : ByteArray, b = ⟨b.data.toList.toArray⟩ := fun b => by obtain ⟨⟨l⟩⟩ := b; rfl
  rw [h2 (s.extract k (k + 1)), h1]
theorem byte_is {c : UInt8} {n : Nat} (hn : n < 256) (h : c.toNat = n) : c = UInt8.ofNat n := by
  apply UInt8.toNat_inj.1
  rw [h]
  show n = n % 256
  omega
set_option maxRecDepth 100000 in
set_option maxHeartbeats 4000000 in
theorem rquoted_any (s : ByteArray) (hs : s.size ≤ 256) (w : World) : Calls Tryd.prog 27 #[.string s] w fun e w' => e = .returned (.string ⟨(quoL s.data.toList).toArray⟩) ∧ w' = w := by
  have hsi : (s.size : Int) ≤ 256 := by omega
  go_enter Tryd.func27, Tryd.ntmps27
  go_wp2_with fail
  go_loopg [3, 4] s.size (fun g v i wr => ∃ (k : Nat) (o : ByteArray), v = .string o ∧ i = .int .i64 k ∧ k ≤ s.size ∧ Hid (o = ⟨([34] ++ qtL (s.data.toList.take k)).toArray⟩ ∧ g = s.size - k) ∧ wr = w)
  case atStart => exact ⟨0, ⟨#[34]⟩, rfl, rfl, Nat.zero_le _, ⟨rfl, rfl⟩, rfl⟩
  case round =>
    obtain ⟨k, o, rfl, rfl, hk, hh, rfl⟩ := hrel
    have hoz : (o.size : Int) ≤ 513 := by
      have h1 := qt_len (s.data.toList.take k)
      have h2 : (s.data.toList.take k).length ≤ k := by rw [List.length_take]; omega
      have h3 : o.size = ([34] ++ qtL (s.data.toList.take k)).length := by rw [hh.out.1, bsize]
      rw [List.length_append] at h3
      simp at h3
      omega
    by_cases hp : k < s.size
    · have j1 : (k : Int) < s.size := by omega
      have hsn := qt_snoc s k hp
      have hex := ext_1 s k hp
      have HX := Lib.hid hex
      have hxz : ((s.extract k (k + 1)).size : Int) ≤ 1 := by
        have h1 : (s.extract k (k + 1)).size = 1 := by rw [hex, bsize]; rfl
        omega
      clear hex
      by_cases hq : s[k].toNat = 34
      · have e1 : ((s[k].toNat : Int) == 34) = true := by rw [beq_iff_eq]; omega
        have HS := Lib.hid (show qtL (s.data.toList.take (k + 1)) = qtL (s.data.toList.take k) ++ [92, s[k]] by rw [hsn, byte_is (n := 34) (by decide) hq]; rfl)
        clear hsn hq
        go_wp2_with fail
        go_roundg (s.size - (k + 1))
        case measure => have := hh.out.2; omega
        case rel => exact ⟨k + 1, _, rfl, by go_num, by omega, ⟨by
          rw [HX.out, hh.out.1, HS.out]
          exact (congrArg (· ++ (⟨[s[k]].toArray⟩ : ByteArray)) (app_b _ [92])).trans ((app_b _ _).trans (by simp)), rfl⟩, rfl⟩
      · have e1 : ((s[k].toNat : Int) == 34) = false := by rw [beq_eq_false_iff_ne]; omega
        by_cases hq2 : s[k].toNat = 92
        · have e2 : ((s[k].toNat : Int) == 92) = true := by rw [beq_iff_eq]; omega
          have HS := Lib.hid (show qtL (s.data.toList.take (k + 1)) = qtL (s.data.toList.take k) ++ [92, s[k]] by rw [hsn, byte_is (n := 92) (by decide) hq2]; rfl)
          clear hsn hq hq2
          go_wp2_with fail
          go_roundg (s.size - (k + 1))
          case measure => have := hh.out.2; omega
          case rel => exact ⟨k + 1, _, rfl, by go_num, by omega, ⟨by
            rw [HX.out, hh.out.1, HS.out]
            exact (congrArg (· ++ (⟨[s[k]].toArray⟩ : ByteArray)) (app_b _ [92])).trans ((app_b _ _).trans (by simp)), rfl⟩, rfl⟩
        · have e2 : ((s[k].toNat : Int) == 92) = false := by rw [beq_eq_false_iff_ne]; omega
          have HS := Lib.hid (show qtL (s.data.toList.take (k + 1)) = qtL (s.data.toList.take k) ++ [s[k]] by
            rw [hsn]
            unfold qtB
            rw [if_neg (by rintro (h | h) <;> rw [h] at hq hq2 <;> simp at hq hq2)])
          clear hsn hq hq2
          go_wp2_with fail
          go_roundg (s.size - (k + 1))
          case measure => have := hh.out.2; omega
          case rel => exact ⟨k + 1, _, rfl, by go_num, by omega, ⟨by
            rw [HX.out, hh.out.1, HS.out]
            exact (app_b _ _).trans (by simp), rfl⟩, rfl⟩
    · have L := Lib.hid (show o ++ ⟨#[34]⟩ = (⟨(quoL s.data.toList).toArray⟩ : ByteArray) by
        rw [hh.out.1, List.take_of_length_le (by rw [size_list_C]; omega)]
        exact app_b _ [34])
      go_wp2_with fail
      go_ret
      exact ⟨by (rw [← L.out]) <;> rfl, rfl⟩
end Go.Proofs.YtladmlnopbnlgaaDoor
