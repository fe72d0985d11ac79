import Derived.Test.YthcpgbbmgabpnaaCkk
import Derived.Test.YthcpgbbmgabpnaaChf
namespace Go.Proofs.Ythcpgbbmgabpnaa
set_option linter.unusedSimpArgs false
set_option linter.unusedVariables false
open Go.RowKit

/-! Chars: the document's Unescape. -/
def nmL (t : List UInt8) : List UInt8 := t.takeWhile (· != 59)
theorem nm_spec : ∀ t : List UInt8, (nmL t).length ≤ t.length ∧ nmL t = t.take (nmL t).length ∧ (∀ j, j < (nmL t).length → t.getD j 0 ≠ 59) ∧ ((nmL t).length < t.length → t.getD (nmL t).length 0 = 59)
  | [] => ⟨Nat.le_refl _, rfl, fun j h => by simp [nmL] at h, fun h => by simp [nmL] at h⟩
  | c :: t => by
    obtain ⟨h1, h2, h3, h4⟩ := nm_spec t
    by_cases hc : c = 59
    · have e : nmL (c :: t) = [] := by unfold nmL; rw [List.takeWhile_cons, hc]; rfl
      rw [e]
      exact ⟨Nat.zero_le _, rfl, fun j h => by simp at h, fun _ => hc⟩
    · have e : nmL (c :: t) = c :: nmL t := by
        unfold nmL
        rw [List.takeWhile_cons, if_pos (by simpa using hc)]
      rw [e, List.length_cons, List.length_cons]
      refine ⟨by omega, ?_, ?_, ?_⟩
      · rw [List.take_succ_cons, ← h2]
      · intro j hj
        match j with
        | 0 => exact hc
        | j + 1 => exact h3 j (by omega)
      · intro h
        exact h4 (by omega)
theorem un_end (f pos : Nat) (acc : List UInt8) : unL f pos [] acc = (acc, 0, 0) := by cases f <;> rfl
theorem un_lt (f pos : Nat) (t acc : List UInt8) : unL (f + 1) pos (60 :: t) acc = ([], pos, 6) := by
  rw [unL]
  exact if_pos rfl
theorem un_amp (f pos : Nat) (t acc : List UInt8) : unL (f + 1) pos (38 :: t) acc = match entL (nmL t) with
    | some r => if (nmL t).length = t.length then ([], pos, 7) else unL f (pos + 2 + (nmL t).length) (t.drop ((nmL t).length + 1)) (acc ++ Lib.encodeRune (r : Int))
    | none => ([], pos, 7) := by
  rw [unL, if_neg (by decide), if_pos rfl]
  rfl
theorem un_ok (f pos : Nat) (c : UInt8) (t acc : List UInt8) (h1 : c ≠ 60) (h2 : c ≠ 38) : unL (f + 1) pos (c :: t) acc = if okL (c :: t) = true then unL f (pos + wL (c :: t)) ((c :: t).drop (wL (c :: t))) (acc ++ (c :: t).take (wL (c :: t))) else ([], pos, 6) := by
  rw [unL, if_neg h1, if_neg h2]
theorem wL_le4 (l : List UInt8) : wL l ≤ 4 := by
  unfold wL decL dec
  repeat' split
  all_goals simp
theorem ent_two (l : List UInt8) (r : Nat) (h : entL l = some r) : 2 ≤ l.length := by
  match l with
  | [] =>
    rw [show entL [] = none from rfl] at h
    cases h
  | [c] =>
    exfalso
    by_cases hc : c = 35
    · subst hc
      rw [show entL [35] = none from rfl] at h
      cases h
    · rw [ent_no c [] hc (by simp) (by simp) (by simp) (by simp) (by simp)] at h
      cases h
  | _ :: _ :: _ => simp
def unV (x : List UInt8 × Nat × Nat) : Value := .tuple #[.string (bytesOf x.1), .int .i64 (x.2.1 : Nat), .int .i64 (x.2.2 : Nat)]
theorem ext_list (s : ByteArray) (a b : Nat) : (s.extract a b).data.toList = (s.data.toList.drop a).take (b - a) := Lib.extract_data s a b
theorem ext_bytes (s : ByteArray) (a b : Nat) : s.extract a b = bytesOf ((s.data.toList.drop a).take (b - a)) := by rw [← ext_list, bytesOf_data]
theorem getD_at (s : ByteArray) (a j : Nat) (h : a + j < s.size) : (s.data.toList.drop a).getD j 0 = s[a + j] := by
  rw [List.getD_eq_getElem?_getD, List.getElem?_drop, List.getElem?_eq_getElem (by rw [size_list]; exact h)]
  rfl
theorem bytesOf_size (l : List UInt8) : (bytesOf l).size = l.length := List.size_toArray
theorem byte_ne {c : UInt8} (n : Nat) (hn : n < 256) (h : c ≠ UInt8.ofNat n) : ((c.toNat : Int) == n) = false := by
  rw [beq_eq_false_iff_ne]
  intro e
  exact h (byte_eq hn (by omega))
set_option maxRecDepth 100000 in
set_option maxHeartbeats 8000000 in
theorem runescape_any (s : ByteArray) (hs : s.size ≤ 140737488351232) (w : World) : Calls Try.prog 19 #[.string s] w fun e w' => e = .returned (unV (unS s)) ∧ Bel w w' := by
  have hsi : (s.size : Int) ≤ 140737488351232 := by omega
  go_enter Try.func19, Try.ntmps19
  go_wp2_with fail
  go_loopg [5, 6] s.size (fun g o i wr => ∃ (pos fuel : Nat) (ob : ByteArray) (acc : List UInt8), o = .string ob ∧ i = .int .i64 pos ∧ pos ≤ s.size ∧ ob.size ≤ s.size ∧ Hid (ob = bytesOf acc ∧ acc.length ≤ pos ∧ unS s = unL fuel pos (s.data.toList.drop pos) acc ∧ s.size ≤ fuel + pos ∧ g = s.size - pos) ∧ Bel w wr)
  case atStart => exact ⟨0, s.size, ⟨#[]⟩, [], rfl, rfl, Nat.zero_le _, Nat.zero_le _, ⟨rfl, Nat.le_refl _, by rw [List.drop_zero]; rfl, by omega, rfl⟩, Bel.refl _⟩
  case round =>
    obtain ⟨pos, fuel, ob, acc, rfl, rfl, hpl, hob, hh, hb⟩ := hrel
    have hobi : (ob.size : Int) ≤ 140737488351232 := by omega
    by_cases hp : pos < s.size
    · obtain ⟨f, rfl⟩ : ∃ f, fuel = f + 1 := ⟨fuel - 1, by have := hh.out.2.2.2.1; omega⟩
      have hst := drop_step s pos hp
      have hu := hh.out.2.2.1
      rw [hst] at hu
      have i1 : (pos : Int) < s.size := by omega
      by_cases h60 : s[pos] = 60
      · have e60 : ((s[pos].toNat : Int) == 60) = true := by rw [h60]; rfl
        rw [h60, un_lt] at hu
        have L := Lib.hid hu
        clear hu h60 hst
        go_wp2_with fail
        go_ret3
        exact ⟨by (rw [L.out]) <;> rfl, hb⟩
      · have e60 := byte_ne 60 (by decide) h60
        by_cases h38 : s[pos] = 38
        · have e38 : ((s[pos].toNat : Int) == 38) = true := by rw [h38]; rfl
          rw [h38, un_amp] at hu
          obtain ⟨t, ht⟩ : ∃ t, t = s.data.toList.drop (pos + 1) := ⟨_, rfl⟩
          have hlt : t.length = s.size - (pos + 1) := by rw [ht, drop_len]
          have hn := nm_spec t
          obtain ⟨m, hm⟩ : ∃ m, m = (nmL t).length := ⟨_, rfl⟩
          rw [← ht] at hu
          rw [← hm] at hu hn
          have hml : pos + 1 + m ≤ s.size := by omega
          have HU := Lib.hid hu
          have HN := Lib.hid hn
          have HT := Lib.hid (And.intro ht hlt)
          have HM := Lib.hid hm
          clear hu h60 h38 hst hn hlt ht hm
          go_wp2_with fail
          go_loopg [7] (s.size - pos) (fun g v wr' => ∃ k : Nat, v = .int .i64 k ∧ k ≤ pos + 1 + m ∧ Hid (pos + 1 ≤ k ∧ g = s.size + 1 - k) ∧ wr' = wr)
          case atStart => exact ⟨pos + 1, by go_num, by omega, ⟨Nat.le_refl _, by omega⟩, rfl⟩
          case round =>
            rename_i g2 wr2 _
            obtain ⟨k, rfl, hk, hk2, rfl⟩ := hrel
            by_cases hkm : k < pos + 1 + m
            · have hks : k < s.size := by omega
              have j1 : (k : Int) < s.size := by omega
              have ek : ((s[k].toNat : Int) == 59) = false := byte_ne 59 (by decide) (by
                have h1 := HN.out.2.2.1 (k - (pos + 1)) (by have := hk2.out.1; omega)
                rw [HT.out.1, getD_at s (pos + 1) (k - (pos + 1)) (by have := hk2.out.1; omega)] at h1
                simp only [show pos + 1 + (k - (pos + 1)) = k from by have := hk2.out.1; omega] at h1
                exact h1)
              go_wp2_with fail
              go_roundg (s.size + 1 - (k + 1))
              case measure => have := hk2.out.2; omega
              case rel => exact ⟨k + 1, by go_num, by omega, ⟨by have := hk2.out.1; omega, rfl⟩, rfl⟩
            · obtain rfl : k = pos + 1 + m := by omega
              have HX := Lib.hid (show s.extract (pos + 1) (pos + 1 + m) = bytesOf (nmL t) by
                rw [ext_bytes, show pos + 1 + m - (pos + 1) = m from by omega, ← HT.out.1, HN.out.2.1])
              obtain ⟨x, hx⟩ : ∃ x, x = entL (nmL t) := ⟨_, rfl⟩
              have HE := Lib.hid (show ∀ w, Calls Try.prog 32 #[.string (s.extract (pos + 1) (pos + 1 + m))] w fun e w' => e = .returned (entV x) ∧ Bel w w' by
                intro w
                rw [HX.out, hx]
                exact entity_any (bytesOf (nmL t)) (by rw [bytesOf_size, ← HM.out]; omega) w)
              have hu := HU.out
              rw [← hx] at hu
              have hxs := hx
              clear hx
              by_cases hend : pos + 1 + m < s.size
              · have j1 : (pos : Int) + 1 + m < s.size := by omega
                have e59 : ((s[pos + 1 + m].toNat : Int) == 59) = true := by
                  have h1 := HN.out.2.2.2 (by have := HT.out.2; omega)
                  rw [HT.out.1, getD_at s (pos + 1) m hend] at h1
                  rw [h1]; rfl
                have eend : (((pos : Int) + 1 + m) == (s.size : Int)) = false := by rw [beq_eq_false_iff_ne]; omega
                cases x with
                | none =>
                  have L := Lib.hid (show unS s = ([], pos, 7) from hu)
                  clear hu hxs
                  go_wp2_with (go_at_call 32; refine (HE.out _).mono ?_; rintro e V1 ⟨rfl, hv⟩; dsimp only [entV])
                  go_ret3
                  exact ⟨by (rw [L.out]) <;> rfl, hb.trans hv⟩
                | some r =>
                  obtain ⟨b, hbb⟩ : ∃ b, b = bytesOf (Lib.encodeRune (r : Int)) := ⟨_, rfl⟩
                  have hbz : b.size ≤ 4 := by
                    rw [hbb, bytesOf_size, ← Lib.runeCells_length]
                    exact (Lib.runeCells_le _).2
                  have hbzi : (b.size : Int) ≤ 4 := by omega
                  have HE2 := Lib.hid (show ∀ w, Calls Try.prog 32 #[.string (s.extract (pos + 1) (pos + 1 + m))] w fun e w' => e = .returned (.tuple #[.string b, .bool true]) ∧ Bel w w' by rw [hbb]; exact HE.out)
                  have L := Lib.hid (show unS s = unL f (pos + 1 + m + 1) (s.data.toList.drop (pos + 1 + m + 1)) (acc ++ Lib.encodeRune (r : Int)) by
                    have h1 : unS s = if m = t.length then ([], pos, 7) else unL f (pos + 2 + m) (t.drop (m + 1)) (acc ++ Lib.encodeRune (r : Int)) := hu
                    rw [if_neg (by have := HT.out.2; omega), HT.out.1, List.drop_drop] at h1
                    rw [h1, show pos + 2 + m = pos + 1 + m + 1 from by omega, show pos + 1 + (m + 1) = pos + 1 + m + 1 from by omega])
                  have BB := Lib.hid hbb
                  have M2 := Lib.hid (show 2 ≤ m by rw [HM.out]; exact ent_two _ r hxs.symm)
                  clear hu hbb hxs
                  go_wp2_with (go_at_call 32; refine (HE2.out _).mono ?_; rintro e V1 ⟨rfl, hv⟩)
                  go_roundg (s.size - (pos + 1 + m + 1))
                  case measure => have := hh.out.2.2.2.2; omega
                  case rel =>
                    refine ⟨pos + 1 + m + 1, f, ob ++ b, acc ++ Lib.encodeRune (r : Int), rfl, by go_num, by omega, ?_, ⟨?_, ?_, L.out, by have := hh.out.2.2.2.1; omega, rfl⟩, hb.trans hv⟩
                    · rw [ByteArray.size_append]
                      have h1 : ob.size ≤ pos := by rw [hh.out.1, bytesOf_size]; exact hh.out.2.1
                      have h2 := M2.out
                      omega
                    · rw [hh.out.1, BB.out, app_bytesOf]
                    · rw [List.length_append, ← Lib.runeCells_length]
                      have h1 := hh.out.2.1
                      have h2 := (Lib.runeCells_le (r : Int)).2
                      have h3 := M2.out
                      omega
              · have j1 : ¬ (pos : Int) + 1 + m < s.size := by omega
                have j2 : (s.size : Int) ≤ (pos : Int) + 1 + m := by omega
                have eend : (((pos : Int) + 1 + m) == (s.size : Int)) = true := by rw [beq_iff_eq]; omega
                cases x with
                | none =>
                  have L := Lib.hid (show unS s = ([], pos, 7) from hu)
                  clear hu hxs
                  go_wp2_with (go_at_call 32; refine (HE.out _).mono ?_; rintro e V1 ⟨rfl, hv⟩; dsimp only [entV])
                  go_ret3
                  exact ⟨by (rw [L.out]) <;> rfl, hb.trans hv⟩
                | some r =>
                  have L := Lib.hid (show unS s = ([], pos, 7) by
                    have h1 : unS s = if m = t.length then ([], pos, 7) else unL f (pos + 2 + m) (t.drop (m + 1)) (acc ++ Lib.encodeRune (r : Int)) := hu
                    rw [h1, if_pos (by have := HT.out.2; omega)])
                  clear hu hxs
                  go_wp2_with (go_at_call 32; refine (HE.out _).mono ?_; rintro e V1 ⟨rfl, hv⟩; dsimp only [entV])
                  go_ret3
                  exact ⟨by (rw [L.out]) <;> rfl, hb.trans hv⟩
        · have e38 := byte_ne 38 (by decide) h38
          rw [un_ok _ _ _ _ _ h60 h38, ← hst] at hu
          have hz : 0 < (s.extract pos s.size).size := by rw [ext_size]; omega
          have hc := fun w => rfirst_any (s.extract pos s.size) hz (by rw [ext_size]; omega) w
          rw [gOf_ext, ext_size] at hc
          have hle := first_le (gOf s pos) (s.size - pos) (by omega)
          have hok := first_ok s pos hp
          have hwd := wd_pos s pos
          have hw4 := wL_le4 (s.data.toList.drop pos)
          obtain ⟨a, ha⟩ : ∃ a, a = (first (gOf s pos) (s.size - pos)).1 := ⟨_, rfl⟩
          obtain ⟨n, hn⟩ : ∃ n, n = (first (gOf s pos) (s.size - pos)).2 := ⟨_, rfl⟩
          rw [← ha, ← hn] at hc
          rw [← hn] at hle hok
          rw [← okAt_L, ← wdAt_L] at hu
          rw [← wdAt_L] at hw4
          have HC := Lib.hid hc
          have i2 : (n : Int) + pos ≤ s.size := by omega
          have i3 : (pos : Int) + n ≤ s.size := by omega
          cases hv : okAt s pos with
          | false =>
            rw [hv, if_neg (by decide)] at hok
            rw [hv, if_neg (by decide)] at hu
            have L := Lib.hid hu
            subst hok
            clear hu hwd hle hc ha hn hv hz h60 h38 hst hw4
            go_wp2_with (go_at_call 23; refine (HC.out _).mono ?_; rintro e W1 ⟨rfl, rfl⟩)
            go_ret3
            exact ⟨by (rw [L.out]) <;> rfl, hb⟩
          | true =>
            rw [hv, if_pos rfl] at hok
            rw [hv, if_pos rfl] at hu
            have HX := Lib.hid (show s.extract pos (pos + n) = bytesOf ((s.data.toList.drop pos).take n) by rw [ext_bytes, show pos + n - pos = n from by omega])
            have L := Lib.hid (show unS s = unL f (pos + n) (s.data.toList.drop (pos + n)) (acc ++ (s.data.toList.drop pos).take n) by rw [hu, hok, List.drop_drop])
            have n1 : (1 : Int) ≤ n := by omega
            have n4 : n ≤ 4 := by omega
            have e1 : ((n : Int) == 0) = false := by rw [beq_eq_false_iff_ne]; omega
            have hxz : (s.extract pos (pos + n)).size ≤ 4 := by rw [ByteArray.size_extract]; omega
            have hxzi : ((s.extract pos (pos + n)).size : Int) ≤ 4 := by omega
            clear hu hwd hle hc ha hn hv hok hz h60 h38 hst hw4
            go_wp2_with (go_at_call 23; refine (HC.out _).mono ?_; rintro e W1 ⟨rfl, rfl⟩)
            go_roundg (s.size - (pos + n))
            case measure => have := hh.out.2.2.2.2; omega
            case rel =>
              refine ⟨pos + n, f, ob ++ s.extract pos (pos + n), acc ++ (s.data.toList.drop pos).take n, rfl, by go_num, by omega, ?_, ⟨?_, ?_, L.out, by have := hh.out.2.2.2.1; omega, rfl⟩, hb⟩
              · rw [ByteArray.size_append]
                have h1 : ob.size ≤ pos := by rw [hh.out.1, bytesOf_size]; exact hh.out.2.1
                have h2 : (s.extract pos (pos + n)).size ≤ n := by rw [ByteArray.size_extract]; omega
                omega
              · rw [hh.out.1, HX.out, app_bytesOf]
              · rw [List.length_append, List.length_take]
                have h1 := hh.out.2.1
                omega
    · have L := Lib.hid (show unS s = (acc, 0, 0) by rw [hh.out.2.2.1, List.drop_of_length_le (by rw [size_list]; omega), un_end])
      have OB := Lib.hid hh.out.1
      go_wp2_with fail
      go_ret3
      exact ⟨by (rw [L.out, unV, ← OB.out]) <;> rfl, hb⟩
end Go.Proofs.Ythcpgbbmgabpnaa
