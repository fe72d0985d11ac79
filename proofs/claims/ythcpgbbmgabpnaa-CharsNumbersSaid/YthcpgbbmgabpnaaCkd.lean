import Derived.Test.YthcpgbbmgabpnaaCkc
import Derived.Test.YthcpgbbmgabpnaaChf
namespace Go.Proofs.Ythcpgbbmgabpnaa
set_option linter.unusedSimpArgs false
set_option linter.unusedVariables false
open Go.RowKit

/-! Chars: the document's Escape. -/
theorem app_bytesOf (a b : List UInt8) : bytesOf a ++ bytesOf b = bytesOf (a ++ b) := by
  apply ByteArray.ext
  show (bytesOf a ++ bytesOf b).data = _
  rw [ByteArray.data_append]
  show a.toArray ++ b.toArray = (a ++ b).toArray
  simp
theorem bytesOf_data (s : ByteArray) : bytesOf s.data.toList = s := by
  obtain ⟨⟨l⟩⟩ := s
  rfl
theorem take_one (s : ByteArray) (k : Nat) (h : k < s.size) : s.data.toList.take (k + 1) = s.data.toList.take k ++ [s[k]] := by
  rw [List.take_succ_eq_append_getElem (by rw [size_list]; exact h)]
  rfl
theorem ext_one (s : ByteArray) (k : Nat) (h : k < s.size) : s.extract k (k + 1) = bytesOf [s[k]] := by
  have h1 : (s.extract k (k + 1)).data.toList = [s[k]] := by
    rw [Lib.extract_data, show k + 1 - k = 1 from by omega, List.drop_eq_getElem_cons (by rw [size_list]; exact h)]
    rfl
  rw [← h1, bytesOf_data]
theorem esc_one (s : ByteArray) (k : Nat) (h : k < s.size) (l : List UInt8) (hl : escB s[k] = l) : bytesOf (escL (s.data.toList.take (k + 1))) = bytesOf (escL (s.data.toList.take k)) ++ bytesOf l := by
  rw [app_bytesOf, take_one s k h, escL_append, ← hl]
  show _ = bytesOf (_ ++ escB s[k])
  rw [show escL [s[k]] = escB s[k] from by simp [escL]]
theorem byte_eq {c : UInt8} {n : Nat} (hn : n < 256) (h : c.toNat = n) : c = UInt8.ofNat n := by
  apply UInt8.toNat_inj.1
  rw [h]
  show n = n % 256
  omega
theorem escB_same (c : UInt8) (h : c.toNat ≠ 38 ∧ c.toNat ≠ 60 ∧ c.toNat ≠ 62 ∧ c.toNat ≠ 34 ∧ c.toNat ≠ 39 ∧ c.toNat ≠ 9 ∧ c.toNat ≠ 10 ∧ c.toNat ≠ 13) : escB c = [c] := by
  have k : ∀ n : UInt8, c.toNat ≠ n.toNat → c ≠ n := fun n hn e => hn (by rw [e])
  unfold escB
  rw [if_neg (k 38 h.1), if_neg (k 60 h.2.1), if_neg (k 62 h.2.2.1), if_neg (k 34 h.2.2.2.1), if_neg (k 39 h.2.2.2.2.1), if_neg (k 9 h.2.2.2.2.2.1), if_neg (k 10 h.2.2.2.2.2.2.1), if_neg (k 13 h.2.2.2.2.2.2.2)]
set_option maxRecDepth 100000 in
set_option maxHeartbeats 4000000 in
theorem rescape_any (s : ByteArray) (hs : s.size ≤ 17592186044416) (w : World) : Calls Try.prog 17 #[.string s] w fun e w' => e = .returned (.tuple #[.string (escT s), .int .i64 (escN s)]) ∧ w' = w := by
  have hsi : (s.size : Int) ≤ 9223372036854775807 := by omega
  cases hg : goodB s with
  | false =>
    have L1 := Lib.hid (show escT s = ⟨#[]⟩ by rw [escT, hg]; rfl)
    have L2 := Lib.hid (show escN s = 6 by rw [escN, hg]; rfl)
    have HG := Lib.hid hg
    clear hg
    go_enter Try.func17, Try.ntmps17
    go_wp2_with (go_at_call 13; refine (rgood_any _ (by omega) _).mono ?_; rintro e W1 ⟨rfl, rfl⟩; rw [HG.out])
    go_ret2
    exact ⟨by (rw [L1.out, L2.out]) <;> rfl, rfl⟩
  | true =>
    have L1 := Lib.hid (show escT s = bytesOf (escL s.data.toList) by rw [escT, hg]; rfl)
    have L2 := Lib.hid (show escN s = 0 by rw [escN, hg]; rfl)
    have HG := Lib.hid hg
    clear hg
    go_enter Try.func17, Try.ntmps17
    go_wp2_with (go_at_call 13; refine (rgood_any _ (by omega) _).mono ?_; rintro e W1 ⟨rfl, rfl⟩; rw [HG.out])
    go_loopg [4, 5] s.size (fun g v i wr => ∃ (k : Nat) (o : ByteArray), v = .string o ∧ i = .int .i64 k ∧ k ≤ s.size ∧ Hid (o = bytesOf (escL (s.data.toList.take k)) ∧ g = s.size - k) ∧ wr = W1)
    case atStart => exact ⟨0, ⟨#[]⟩, rfl, rfl, Nat.zero_le _, ⟨rfl, rfl⟩, rfl⟩
    case round =>
      obtain ⟨k, o, rfl, rfl, hk, hh, rfl⟩ := hrel
      by_cases hp : k < s.size
      · have j1 : (k : Int) < s.size := by omega
        have hoz : (o.size : Int) ≤ 105553116266496 := by
          have h1 := escL_len (s.data.toList.take k)
          have h2 : (s.data.toList.take k).length ≤ k := by rw [List.length_take]; omega
          have h3 : o.size = (escL (s.data.toList.take k)).length := by rw [hh.out.1]; exact List.size_toArray
          omega
        have cc : s[k].toNat = 38 ∨ s[k].toNat = 60 ∨ s[k].toNat = 62 ∨ s[k].toNat = 34 ∨ s[k].toNat = 39 ∨ s[k].toNat = 9 ∨ s[k].toNat = 10 ∨ s[k].toNat = 13 ∨ (s[k].toNat ≠ 38 ∧ s[k].toNat ≠ 60 ∧ s[k].toNat ≠ 62 ∧ s[k].toNat ≠ 34 ∧ s[k].toNat ≠ 39 ∧ s[k].toNat ≠ 9 ∧ s[k].toNat ≠ 10 ∧ s[k].toNat ≠ 13) := by omega
        rcases cc with c | c | c | c | c | c | c | c | c
        · have e38 : ((s[k].toNat : Int) == 38) = true := by rw [beq_iff_eq]; omega
          have e60 : ((s[k].toNat : Int) == 60) = false := by rw [beq_eq_false_iff_ne]; omega
          have e62 : ((s[k].toNat : Int) == 62) = false := by rw [beq_eq_false_iff_ne]; omega
          have e34 : ((s[k].toNat : Int) == 34) = false := by rw [beq_eq_false_iff_ne]; omega
          have e39 : ((s[k].toNat : Int) == 39) = false := by rw [beq_eq_false_iff_ne]; omega
          have e9 : ((s[k].toNat : Int) == 9) = false := by rw [beq_eq_false_iff_ne]; omega
          have e10 : ((s[k].toNat : Int) == 10) = false := by rw [beq_eq_false_iff_ne]; omega
          have e13 : ((s[k].toNat : Int) == 13) = false := by rw [beq_eq_false_iff_ne]; omega
          have HC := Lib.hid (esc_one s k hp [38, 97, 109, 112, 59] (by rw [byte_eq (n := 38) (by decide) c]; rfl))
          clear c
          go_wp2_with fail
          go_roundg (s.size - (k + 1))
          case measure => have := hh.out.2; omega
          case rel => exact ⟨k + 1, _, rfl, by go_num, by omega, ⟨by rw [HC.out, hh.out.1]; rfl, rfl⟩, rfl⟩
        · have e38 : ((s[k].toNat : Int) == 38) = false := by rw [beq_eq_false_iff_ne]; omega
          have e60 : ((s[k].toNat : Int) == 60) = true := by rw [beq_iff_eq]; omega
          have e62 : ((s[k].toNat : Int) == 62) = false := by rw [beq_eq_false_iff_ne]; omega
          have e34 : ((s[k].toNat : Int) == 34) = false := by rw [beq_eq_false_iff_ne]; omega
          have e39 : ((s[k].toNat : Int) == 39) = false := by rw [beq_eq_false_iff_ne]; omega
          have e9 : ((s[k].toNat : Int) == 9) = false := by rw [beq_eq_false_iff_ne]; omega
          have e10 : ((s[k].toNat : Int) == 10) = false := by rw [beq_eq_false_iff_ne]; omega
          have e13 : ((s[k].toNat : Int) == 13) = false := by rw [beq_eq_false_iff_ne]; omega
          have HC := Lib.hid (esc_one s k hp [38, 108, 116, 59] (by rw [byte_eq (n := 60) (by decide) c]; rfl))
          clear c
          go_wp2_with fail
          go_roundg (s.size - (k + 1))
          case measure => have := hh.out.2; omega
          case rel => exact ⟨k + 1, _, rfl, by go_num, by omega, ⟨by rw [HC.out, hh.out.1]; rfl, rfl⟩, rfl⟩
        · have e38 : ((s[k].toNat : Int) == 38) = false := by rw [beq_eq_false_iff_ne]; omega
          have e60 : ((s[k].toNat : Int) == 60) = false := by rw [beq_eq_false_iff_ne]; omega
          have e62 : ((s[k].toNat : Int) == 62) = true := by rw [beq_iff_eq]; omega
          have e34 : ((s[k].toNat : Int) == 34) = false := by rw [beq_eq_false_iff_ne]; omega
          have e39 : ((s[k].toNat : Int) == 39) = false := by rw [beq_eq_false_iff_ne]; omega
          have e9 : ((s[k].toNat : Int) == 9) = false := by rw [beq_eq_false_iff_ne]; omega
          have e10 : ((s[k].toNat : Int) == 10) = false := by rw [beq_eq_false_iff_ne]; omega
          have e13 : ((s[k].toNat : Int) == 13) = false := by rw [beq_eq_false_iff_ne]; omega
          have HC := Lib.hid (esc_one s k hp [38, 103, 116, 59] (by rw [byte_eq (n := 62) (by decide) c]; rfl))
          clear c
          go_wp2_with fail
          go_roundg (s.size - (k + 1))
          case measure => have := hh.out.2; omega
          case rel => exact ⟨k + 1, _, rfl, by go_num, by omega, ⟨by rw [HC.out, hh.out.1]; rfl, rfl⟩, rfl⟩
        · have e38 : ((s[k].toNat : Int) == 38) = false := by rw [beq_eq_false_iff_ne]; omega
          have e60 : ((s[k].toNat : Int) == 60) = false := by rw [beq_eq_false_iff_ne]; omega
          have e62 : ((s[k].toNat : Int) == 62) = false := by rw [beq_eq_false_iff_ne]; omega
          have e34 : ((s[k].toNat : Int) == 34) = true := by rw [beq_iff_eq]; omega
          have e39 : ((s[k].toNat : Int) == 39) = false := by rw [beq_eq_false_iff_ne]; omega
          have e9 : ((s[k].toNat : Int) == 9) = false := by rw [beq_eq_false_iff_ne]; omega
          have e10 : ((s[k].toNat : Int) == 10) = false := by rw [beq_eq_false_iff_ne]; omega
          have e13 : ((s[k].toNat : Int) == 13) = false := by rw [beq_eq_false_iff_ne]; omega
          have HC := Lib.hid (esc_one s k hp [38, 113, 117, 111, 116, 59] (by rw [byte_eq (n := 34) (by decide) c]; rfl))
          clear c
          go_wp2_with fail
          go_roundg (s.size - (k + 1))
          case measure => have := hh.out.2; omega
          case rel => exact ⟨k + 1, _, rfl, by go_num, by omega, ⟨by rw [HC.out, hh.out.1]; rfl, rfl⟩, rfl⟩
        · have e38 : ((s[k].toNat : Int) == 38) = false := by rw [beq_eq_false_iff_ne]; omega
          have e60 : ((s[k].toNat : Int) == 60) = false := by rw [beq_eq_false_iff_ne]; omega
          have e62 : ((s[k].toNat : Int) == 62) = false := by rw [beq_eq_false_iff_ne]; omega
          have e34 : ((s[k].toNat : Int) == 34) = false := by rw [beq_eq_false_iff_ne]; omega
          have e39 : ((s[k].toNat : Int) == 39) = true := by rw [beq_iff_eq]; omega
          have e9 : ((s[k].toNat : Int) == 9) = false := by rw [beq_eq_false_iff_ne]; omega
          have e10 : ((s[k].toNat : Int) == 10) = false := by rw [beq_eq_false_iff_ne]; omega
          have e13 : ((s[k].toNat : Int) == 13) = false := by rw [beq_eq_false_iff_ne]; omega
          have HC := Lib.hid (esc_one s k hp [38, 97, 112, 111, 115, 59] (by rw [byte_eq (n := 39) (by decide) c]; rfl))
          clear c
          go_wp2_with fail
          go_roundg (s.size - (k + 1))
          case measure => have := hh.out.2; omega
          case rel => exact ⟨k + 1, _, rfl, by go_num, by omega, ⟨by rw [HC.out, hh.out.1]; rfl, rfl⟩, rfl⟩
        · have e38 : ((s[k].toNat : Int) == 38) = false := by rw [beq_eq_false_iff_ne]; omega
          have e60 : ((s[k].toNat : Int) == 60) = false := by rw [beq_eq_false_iff_ne]; omega
          have e62 : ((s[k].toNat : Int) == 62) = false := by rw [beq_eq_false_iff_ne]; omega
          have e34 : ((s[k].toNat : Int) == 34) = false := by rw [beq_eq_false_iff_ne]; omega
          have e39 : ((s[k].toNat : Int) == 39) = false := by rw [beq_eq_false_iff_ne]; omega
          have e9 : ((s[k].toNat : Int) == 9) = true := by rw [beq_iff_eq]; omega
          have e10 : ((s[k].toNat : Int) == 10) = false := by rw [beq_eq_false_iff_ne]; omega
          have e13 : ((s[k].toNat : Int) == 13) = false := by rw [beq_eq_false_iff_ne]; omega
          have HC := Lib.hid (esc_one s k hp [38, 35, 57, 59] (by rw [byte_eq (n := 9) (by decide) c]; rfl))
          clear c
          go_wp2_with fail
          go_roundg (s.size - (k + 1))
          case measure => have := hh.out.2; omega
          case rel => exact ⟨k + 1, _, rfl, by go_num, by omega, ⟨by rw [HC.out, hh.out.1]; rfl, rfl⟩, rfl⟩
        · have e38 : ((s[k].toNat : Int) == 38) = false := by rw [beq_eq_false_iff_ne]; omega
          have e60 : ((s[k].toNat : Int) == 60) = false := by rw [beq_eq_false_iff_ne]; omega
          have e62 : ((s[k].toNat : Int) == 62) = false := by rw [beq_eq_false_iff_ne]; omega
          have e34 : ((s[k].toNat : Int) == 34) = false := by rw [beq_eq_false_iff_ne]; omega
          have e39 : ((s[k].toNat : Int) == 39) = false := by rw [beq_eq_false_iff_ne]; omega
          have e9 : ((s[k].toNat : Int) == 9) = false := by rw [beq_eq_false_iff_ne]; omega
          have e10 : ((s[k].toNat : Int) == 10) = true := by rw [beq_iff_eq]; omega
          have e13 : ((s[k].toNat : Int) == 13) = false := by rw [beq_eq_false_iff_ne]; omega
          have HC := Lib.hid (esc_one s k hp [38, 35, 49, 48, 59] (by rw [byte_eq (n := 10) (by decide) c]; rfl))
          clear c
          go_wp2_with fail
          go_roundg (s.size - (k + 1))
          case measure => have := hh.out.2; omega
          case rel => exact ⟨k + 1, _, rfl, by go_num, by omega, ⟨by rw [HC.out, hh.out.1]; rfl, rfl⟩, rfl⟩
        · have e38 : ((s[k].toNat : Int) == 38) = false := by rw [beq_eq_false_iff_ne]; omega
          have e60 : ((s[k].toNat : Int) == 60) = false := by rw [beq_eq_false_iff_ne]; omega
          have e62 : ((s[k].toNat : Int) == 62) = false := by rw [beq_eq_false_iff_ne]; omega
          have e34 : ((s[k].toNat : Int) == 34) = false := by rw [beq_eq_false_iff_ne]; omega
          have e39 : ((s[k].toNat : Int) == 39) = false := by rw [beq_eq_false_iff_ne]; omega
          have e9 : ((s[k].toNat : Int) == 9) = false := by rw [beq_eq_false_iff_ne]; omega
          have e10 : ((s[k].toNat : Int) == 10) = false := by rw [beq_eq_false_iff_ne]; omega
          have e13 : ((s[k].toNat : Int) == 13) = true := by rw [beq_iff_eq]; omega
          have HC := Lib.hid (esc_one s k hp [38, 35, 49, 51, 59] (by rw [byte_eq (n := 13) (by decide) c]; rfl))
          clear c
          go_wp2_with fail
          go_roundg (s.size - (k + 1))
          case measure => have := hh.out.2; omega
          case rel => exact ⟨k + 1, _, rfl, by go_num, by omega, ⟨by rw [HC.out, hh.out.1]; rfl, rfl⟩, rfl⟩
        · have e38 : ((s[k].toNat : Int) == 38) = false := by rw [beq_eq_false_iff_ne]; omega
          have e60 : ((s[k].toNat : Int) == 60) = false := by rw [beq_eq_false_iff_ne]; omega
          have e62 : ((s[k].toNat : Int) == 62) = false := by rw [beq_eq_false_iff_ne]; omega
          have e34 : ((s[k].toNat : Int) == 34) = false := by rw [beq_eq_false_iff_ne]; omega
          have e39 : ((s[k].toNat : Int) == 39) = false := by rw [beq_eq_false_iff_ne]; omega
          have e9 : ((s[k].toNat : Int) == 9) = false := by rw [beq_eq_false_iff_ne]; omega
          have e10 : ((s[k].toNat : Int) == 10) = false := by rw [beq_eq_false_iff_ne]; omega
          have e13 : ((s[k].toNat : Int) == 13) = false := by rw [beq_eq_false_iff_ne]; omega
          have HC := Lib.hid (esc_one s k hp _ (escB_same _ c))
          have HE := Lib.hid (ext_one s k hp)
          clear c
          go_wp2_with fail
          go_roundg (s.size - (k + 1))
          case measure => have := hh.out.2; omega
          case rel => exact ⟨k + 1, _, rfl, by go_num, by omega, ⟨by rw [HC.out, hh.out.1, ← HE.out], rfl⟩, rfl⟩
      · have L3 := Lib.hid (show escT s = o by rw [L1.out, hh.out.1, List.take_of_length_le (by rw [size_list]; omega)])
        go_wp2_with fail
        go_ret2
        exact ⟨by (rw [L3.out, L2.out]) <;> rfl, rfl⟩
end Go.Proofs.Ythcpgbbmgabpnaa
