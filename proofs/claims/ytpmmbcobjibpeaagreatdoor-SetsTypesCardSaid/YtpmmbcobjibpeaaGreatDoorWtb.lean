
import Derived.Test.YtpmmbcobjibpeaaGreatDoorOpn
import Derived.Test.YtpmmbcobjibpeaaGreatDoorUni
import Derived.Test.YtpmmbcobjibpeaaGreatDoorOwn
import Derived.Test.YtpmmbcobjibpeaaGreatDoorShg
import Derived.Test.YtpmmbcobjibpeaaGreatDoorWdd
namespace Go.Proofs.YtpmmbcobjibpeaaGreatDoor
set_option linter.unusedSimpArgs false
set_option linter.unusedVariables false
open Go.RowKit

/-! Numbers as decimal digits; the library's table. -/
def dgt (n k : Nat) : UInt8 := UInt8.ofNat (48 + n / k % 10)
theorem dgt_up (n k : Nat) : dgt (n / 10) k = dgt n (10 * k) := by unfold dgt; rw [Nat.div_div_eq_div_mul]
theorem dec1 (n : Nat) (h : n < 10) : Lib.decDigits n = [dgt n 1] := by rw [Lib.decDigits, dif_pos h]; simp [dgt, Nat.mod_eq_of_lt h]
theorem decS (n : Nat) (h : 10 ≤ n) : Lib.decDigits n = Lib.decDigits (n / 10) ++ [dgt n 1] := by rw [Lib.decDigits, dif_neg (by omega)]; simp [dgt]
theorem dec_len_le (k : Nat) : ∀ n, n < 10 ^ (k + 1) → (Lib.decDigits n).length ≤ k + 1 := by
  induction k with
  | zero => intro n h; rw [dec1 n (by simpa using h)]; simp
  | succ k ih =>
    intro n h
    by_cases h1 : n < 10
    · rw [dec1 n h1]; simp
    · rw [decS n (by omega), List.length_append]
      have := ih (n / 10) (by rw [Nat.div_lt_iff_lt_mul (by omega)]; rw [Nat.pow_succ] at h; exact h)
      simp; omega
theorem dec_pos (n : Nat) : 1 ≤ (Lib.decDigits n).length := by
  by_cases h1 : n < 10
  · rw [dec1 n h1]; simp
  · rw [decS n (by omega)]; simp
def padL (k n : Nat) : List UInt8 := Lib.repeatL [48] (k - (Lib.decDigits n).length) ++ Lib.decDigits n

/-- The table of the powers of ten, as the library lays it. -/
def Tab (w : World) : Prop := Lib.TabIs Tryz.prog w "internal/strconv.uint64pow10" .u64 Lib.pow10Tab
theorem Tab.keep {w w' : World} (h : Tab w) (hb : Bel w w') : Tab w' := by
  obtain ⟨g, hg⟩ : ∃ g, Tryz.prog.globalNamed "internal/strconv.uint64pow10" = some g := ⟨(Tryz.prog.globalNamed "internal/strconv.uint64pow10").getD 0, by kernel_rfl⟩
  unfold Tab Lib.TabIs World.var? at h ⊢
  rw [hg] at h ⊢
  simp only [Option.bind_some] at h ⊢
  have hlt : g < w.heap.size := by
    rcases Nat.lt_or_ge g w.heap.size with h' | h'
    · exact h'
    · rw [Array.getElem?_eq_none h'] at h; cases h
  rw [Below.block hb g hlt]
  exact h
theorem itoa_n (n : Nat) (hn : n ≤ 9223372036854775807) (w : World) (ht : Tab w) : Calls Tryz.prog 109 #[.int .i64 n] w fun e w' => e = .returned (.string ⟨(Lib.decDigits n).toArray⟩) ∧ Bel w w' :=
  (Tryz.strconv_Itoa n (by omega) (by omega) w ht).mono fun e w' ⟨he, k, os, hw⟩ => by
    subst hw
    refine ⟨by rw [he]; simp [Lib.itoa], ?_⟩
    exact ⟨rfl, rfl, rfl, by simp [Go.«Sort».grow, World.drewN], fun i hi => by simp [Go.«Sort».grow, World.drewN, Array.getElem?_append_left hi]⟩
/-! Runs of a, numerals: values may have them. -/
def asn (n : Nat) : ByteArray := ⟨(List.replicate n 97).toArray⟩
def itn (n : Nat) : ByteArray := ⟨(Lib.decDigits n).toArray⟩
theorem rep_a (c : Nat) (hc : c ≤ 1000) (w : World) : Calls Tryz.prog 108 #[.string ⟨#[97]⟩, .int .i64 c] w fun e w' => e = .returned (.string (asn c)) ∧ Bel w w' :=
  (Tryz.strings_Repeat ⟨#[97]⟩ c w (by omega) (by simp [ByteArray.size]; omega)).mono fun e w' ⟨he, hw⟩ => ⟨by
    rw [he]
    have := Lib.repeatL_replicate 97 1 c
    simp only [Nat.mul_one, List.replicate_one] at this
    show _ = Ending.returned (.string (asn c))
    unfold asn
    rw [← this], hw⟩
theorem asn_size (n : Nat) : (asn n).size = n := by simp [asn, ByteArray.size]
theorem asn_succ (n : Nat) : asn n ++ ⟨#[97]⟩ = asn (n + 1) := by
  unfold asn
  refine ByteArray.ext (Array.toList_inj.1 ?_)
  rw [ByteArray.data_append, Array.toList_append]
  simp [List.replicate_succ']
theorem plain_good (s : ByteArray) (h : ∀ b ∈ s.data.toList, 32 ≤ b.toNat ∧ b.toNat < 128) : goodB s = true := by
  have key : ∀ f pos, badFrom s f pos = -1 := by
    intro f
    induction f with
    | zero => intro pos; rfl
    | succ f ih =>
      intro pos
      unfold badFrom
      by_cases hp : pos < s.size
      · rw [if_pos hp]
        have hb := h (s[pos]'hp) (by rw [Array.mem_toList_iff]; exact Array.getElem_mem _)
        have h0 : gOf s pos 0 = (s[pos]'hp).toNat := by
          unfold gOf
          rw [Nat.add_zero]
          show (s.data[pos]!).toNat = _
          rw [getElem!_pos s.data pos hp]
          rfl
        have hd : dec (gOf s pos) (s.size - pos) = (gOf s pos 0, 1) := by unfold dec; rw [if_pos (by omega)]
        have ho : okAt s pos = true := by
          unfold okAt
          rw [may_iff, hd]
          refine ⟨(sgn_iff _).2 (by simp only []; omega), fun e => ?_⟩
          simp only [] at e
          omega
        rw [if_pos ho]
        exact ih _
      · rw [if_neg hp]
  unfold goodB badV_C
  rw [key]
  rfl
theorem asn_ok (n : Nat) (h : n ≤ 256) : okw (asn n) = true := by
  unfold okw
  rw [plain_good, decide_eq_true (by rw [asn_size]; exact h)]
  · rfl
  · intro b hb
    simp only [asn, List.toArray_replicate, Array.toList_replicate, List.mem_replicate] at hb
    rw [hb.2]
    decide
theorem asn_fits (n : Nat) (h : n ≤ 1000) : Fits (asn n) := by unfold Fits; rw [asn_size]; omega
theorem asn_inj {n m : Nat} (h : asn n = asn m) : n = m := by rw [← asn_size n, h, asn_size]
theorem itn_size (n : Nat) : (itn n).size = (Lib.decDigits n).length := by simp [itn, ByteArray.size]
theorem dig_byte (n : Nat) : ∀ b ∈ Lib.decDigits n, 48 ≤ b.toNat ∧ b.toNat ≤ 57 := by
  induction n using Nat.strongRecOn with
  | ind n ih =>
    intro b hb
    have hx : ∀ m, 48 ≤ (dgt m 1).toNat ∧ (dgt m 1).toNat ≤ 57 := by
      intro m
      unfold dgt
      rw [UInt8.toNat_ofNat']
      have : m / 1 % 10 < 10 := Nat.mod_lt _ (by omega)
      omega
    by_cases h : n < 10
    · rw [dec1 n h, List.mem_singleton] at hb
      rw [hb]; exact hx n
    · rw [decS n (by omega), List.mem_append, List.mem_singleton] at hb
      rcases hb with hb | hb
      · exact ih (n / 10) (by omega) b hb
      · rw [hb]; exact hx n
theorem itn_ok (n : Nat) (h : n ≤ 9223372036854775807) : okw (itn n) = true := by
  unfold okw
  have hl := dec_len_le 18 n (by omega)
  rw [plain_good, decide_eq_true (by rw [itn_size]; omega)]
  · rfl
  · intro b hb
    have := dig_byte n b (by simpa [itn] using hb)
    omega
theorem itn_fits (n : Nat) (h : n ≤ 9223372036854775807) : Fits (itn n) := by
  unfold Fits
  rw [itn_size]
  have hl := dec_len_le 18 n (by omega)
  omega
theorem dig_inj : ∀ n m : Nat, Lib.decDigits n = Lib.decDigits m → n = m := by
  intro n
  induction n using Nat.strongRecOn with
  | ind n ih =>
    intro m h
    have hx : ∀ a b : Nat, dgt a 1 = dgt b 1 → a % 10 = b % 10 := by
      intro a b e
      have := congrArg UInt8.toNat e
      unfold dgt at this
      rw [UInt8.toNat_ofNat', UInt8.toNat_ofNat'] at this
      omega
    by_cases h1 : n < 10
    · by_cases h2 : m < 10
      · rw [dec1 n h1, dec1 m h2] at h
        have := hx n m (by simpa using h)
        omega
      · rw [dec1 n h1, decS m (by omega)] at h
        have hl := congrArg List.length h
        have := dec_pos (m / 10)
        rw [List.length_append] at hl
        simp only [List.length_cons, List.length_nil] at hl
        omega
    · by_cases h2 : m < 10
      · rw [dec1 m h2, decS n (by omega)] at h
        have hl := congrArg List.length h
        have := dec_pos (n / 10)
        rw [List.length_append] at hl
        simp only [List.length_cons, List.length_nil] at hl
        omega
      · rw [decS n (by omega), decS m (by omega)] at h
        have hh := List.append_inj' h rfl
        have e1 := ih (n / 10) (by omega) (m / 10) hh.1
        have e2 := hx n m (by simpa using hh.2)
        omega
theorem itn_inj {n m : Nat} (h : itn n = itn m) : n = m := by
  refine dig_inj n m ?_
  have := congrArg (fun x : ByteArray => x.data.toList) h
  simpa [itn] using this
/-- One numeral is not in a list. -/
theorem itn_hole (l : List ByteArray) : ∃ n, n ≤ l.length ∧ itn n ∉ l := by
  refine Classical.byContradiction fun hn => ?_
  have hall : ∀ i, i < l.length + 1 → itn i ∈ l := fun i hi => Classical.byContradiction fun h => hn ⟨i, by omega, h⟩
  have := hole itn (l.length + 1) l (fun i j _ _ e => itn_inj e) hall
  omega
end Go.Proofs.YtpmmbcobjibpeaaGreatDoor
