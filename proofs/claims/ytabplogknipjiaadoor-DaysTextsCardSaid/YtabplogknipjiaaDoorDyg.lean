import Derived.Test.YtabplogknipjiaaDoorDyf
import Derived.Test.YtabplogknipjiaaDoorShelf
namespace Go.Proofs.YtabplogknipjiaaDoor
set_option linter.unusedSimpArgs false
set_option linter.unusedVariables false
open Go.RowKit

/-! Days: the texts. -/
def dgt (n k : Nat) : UInt8 := UInt8.ofNat (48 + n / k % 10)
def pad4 (n : Nat) : List UInt8 := [dgt n 1000, dgt n 100, dgt n 10, dgt n 1]
def pad2 (n : Nat) : List UInt8 := [dgt n 10, dgt n 1]
theorem dgt_up (n k : Nat) : dgt (n / 10) k = dgt n (10 * k) := by unfold dgt; rw [Nat.div_div_eq_div_mul]
theorem dgt_0 (n k : Nat) (h : n < k) : dgt n k = 48 := by unfold dgt; rw [Nat.div_eq_of_lt h]; rfl
theorem dec1 (n : Nat) (h : n < 10) : Lib.decDigits n = [dgt n 1] := by rw [Lib.decDigits, dif_pos h]; simp [dgt, Nat.mod_eq_of_lt h]
theorem decS (n : Nat) (h : 10 ≤ n) : Lib.decDigits n = Lib.decDigits (n / 10) ++ [dgt n 1] := by rw [Lib.decDigits, dif_neg (by omega)]; simp [dgt]
theorem dec2 (n : Nat) (h1 : 10 ≤ n) (h : n < 100) : Lib.decDigits n = [dgt n 10, dgt n 1] := by rw [decS n h1, dec1 _ (by omega), dgt_up]; rfl
theorem dec3 (n : Nat) (h1 : 100 ≤ n) (h : n < 1000) : Lib.decDigits n = [dgt n 100, dgt n 10, dgt n 1] := by rw [decS n (by omega), dec2 _ (by omega) (by omega), dgt_up, dgt_up]; rfl
theorem dec4 (n : Nat) (h1 : 1000 ≤ n) (h : n < 10000) : Lib.decDigits n = [dgt n 1000, dgt n 100, dgt n 10, dgt n 1] := by rw [decS n (by omega), dec3 _ (by omega) (by omega), dgt_up, dgt_up, dgt_up]; rfl
def padL (k n : Nat) : List UInt8 := Lib.repeatL [48] (k - (Lib.decDigits n).length) ++ Lib.decDigits n
theorem padL_2 (n : Nat) (h : n < 100) : padL 2 n = pad2 n := by
  unfold padL pad2
  by_cases h1 : n < 10
  · rw [dec1 n h1, dgt_0 n 10 h1]; rfl
  · rw [dec2 n (by omega) h]; rfl
theorem padL_4 (n : Nat) (h : n < 10000) : padL 4 n = pad4 n := by
  unfold padL pad4
  by_cases h1 : n < 10
  · rw [dec1 n h1, dgt_0 n 10 h1, dgt_0 n 100 (by omega), dgt_0 n 1000 (by omega)]; rfl
  · by_cases h2 : n < 100
    · rw [dec2 n (by omega) h2, dgt_0 n 100 (by omega), dgt_0 n 1000 (by omega)]; rfl
    · by_cases h3 : n < 1000
      · rw [dec3 n (by omega) h3, dgt_0 n 1000 (by omega)]; rfl
      · rw [dec4 n (by omega) h]; rfl
theorem dec_len (n : Nat) (h : n < 10000) : 1 ≤ (Lib.decDigits n).length ∧ (Lib.decDigits n).length ≤ 4 ∧ (n < 100 → (Lib.decDigits n).length ≤ 2) := by
  by_cases h1 : n < 10
  · rw [dec1 n h1]; simp
  · by_cases h2 : n < 100
    · rw [dec2 n (by omega) h2]; simp
    · by_cases h3 : n < 1000
      · rw [dec3 n (by omega) h3]; simp; omega
      · rw [dec4 n (by omega) h]; simp; omega

/-- The table of the powers of ten, as the library lays it. -/
def Tab (w : World) : Prop := Lib.TabIs Tryd.prog w "internal/strconv.uint64pow10" .u64 Lib.pow10Tab
theorem Tab.keep {w w' : World} (h : Tab w) (hb : Bel w w') : Tab w' := by
  obtain ⟨g, hg⟩ : ∃ g, Tryd.prog.globalNamed "internal/strconv.uint64pow10" = some g := ⟨(Tryd.prog.globalNamed "internal/strconv.uint64pow10").getD 0, by kernel_rfl⟩
  unfold Tab Lib.TabIs World.var? at h ⊢
  rw [hg] at h ⊢
  simp only [Option.bind_some] at h ⊢
  have hlt : g < w.heap.size := by
    rcases Nat.lt_or_ge g w.heap.size with h' | h'
    · exact h'
    · rw [Array.getElem?_eq_none h'] at h; cases h
  rw [Below.block hb g hlt]
  exact h

theorem itoa_t (n : Nat) (hn : n < 10000) (w : World) (ht : Tab w) : Calls Tryd.prog 29 #[.int .i64 n] w fun e w' => e = .returned (.string ⟨(Lib.decDigits n).toArray⟩) ∧ Bel w w' :=
  (Tryd.strconv_Itoa n (by omega) (by omega) w ht).mono fun e w' ⟨he, k, os, hw⟩ => by
    subst hw
    refine ⟨by rw [he]; simp [Lib.itoa], ?_⟩
    exact ⟨rfl, rfl, rfl, by simp [Go.«Sort».grow, World.drewN], fun i hi => by simp [Go.«Sort».grow, World.drewN, Array.getElem?_append_left hi]⟩
theorem rep_t (c : Nat) (hc : c ≤ 4) (w : World) : Calls Tryd.prog 30 #[.string ⟨#[48]⟩, .int .i64 c] w fun e w' => e = .returned (.string ⟨(Lib.repeatL [48] c).toArray⟩) ∧ Bel w w' := by
  by_cases h0 : c = 0
  · subst h0
    exact (Tryd.strings_Repeat_zero _ w).mono fun e w' ⟨he, hw⟩ => ⟨he, by rw [hw]; exact Bel.refl _⟩
  · by_cases h1 : c = 1
    · subst h1
      exact (Tryd.strings_Repeat_one _ w).mono fun e w' ⟨he, hw⟩ => ⟨he, by rw [hw]; exact Bel.refl _⟩
    · exact (Tryd.strings_Repeat_main ⟨#[48]⟩ c w (by omega) (by omega) (by simp [ByteArray.size]; omega) (by decide)).mono fun e w' ⟨he, hw⟩ => ⟨he, hw⟩

theorem app_bytes (a b : List UInt8) : (⟨a.toArray⟩ : ByteArray) ++ ⟨b.toArray⟩ = ⟨(a ++ b).toArray⟩ := by
  exact ByteArray.ext (by simp [ByteArray.data_append])
theorem padded_t (n k : Nat) (hn : n < 10000) (hk : (Lib.decDigits n).length ≤ k) (hk4 : k ≤ 4) (w : World) (ht : Tab w) : Calls Tryd.prog 24 #[.int .i64 n, .int .i64 k] w fun e w' =>
    e = .returned (.string ⟨(padL k n).toArray⟩) ∧ Bel w w' := by
  have hl : Hid (padL k n = Lib.repeatL [48] (k - (Lib.decDigits n).length) ++ Lib.decDigits n) := rfl
  obtain ⟨c, hc⟩ : ∃ c : Nat, (k : Int) - ((Lib.decDigits n).length : Int) = c := ⟨k - (Lib.decDigits n).length, by omega⟩
  have hcn : c = k - (Lib.decDigits n).length := by omega
  have hc4 : c ≤ 4 := by omega
  have Hcn := Lib.hid hcn
  clear hcn
  have hs1 := Lib.repeatL_length [48] c
  have hs2 := dec_len n hn
  have hs : ¬ 9223372036854775807 < (Lib.repeatL [48] c).length + (Lib.decDigits n).length := by simp at hs1; omega
  clear hs1 hs2
  go_enter Tryd.func24, Tryd.ntmps24
  go_wp2_with (first
    | (go_at_call 29; refine (itoa_t n hn _ ht).mono ?_; rintro e w1 ⟨rfl, hb1⟩)
    | (go_at_call 30; refine (rep_t c hc4 _).mono ?_; rintro e w2 ⟨rfl, hb2⟩))
  go_ret
  exact ⟨by rw [app_bytes, hl.out, ← Hcn.out]; rfl, hb1.trans hb2⟩
end Go.Proofs.YtabplogknipjiaaDoor
