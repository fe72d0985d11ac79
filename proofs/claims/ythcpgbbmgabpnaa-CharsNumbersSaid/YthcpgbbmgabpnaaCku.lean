import Derived.Test.YthcpgbbmgabpnaaCkq
namespace Go.Proofs.Ythcpgbbmgabpnaa
set_option linter.unusedSimpArgs false
set_option linter.unusedVariables false
open Go.RowKit

/-! Chars: a sign by its number: the plain words. -/
structure Dig (b : Nat) (D : List UInt8) (v : Nat) : Prop where
  fold : ∀ acc, foldD b D acc = some (acc * b ^ D.length + v)
  all : ∀ c ∈ D, dvB c.toNat < b
theorem Dig.nil (b : Nat) : Dig b [] 0 := ⟨fun acc => by simp [foldD], fun c h => by simp at h⟩
theorem Dig.cons {b : Nat} {D : List UInt8} {v : Nat} (h : Dig b D v) (c : UInt8) (d : Nat) (hc : dvB c.toNat = d) (hd : d < b) : Dig b (c :: D) (d * b ^ D.length + v) := by
  refine ⟨fun acc => ?_, fun x hx => ?_⟩
  · show (if dvB c.toNat < b then foldD b D (acc * b + dvB c.toNat) else none) = _
    rw [hc, if_pos hd, h.fold, List.length_cons, Nat.pow_succ]
    congr 1
    rw [Nat.add_mul, Nat.mul_assoc, Nat.mul_comm b, Nat.add_assoc]
  · rcases List.mem_cons.1 hx with rfl | hx
    · rw [hc]; exact hd
    · exact h.all x hx
/-- The digits so far: k is x, then v. -/
def SoFar (b k x : Nat) (D : List UInt8) : Prop := ∃ v, Dig b D v ∧ k = x * b ^ D.length + v ∧ D.length ≤ 7
theorem SoFar.start (b k : Nat) : SoFar b k k [] := ⟨0, Dig.nil b, by simp, by simp⟩
theorem SoFar.step {b k x : Nat} {D : List UInt8} (h : SoFar b k x D) (hb : b = 10 ∨ b = 16) (hk : k < 1179648) (hx : D = [] ∨ 0 < x) (c : UInt8) (hc : dvB c.toNat = x % b) : SoFar b k (x / b) (c :: D) := by
  obtain ⟨v, hd, he, hl⟩ := h
  have hb0 : 0 < b := by omega
  refine ⟨x % b * b ^ D.length + v, hd.cons c _ hc (Nat.mod_lt _ hb0), ?_, ?_⟩
  · rw [he, List.length_cons, Nat.pow_succ, Nat.mul_comm (b ^ D.length) b, ← Nat.mul_assoc, ← Nat.add_assoc, ← Nat.add_mul]
    congr 2
    have := Nat.div_add_mod x b
    rw [Nat.mul_comm] at this
    exact this.symm
  · rw [List.length_cons]
    rcases hx with rfl | hx
    · simp
    · have h1 : b ^ D.length ≤ k := by
        have : 1 * b ^ D.length ≤ x * b ^ D.length := Nat.mul_le_mul_right _ hx
        omega
      rcases Nat.lt_or_ge D.length 7 with h | h
      · omega
      · have h2 : 10 ^ 7 ≤ b ^ D.length := Nat.le_trans (Nat.pow_le_pow_left (by omega) 7) (Nat.pow_le_pow_right hb0 h)
        omega
theorem SoFar.done {b k : Nat} {D : List UInt8} (h : SoFar b k 0 D) (hD : D ≠ []) : numL b D = if sgn k = true then some k else none := by
  obtain ⟨v, hd, he, hl⟩ := h
  rw [numL_of _ _ (by rintro (h | h); exact hD h; omega), hd.fold 0]
  have : 0 * b ^ D.length + v = k := by omega
  rw [this]
theorem nm_of : ∀ l : List UInt8, (∀ c ∈ l, c ≠ 59) → ∀ t, nmL (l ++ 59 :: t) = l
  | [], _, t => rfl
  | c :: l, h, t => by
    unfold nmL
    rw [List.cons_append, List.takeWhile_cons, if_pos (by simpa using h c (by simp))]
    exact congrArg (c :: ·) (nm_of l (fun x hx => h x (by simp [hx])) t)
theorem dig_ne {b : Nat} (hb : b ≤ 16) {c : UInt8} (h : dvB c.toNat < b) : c ≠ 59 ∧ c ≠ 120 := by
  refine ⟨fun e => ?_, fun e => ?_⟩
  · rw [e] at h
    have : dvB (59 : UInt8).toNat = 99 := rfl
    omega
  · rw [e] at h
    have : dvB (120 : UInt8).toNat = 99 := rfl
    omega
theorem num_text (nm : List UInt8) (h : ∀ c ∈ nm, c ≠ 59) : unS (bytesOf (38 :: (nm ++ [59]))) = match entL nm with
    | some r => (Lib.encodeRune (r : Int), 0, 0)
    | none => ([], 0, 7) := by
  unfold unS
  rw [bytesOf_size, List.length_cons]
  show unL ((nm ++ [59]).length + 1) 0 (38 :: (nm ++ 59 :: [])) [] = _
  cases he : entL nm with
  | some r =>
    rw [un_ref _ _ r nm [] [] (nm_of nm h []) he, un_end]
    rfl
  | none => rw [un_amp, nm_of nm h [], he]
theorem text_dec {k : Nat} {D : List UInt8} (h : SoFar 10 k 0 D) (hD : D ≠ []) : unS (bytesOf (38 :: 35 :: (D ++ [59]))) = if sgn k = true then (Lib.encodeRune (k : Int), 0, 0) else ([], 0, 7) := by
  have h1 := h.done hD
  obtain ⟨v, hd, _, _⟩ := h
  have h2 := num_text (35 :: D) (fun c hc => by
    rcases List.mem_cons.1 hc with rfl | hc
    · decide
    · exact (dig_ne (by omega) (hd.all c hc)).1)
  rw [List.cons_append] at h2
  rw [h2]
  match D, hD with
  | c :: D', _ =>
    rw [ent_dec c D' (dig_ne (by omega) (hd.all c (by simp))).2, h1]
    by_cases hs : sgn k = true
    · rw [if_pos hs, if_pos hs]
    · rw [if_neg hs, if_neg hs]
theorem text_hex {k : Nat} {D : List UInt8} (h : SoFar 16 k 0 D) (hD : D ≠ []) : unS (bytesOf (38 :: 35 :: 120 :: (D ++ [59]))) = if sgn k = true then (Lib.encodeRune (k : Int), 0, 0) else ([], 0, 7) := by
  have h1 := h.done hD
  obtain ⟨v, hd, _, _⟩ := h
  have h2 := num_text (35 :: 120 :: D) (fun c hc => by
    rcases List.mem_cons.1 hc with rfl | hc
    · decide
    · rcases List.mem_cons.1 hc with rfl | hc
      · decide
      · exact (dig_ne (by omega) (hd.all c hc)).1)
  rw [List.cons_append, List.cons_append] at h2
  rw [h2, ent_hex, h1]
  by_cases hs : sgn k = true
  · rw [if_pos hs, if_pos hs]
  · rw [if_neg hs, if_neg hs]
/-- A sign that may stand, as bytes: they are that sign. -/
theorem enc_good (k : Nat) (h : sgn k = true) : goodB (bytesOf (Lib.encodeRune (k : Int))) = true ∧ Lib.encodeRune (k : Int) ≠ [] := by
  obtain ⟨l, hl⟩ : ∃ l, l = Lib.encodeRune (k : Int) := ⟨_, rfl⟩
  have hlen := (Lib.runeCells_le (k : Int)).1
  rw [Lib.runeCells_length, ← hl] at hlen
  have hf : first (fun i => (l.getD i 0).toNat) l.length = (k, l.length) := by
    have hs := (sgn_iff k).1 h
    have hc : (k ≤ 127) ∨ (128 ≤ k ∧ k ≤ 2047) ∨ (2048 ≤ k ∧ k ≤ 65535) ∨ (65536 ≤ k ∧ k ≤ 1114111) := by omega
    have tb : ∀ z : Int, 0 ≤ z → z < 256 → (z.toNat.toUInt8).toNat = z.toNat := fun z h1 h2 => by
      show z.toNat % 256 = _
      omega
    rcases hc with hc | hc | hc | hc
    · have e : l = [(k : Int).toNat.toUInt8] := by rw [hl]; unfold Lib.encodeRune; rw [Lib.encodeRuneZ_one (by omega) (by omega)]; rfl
      have t0 := tb k (by omega) (by omega)
      simp only [Int.toNat_natCast] at t0 e
      rw [e]
      unfold first
      simp only [List.getD_cons_zero, List.length_singleton, t0]
      rw [if_pos (by omega), if_pos h]
    · have e : l = [(192 + (k : Int) / 64).toNat.toUInt8, (128 + (k : Int) % 64).toNat.toUInt8] := by rw [hl]; unfold Lib.encodeRune; rw [Lib.encodeRuneZ_two (by omega) (by omega)]; rfl
      have t0 := tb (192 + (k : Int) / 64) (by omega) (by omega)
      have t1 := tb (128 + (k : Int) % 64) (by omega) (by omega)
      rw [e]
      unfold first
      simp only [List.getD_cons_zero, List.getD_cons_succ, List.length_cons, List.length_nil, t0, t1]
      have e0 : ((192 + (k : Int) / 64).toNat - 192) * 64 + ((128 + (k : Int) % 64).toNat - 128) = k := by omega
      rw [e0]
      rw [if_neg (by omega), if_pos (by omega), if_pos ⟨by omega, by omega, by omega, by omega, h⟩]
    · have e : l = [(224 + (k : Int) / 4096).toNat.toUInt8, (128 + (k : Int) / 64 % 64).toNat.toUInt8, (128 + (k : Int) % 64).toNat.toUInt8] := by rw [hl]; unfold Lib.encodeRune; rw [Lib.encodeRuneZ_three (by omega)]; rfl
      have t0 := tb (224 + (k : Int) / 4096) (by omega) (by omega)
      have t1 := tb (128 + (k : Int) / 64 % 64) (by omega) (by omega)
      have t2 := tb (128 + (k : Int) % 64) (by omega) (by omega)
      rw [e]
      unfold first
      simp only [List.getD_cons_zero, List.getD_cons_succ, List.length_cons, List.length_nil, t0, t1, t2]
      have e0 : (((224 + (k : Int) / 4096).toNat - 224) * 64 + ((128 + (k : Int) / 64 % 64).toNat - 128)) * 64 + ((128 + (k : Int) % 64).toNat - 128) = k := by omega
      rw [e0]
      rw [if_neg (by omega), if_neg (by omega), if_pos (by omega), if_pos ⟨by omega, by omega, by omega, by omega, by omega, by omega, h⟩]
    · have e : l = [(240 + (k : Int) / 262144).toNat.toUInt8, (128 + (k : Int) / 4096 % 64).toNat.toUInt8, (128 + (k : Int) / 64 % 64).toNat.toUInt8, (128 + (k : Int) % 64).toNat.toUInt8] := by rw [hl]; unfold Lib.encodeRune; rw [Lib.encodeRuneZ_four (by omega) (by omega)]; rfl
      have t0 := tb (240 + (k : Int) / 262144) (by omega) (by omega)
      have t1 := tb (128 + (k : Int) / 4096 % 64) (by omega) (by omega)
      have t2 := tb (128 + (k : Int) / 64 % 64) (by omega) (by omega)
      have t3 := tb (128 + (k : Int) % 64) (by omega) (by omega)
      rw [e]
      unfold first
      simp only [List.getD_cons_zero, List.getD_cons_succ, List.length_cons, List.length_nil, t0, t1, t2, t3]
      have e0 : ((((240 + (k : Int) / 262144).toNat - 240) * 64 + ((128 + (k : Int) / 4096 % 64).toNat - 128)) * 64 + ((128 + (k : Int) / 64 % 64).toNat - 128)) * 64 + ((128 + (k : Int) % 64).toNat - 128) = k := by omega
      rw [e0]
      rw [if_neg (by omega), if_neg (by omega), if_neg (by omega), if_pos (by omega), if_pos ⟨by omega, by omega, by omega, by omega, by omega, by omega, by omega, by omega, h⟩]
  rw [← hl]
  have hne : l ≠ [] := fun e => by rw [e] at hlen; simp at hlen
  refine ⟨?_, hne⟩
  have h3 := first_is (fun i => (l.getD i 0).toNat) l.length (fun i => (l.getD i 0).toNat_lt) (by omega)
  rw [hf] at h3
  have hk : okL l = true ∧ wL l = l.length := by
    by_cases hm : may (fun i => (l.getD i 0).toNat) l.length = true
    · rw [if_pos hm] at h3
      exact ⟨hm, congrArg Prod.snd h3⟩
    · rw [if_neg hm] at h3
      have : 0 = l.length := congrArg Prod.snd h3
      omega
  have hb : badV (bytesOf l) = -1 := by
    unfold badV
    rw [bytesOf_size]
    obtain ⟨n, hn⟩ : ∃ n, l.length = n + 1 := ⟨l.length - 1, by omega⟩
    rw [hn, badFrom, if_pos (by rw [bytesOf_size]; omega)]
    have e1 : okAt (bytesOf l) 0 = true := by rw [okAt_L]; exact hk.1
    have e2 : wdAt (bytesOf l) 0 = n + 1 := by
      rw [wdAt_L, ← hn]
      exact hk.2
    rw [if_pos e1, e2]
    cases n with
    | zero => rfl
    | succ n => rw [badFrom, if_neg (by rw [bytesOf_size]; omega)]
  unfold goodB
  rw [hb]
  rfl
theorem enc_utf (k : Nat) (h : sgn k = true) : Utf8.encode (k : Int) = bytesOf (Lib.encodeRune (k : Int)) := by
  have hs := (sgn_iff k).1 h
  have hv : Utf8.valid (k : Int) = true := by
    unfold Utf8.valid
    simp only [Bool.or_eq_true, Bool.and_eq_true, decide_eq_true_eq]
    omega
  have hc : (k ≤ 127) ∨ (128 ≤ k ∧ k ≤ 2047) ∨ (2048 ≤ k ∧ k ≤ 65535) ∨ (65536 ≤ k ∧ k ≤ 1114111) := by omega
  have tb : ∀ (z : Int) (n : Nat), z = n → z.toNat.toUInt8 = UInt8.ofNat n := fun z n e => by subst e; rfl
  unfold Utf8.encode
  simp only [hv, if_true, Int.toNat_natCast]
  unfold Lib.encodeRune bytesOf
  rcases hc with hc | hc | hc | hc
  · rw [if_pos (by omega), Lib.encodeRuneZ_one (by omega) (by omega)]
    simp only [List.map_cons, List.map_nil]
    rw [tb _ k rfl]
  · rw [if_neg (by omega), if_pos (by omega), Lib.encodeRuneZ_two (by omega) (by omega)]
    simp only [List.map_cons, List.map_nil]
    rw [tb _ (192 + k / 64) (by omega), tb _ (128 + k % 64) (by omega)]
  · rw [if_neg (by omega), if_neg (by omega), if_pos (by omega), Lib.encodeRuneZ_three (by omega)]
    simp only [List.map_cons, List.map_nil]
    rw [tb _ (224 + k / 4096) (by omega), tb _ (128 + k / 64 % 64) (by omega), tb _ (128 + k % 64) (by omega)]
  · rw [if_neg (by omega), if_neg (by omega), if_neg (by omega), Lib.encodeRuneZ_four (by omega) (by omega)]
    simp only [List.map_cons, List.map_nil]
    rw [tb _ (240 + k / 262144) (by omega), tb _ (128 + k / 4096 % 64) (by omega), tb _ (128 + k / 64 % 64) (by omega), tb _ (128 + k % 64) (by omega)]
end Go.Proofs.Ythcpgbbmgabpnaa
