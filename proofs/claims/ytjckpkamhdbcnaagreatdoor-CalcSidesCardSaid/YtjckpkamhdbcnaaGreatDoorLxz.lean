import Derived.Test.YtjckpkamhdbcnaaGreatDoorLxb
namespace Go.Proofs.YtjckpkamhdbcnaaGreatDoor
set_option linter.unusedSimpArgs false
set_option linter.unusedVariables false
open Go.RowKit
/-! Words of the lower layers that the lexer's texts want besides. -/
def below (f : Nat → Nat) (k : Nat) : Nat → Nat := fun i => if i < k then f i else 0
theorem numL_bd' (l : List UInt8) (h : dOk l = true) : numL l < 10 ^ l.length := by
 have := fold_bd l 0 h
 unfold numL
 omega
theorem ext_end (s : ByteArray) (a : Nat) : (s.extract a s.size).data.toList = s.data.toList.drop a := by
 rw [Lib.extract_data, List.take_of_length_le]
 rw [List.length_drop, Array.length_toList]
 exact Nat.le_refl _
def accF (r0 : Nat) (g : Nat → Nat) : Nat → Nat
 | 0 => r0
 | k + 1 => accF r0 g k * 64 + (g (k + 1) - 0x80)
def conts (g : Nat → Nat) (k : Nat) : Prop := ∀ i, 1 ≤ i → i ≤ k → 0x80 ≤ g i ∧ g i < 0xC0
instance (g : Nat → Nat) (k : Nat) : Decidable (conts g k) := by
 have : conts g k ↔ ∀ i, i < k → 0x80 ≤ g (i + 1) ∧ g (i + 1) < 0xC0 := by
  constructor
  ·intro h i hi; exact h (i + 1) (by omega) (by omega)
  ·intro h i h1 h2
   have := h (i - 1) (by omega)
   rwa [show i - 1 + 1 = i by omega] at this
 exact decidable_of_iff _ this.symm
/-- What comes out of so many bytes. -/
def firstT (r0 n least : Nat) (g : Nat → Nat) (m : Nat) : Nat × Nat :=
 if n ≤ m ∧ conts g (n - 1) ∧ least ≤ accF r0 g (n - 1) ∧ sgn_C (accF r0 g (n - 1)) = true then (accF r0 g (n - 1), n) else (0, 0)
theorem conts1 (g : Nat → Nat) : conts g 0 := fun i h1 h2 => by omega
theorem conts_s (g : Nat → Nat) (k : Nat) : conts g (k + 1) ↔ conts g k ∧ 0x80 ≤ g (k + 1) ∧ g (k + 1) < 0xC0 := by
 constructor
 ·intro h; exact ⟨fun i h1 h2 => h i h1 (by omega), h (k + 1) (by omega) (by omega)⟩
 ·rintro ⟨h, h'⟩ i h1 h2
  by_cases hi : i = k + 1
  ·subst hi; exact h'
  ·exact h i h1 (by omega)
theorem first_T (g : Nat → Nat) (m : Nat) (hm : 0 < m) : first g m = if g 0 < 0x80 then firstT (g 0) 1 0 g m else if 0xC0 ≤ g 0 ∧ g 0 < 0xE0 then firstT (g 0 - 0xC0) 2 0x80 g m
  else if 0xE0 ≤ g 0 ∧ g 0 < 0xF0 then firstT (g 0 - 0xE0) 3 0x800 g m else if 0xF0 ≤ g 0 ∧ g 0 < 0xF8 then firstT (g 0 - 0xF0) 4 0x10000 g m else (0, 0) := by
 unfold first firstT
 refine ite_ext Iff.rfl (fun _ => ite_ext ?_ (fun _ => rfl) fun _ => rfl) fun _ => ite_ext Iff.rfl (fun _ => ite_ext ?_ (fun _ => rfl) fun _ => rfl) fun _ => ite_ext Iff.rfl (fun _ => ite_ext ?_ (fun _ => rfl) fun _ => rfl) fun _ => ite_ext Iff.rfl (fun _ => ite_ext ?_ (fun _ => rfl) fun _ => rfl) fun _ => rfl
 ·exact ⟨fun h => ⟨hm, conts1 g, Nat.zero_le _, h⟩, fun h => h.2.2.2⟩
 ·rw [show (2 : Nat) - 1 = 0 + 1 from rfl, conts_s]
  exact ⟨fun ⟨a, b, c, d, e⟩ => ⟨a, ⟨conts1 g, b, c⟩, d, e⟩, fun ⟨a, ⟨_, b, c⟩, d, e⟩ => ⟨a, b, c, d, e⟩⟩
 ·rw [show (3 : Nat) - 1 = 0 + 1 + 1 from rfl, conts_s, conts_s]
  exact ⟨fun ⟨a, b, c, b', c', d, e⟩ => ⟨a, ⟨⟨conts1 g, b, c⟩, b', c'⟩, d, e⟩, fun ⟨a, ⟨⟨_, b, c⟩, b', c'⟩, d, e⟩ => ⟨a, b, c, b', c', d, e⟩⟩
 ·rw [show (4 : Nat) - 1 = 0 + 1 + 1 + 1 from rfl, conts_s, conts_s, conts_s]
  exact ⟨fun ⟨a, b, c, b', c', b'', c'', d, e⟩ => ⟨a, ⟨⟨⟨conts1 g, b, c⟩, b', c'⟩, b'', c''⟩, d, e⟩, fun ⟨a, ⟨⟨⟨_, b, c⟩, b', c'⟩, b'', c''⟩, d, e⟩ => ⟨a, b, c, b', c', b'', c'', d, e⟩⟩
theorem acc_bd (r0 : Nat) (g : Nat → Nat) (h : r0 ≤ 127) (hg : ∀ i, g i < 256) (k : Nat) (hk : k ≤ 3) : accF r0 g k ≤ 40000000 := by
 have st : ∀ j, accF r0 g (j + 1) ≤ accF r0 g j * 64 + 127 := fun j => by
  have := hg (j + 1)
  show accF r0 g j * 64 + (g (j + 1) - 0x80) ≤ _
  omega
 have s0 : accF r0 g 0 ≤ 127 := h
 have s1 : accF r0 g 1 ≤ accF r0 g 0 * 64 + 127 := st 0
 have s2 : accF r0 g 2 ≤ accF r0 g 1 * 64 + 127 := st 1
 have s3 : accF r0 g 3 ≤ accF r0 g 2 * 64 + 127 := st 2
 have hc : k = 0 ∨ k = 1 ∨ k = 2 ∨ k = 3 := by omega
 rcases hc with rfl | rfl | rfl | rfl <;> omega
theorem ext_size (s : ByteArray) (pos : Nat) : (s.extract pos s.size).size = s.size - pos := by simp [ByteArray.size_extract]
end Go.Proofs.YtjckpkamhdbcnaaGreatDoor
