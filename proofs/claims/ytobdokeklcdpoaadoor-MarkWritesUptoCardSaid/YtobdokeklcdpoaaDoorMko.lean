import Derived.Test.YtobdokeklcdpoaaDoorMkm
import Derived.Shelf.Strings.SlTrimAscii
import Derived.Deep.LoopGhost
namespace Go.Proofs.YtobdokeklcdpoaaDoor
set_option linter.unusedSimpArgs false
set_option linter.unusedVariables false
open Go.RowKit Go.Lib

/-! The reader's light methods: they turn the record alone. -/
theorem ext_pre (s : ByteArray) (p : Nat) (t : ByteArray) : Lib.hasPrefix (s.extract p s.size).data.toList t.data.toList = preB s p t := by
  rw [ext_end]; rfl
theorem nmByte_iff (c : UInt8) : nmByte c = true ↔ (c.toNat = 95 ∨ (97 ≤ c.toNat ∧ c.toNat ≤ 122) ∨ (65 ≤ c.toNat ∧ c.toNat ≤ 90) ∨ (48 ≤ c.toNat ∧ c.toNat ≤ 57)) := by
  unfold nmByte
  simp only [Bool.or_eq_true, Bool.and_eq_true, decide_eq_true_eq, beq_iff_eq]
  have : c = 95 ↔ c.toNat = 95 := by rw [← UInt8.toNat_inj]; exact Iff.rfl
  rw [this]
  omega
set_option maxRecDepth 100000 in
set_option maxHeartbeats 4000000 in
theorem nameByte_any (c : UInt8) (w : World) : Calls Tryd.prog 57 #[.int .u8 (c.toNat : Nat)] w fun e w' => e = .returned (.bool (nmByte c)) ∧ w' = w := by
  have hi := nmByte_iff c
  obtain ⟨b, hb⟩ : ∃ b, b = nmByte c := ⟨_, rfl⟩
  have hr := c.toNat_lt
  rw [← hb] at hi ⊢
  clear hb
  generalize c.toNat = r at *
  have hc : (r < 48) ∨ (48 ≤ r ∧ r ≤ 57) ∨ (57 < r ∧ r < 65) ∨ (65 ≤ r ∧ r ≤ 90) ∨ (90 < r ∧ r < 95) ∨ (r = 95) ∨ (95 < r ∧ r < 97) ∨ (97 ≤ r ∧ r ≤ 122) ∨ (122 < r) := by omega
  rcases hc with h | h | h | h | h | h | h | h | h
  · obtain rfl : b = false := by rw [Bool.eq_false_iff]; exact fun h' => by have := hi.1 h'; omega
    have e95 : ((r : Int) == 95) = false := by rw [beq_eq_false_iff_ne]; omega
    have g97 : decide ((97 : Int) ≤ r) = false := by exact decide_eq_false (by omega)
    have g65 : decide ((65 : Int) ≤ r) = false := by exact decide_eq_false (by omega)
    have g48 : decide ((48 : Int) ≤ r) = false := by exact decide_eq_false (by omega)
    have l122 : decide ((r : Int) ≤ 122) = true := by exact decide_eq_true (by omega)
    have l90 : decide ((r : Int) ≤ 90) = true := by exact decide_eq_true (by omega)
    have l57 : decide ((r : Int) ≤ 57) = true := by exact decide_eq_true (by omega)
    clear hi hr h
    go_enter Tryd.func57, Tryd.ntmps57
    go_wp2
    go_ret
    exact ⟨rfl, rfl⟩
  · obtain rfl : b = true := by rw [hi]; omega
    have e95 : ((r : Int) == 95) = false := by rw [beq_eq_false_iff_ne]; omega
    have g97 : decide ((97 : Int) ≤ r) = false := by exact decide_eq_false (by omega)
    have g65 : decide ((65 : Int) ≤ r) = false := by exact decide_eq_false (by omega)
    have g48 : decide ((48 : Int) ≤ r) = true := by exact decide_eq_true (by omega)
    have l122 : decide ((r : Int) ≤ 122) = true := by exact decide_eq_true (by omega)
    have l90 : decide ((r : Int) ≤ 90) = true := by exact decide_eq_true (by omega)
    have l57 : decide ((r : Int) ≤ 57) = true := by exact decide_eq_true (by omega)
    clear hi hr h
    go_enter Tryd.func57, Tryd.ntmps57
    go_wp2
    go_ret
    exact ⟨rfl, rfl⟩
  · obtain rfl : b = false := by rw [Bool.eq_false_iff]; exact fun h' => by have := hi.1 h'; omega
    have e95 : ((r : Int) == 95) = false := by rw [beq_eq_false_iff_ne]; omega
    have g97 : decide ((97 : Int) ≤ r) = false := by exact decide_eq_false (by omega)
    have g65 : decide ((65 : Int) ≤ r) = false := by exact decide_eq_false (by omega)
    have g48 : decide ((48 : Int) ≤ r) = true := by exact decide_eq_true (by omega)
    have l122 : decide ((r : Int) ≤ 122) = true := by exact decide_eq_true (by omega)
    have l90 : decide ((r : Int) ≤ 90) = true := by exact decide_eq_true (by omega)
    have l57 : decide ((r : Int) ≤ 57) = false := by exact decide_eq_false (by omega)
    clear hi hr h
    go_enter Tryd.func57, Tryd.ntmps57
    go_wp2
    go_ret
    exact ⟨rfl, rfl⟩
  · obtain rfl : b = true := by rw [hi]; omega
    have e95 : ((r : Int) == 95) = false := by rw [beq_eq_false_iff_ne]; omega
    have g97 : decide ((97 : Int) ≤ r) = false := by exact decide_eq_false (by omega)
    have g65 : decide ((65 : Int) ≤ r) = true := by exact decide_eq_true (by omega)
    have g48 : decide ((48 : Int) ≤ r) = true := by exact decide_eq_true (by omega)
    have l122 : decide ((r : Int) ≤ 122) = true := by exact decide_eq_true (by omega)
    have l90 : decide ((r : Int) ≤ 90) = true := by exact decide_eq_true (by omega)
    have l57 : decide ((r : Int) ≤ 57) = false := by exact decide_eq_false (by omega)
    clear hi hr h
    go_enter Tryd.func57, Tryd.ntmps57
    go_wp2
    go_ret
    exact ⟨rfl, rfl⟩
  · obtain rfl : b = false := by rw [Bool.eq_false_iff]; exact fun h' => by have := hi.1 h'; omega
    have e95 : ((r : Int) == 95) = false := by rw [beq_eq_false_iff_ne]; omega
    have g97 : decide ((97 : Int) ≤ r) = false := by exact decide_eq_false (by omega)
    have g65 : decide ((65 : Int) ≤ r) = true := by exact decide_eq_true (by omega)
    have g48 : decide ((48 : Int) ≤ r) = true := by exact decide_eq_true (by omega)
    have l122 : decide ((r : Int) ≤ 122) = true := by exact decide_eq_true (by omega)
    have l90 : decide ((r : Int) ≤ 90) = false := by exact decide_eq_false (by omega)
    have l57 : decide ((r : Int) ≤ 57) = false := by exact decide_eq_false (by omega)
    clear hi hr h
    go_enter Tryd.func57, Tryd.ntmps57
    go_wp2
    go_ret
    exact ⟨rfl, rfl⟩
  · obtain rfl : b = true := by rw [hi]; omega
    subst h
    clear hi hr
    go_enter Tryd.func57, Tryd.ntmps57
    go_wp2
    go_ret
    exact ⟨rfl, rfl⟩
  · obtain rfl : b = false := by rw [Bool.eq_false_iff]; exact fun h' => by have := hi.1 h'; omega
    have e95 : ((r : Int) == 95) = false := by rw [beq_eq_false_iff_ne]; omega
    have g97 : decide ((97 : Int) ≤ r) = false := by exact decide_eq_false (by omega)
    have g65 : decide ((65 : Int) ≤ r) = true := by exact decide_eq_true (by omega)
    have g48 : decide ((48 : Int) ≤ r) = true := by exact decide_eq_true (by omega)
    have l122 : decide ((r : Int) ≤ 122) = true := by exact decide_eq_true (by omega)
    have l90 : decide ((r : Int) ≤ 90) = false := by exact decide_eq_false (by omega)
    have l57 : decide ((r : Int) ≤ 57) = false := by exact decide_eq_false (by omega)
    clear hi hr h
    go_enter Tryd.func57, Tryd.ntmps57
    go_wp2
    go_ret
    exact ⟨rfl, rfl⟩
  · obtain rfl : b = true := by rw [hi]; omega
    have e95 : ((r : Int) == 95) = false := by rw [beq_eq_false_iff_ne]; omega
    have g97 : decide ((97 : Int) ≤ r) = true := by exact decide_eq_true (by omega)
    have g65 : decide ((65 : Int) ≤ r) = true := by exact decide_eq_true (by omega)
    have g48 : decide ((48 : Int) ≤ r) = true := by exact decide_eq_true (by omega)
    have l122 : decide ((r : Int) ≤ 122) = true := by exact decide_eq_true (by omega)
    have l90 : decide ((r : Int) ≤ 90) = false := by exact decide_eq_false (by omega)
    have l57 : decide ((r : Int) ≤ 57) = false := by exact decide_eq_false (by omega)
    clear hi hr h
    go_enter Tryd.func57, Tryd.ntmps57
    go_wp2
    go_ret
    exact ⟨rfl, rfl⟩
  · obtain rfl : b = false := by rw [Bool.eq_false_iff]; exact fun h' => by have := hi.1 h'; omega
    have e95 : ((r : Int) == 95) = false := by rw [beq_eq_false_iff_ne]; omega
    have g97 : decide ((97 : Int) ≤ r) = true := by exact decide_eq_true (by omega)
    have g65 : decide ((65 : Int) ≤ r) = true := by exact decide_eq_true (by omega)
    have g48 : decide ((48 : Int) ≤ r) = true := by exact decide_eq_true (by omega)
    have l122 : decide ((r : Int) ≤ 122) = false := by exact decide_eq_false (by omega)
    have l90 : decide ((r : Int) ≤ 90) = false := by exact decide_eq_false (by omega)
    have l57 : decide ((r : Int) ≤ 57) = false := by exact decide_eq_false (by omega)
    clear hi hr h
    go_enter Tryd.func57, Tryd.ntmps57
    go_wp2
    go_ret
    exact ⟨rfl, rfl⟩
section
variable {w : World} {B p : Nat} {s : ByteArray} {v : Value} {q e : Int}
set_option maxRecDepth 100000 in
theorem follows_any (h : Rec w B s p v q e) (hp : p ≤ s.size) (hs : s.size ≤ 65536) (t : ByteArray) :
    Calls Tryd.prog 28 #[.pointer (some ⟨B, 0, none⟩), .string t] w fun r w' => r = .returned (.bool (preB s p t)) ∧ Bel w w' := by
  obtain ⟨h0, ⟨a0, a1, a2, a3, a4⟩, ⟨f0, f1, f2, f3, f4⟩⟩ := h
  have hc : ∀ w, Calls Tryd.prog 40 #[.string (s.extract p s.size), .string t] w fun r w' => r = .returned (.bool (preB s p t)) ∧ Bel w w' := fun w =>
    (Tryd.strings_HasPrefix (s.extract p s.size) t w).mono fun e w' ⟨he, hw⟩ => ⟨by rw [he]; exact congrArg (fun b => Ending.returned (.bool b)) (ext_pre s p t), hw ▸ Bel.refl _⟩
  have C := Lib.hid hc
  have hpi : (p : Int) ≤ s.size := by omega
  have hsi : (s.size : Int) ≤ 65536 := by omega
  clear hc
  go_enter Tryd.func28, Tryd.ntmps28
  go_wp2
  refine wp_region_uni (S := (fun w' => Bel w w' ∧ (∀ b o, b < w.heap.size → w'.cell? ⟨b, o, none⟩ = w.cell? ⟨b, o, none⟩))) (by kernel_rfl) (by kernel_rfl) keep0 ?_
  repeat (first | (refine wpUni_skip (by rfl) ?_; (try simp only [Act.put, List.setIfInBounds_toArray, List.set_cons_zero, List.set_cons_succ]))
                                                            | (refine wpUni_value (by rfl) (fun w hS => by (try dsimp only at hS); go_simp; first | done | with_reducible rfl) ?_; (try simp only [Act.put, List.setIfInBounds_toArray, List.set_cons_zero, List.set_cons_succ]))
                                                            | (refine wpUni_call (f := 40) (by rfl) (fun w => by go_simp; first | done | with_reducible rfl) (fun w hS => (C.out w).mono fun e w' ⟨he, hb⟩ => ⟨he, keep1 hS hb⟩) ?_; (try simp only [Act.put, List.setIfInBounds_toArray, List.set_cons_zero, List.set_cons_succ])))
  refine wpUni_nil fun W1 hS => ?_
  have hb1 := hS.1
  clear hS
  go_wp2
  go_ret
  exact ⟨rfl, hb1⟩
set_option maxRecDepth 100000 in
theorem take_yes (h : Rec w B s p v q e) (hp : p ≤ s.size) (hs : s.size ≤ 65536) (t : ByteArray) (ht : t.size ≤ 100) (hy : preB s p t = true) :
    Calls Tryd.prog 41 #[.pointer (some ⟨B, 0, none⟩), .string t] w fun r w' => r = .returned (.bool true) ∧ (Rec w' B s (p + t.size) v q e ∧ BelBut w w' (some B)) := by
  have C := Lib.hid (follows_any h hp hs t)
  have H := Lib.hid h
  have w1 : IntKind.i64.wrap ((p : Int) + (t.size : Int)) = (p : Int) + (t.size : Int) := by rw [IntKind.wrap_i64]; omega
  rw [hy] at C
  clear h hy
  go_enter Tryd.func41, Tryd.ntmps41
  go_wp2_with (go_at_call 28; refine C.out.mono ?_; rintro r W1 ⟨rfl, hb1⟩; have R := H.out.keep hb1; have RR := Lib.hid R; obtain ⟨h0, ⟨a0, a1, a2, a3, a4⟩, ⟨f0, f1, f2, f3, f4⟩⟩ := R)
  go_ret
  exact ⟨rfl, RR.out.set1 _ _ (by omega), but_trans (bel_but hb1 _) (but_set _ _ _ _)⟩
set_option maxRecDepth 100000 in
theorem take_no (h : Rec w B s p v q e) (hp : p ≤ s.size) (hs : s.size ≤ 65536) (t : ByteArray) (hy : preB s p t = false) :
    Calls Tryd.prog 41 #[.pointer (some ⟨B, 0, none⟩), .string t] w fun r w' => r = .returned (.bool false) ∧ (Rec w' B s p v q e ∧ BelBut w w' (some B)) := by
  have C := Lib.hid (follows_any h hp hs t)
  have H := Lib.hid h
  rw [hy] at C
  clear h hy
  go_enter Tryd.func41, Tryd.ntmps41
  go_wp2_with (go_at_call 28; refine C.out.mono ?_; rintro r W1 ⟨rfl, hb1⟩)
  go_ret
  exact ⟨rfl, H.out.keep hb1, bel_but hb1 _⟩
set_option maxRecDepth 100000 in
theorem fail_any (h : Rec w B s p v q e) (x y : Int) :
    Calls Tryd.prog 43 #[.pointer (some ⟨B, 0, none⟩), .int .i64 x, .int .i64 y] w fun r w' => r = .returned (.bool false) ∧ (Rec w' B s p v x y ∧ BelBut w w' (some B)) := by
  have H := Lib.hid h
  obtain ⟨h0, ⟨a0, a1, a2, a3, a4⟩, ⟨f0, f1, f2, f3, f4⟩⟩ := h
  go_enter Tryd.func43, Tryd.ntmps43
  go_wp2
  go_ret
  exact ⟨rfl, H.out.set34 _ _, but_trans (but_set _ _ _ _) (but_set _ _ _ _)⟩
theorem bel_drewN (w : World) (n : Nat) : Bel w (w.drewN n) := ⟨rfl, rfl, rfl, Nat.le_refl _, fun _ _ => rfl⟩
theorem cut_call (hm : Mx w) (z t : ByteArray) (hz : z.size ≤ 65536) (ht : t.data.toList ≠ []) :
    (∀ a b, cutL t.data.toList z.data.toList = some (a, b) → Calls Tryd.prog 48 #[.string z, .string t] w fun r w' => r = .returned (.tuple #[.string (bytesOf a), .string (bytesOf b), .bool true]) ∧ Bel w w') ∧
    (cutL t.data.toList z.data.toList = none → Calls Tryd.prog 48 #[.string z, .string t] w fun r w' => r = .returned (.tuple #[.string z, .string ⟨#[]⟩, .bool false]) ∧ Bel w w') := by
  obtain ⟨m, hm⟩ := hm
  have hc := Tryd.strings_Cut z t m w (by omega) hm
  have hi := cut_is t.data.toList ht z.data.toList
  constructor
  · intro a b h
    rw [h] at hi
    rw [hi] at hc
    exact hc.mono fun r w' ⟨hr, n, hw⟩ => ⟨hr, hw ▸ bel_drewN w n⟩
  · intro h
    rw [h] at hi
    rw [hi] at hc
    exact hc.mono fun r w' ⟨hr, n, hw⟩ => ⟨by rw [hr] <;> rfl, hw ▸ bel_drewN w n⟩
set_option maxRecDepth 100000 in
theorem until_yes (h : Rec w B s p v q e) (hm : Mx w) (hp : p ≤ s.size) (hs : s.size ≤ 65536) (t : ByteArray) (ht : t.data.toList ≠ []) {a b : List UInt8} (hc : cutL t.data.toList (s.data.toList.drop p) = some (a, b)) :
    Calls Tryd.prog 42 #[.pointer (some ⟨B, 0, none⟩), .string t] w fun r w' => r = .returned (.tuple #[.string (bytesOf a), .bool true]) ∧ (Rec w' B s (p + (a.length + t.size)) v q e ∧ BelBut w w' (some B)) := by
  have hl := congrArg List.length (cutL_split ht hc)
  rw [List.length_append, List.length_append, List.length_drop, size_list, size_list] at hl
  have hsz : (bytesOf a).size = a.length := bytesOf_size a
  have C := Lib.hid ((cut_call (hm.keep (Bel.refl w).drew) (s.extract p s.size) t (by rw [ext_size]; omega) ht).1 a b (by rw [ext_end]; exact hc))
  have H := Lib.hid h
  obtain ⟨h0, ⟨a0, a1, a2, a3, a4⟩, ⟨f0, f1, f2, f3, f4⟩⟩ := h
  have hpi : (p : Int) ≤ s.size := by omega
  have hsi : (s.size : Int) ≤ 65536 := by omega
  have w1 : IntKind.i64.wrap ((a.length : Int) + (t.size : Int)) = (a.length : Int) + (t.size : Int) := by rw [IntKind.wrap_i64]; omega
  have w2 : IntKind.i64.wrap ((p : Int) + ((a.length : Int) + (t.size : Int))) = (p : Int) + ((a.length : Int) + (t.size : Int)) := by rw [IntKind.wrap_i64]; omega
  clear hc hl
  go_enter Tryd.func42, Tryd.ntmps42
  go_wp2
  go_region_held3 (fun w' => Bel w w' ∧ (∀ b o, b < w.heap.size → w'.cell? ⟨b, o, none⟩ = w.cell? ⟨b, o, none⟩)) (first | exact keep0 | exact keep1 ‹_› ‹_›) ((go_at_call 48; refine C.out.mono ?_; rintro r W1 ⟨rfl, hb1⟩))
  rename_i hHx
  clear hHx
  replace hb1 : Bel w W1 := (Bel.refl w).drew.trans hb1
  have R := H.out.keep hb1
  have RR := Lib.hid R
  obtain ⟨r0, ⟨b0, b1, b2, b3, b4⟩, ⟨g0, g1, g2, g3, g4⟩⟩ := R
  clear a0 a1 a2 a3 a4 f0 f1 f2 f3 f4
  go_wp2
  go_ret2
  exact ⟨rfl, RR.out.set1 _ _ (by omega), but_trans (bel_but hb1 _) (but_set _ _ _ _)⟩
set_option maxRecDepth 100000 in
theorem until_no (h : Rec w B s p v q e) (hm : Mx w) (hp : p ≤ s.size) (hs : s.size ≤ 65536) (t : ByteArray) (ht : t.data.toList ≠ []) (hc : cutL t.data.toList (s.data.toList.drop p) = none) :
    Calls Tryd.prog 42 #[.pointer (some ⟨B, 0, none⟩), .string t] w fun r w' => r = .returned (.tuple #[.string (s.extract p s.size), .bool false]) ∧ (Rec w' B s p v q e ∧ BelBut w w' (some B)) := by
  have C := Lib.hid ((cut_call (hm.keep (Bel.refl w).drew) (s.extract p s.size) t (by rw [ext_size]; omega) ht).2 (by rw [ext_end]; exact hc))
  have H := Lib.hid h
  obtain ⟨h0, ⟨a0, a1, a2, a3, a4⟩, ⟨f0, f1, f2, f3, f4⟩⟩ := h
  have hpi : (p : Int) ≤ s.size := by omega
  have hsi : (s.size : Int) ≤ 65536 := by omega
  clear hc
  go_enter Tryd.func42, Tryd.ntmps42
  go_wp2
  go_region_held3 (fun w' => Bel w w' ∧ (∀ b o, b < w.heap.size → w'.cell? ⟨b, o, none⟩ = w.cell? ⟨b, o, none⟩)) (first | exact keep0 | exact keep1 ‹_› ‹_›) ((go_at_call 48; refine C.out.mono ?_; rintro r W1 ⟨rfl, hb1⟩))
  rename_i hHx
  clear hHx
  replace hb1 : Bel w W1 := (Bel.refl w).drew.trans hb1
  go_wp2
  go_ret2
  exact ⟨rfl, H.out.keep hb1, bel_but hb1 _⟩
theorem wh_is : (fun c => [(9 : UInt8), 10, 13, 32].contains c) = whB := by
  funext c
  unfold whB
  rw [Bool.eq_iff_iff]
  simp [or_assoc]
theorem trim_any (z : ByteArray) (w : World) : Calls Tryd.prog 58 #[.string z, .string ⟨#[9, 10, 13, 32]⟩] w fun r w' => r = .returned (.string (bytesOf (z.data.toList.dropWhile whB))) ∧ Bel w w' := by
  have h := Any.strings_TrimLeft_laid Tryd.lays161 (by kernel_rfl) z ⟨#[9, 10, 13, 32]⟩ w (by decide) (ascii_of_all (by decide))
  refine h.mono fun r w' ⟨hr, hb⟩ => ⟨?_, hb⟩
  rw [hr]
  have e : Lib.trimLeftS z.data.toList (⟨#[9, 10, 13, 32]⟩ : ByteArray).data.toList = z.data.toList.dropWhile whB := by
    unfold Lib.trimLeftS
    exact congrArg (fun f => z.data.toList.dropWhile f) wh_is
  rw [e]
  rfl
set_option maxRecDepth 100000 in
theorem white_any (h : Rec w B s p v q e) (hp : p ≤ s.size) (hs : s.size ≤ 65536) {x : List UInt8} (hx : x = (s.data.toList.drop p).dropWhile whB) :
    Calls Tryd.prog 46 #[.pointer (some ⟨B, 0, none⟩)] w fun r w' => r = .returned (.bool (decide (x.length < s.size - p))) ∧ (Rec w' B s (s.size - x.length) v q e ∧ BelBut w w' (some B)) := by
  have hl := congrArg List.length (span_is whB (s.data.toList.drop p)).1
  rw [List.length_append, List.length_drop, size_list, ← hx] at hl
  have C := Lib.hid fun w => trim_any (s.extract p s.size) w
  rw [ext_end, ← hx] at C
  have H := Lib.hid h
  have D := Lib.hid (show decide ((x.length : Int) < (s.size : Int) - (p : Int)) = decide (x.length < s.size - p) from by rw [decide_eq_decide]; omega)
  obtain ⟨h0, ⟨a0, a1, a2, a3, a4⟩, ⟨f0, f1, f2, f3, f4⟩⟩ := h
  have hsz : (bytesOf x).size = x.length := bytesOf_size x
  have hpi : (p : Int) ≤ s.size := by omega
  have hsi : (s.size : Int) ≤ 65536 := by omega
  have w1 : IntKind.i64.wrap ((s.size : Int) - (p : Int)) = (s.size : Int) - (p : Int) := by rw [IntKind.wrap_i64]; omega
  have w2 : IntKind.i64.wrap ((s.size : Int) - (x.length : Int)) = (s.size : Int) - (x.length : Int) := by rw [IntKind.wrap_i64]; omega
  have LE := Lib.hid hl
  clear hl hx
  go_enter Tryd.func46, Tryd.ntmps46
  go_wp2
  refine wp_region_uni (S := (fun w' => Bel w w' ∧ (∀ b o, b < w.heap.size → w'.cell? ⟨b, o, none⟩ = w.cell? ⟨b, o, none⟩))) (by kernel_rfl) (by kernel_rfl) keep0 ?_
  repeat (first | (refine wpUni_skip (by rfl) ?_; (try simp only [Act.put, List.setIfInBounds_toArray, List.set_cons_zero, List.set_cons_succ]))
                                                            | (refine wpUni_value (by rfl) (fun w hS => by (try dsimp only at hS); go_simp; first | done | with_reducible rfl) ?_; (try simp only [Act.put, List.setIfInBounds_toArray, List.set_cons_zero, List.set_cons_succ]))
                                                            | (refine wpUni_call (f := 58) (by rfl) (fun w => by go_simp; first | done | with_reducible rfl) (fun w hS => (C.out w).mono fun e w' ⟨he, hb⟩ => ⟨he, keep1 hS hb⟩) ?_; (try simp only [Act.put, List.setIfInBounds_toArray, List.set_cons_zero, List.set_cons_succ])))
  refine wpUni_nil fun W1 hS => ?_
  have hb1 := hS.1
  have R := H.out.keep hb1
  have RR := Lib.hid R
  obtain ⟨r0, ⟨b0, b1, b2, b3, b4⟩, ⟨g0, g1, g2, g3, g4⟩⟩ := R
  clear hS a0 a1 a2 a3 a4 f0 f1 f2 f3 f4
  go_wp2
  go_region
  all_goals
    go_wp2
    go_ret
    refine ⟨?_, ?_, ?_⟩
    · rw [← D.out] <;> rfl
    · exact (RR.out.keep (Bel.refl _).drew).set1 _ _ (by have := LE.out; omega)
    · exact but_trans (bel_but hb1.drew _) (but_set _ _ _ _)
end
end Go.Proofs.YtobdokeklcdpoaaDoor
