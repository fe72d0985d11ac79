import Derived.Test.YtobdokeklcdpoaaDoorMkp
namespace Go.Proofs.YtobdokeklcdpoaaDoor
set_option linter.unusedSimpArgs false
set_option linter.unusedVariables false
open Go.RowKit Go.Lib

/-! The reader: names; whether a piece has signs alone that may stand. -/
section
variable {w : World} {B p : Nat} {s : ByteArray} {v : Value} {q e : Int}
theorem ext_bytes (s : ByteArray) (a b : Nat) : s.extract a b = bytesOf ((s.data.toList.drop a).take (b - a)) := by
  have := Lib.extract_data s a b
  rw [← this, bytesOf_data]
theorem tw_take (f : UInt8 → Bool) (l : List UInt8) : l.take (l.takeWhile f).length = l.takeWhile f := by
  obtain ⟨h1, _, _⟩ := span_is f l
  generalize l.takeWhile f = x at *
  generalize l.dropWhile f = y at *
  subst h1
  simp
theorem tw_get (l : List UInt8) (k : Nat) : (k < (l.takeWhile nmByte).length → ∃ c, l[k]? = some c ∧ nmByte c = true) ∧ (k = (l.takeWhile nmByte).length → l.length = k ∨ ∃ c, l[k]? = some c ∧ nmByte c = false) := by
  obtain ⟨h1, h2, h3⟩ := span_is nmByte l
  constructor
  · intro h
    refine ⟨(l.takeWhile nmByte)[k], ?_, h2 _ (List.getElem_mem h)⟩
    conv => lhs; rw [h1]
    rw [List.getElem?_append_left h, List.getElem?_eq_getElem h]
  · rintro rfl
    rcases h3 with h3 | ⟨c, t, h3, h4⟩
    · left
      conv => lhs; rw [h1, h3, List.append_nil]
    · right
      refine ⟨c, ?_, h4⟩
      generalize l.takeWhile nmByte = x at *
      rw [h1, h3, List.getElem?_append_right (Nat.le_refl _), Nat.sub_self]
      rfl
set_option maxRecDepth 100000 in
set_option maxHeartbeats 4000000 in
theorem name_meth (h : Rec w B s p v q e) (hp : p ≤ s.size) (hs : s.size ≤ 65536) {nm : List UInt8} (hnm : nm = (s.data.toList.drop p).takeWhile nmByte) :
    Calls Tryd.prog 45 #[.pointer (some ⟨B, 0, none⟩)] w fun r w' => r = .returned (.tuple #[.string (bytesOf nm), .bool (nmOk nm)]) ∧ (Rec w' B s (p + nm.length) v q e ∧ BelBut w w' (some B)) := by
  have hle : nm.length ≤ s.size - p := by
    have := congrArg List.length (span_is nmByte (s.data.toList.drop p)).1
    rw [List.length_append, List.length_drop, size_list, ← hnm] at this
    omega
  have G1 := Lib.hid fun k (hk : k < nm.length) => (tw_get (s.data.toList.drop p) k).1 (by rw [← hnm]; exact hk)
  have G2 := Lib.hid ((tw_get (s.data.toList.drop p) nm.length).2 (by rw [← hnm]))
  have GX := Lib.hid (show s.extract p (p + nm.length) = bytesOf nm from by
    rw [ext_bytes]
    congr 1
    rw [show p + nm.length - p = nm.length by omega, hnm, tw_take])
  have CN := Lib.hid fun w => name_any (bytesOf nm) (by rw [bytesOf_size]; omega) w
  have hsi : (s.size : Int) ≤ 65536 := by omega
  have H := Lib.hid h
  obtain ⟨h0, ⟨a0, a1, a2, a3, a4⟩, ⟨f0, f1, f2, f3, f4⟩⟩ := h
  clear hnm
  go_enter Tryd.func45, Tryd.ntmps45
  go_wp2
  clear a0 a1 a2 a3 a4 f0 f1 f2 f3 f4
  go_loopg [] (nm.length + 1) (fun g wr => ∃ i : Nat, p ≤ i ∧ i ≤ p + nm.length ∧ Hid (g = p + nm.length + 1 - i) ∧ Hid (Rec wr B s i v q e) ∧ Hid (BelBut w wr (some B)))
  case atStart => exact ⟨p, Nat.le_refl _, by omega, by show _ = _; omega, H.out, World.grownBy.refl _ _⟩
  case round =>
    obtain ⟨i, hpi, hk, hg, hR, hB⟩ := hrel
    have R := hR.out
    obtain ⟨r0, ⟨a0, a1, a2, a3, a4⟩, ⟨f0, f1, f2, f3, f4⟩⟩ := R
    have ipi : (p : Int) ≤ i := by omega
    have w1 : i < s.size → IntKind.i64.wrap ((i : Int) + 1) = (i : Int) + 1 := fun _ => by rw [IntKind.wrap_i64]; omega
    by_cases hlt : i < p + nm.length
    · have hi : i < s.size := by omega
      have ii : (i : Int) < s.size := by omega
      have w1 := w1 hi
      have hb : nmByte s[i] = true := by
        obtain ⟨c, hc, hcn⟩ := G1.out (i - p) (by omega)
        rw [List.getElem?_drop, show p + (i - p) = i by omega, List.getElem?_eq_getElem (by rw [size_list]; exact hi)] at hc
        rw [← Option.some.inj hc] at hcn
        exact hcn
      have C1 := Lib.hid (show ∀ w, Calls Tryd.prog 57 #[.int .u8 (s[i].toNat : Nat)] w fun e w' => e = .returned (.bool true) ∧ Bel w w' from fun w => by
        have := nameByte_any s[i] w
        rw [hb] at this
        exact this.mono fun e w' ⟨h1, h2⟩ => ⟨h1, h2 ▸ Bel.refl _⟩)
      clear hb
      go_wp2
      refine wp_region_uni (S := (fun w' => Bel wr w' ∧ (∀ b o, b < wr.heap.size → w'.cell? ⟨b, o, none⟩ = wr.cell? ⟨b, o, none⟩))) (by kernel_rfl) (by kernel_rfl) keep0 ?_
      repeat (first | (refine wpUni_skip (by rfl) ?_; (try simp only [Act.put, List.setIfInBounds_toArray, List.set_cons_zero, List.set_cons_succ]))
                                                            | (refine wpUni_value (by rfl) (fun w hS => by (try dsimp only at hS); go_simp; first | done | with_reducible rfl) ?_; (try simp only [Act.put, List.setIfInBounds_toArray, List.set_cons_zero, List.set_cons_succ]))
                                                            | (refine wpUni_call (f := 57) (by rfl) (fun w => by go_simp; first | done | with_reducible rfl) (fun w hS => (C1.out w).mono fun e w' ⟨he, hb⟩ => ⟨he, keep1 hS hb⟩) ?_; (try simp only [Act.put, List.setIfInBounds_toArray, List.set_cons_zero, List.set_cons_succ])))
      refine wpUni_nil fun W1 hS => ?_
      have hb1 := hS.1
      have R1 := hR.out.keep hb1
      have RR1 := Lib.hid R1
      obtain ⟨r0, ⟨b0, b1, b2, b3, b4⟩, ⟨g0, g1, g2, g3, g4⟩⟩ := R1
      clear hS a0 a1 a2 a3 a4 f0 f1 f2 f3 f4
      go_wp2
      go_roundg (p + nm.length + 1 - (i + 1))
      case measure => have := hg.out; omega
      case rel => exact ⟨i + 1, by omega, by omega, rfl, RR1.out.set1 _ _ (by omega), but_trans (but_trans hB.out (bel_but hb1 _)) (but_set _ _ _ _)⟩
    · obtain rfl : i = p + nm.length := by omega
      have hls : (s.data.toList.drop p).length = s.size - p := by rw [List.length_drop, size_list]
      have fin : ∀ W1, BelBut w W1 (some B) → Rec W1 B s (p + nm.length) v q e → True := fun _ _ _ => trivial
      by_cases hz : p + nm.length = s.size
      · have ii : decide (((p + nm.length : Nat) : Int) < s.size) = false := by exact decide_eq_false (by omega)
        have i3 : ((p + nm.length : Nat) : Int) ≤ s.size := by omega
        obtain ⟨i, hi⟩ : ∃ i, i = p + nm.length := ⟨_, rfl⟩
        rw [← hi] at a1 ii i3 ipi hR GX
        have HI := Lib.hid hi
        have ii2 : decide (i < s.size) = false := by exact decide_eq_false (by omega)
        clear hi hz ii
        go_wp2
        refine wp_region_uni (S := (fun w' => Bel wr w' ∧ (∀ b o, b < wr.heap.size → w'.cell? ⟨b, o, none⟩ = wr.cell? ⟨b, o, none⟩))) (by kernel_rfl) (by kernel_rfl) keep0 ?_
        repeat (first | (refine wpUni_skip (by rfl) ?_; (try simp only [Act.put, List.setIfInBounds_toArray, List.set_cons_zero, List.set_cons_succ]))
                                                            | (refine wpUni_value (by rfl) (fun w hS => by (try dsimp only at hS); go_simp; first | done | with_reducible rfl) ?_; (try simp only [Act.put, List.setIfInBounds_toArray, List.set_cons_zero, List.set_cons_succ])))
        refine wpUni_nil fun W1 hS => ?_
        have hb1 := hS.1
        have R1 := hR.out.keep hb1
        have RR1 := Lib.hid R1
        obtain ⟨r0, ⟨b0, b1, b2, b3, b4⟩, ⟨g0, g1, g2, g3, g4⟩⟩ := R1
        clear hS a0 a1 a2 a3 a4 f0 f1 f2 f3 f4
        go_wp2
        go_region
        all_goals
          go_wp2_with (go_at_call 23; rw [GX.out]; refine (CN.out _).mono ?_; rintro r W2 ⟨rfl, hb2⟩)
          go_ret2
          refine ⟨rfl, ?_, ?_⟩
          · rw [← HI.out]; exact (RR1.out.keep (Bel.refl _).drew).keep hb2
          · exact but_trans (but_trans hB.out (bel_but hb1 _)) (bel_but ((Bel.refl _).drew.trans hb2) _)
      · obtain ⟨i, hi⟩ : ∃ i, i = p + nm.length := ⟨_, rfl⟩
        rw [← hi] at a1 ipi hR GX hz
        have hi2 : i < s.size := by omega
        have ii : (i : Int) < s.size := by omega
        have i3 : (i : Int) ≤ s.size := by omega
        have hb : nmByte s[i] = false := by
          rcases G2.out with h | ⟨c, hc, hcn⟩
          · omega
          · rw [List.getElem?_drop, ← hi, List.getElem?_eq_getElem (by rw [size_list]; exact hi2)] at hc
            rw [← Option.some.inj hc] at hcn
            exact hcn
        have C1 := Lib.hid (show ∀ w, Calls Tryd.prog 57 #[.int .u8 (s[i].toNat : Nat)] w fun e w' => e = .returned (.bool false) ∧ Bel w w' from fun w => by
          have := nameByte_any s[i] w
          rw [hb] at this
          exact this.mono fun e w' ⟨h1, h2⟩ => ⟨h1, h2 ▸ Bel.refl _⟩)
        have HI := Lib.hid hi
        clear hi hz hb
        go_wp2
        refine wp_region_uni (S := (fun w' => Bel wr w' ∧ (∀ b o, b < wr.heap.size → w'.cell? ⟨b, o, none⟩ = wr.cell? ⟨b, o, none⟩))) (by kernel_rfl) (by kernel_rfl) keep0 ?_
        repeat (first | (refine wpUni_skip (by rfl) ?_; (try simp only [Act.put, List.setIfInBounds_toArray, List.set_cons_zero, List.set_cons_succ]))
                                                            | (refine wpUni_value (by rfl) (fun w hS => by (try dsimp only at hS); go_simp; first | done | with_reducible rfl) ?_; (try simp only [Act.put, List.setIfInBounds_toArray, List.set_cons_zero, List.set_cons_succ]))
                                                            | (refine wpUni_call (f := 57) (by rfl) (fun w => by go_simp; first | done | with_reducible rfl) (fun w hS => (C1.out w).mono fun e w' ⟨he, hb⟩ => ⟨he, keep1 hS hb⟩) ?_; (try simp only [Act.put, List.setIfInBounds_toArray, List.set_cons_zero, List.set_cons_succ])))
        refine wpUni_nil fun W1 hS => ?_
        have hb1 := hS.1
        have R1 := hR.out.keep hb1
        have RR1 := Lib.hid R1
        obtain ⟨r0, ⟨b0, b1, b2, b3, b4⟩, ⟨g0, g1, g2, g3, g4⟩⟩ := R1
        clear hS a0 a1 a2 a3 a4 f0 f1 f2 f3 f4
        go_wp2
        go_region
        all_goals
          go_wp2_with (go_at_call 23; rw [GX.out]; refine (CN.out _).mono ?_; rintro r W2 ⟨rfl, hb2⟩)
          go_ret2
          refine ⟨rfl, ?_, ?_⟩
          · rw [← HI.out]; exact (RR1.out.keep (Bel.refl _).drew).keep hb2
          · exact but_trans (but_trans hB.out (bel_but hb1 _)) (bel_but ((Bel.refl _).drew.trans hb2) _)
set_option maxRecDepth 100000 in
theorem valid_yes (h : Rec w B s p v q e) (z : ByteArray) (hz : z.size ≤ 65536) (k : Int) (hb : badV z = -1) :
    Calls Tryd.prog 44 #[.pointer (some ⟨B, 0, none⟩), .string z, .int .i64 k] w fun r w' => r = .returned (.bool true) ∧ (Rec w' B s p v q e ∧ BelBut w w' (some B)) := by
  have C := Lib.hid fun w => bad_any z (by omega) w
  rw [hb] at C
  have H := Lib.hid h
  clear h hb
  go_enter Tryd.func44, Tryd.ntmps44
  go_wp2_with (go_at_call 34; refine (C.out _).mono ?_; rintro r W1 ⟨rfl, hb1⟩)
  go_ret
  exact ⟨rfl, H.out.keep hb1, bel_but hb1 _⟩
set_option maxRecDepth 100000 in
theorem valid_no (h : Rec w B s p v q e) (z : ByteArray) (hz : z.size ≤ 65536) (k n : Nat) (hk : k ≤ 65536) (hb : badV z = n) :
    Calls Tryd.prog 44 #[.pointer (some ⟨B, 0, none⟩), .string z, .int .i64 k] w fun r w' => r = .returned (.bool false) ∧ (Rec w' B s p v ((k + n : Nat) : Int) 6 ∧ BelBut w w' (some B)) := by
  have C := Lib.hid fun w => bad_any z (by omega) w
  have hn : (n : Int) < z.size := by
    rcases bad_rng z with h | h
    · omega
    · omega
  rw [hb] at C
  have H := Lib.hid h
  have w1 : IntKind.i64.wrap ((k : Int) + (n : Int)) = ((k + n : Nat) : Int) := by rw [IntKind.wrap_i64]; omega
  have FC := Lib.hid fun W (hW : Bel w W) => fail_any (H.out.keep hW) ((k + n : Nat) : Int) 6
  have n0 : (0 : Int) ≤ n := by omega
  clear h hb
  go_enter Tryd.func44, Tryd.ntmps44
  go_wp2_with (first
    | (go_at_call 34; refine (C.out _).mono ?_; rintro r W1 ⟨rfl, hb1⟩)
    | (go_at_call 43; refine (FC.out _ hb1).mono ?_; rintro r W2 ⟨rfl, R2, B2⟩))
  go_ret
  exact ⟨rfl, R2, but_trans (bel_but hb1 _) B2⟩
end
end Go.Proofs.YtobdokeklcdpoaaDoor
