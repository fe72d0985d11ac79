import Derived.Test.YthcpgbbmgabpnaaCkl
import Derived.Test.YthcpgbbmgabpnaaCkh
namespace Go.Proofs.Ythcpgbbmgabpnaa
set_option linter.unusedSimpArgs false
set_option linter.unusedVariables false
open Go.RowKit

/-! Chars: the program's Unescape. -/
theorem heap_keep {W W' : World} (hb : Bel W W') {k : Nat} {o : Obj} (h : W.heap[k]? = some o) : W'.heap[k]? = some o := by
  rw [hb.block k (Array.getElem?_eq_some_iff.1 h).1]
  exact h
theorem bldAt_keep {T e : TypeId} {B b : Nat} {p : Value} {bs : List Value} {W W' : World} (h : Lib.BuilderAtF T e B b p bs W) (hb : Bel W W') : Lib.BuilderAtF T e B b p bs W' := by
  obtain ⟨hB, v, hbk, hown, hne⟩ := h
  refine ⟨hB, v, heap_keep hb hbk, ⟨hown.1, ?_⟩, hne⟩
  rcases hown.2 with hn | ⟨g, cap, cur, fz, hv, hbg, hg, rest⟩
  · exact .inl hn
  · exact .inr ⟨g, cap, cur, fz, hv, hbg, heap_keep hb hg, rest⟩
theorem bld_keep {T e : TypeId} {B b : Nat} {bs : List Value} {W W' : World} (h : Lib.IsBuilderF T e B b bs W) (hb : Bel W W') : Lib.IsBuilderF T e B b bs W' :=
  h.elim (fun x => .inl (bldAt_keep x hb)) (fun x => .inr (bldAt_keep x hb))
theorem r_byte (s : ByteArray) (pos : Nat) (hp : pos < s.size) (n : Nat) (hn : n < 128) : (dec (gOf s pos) (s.size - pos)).1 = n ↔ s[pos].toNat = n := by
  have h0 := gOf_at0 s pos hp
  rcases dec_shape (gOf s pos) (s.size - pos) with ⟨h1, h2⟩ | ⟨h1, h2, h3⟩
  · rw [h2, ← h0]
  · constructor
    · intro h; omega
    · intro h; omega
theorem wd_one (s : ByteArray) (pos : Nat) (hp : pos < s.size) (h : s[pos].toNat < 128) : wdAt s pos = 1 := by
  have h0 := gOf_at0 s pos hp
  unfold wdAt
  rw [dec_low _ _ (by omega)]
theorem has_len (t : List UInt8) : has59 t = decide ((nmL t).length ≠ t.length) := by
  cases h : has59 t with
  | false =>
    have := bef_all t h
    symm
    rw [decide_eq_false_iff_not]
    intro hn
    apply hn
    show (bef59 t).length = _
    rw [this]
  | true =>
    have := congrArg List.length (bef_aft t h)
    rw [List.length_append, List.length_cons] at this
    symm
    rw [decide_eq_true_eq]
    show (bef59 t).length ≠ _
    omega
theorem low_between (s : ByteArray) (pos m : Nat) (t : List UInt8) (ht : t = s.data.toList.drop (pos + 1)) (hm : m = (nmL t).length) (hl : m < t.length) (r : Nat) (hr : entL (nmL t) = some r) : ∀ j, pos + 1 ≤ j → j < pos + 1 + m + 1 → gOf s 0 j < 128 := by
  intro j h1 h2
  have hn := nm_spec t
  rw [← hm] at hn
  have hlt : t.length = s.size - (pos + 1) := by rw [ht, drop_len]
  have hg : gOf s 0 j = (t.getD (j - (pos + 1)) 0).toNat := by
    rw [gOf_list, List.drop_zero, ht, List.getD_eq_getElem?_getD, List.getD_eq_getElem?_getD, List.getElem?_drop, show pos + 1 + (j - (pos + 1)) = j from by omega]
  rw [hg]
  by_cases hj : j = pos + 1 + m
  · rw [show j - (pos + 1) = m from by omega, hn.2.2.2 hl]
    decide
  · apply entL_low _ r hr
    rw [hn.2.1, List.getD_eq_getElem?_getD, List.getElem?_eq_getElem (by omega)]
    rw [List.mem_iff_getElem]
    exact ⟨j - (pos + 1), by rw [List.length_take]; omega, by simp⟩
set_option maxRecDepth 100000 in
set_option maxHeartbeats 8000000 in
theorem unescape_any (s : ByteArray) (hs : s.size ≤ 140737488351232) (w : World) : Calls Try.prog 18 #[.string s] w fun e w' => e = .returned (unV (unS s)) ∧ Bel w w' := by
  have hsi : (s.size : Int) ≤ 140737488351232 := by omega
  go_enter Try.func18, Try.ntmps18
  go_wp2_with fail
  go_loopg [6] s.size (fun g v wr => ∃ (pos nxt fuel : Nat) (acc : List UInt8), v = .int .i64 nxt ∧ nxt ≤ s.size ∧ Hid (Lib.IsBuilderF 42 5 w.heap.size w.heap.size (Lib.byteCells acc) wr) ∧ Hid (wr.heap[w.heap.size + 1]? = some (.stringIter s pos)) ∧ Bel w wr ∧ Hid (pos ≤ s.size ∧ unS s = unL fuel (max pos nxt) (s.data.toList.drop (max pos nxt)) acc ∧ s.size ≤ fuel + max pos nxt ∧ (∀ j, pos ≤ j → j < nxt → gOf s 0 j < 128) ∧ acc.length ≤ max pos nxt ∧ g = s.size - pos))
  case atStart =>
    refine ⟨0, 0, s.size, [], rfl, Nat.zero_le _, (Lib.IsBuilderF.of (Lib.fresh_isBuilder 42 5 w)).alloc _, ?_, ((Bel.refl w).alloc _).alloc _, ⟨Nat.zero_le _, by rw [Nat.max_self, List.drop_zero]; rfl, by omega, fun j _ h => by omega, by simp, rfl⟩⟩
    have := World.iter_heap (w.alloc (.cells #[.pointer none, .slice none 0 0] 42)) s 0
    simpa [Hid] using this
  case round =>
    obtain ⟨pos, nxt, fuel, acc, rfl, hnl, hI, hit, hbw, hh⟩ := hrel
    by_cases hp : pos < s.size
    · have hwl := wdAt_le s pos hp
      have hwd := wd_pos s pos
      have hd := decode_is s pos hp
      have hr := decode_le s pos
      obtain ⟨r, hr0⟩ : ∃ r, r = (dec (gOf s pos) (s.size - pos)).1 := ⟨_, rfl⟩
      rw [hd, ← hr0] at hr
      have hr' := hr
      have hnx0 : ∀ ty, (Instr.next (.pointer (some ⟨w.heap.size + 1, 0, none⟩)) true ty).run Try.prog wr = .ok (.tuple #[.bool true, .int .i64 pos, .int .i32 (r : Nat)]) (wr.iterAt (w.heap.size + 1) s (pos + wdAt s pos)) := fun ty => by
        have h := Lib.run_next_any_at (P := Try.prog) wr (w.heap.size + 1) s pos ty hit.out hp
        rw [hd, ← hr0] at h
        exact h
      have hI2 := Lib.hid (hI.out.iterAt hit.out (pos + wdAt s pos))
      have hit2 := Lib.hid (Lib.iterAt_heap wr (w.heap.size + 1) s pos (pos + wdAt s pos) hit.out)
      have hb2 : Bel w (wr.iterAt (w.heap.size + 1) s (pos + wdAt s pos)) := Lib.below_iterAt hbw (k := w.heap.size + 1) (by omega) s _
      obtain ⟨W2, hW2⟩ : ∃ W2, W2 = wr.iterAt (w.heap.size + 1) s (pos + wdAt s pos) := ⟨_, rfl⟩
      rw [← hW2] at hit2 hb2 hI2
      have hnx : ∀ ty, (Instr.next (.pointer (some ⟨w.heap.size + 1, 0, none⟩)) true ty).run Try.prog wr = .ok (.tuple #[.bool true, .int .i64 pos, .int .i32 (r : Nat)]) W2 := fun ty => by rw [hW2]; exact hnx0 ty
      have hsz2 : w.heap.size ≤ W2.heap.size := hb2.size
      have HWL := Lib.hid (And.intro hwl hwd)
      have HR0 := Lib.hid hr0
      have i1 : (pos : Int) < s.size := by omega
      clear hd hr hr0 hnx0 hW2 hwl hwd hbw
      by_cases hsk : pos < nxt
      · have g1 : decide ((pos : Int) < nxt) = true := by exact decide_eq_true (by omega)
        have HW := Lib.hid (show wdAt s pos = 1 from wd_one s pos hp (by
          have h1 := hh.out.2.2.2.1 pos (Nat.le_refl _) hsk
          rw [← gOf_add, gOf_at0 s pos hp] at h1
          exact h1))
        have HK := Lib.hid hsk
        clear hsk
        go_wp2_with fail
        go_roundg (s.size - (pos + 1))
        case measure => have := hh.out.2.2.2.2.2; omega
        case rel =>
          rw [HW.out] at hit2
          have hx : max (pos + 1) nxt = max pos nxt := by have := HK.out; omega
          exact ⟨pos + 1, nxt, fuel, acc, rfl, hnl, hI2, hit2, hb2, ⟨by omega, by rw [hx]; exact hh.out.2.1, by rw [hx]; exact hh.out.2.2.1, fun j h1 h2 => hh.out.2.2.2.1 j (by omega) h2, by rw [hx]; exact hh.out.2.2.2.2.1, rfl⟩⟩
      · have g1 : decide ((pos : Int) < nxt) = false := by exact decide_eq_false (by omega)
        have hmx : max pos nxt = pos := by omega
        have hu := hh.out.2.1
        have hfu := hh.out.2.2.1
        have hal := hh.out.2.2.2.2.1
        rw [hmx] at hu hfu hal
        obtain ⟨f, rfl⟩ : ∃ f, fuel = f + 1 := ⟨fuel - 1, by omega⟩
        have HL := Lib.hid (show (Lib.byteCells acc).length + 4 ≤ 140737488355328 by rw [Lib.byteCells_length]; omega)
        have HAL := Lib.hid hal
        have HFU := Lib.hid hfu
        have HNX := Lib.hid hsk
        have hst := drop_step s pos hp
        rw [hst] at hu
        have hokis := okAt_is s pos
        rw [← HR0.out] at hokis
        clear hsk hmx hfu hal
        by_cases hr60 : r = 60
        · have hc : s[pos] = 60 := byte_eq (n := 60) (by decide) ((r_byte s pos hp 60 (by decide)).1 (by rw [← HR0.out]; exact hr60))
          rw [hc, un_lt] at hu
          have L := Lib.hid hu
          clear hu hc hst hokis
          subst hr60
          go_wp2_with fail
          go_ret3
          exact ⟨by (rw [L.out]) <;> rfl, hb2⟩
        · have e60 : ((r : Int) == 60) = false := by rw [beq_eq_false_iff_ne]; omega
          have hc60 : s[pos] ≠ 60 := fun h => hr60 (by rw [HR0.out]; exact (r_byte s pos hp 60 (by decide)).2 (by rw [h]; rfl))
          by_cases hr38 : r = 38
          · have hc : s[pos] = 38 := byte_eq (n := 38) (by decide) ((r_byte s pos hp 38 (by decide)).1 (by rw [← HR0.out]; exact hr38))
            have HW := Lib.hid (show wdAt s pos = 1 from wd_one s pos hp (by rw [hc]; decide))
            rw [hc, un_amp] at hu
            obtain ⟨t, ht⟩ : ∃ t, t = s.data.toList.drop (pos + 1) := ⟨_, rfl⟩
            have hlt : t.length = s.size - (pos + 1) := by rw [ht, drop_len]
            have hte : (s.extract (pos + 1) s.size).data.toList = t := by rw [ext_end, ht]
            have hn := nm_spec t
            obtain ⟨m, hm⟩ : ∃ m, m = (nmL t).length := ⟨_, rfl⟩
            obtain ⟨nb, hnb⟩ : ∃ nb, nb = bytesOf (nmL t) := ⟨_, rfl⟩
            have hnbz : nb.size = m := by rw [hnb, bytesOf_size, hm]
            obtain ⟨af, haf⟩ : ∃ af, af = bytesOf (aft59 t) := ⟨_, rfl⟩
            have hcut := fun w => cut_any (s.extract (pos + 1) s.size) (by rw [ext_size]; omega) w
            rw [hte, has_len] at hcut
            have HCUT := Lib.hid (show ∀ w, Calls Try.prog 30 #[.string (s.extract (pos + 1) s.size), .string ⟨#[59]⟩] w fun e w' => e = .returned (.tuple #[.string nb, .string af, .bool (decide (m ≠ t.length))]) ∧ Bel w w' by rw [hnb, haf, hm]; exact hcut)
            obtain ⟨x, hx⟩ : ∃ x, x = entL (nmL t) := ⟨_, rfl⟩
            have HRF := Lib.hid (show ∀ w, Calls Try.prog 31 #[.string nb] w fun e w' => e = .returned (numV x) ∧ Bel w w' by
              intro w
              rw [hnb, hx]
              exact referred_any (bytesOf (nmL t)) (by rw [bytesOf_size]; omega) w)
            rw [← ht, ← hx, ← hm] at hu
            have hnbi : (nb.size : Int) + 1 + pos ≤ s.size := by omega
            have HM := Lib.hid (And.intro hm (And.intro ht (And.intro hlt (And.intro hn hnbz))))
            subst hr38
            by_cases hhas : m = t.length
            · have HCUT := Lib.hid (show ∀ w, Calls Try.prog 30 #[.string (s.extract (pos + 1) s.size), .string ⟨#[59]⟩] w fun e w' => e = .returned (.tuple #[.string nb, .string af, .bool false]) ∧ Bel w w' by
                have h := HCUT.out
                rw [decide_eq_false (by simpa using hhas)] at h
                exact h)
              cases x with
              | none =>
                have L := Lib.hid (show unS s = ([], pos, 7) from hu)
                clear hu hc hst hokis e60 hc60 hr60 hlt hte hn hm hnb hnbz haf hcut hx ht hhas
                go_wp2_with (first
                  | (go_at_call 21; refine (valid_any 38 (by decide) _).mono ?_; rintro e V1 ⟨rfl, rfl⟩)
                  | (go_at_call 22; refine (broken_any _ 38 (by decide) _).mono ?_; rintro e V1 ⟨rfl, rfl⟩)
                  | (go_at_call 30; refine (HCUT.out _).mono ?_; rintro e V2 ⟨rfl, bv2⟩)
                  | (go_at_call 31; refine (HRF.out _).mono ?_; rintro e V3 ⟨rfl, bv3⟩; dsimp only [numV]))
                go_ret3
                exact ⟨by (rw [L.out]) <;> rfl, (hb2.trans bv2).trans bv3⟩
              | some r' =>
                have L := Lib.hid (show unS s = ([], pos, 7) by
                  have h1 : unS s = if m = t.length then ([], pos, 7) else unL f (pos + 2 + m) (t.drop (m + 1)) (acc ++ Lib.encodeRune (r' : Int)) := hu
                  rw [h1, if_pos hhas])
                clear hu hc hst hokis e60 hc60 hr60 hlt hte hn hm hnb hnbz haf hcut hx ht hhas
                go_wp2_with (first
                  | (go_at_call 21; refine (valid_any 38 (by decide) _).mono ?_; rintro e V1 ⟨rfl, rfl⟩)
                  | (go_at_call 22; refine (broken_any _ 38 (by decide) _).mono ?_; rintro e V1 ⟨rfl, rfl⟩)
                  | (go_at_call 30; refine (HCUT.out _).mono ?_; rintro e V2 ⟨rfl, bv2⟩)
                  | (go_at_call 31; refine (HRF.out _).mono ?_; rintro e V3 ⟨rfl, bv3⟩; dsimp only [numV]))
                go_ret3
                exact ⟨by (rw [L.out]) <;> rfl, (hb2.trans bv2).trans bv3⟩
            · have HCUT := Lib.hid (show ∀ w, Calls Try.prog 30 #[.string (s.extract (pos + 1) s.size), .string ⟨#[59]⟩] w fun e w' => e = .returned (.tuple #[.string nb, .string af, .bool true]) ∧ Bel w w' by
                have h := HCUT.out
                rw [decide_eq_true hhas] at h
                exact h)
              cases x with
              | none =>
                have L := Lib.hid (show unS s = ([], pos, 7) from hu)
                clear hu hc hst hokis e60 hc60 hr60 hlt hte hn hm hnb hnbz haf hcut hx ht hhas
                go_wp2_with (first
                  | (go_at_call 21; refine (valid_any 38 (by decide) _).mono ?_; rintro e V1 ⟨rfl, rfl⟩)
                  | (go_at_call 22; refine (broken_any _ 38 (by decide) _).mono ?_; rintro e V1 ⟨rfl, rfl⟩)
                  | (go_at_call 30; refine (HCUT.out _).mono ?_; rintro e V2 ⟨rfl, bv2⟩)
                  | (go_at_call 31; refine (HRF.out _).mono ?_; rintro e V3 ⟨rfl, bv3⟩; dsimp only [numV]))
                go_ret3
                exact ⟨by (rw [L.out]) <;> rfl, (hb2.trans bv2).trans bv3⟩
              | some r' =>
                have hsg := (sgn_iff r').1 (entL_sgn _ _ hx.symm)
                have hr1 : r' ≤ 2147483647 := by omega
                have L := Lib.hid (show unS s = unL f (pos + 1 + m + 1) (s.data.toList.drop (pos + 1 + m + 1)) (acc ++ Lib.encodeRune (r' : Int)) by
                  have h1 : unS s = if m = t.length then ([], pos, 7) else unL f (pos + 2 + m) (t.drop (m + 1)) (acc ++ Lib.encodeRune (r' : Int)) := hu
                  rw [if_neg hhas, ht, List.drop_drop] at h1
                  rw [h1, show pos + 2 + m = pos + 1 + m + 1 from by omega, show pos + 1 + (m + 1) = pos + 1 + m + 1 from by omega])
                have M2 := Lib.hid (show 2 ≤ m by rw [hm]; exact ent_two _ r' hx.symm)
                have LOW := Lib.hid (low_between s pos m t ht hm (by omega) r' hx.symm)
                have hml : m + 1 + pos < s.size := by omega
                clear hu hc hst hokis e60 hc60 hr60 hlt hte hn hm hnb hnbz haf hcut hx ht hhas hsg
                go_wp2_with (first
                  | (go_at_call 21; refine (valid_any 38 (by decide) _).mono ?_; rintro e V1 ⟨rfl, rfl⟩)
                  | (go_at_call 22; refine (broken_any _ 38 (by decide) _).mono ?_; rintro e V1 ⟨rfl, rfl⟩)
                  | (go_at_call 30; refine (HCUT.out _).mono ?_; rintro e V2 ⟨rfl, bv2⟩)
                  | (go_at_call 31; refine (HRF.out _).mono ?_; rintro e V3 ⟨rfl, bv3⟩; dsimp only [numV]))
                have hI3 := Lib.hid (bld_keep hI2.out (bv2.trans bv3))
                have hit3 := Lib.hid (heap_keep (bv2.trans bv3) hit2.out)
                have hb3 := (hb2.trans bv2).trans bv3
                have hsz3 : w.heap.size ≤ V3.heap.size := hb3.size
                go_wp2_with (go_at_call 28; refine (writeRune_any w.heap.size w.heap.size _ (r' : Int) (by omega) (by omega) _ hI3.out HL.out hsz3).mono ?_; rintro e V4 ⟨rfl, h1, b1, k1⟩)
                go_roundg (s.size - (pos + 1))
                case measure => have := hh.out.2.2.2.2.2; omega
                case rel =>
                  rw [HW.out] at hit3
                  refine ⟨pos + 1, pos + 1 + m + 1, f, acc ++ Lib.encodeRune (r' : Int), ?_, by omega, ?_, k1.iter hit3.out (by omega), Below.trans hb3 b1, ⟨by omega, ?_, ?_, LOW.out, ?_, rfl⟩⟩
                  · have h2 := HM.out.2.2.2.2
                    exact congrArg (fun z => Value.int .i64 z) (by omega)
                  · show Lib.IsBuilderF _ _ _ _ _ _
                    rw [Lib.byteCells_append, Lib.byteCells_encodeRune]
                    exact Or.inr h1
                  · rw [show max (pos + 1) (pos + 1 + m + 1) = pos + 1 + m + 1 from by omega]
                    exact L.out
                  · have := HFU.out; omega
                  · rw [List.length_append, ← Lib.runeCells_length, show max (pos + 1) (pos + 1 + m + 1) = pos + 1 + m + 1 from by omega]
                    have h2 := HAL.out
                    have h3 := (Lib.runeCells_le (r' : Int)).2
                    have h4 := M2.out
                    omega
          · have e38 : ((r : Int) == 38) = false := by rw [beq_eq_false_iff_ne]; omega
            have hc38 : s[pos] ≠ 38 := fun h => hr38 (by rw [HR0.out]; exact (r_byte s pos hp 38 (by decide)).2 (by rw [h]; rfl))
            rw [un_ok _ _ _ _ _ hc60 hc38, ← hst, ← okAt_L, ← wdAt_L] at hu
            cases hv : sgn r with
            | false =>
              have HV := Lib.hid hv
              have HK := HV
              have L := Lib.hid (show unS s = ([], pos, 6) by rw [hu, hokis, hv]; rfl)
              clear hu hv hst hokis hc60 hr60 hr38 hc38
              go_wp2_with (first
                  | (go_at_call 21; refine (valid_any r hr' _).mono ?_; rintro e V1 ⟨rfl, rfl⟩; rw [HV.out])
                  | (go_at_call 22; refine (broken_any _ r hr' _).mono ?_; rintro e V2 ⟨rfl, rfl⟩; rw [HK.out]))
              go_ret3
              exact ⟨by (rw [L.out]) <;> rfl, hb2⟩
            | true =>
              cases hk : brokenB (s.extract pos s.size) r with
              | true =>
                have HV := Lib.hid hv
                have HK := Lib.hid hk
                have L := Lib.hid (show unS s = ([], pos, 6) by rw [hu, hokis, hv, hk]; rfl)
                clear hu hv hk hst hokis hc60 hr60 hr38 hc38
                go_wp2_with (first
                  | (go_at_call 21; refine (valid_any r hr' _).mono ?_; rintro e V1 ⟨rfl, rfl⟩; rw [HV.out])
                  | (go_at_call 22; refine (broken_any _ r hr' _).mono ?_; rintro e V2 ⟨rfl, rfl⟩; rw [HK.out]))
                go_ret3
                exact ⟨by (rw [L.out]) <;> rfl, hb2⟩
              | false =>
                have HV := Lib.hid hv
                have HK := Lib.hid hk
                have hok : okAt s pos = true := by rw [hokis, hv, hk]; rfl
                have hne : s.data.toList.drop pos ≠ [] := by rw [hst]; simp
                have HEN := Lib.hid (show Lib.encodeRune (r : Int) = (s.data.toList.drop pos).take (wdAt s pos) by
                  have h1 := enc_ok (s.data.toList.drop pos) hne (by rw [← okAt_L]; exact hok)
                  rw [← decAt_L, ← HR0.out, ← wdAt_L] at h1
                  exact h1)
                have L := Lib.hid (show unS s = unL f (pos + wdAt s pos) (s.data.toList.drop (pos + wdAt s pos)) (acc ++ Lib.encodeRune (r : Int)) by rw [hu, hok, if_pos rfl, List.drop_drop, HEN.out])
                have HW4 := Lib.hid (show (Lib.encodeRune (r : Int)).length ≤ wdAt s pos by
                  rw [HEN.out, List.length_take]
                  omega)
                clear hu hv hk hst hokis hc60 hr60 hr38 hc38 hok hne
                go_wp2_with (first
                  | (go_at_call 21; refine (valid_any r hr' _).mono ?_; rintro e V1 ⟨rfl, rfl⟩; rw [HV.out])
                  | (go_at_call 22; refine (broken_any _ r hr' _).mono ?_; rintro e V2 ⟨rfl, rfl⟩; rw [HK.out])
                  | (go_at_call 28; refine (writeRune_any w.heap.size w.heap.size _ (r : Int) (by omega) (by omega) _ hI2.out HL.out hsz2).mono ?_; rintro e V4 ⟨rfl, h1, b1, k1⟩))
                go_roundg (s.size - (pos + wdAt s pos))
                case measure => have := hh.out.2.2.2.2.2; have := HWL.out; omega
                case rel =>
                  have hx : max (pos + wdAt s pos) nxt = pos + wdAt s pos := by have := HNX.out; omega
                  refine ⟨pos + wdAt s pos, nxt, f, acc ++ Lib.encodeRune (r : Int), rfl, hnl, ?_, k1.iter hit2.out (by omega), Below.trans hb2 b1, ⟨HWL.out.1, by rw [hx]; exact L.out, by rw [hx]; have := HFU.out; have := HWL.out.2; omega, fun j h2 h3 => by have := HNX.out; omega, ?_, rfl⟩⟩
                  · show Lib.IsBuilderF _ _ _ _ _ _
                    rw [Lib.byteCells_append, Lib.byteCells_encodeRune]
                    exact Or.inr h1
                  · rw [hx, List.length_append]
                    have h2 := HAL.out
                    have h3 := HW4.out
                    omega
    · have hnx : ∀ ty, (Instr.next (.pointer (some ⟨w.heap.size + 1, 0, none⟩)) true ty).run Try.prog wr = .ok (.tuple #[.bool false]) wr := fun ty => Lib.run_next_end_at wr (w.heap.size + 1) s pos ty hit.out hp
      have hsz2 : w.heap.size ≤ wr.heap.size := hbw.size
      have L := Lib.hid (show unS s = (acc, 0, 0) by rw [hh.out.2.1, List.drop_of_length_le (by rw [size_list]; omega), un_end])
      go_wp2_with (go_at_call 29; refine (Try.Builder_String_any_k w.heap.size w.heap.size acc _ hI.out hsz2).mono ?_; rintro e V1 ⟨rfl, _, b1, _⟩)
      go_ret3
      exact ⟨by (rw [L.out]) <;> rfl, Below.trans hbw b1⟩
end Go.Proofs.Ythcpgbbmgabpnaa
