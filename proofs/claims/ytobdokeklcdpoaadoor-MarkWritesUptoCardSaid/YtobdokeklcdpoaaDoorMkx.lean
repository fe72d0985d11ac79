import Derived.Test.YtobdokeklcdpoaaDoorMkw
namespace Go.Proofs.YtobdokeklcdpoaaDoor
set_option linter.unusedSimpArgs false
set_option linter.unusedVariables false
open Go.RowKit

/-! The reader: a piece; all marks of a text. -/
theorem PartOut.since {B : Nat} {s : ByteArray} {p : Nat} {l : List UInt8} {ms : List Mk} {q e : Int} {r : Ending} {w W w' : World} {X : Res} (h : PartOut B s p l ms q e r W w' X) (hb : Bel w W) (hB : B ≤ w.heap.size) : PartOut B s p l ms q e r w w' X := by
  have hw : Below B w W := Below.mono hb hB
  cases X with
  | bad d er => exact ⟨hw.trans h.1, h.2⟩
  | ok r2 m => exact ⟨hw.trans h.1, h.2⟩
theorem preB_is (s : ByteArray) (p : Nat) (t : List UInt8) : preB s p ⟨t.toArray⟩ = t.isPrefixOf (s.data.toList.drop p) := rfl
theorem part_ret {B : Nat} {s : ByteArray} {p : Nat} {l : List UInt8} {ms : List Mk} {q e : Int} {w w' : World} {X : Res} {r : Ending} (h : PartOut B s p l ms q e r w w' X) : ∃ b, r = .returned (.bool b) := by
  cases X with
  | bad d er => exact ⟨_, h.2.1⟩
  | ok r2 m => exact ⟨_, h.2.1⟩
section
variable {w : World} {B p : Nat} {s : ByteArray} {ms : List Mk} {q e : Int}
set_option maxRecDepth 100000 in
set_option maxHeartbeats 4000000 in
theorem part_any (h : St w B s p ms q e) (hm : Mx w) (hgB : 0 < B) (hp : p ≤ s.size) (hs : s.size ≤ 65536) (hml : ms.length ≤ 65536) :
    Calls Tryd.prog 20 #[.pointer (some ⟨B, 0, none⟩)] w fun r w' => PartOut B s p (s.data.toList.drop p) ms q e r w w' (stepL (s.data.toList.drop p)) := by
  have hB0 : B ≤ w.heap.size := by obtain ⟨v, hR, _⟩ := h; exact Nat.le_of_lt hR.1
  have FO := Lib.hid fun W (hb : Bel w W) (t : List UInt8) => (show Calls Tryd.prog 28 #[.pointer (some ⟨B, 0, none⟩), .string ⟨t.toArray⟩] W fun r w' => r = .returned (.bool (t.isPrefixOf (s.data.toList.drop p))) ∧ Bel W w' from by
    obtain ⟨v, hR, _⟩ := h
    exact follows_any (hR.keep hb) hp hs _)
  unfold stepL
  by_cases h1 : [60, 33, 45, 45].isPrefixOf (s.data.toList.drop p) = true
  · rw [if_pos h1]
    obtain ⟨u, hu⟩ := (pre_iff _ _).1 h1
    have F1 := Lib.hid fun W (hb : Bel w W) => (FO.out W hb [60, 33, 45, 45])
    rw [h1] at F1
    have C := Lib.hid fun W (hb : Bel w W) => (comment_any (h.keep hb) (hm.keep hb) hgB hp hs hu)
    have BB := Lib.hid hB0
    generalize s.data.toList.drop p = l at *
    clear h1 h hm hB0 FO
    go_enter Tryd.func20, Tryd.ntmps20
    go_wp2_with (first
      | (go_at_call 29; refine (C.out _ hb1).mono ?_; intro r w9 hP; obtain ⟨b, rfl⟩ := part_ret hP; have HP := Lib.hid (hP.since hb1 BB.out); clear hP)
      | (go_at_call 28; refine (F1.out _ (Bel.refl w)).mono ?_; rintro r w1 ⟨rfl, hb1⟩))
    go_ret
    exact HP.out
  · rw [if_neg h1]
    replace h1 := Bool.eq_false_iff.2 h1
    by_cases h2 : [60, 33, 91, 67, 68, 65, 84, 65, 91].isPrefixOf (s.data.toList.drop p) = true
    · rw [if_pos h2]
      obtain ⟨u, hu⟩ := (pre_iff _ _).1 h2
      have F1 := Lib.hid fun W (hb : Bel w W) => (FO.out W hb [60, 33, 45, 45])
      rw [h1] at F1
      have F2 := Lib.hid fun W (hb : Bel w W) => (FO.out W hb [60, 33, 91, 67, 68, 65, 84, 65, 91])
      rw [h2] at F2
      have C := Lib.hid fun W (hb : Bel w W) => (section_any (h.keep hb) (hm.keep hb) hgB hp hs hml hu)
      have BB := Lib.hid hB0
      generalize s.data.toList.drop p = l at *
      clear h1 h2 h hm hB0 FO
      go_enter Tryd.func20, Tryd.ntmps20
      go_wp2_with (first
        | (go_at_call 30; refine (C.out _ (hb1.trans hb2)).mono ?_; intro r w9 hP; obtain ⟨b, rfl⟩ := part_ret hP; have HP := Lib.hid (hP.since (hb1.trans hb2) BB.out); clear hP)
        | (go_at_call 28; refine (F2.out _ hb1).mono ?_; rintro r w2 ⟨rfl, hb2⟩)
        | (go_at_call 28; refine (F1.out _ (Bel.refl w)).mono ?_; rintro r w1 ⟨rfl, hb1⟩))
      go_ret
      exact HP.out
    · rw [if_neg h2]
      replace h2 := Bool.eq_false_iff.2 h2
      by_cases h3 : [60, 47].isPrefixOf (s.data.toList.drop p) = true
      · rw [if_pos h3]
        obtain ⟨u, hu⟩ := (pre_iff _ _).1 h3
        have F1 := Lib.hid fun W (hb : Bel w W) => (FO.out W hb [60, 33, 45, 45])
        rw [h1] at F1
        have F2 := Lib.hid fun W (hb : Bel w W) => (FO.out W hb [60, 33, 91, 67, 68, 65, 84, 65, 91])
        rw [h2] at F2
        have F3 := Lib.hid fun W (hb : Bel w W) => (FO.out W hb [60, 47])
        rw [h3] at F3
        have C := Lib.hid fun W (hb : Bel w W) => (end_any (h.keep hb) hp hs hml hu)
        have BB := Lib.hid hB0
        generalize s.data.toList.drop p = l at *
        clear h1 h2 h3 h hm hB0 FO
        go_enter Tryd.func20, Tryd.ntmps20
        go_wp2_with (first
          | (go_at_call 31; refine (C.out _ ((hb1.trans hb2).trans hb3)).mono ?_; intro r w9 hP; obtain ⟨b, rfl⟩ := part_ret hP; have HP := Lib.hid (hP.since ((hb1.trans hb2).trans hb3) BB.out); clear hP)
          | (go_at_call 28; refine (F3.out _ (hb1.trans hb2)).mono ?_; rintro r w3 ⟨rfl, hb3⟩)
          | (go_at_call 28; refine (F2.out _ hb1).mono ?_; rintro r w2 ⟨rfl, hb2⟩)
          | (go_at_call 28; refine (F1.out _ (Bel.refl w)).mono ?_; rintro r w1 ⟨rfl, hb1⟩))
        go_ret
        exact HP.out
      · rw [if_neg h3]
        replace h3 := Bool.eq_false_iff.2 h3
        by_cases h4 : [60].isPrefixOf (s.data.toList.drop p) = true
        · rw [if_pos h4]
          obtain ⟨u, hu⟩ := (pre_cons _ _).1 h4
          have F1 := Lib.hid fun W (hb : Bel w W) => (FO.out W hb [60, 33, 45, 45])
          rw [h1] at F1
          have F2 := Lib.hid fun W (hb : Bel w W) => (FO.out W hb [60, 33, 91, 67, 68, 65, 84, 65, 91])
          rw [h2] at F2
          have F3 := Lib.hid fun W (hb : Bel w W) => (FO.out W hb [60, 47])
          rw [h3] at F3
          have F4 := Lib.hid fun W (hb : Bel w W) => (FO.out W hb [60])
          rw [h4] at F4
          have C := Lib.hid fun W (hb : Bel w W) => (begin_any (h.keep hb) (hm.keep hb) hgB hp hs hml hu)
          have BB := Lib.hid hB0
          generalize s.data.toList.drop p = l at *
          clear h1 h2 h3 h4 h hm hB0 FO
          go_enter Tryd.func20, Tryd.ntmps20
          go_wp2_with (first
            | (go_at_call 32; refine (C.out _ (((hb1.trans hb2).trans hb3).trans hb4)).mono ?_; intro r w9 hP; obtain ⟨b, rfl⟩ := part_ret hP; have HP := Lib.hid (hP.since (((hb1.trans hb2).trans hb3).trans hb4) BB.out); clear hP)
            | (go_at_call 28; refine (F4.out _ ((hb1.trans hb2).trans hb3)).mono ?_; rintro r w4 ⟨rfl, hb4⟩)
            | (go_at_call 28; refine (F3.out _ (hb1.trans hb2)).mono ?_; rintro r w3 ⟨rfl, hb3⟩)
            | (go_at_call 28; refine (F2.out _ hb1).mono ?_; rintro r w2 ⟨rfl, hb2⟩)
            | (go_at_call 28; refine (F1.out _ (Bel.refl w)).mono ?_; rintro r w1 ⟨rfl, hb1⟩))
          go_ret
          exact HP.out
        · rw [if_neg h4]
          replace h4 := Bool.eq_false_iff.2 h4
          have F1 := Lib.hid fun W (hb : Bel w W) => (FO.out W hb [60, 33, 45, 45])
          rw [h1] at F1
          have F2 := Lib.hid fun W (hb : Bel w W) => (FO.out W hb [60, 33, 91, 67, 68, 65, 84, 65, 91])
          rw [h2] at F2
          have F3 := Lib.hid fun W (hb : Bel w W) => (FO.out W hb [60, 47])
          rw [h3] at F3
          have F4 := Lib.hid fun W (hb : Bel w W) => (FO.out W hb [60])
          rw [h4] at F4
          have C := Lib.hid fun W (hb : Bel w W) => (plain_any (h.keep hb) (hm.keep hb) hgB hp hs hml)
          have BB := Lib.hid hB0
          generalize s.data.toList.drop p = l at *
          clear h1 h2 h3 h4 h hm hB0 FO
          go_enter Tryd.func20, Tryd.ntmps20
          go_wp2_with (first
            | (go_at_call 33; refine (C.out _ (((hb1.trans hb2).trans hb3).trans hb4)).mono ?_; intro r w9 hP; obtain ⟨b, rfl⟩ := part_ret hP; have HP := Lib.hid (hP.since (((hb1.trans hb2).trans hb3).trans hb4) BB.out); clear hP)
            | (go_at_call 28; refine (F4.out _ ((hb1.trans hb2).trans hb3)).mono ?_; rintro r w4 ⟨rfl, hb4⟩)
            | (go_at_call 28; refine (F3.out _ (hb1.trans hb2)).mono ?_; rintro r w3 ⟨rfl, hb3⟩)
            | (go_at_call 28; refine (F2.out _ hb1).mono ?_; rintro r w2 ⟨rfl, hb2⟩)
            | (go_at_call 28; refine (F1.out _ (Bel.refl w)).mono ?_; rintro r w1 ⟨rfl, hb1⟩))
          go_ret
          exact HP.out
end
/-! Marks, as they are read. -/
def MkAt (w : World) (b o : Nat) (m : Mk) : Prop := ∃ A c, w.cell? ⟨b, o, none⟩ = some (.int .i64 m.kind) ∧ w.cell? ⟨b, o + 1, none⟩ = some (.int .i64 m.pos) ∧ w.cell? ⟨b, o + 2, none⟩ = some (.string (bytesOf m.name)) ∧ w.cell? ⟨b, o + 3, none⟩ = some (.slice A m.attrs.length c) ∧ w.cell? ⟨b, o + 4, none⟩ = some (.string (bytesOf m.text)) ∧ Row w A (atsCells m.attrs)
def Mks (w : World) (A : Option Addr) (ms : List Mk) : Prop := 0 < ms.length → ∃ b off, A = some ⟨b, off, none⟩ ∧ b < w.heap.size ∧ ∀ j m, ms[j]? = some m → MkAt w b (off + j * 5) m
theorem MkAt.keep {w w' : World} {b o : Nat} {m : Mk} (h : MkAt w b o m) (hb : Bel w w') (hlt : b < w.heap.size) : MkAt w' b o m := by
  obtain ⟨A, c, h0, h1, h2, h3, h4, h5⟩ := h
  have k := fun i => hb.cells b i hlt
  exact ⟨A, c, (k _).trans h0, (k _).trans h1, (k _).trans h2, (k _).trans h3, (k _).trans h4, h5.keep hb⟩
theorem Mks.keep {w w' : World} {A : Option Addr} {ms : List Mk} (h : Mks w A ms) (hb : Bel w w') : Mks w' A ms := fun h0 => by
  obtain ⟨b, off, e, hlt, hc⟩ := h h0
  exact ⟨b, off, e, Nat.lt_of_lt_of_le hlt hb.size, fun j m hj => (hc j m hj).keep hb hlt⟩
theorem MCells.at_ {w : World} {B : Nat} {E : Option Nat} : ∀ {ms : List Mk} {xs : List Value} (j : Nat) (m : Mk), MCells w B E ms xs → ms[j]? = some m → ∃ A c, Row w A (atsCells m.attrs) ∧ ∀ i u, (mkHead m A c)[i]? = some u → xs[j * 5 + i]? = some u
  | [], xs, j, m, _, h => by simp at h
  | n :: ms, xs, 0, m, h, hj => by
    obtain rfl : n = m := by simpa using hj
    obtain ⟨A, c, ys, rfl, h2, _, _⟩ := h
    refine ⟨A, c, h2, fun i u hu => ?_⟩
    rw [Nat.zero_mul, Nat.zero_add, List.getElem?_append_left (List.getElem?_eq_some_iff.1 hu).1]
    exact hu
  | n :: ms, xs, j + 1, m, h, hj => by
    obtain ⟨A, c, ys, rfl, h2, _, h4⟩ := h
    obtain ⟨A', c', k1, k2⟩ := h4.at_ j m hj
    refine ⟨A', c', k1, fun i u hu => ?_⟩
    have hl : (mkHead n A c).length = 5 := rfl
    rw [List.getElem?_append_right (by rw [hl]; omega), hl, show (j + 1) * 5 + i - 5 = j * 5 + i by omega]
    exact k2 i u hu
theorem MkRows.reads {w : World} {B : Nat} {A : Option Addr} {n c : Nat} {ms : List Mk} (h : MkRows w B (.slice A n c) ms) : Mks w A ms := fun h0 => by
  obtain ⟨xs, h1, h2⟩ := h
  obtain ⟨A', c', e', hr, _⟩ := own_row h1
  cases e'
  obtain ⟨b, off, e, hlt, hc⟩ := hr (by rw [h2.len]; omega)
  refine ⟨b, off, e, hlt, fun j m hj => ?_⟩
  obtain ⟨A2, c2, k1, k2⟩ := h2.at_ j m hj
  have g := fun i u hu => hc (j * 5 + i) u (k2 i u hu)
  refine ⟨A2, c2, ?_, ?_, ?_, ?_, ?_, k1⟩
  · exact g 0 _ rfl
  · exact g 1 _ rfl
  · exact g 2 _ rfl
  · exact g 3 _ rfl
  · exact g 4 _ rfl
theorem MkRows.cap {w : World} {B : Nat} {A : Option Addr} {n c : Nat} {ms : List Mk} (h : MkRows w B (.slice A n c) ms) : ms.length ≤ c := by
  obtain ⟨xs, h1, _⟩ := h
  rcases h1.2 with ⟨h2, h3⟩ | ⟨g, cap, cur, h2, _, _, h3, _⟩
  · omega
  · cases h2; exact h3
def MarksOut (s : ByteArray) (w w' : World) (r : Ending) : Prop := Bel w w' ∧ ∃ A c, r = .returned (.tuple #[.slice A (marksS s).1.length c, .int .i64 ((marksS s).2.1 : Nat), .int .i64 ((marksS s).2.2 : Nat)]) ∧ Mks w' A (marksS s).1 ∧ (marksS s).1.length ≤ c
set_option maxRecDepth 100000 in
set_option maxHeartbeats 8000000 in
theorem marks_any (s : ByteArray) (w : World) (hm : Mx w) : Calls Tryd.prog 10 #[.string s] w fun r w' => MarksOut s w w' r := by
  by_cases hs : 65536 < s.size
  · have L := Lib.hid (show marksS s = ([], 0, 10) from if_pos hs)
    have i1 : (65536 : Int) < s.size := by omega
    clear hs
    go_enter Tryd.func10, Tryd.ntmps10
    go_wp2
    go_ret3
    refine ⟨Bel.refl _, none, 0, ?_, ?_⟩
    · rw [L.out] <;> rfl
    · rw [L.out]; exact ⟨fun h => absurd h (by simp), Nat.zero_le _⟩
  · have L := Lib.hid (show marksS s = marksL (s.size + 1) 0 s.data.toList [] from if_neg hs)
    obtain ⟨RES, hRES⟩ : ∃ RES, RES = marksS s := ⟨_, rfl⟩
    have OUT := Lib.hid (show ∀ r w', MarksOut s w w' r = (Bel w w' ∧ ∃ A c, r = .returned (.tuple #[.slice A RES.1.length c, .int .i64 (RES.2.1 : Nat), .int .i64 (RES.2.2 : Nat)]) ∧ Mks w' A RES.1 ∧ RES.1.length ≤ c) from fun r w' => by rw [hRES]; rfl)
    have HR := Lib.hid (hRES.trans L.out)
    have i1 : (s.size : Int) ≤ 65536 := by omega
    have hs' : s.size ≤ 65536 := by omega
    have hml := mx_lt hm
    have MX := Lib.hid hm
    clear hRES L hs
    go_enter Tryd.func10, Tryd.ntmps10
    go_wp2
    have hb0 := (Bel.refl w).alloc (.cells #[.string s, .int .i64 0, .slice none 0 0, .int .i64 0, .int .i64 0] 51)
    have R0 : Rec (w.alloc (.cells #[.string s, .int .i64 0, .slice none 0 0, .int .i64 0, .int .i64 0] 51)) w.heap.size s 0 (.slice none 0 0) 0 0 := by
      simp [Rec, go_sem]
    have S0 := Lib.hid (show St (w.alloc (.cells #[.string s, .int .i64 0, .slice none 0 0, .int .i64 0, .int .i64 0] 51)) w.heap.size s 0 [] 0 0 from ⟨_, R0, MkRows.nil _ _⟩)
    have HB0 := Lib.hid hb0
    clear R0 hb0 hm
    obtain ⟨B, hB⟩ : ∃ B, B = w.heap.size := ⟨_, rfl⟩
    rw [← hB] at S0 hml ⊢
    have BE := Lib.hid hB
    clear hB
    go_loopg [] (s.size + 1) (fun g wr => ∃ (p f : Nat) (ms : List Mk), Hid (g = s.size - p + 1 ∧ p ≤ s.size ∧ ms.length ≤ p ∧ RES = marksL f p (s.data.toList.drop p) ms ∧ s.size - p < f) ∧ Hid (Bel w wr) ∧ Hid (St wr B s p ms 0 0))
    case atStart => exact ⟨0, s.size + 1, [], ⟨rfl, Nat.zero_le _, by simp, by rw [List.drop_zero]; exact HR.out, by omega⟩, HB0.out, S0.out⟩
    case round =>
      obtain ⟨p, f, ms, hh, hb, hSt⟩ := hrel
      obtain ⟨f, rfl⟩ : ∃ f', f = f' + 1 := ⟨f - 1, by have := hh.out.2.2.2.2; omega⟩
      have hp := hh.out.2.1
      have hls : (s.data.toList.drop p).length = s.size - p := by rw [List.length_drop, size_list]
      obtain ⟨v, hRc, hMr⟩ := (id hSt.out : St wr B s p ms 0 0)
      have HMr := Lib.hid hMr
      obtain ⟨A, c, rfl⟩ := hMr.val
      clear hMr
      have HRc := Lib.hid hRc
      obtain ⟨r0, ⟨a0, a1, a2, a3, a4⟩, ⟨f0, f1, f2, f3, f4⟩⟩ := hRc
      by_cases hlt : p < s.size
      · have i2 : (p : Int) < s.size := by omega
        obtain ⟨c0, t0, hct⟩ : ∃ c0 t0, s.data.toList.drop p = c0 :: t0 := by
          cases hd : s.data.toList.drop p with
          | nil => rw [hd] at hls; simp at hls; omega
          | cons c0 t0 => exact ⟨c0, t0, rfl⟩
        have PC := Lib.hid (part_any hSt.out (MX.out.keep hb.out) hml hp hs' (by have := hh.out.2.2.1; omega))
        have RS := hh.out.2.2.2.1
        rw [hct] at RS
        unfold marksL at RS
        rw [← hct] at RS
        cases hst : stepL (s.data.toList.drop p) with
        | bad d er =>
          rw [hst] at RS PC
          simp only at RS
          have RS := Lib.hid RS
          clear hct hls hst
          go_wp2_with (go_at_call 20; refine PC.out.mono ?_; rintro r w2 ⟨hB2, rfl, p2, v2, hR2, _⟩; obtain ⟨q0, ⟨c20, c21, c22, c23, c24⟩, _⟩ := hR2)
          go_region
          all_goals
            go_wp2
            go_ret3
            rw [OUT.out]
            refine ⟨?_, none, 0, ?_, ?_⟩
            · have hB3 : Below w.heap.size wr w2 := by rw [← BE.out]; exact hB2
              exact Bel.drew (Below.trans hb.out hB3)
            · rw [RS.out] <;> rfl
            · rw [RS.out]; exact ⟨fun h => absurd h (by simp), Nat.zero_le _⟩
        | ok rest m =>
          rw [hst] at RS PC
          simp only at RS
          obtain ⟨pre, e1, e2, _, _⟩ := stepL_ok (by rw [hct]; simp) hst
          obtain ⟨hd2, hz2⟩ := drop_more hp e1
          have e1l := congrArg List.length e1
          rw [List.length_append] at e1l
          have hpl := List.length_pos_iff.2 e2
          have hsub : (s.data.toList.drop p).length - rest.length = pre.length := by omega
          rw [hsub] at RS
          have PC2 := Lib.hid (show Calls Tryd.prog 20 #[.pointer (some ⟨B, 0, none⟩)] wr fun r w' => Below B wr w' ∧ r = .returned (.bool true) ∧ St w' B s (p + pre.length) (ms ++ optM p m) 0 0 from PC.out.mono fun r w' hP => by
            obtain ⟨k1, k2, k3⟩ := hP
            rw [hsub] at k3
            exact ⟨k1, k2, k3⟩)
          have RS := Lib.hid RS
          have HF := Lib.hid (show s.size - (p + pre.length) < f ∧ p + pre.length ≤ s.size ∧ (ms ++ optM p m).length ≤ p + pre.length ∧ 1 ≤ pre.length from by
            have h1 := hh.out.2.2.1
            have h2 := hh.out.2.2.2.2
            refine ⟨by omega, by omega, ?_, hpl⟩
            rw [List.length_append]
            have : (optM p m).length ≤ 1 := by cases m <;> simp [optM]
            omega)
          have HD := Lib.hid hd2
          clear hct hls hst PC hd2 hz2 e1 e1l hsub hpl e2
          go_wp2_with (go_at_call 20; refine PC2.out.mono ?_; rintro r w2 ⟨hB2, rfl, hS2⟩)
          go_roundg (s.size - (p + pre.length) + 1)
          case measure => have h1 := hh.out.1; have h2 := HF.out; omega
          case rel =>
            refine ⟨p + pre.length, f, _, ⟨rfl, HF.out.2.1, HF.out.2.2.1, by rw [HD.out]; exact RS.out, HF.out.1⟩, ?_, hS2⟩
            have hB3 : Below w.heap.size wr w2 := by rw [← BE.out]; exact hB2
            exact Below.trans hb.out hB3
      · obtain rfl : p = s.size := by omega
        have RS := hh.out.2.2.2.1
        rw [List.drop_of_length_le (by rw [size_list]; exact Nat.le_refl _)] at RS
        have RS := Lib.hid (show RES = (ms, 0, 0) from RS)
        clear hls
        go_wp2
        go_ret3
        rw [OUT.out]
        refine ⟨hb.out, A, c, ?_, ?_⟩
        · rw [RS.out] <;> rfl
        · rw [RS.out]; exact ⟨HMr.out.reads, HMr.out.cap⟩
end Go.Proofs.YtobdokeklcdpoaaDoor
