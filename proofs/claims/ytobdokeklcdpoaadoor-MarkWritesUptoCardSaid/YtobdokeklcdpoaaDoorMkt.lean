import Derived.Test.YtobdokeklcdpoaaDoorMkq
namespace Go.Proofs.YtobdokeklcdpoaaDoor
set_option linter.unusedSimpArgs false
set_option linter.unusedVariables false
open Go.RowKit

/-! The reader: comments, sections, texts, ends. -/
/-- What comes of a piece. -/
def PartOut (B : Nat) (s : ByteArray) (p : Nat) (l : List UInt8) (ms : List Mk) (q e : Int) (r : Ending) (w w' : World) : Res → Prop
  | .bad d er => Below B w w' ∧ r = .returned (.bool false) ∧ ∃ p', St w' B s p' ms ((p + d : Nat) : Int) er
  | .ok rest m => Below B w w' ∧ r = .returned (.bool true) ∧ St w' B s (p + (l.length - rest.length)) (ms ++ optM p m) q e
theorem drop_more {s : ByteArray} {p : Nat} {a u : List UInt8} (hp : p ≤ s.size) (hl : s.data.toList.drop p = a ++ u) : s.data.toList.drop (p + a.length) = u ∧ p + a.length + u.length = s.size := by
  constructor
  · rw [← List.drop_drop, hl]; simp
  · have := congrArg List.length hl
    rw [List.length_drop, size_list, List.length_append] at this
    omega
theorem preB_of {s : ByteArray} {p : Nat} {a u : List UInt8} (hl : s.data.toList.drop p = a ++ u) : preB s p ⟨a.toArray⟩ = true := by
  unfold preB
  rw [hl]
  exact (pre_iff _ _).2 ⟨u, rfl⟩
theorem drop_tw (f : UInt8 → Bool) (l : List UInt8) : l.drop (l.takeWhile f).length = l.dropWhile f := by
  obtain ⟨h1, _, _⟩ := span_is f l
  generalize l.takeWhile f = x at *
  generalize l.dropWhile f = y at *
  subst h1
  simp
theorem tw_lens (f : UInt8 → Bool) (l : List UInt8) : (l.takeWhile f).length + (l.dropWhile f).length = l.length := by
  have := congrArg List.length (span_is f l).1
  rw [List.length_append] at this
  exact this.symm
theorem cut_lt_is (l : List UInt8) : match cutL [60] l with
    | some (a, b) => l.takeWhile (· != 60) = a
    | none => l.takeWhile (· != 60) = l := by
  induction l with
  | nil => rfl
  | cons c t ih =>
    unfold cutL
    by_cases h : c = 60
    · subst h
      simp [List.isPrefixOf]
    · rw [if_neg (by simp [List.isPrefixOf]; exact fun e => h e.symm), List.takeWhile_cons, if_pos (by simpa using h)]
      cases hc : cutL [60] t with
      | none => rw [hc] at ih; simp only at ih ⊢; rw [ih]
      | some x =>
        obtain ⟨a, b⟩ := x
        rw [hc] at ih
        simp only at ih ⊢
        rw [ih]
theorem MkRows.val1 {w : World} {B : Nat} {v : Value} {ms : List Mk} {m : Mk} (h : MkRows w B v (ms ++ [m])) : ∃ A c, v = .slice A (ms.length + 1) c := by
  obtain ⟨A, c, e⟩ := h.val
  exact ⟨A, c, by rw [e, List.length_append]; rfl⟩
theorem MkRows.ne {w : World} {B : Nat} {v : Value} {ms : List Mk} (h : MkRows w (B + 1) v ms) : v.ownBlock ≠ some B := by
  obtain ⟨xs, h1, _⟩ := h
  intro e
  have := (World.ownsRow.lt h1 B e).1
  omega
section
variable {w : World} {B p : Nat} {s : ByteArray} {v : Value} {ms : List Mk} {q e : Int}
theorem white_meth (h : Rec w B s p v q e) (hp : p ≤ s.size) (hs : s.size ≤ 65536) {x : List UInt8} (hx : x = (s.data.toList.drop p).takeWhile whB) :
    Calls Tryd.prog 46 #[.pointer (some ⟨B, 0, none⟩)] w fun r w' => r = .returned (.bool (decide (0 < x.length))) ∧ (Rec w' B s (p + x.length) v q e ∧ BelBut w w' (some B)) := by
  have h1 := tw_lens whB (s.data.toList.drop p)
  rw [List.length_drop, size_list, ← hx] at h1
  refine (white_any h hp hs rfl).mono fun r w' ⟨hr, hR, hB⟩ => ⟨?_, ?_, hB⟩
  · rw [hr]
    congr 2
    rw [decide_eq_decide]
    omega
  · have e1 : s.size - ((s.data.toList.drop p).dropWhile whB).length = p + x.length := by omega
    rwa [e1] at hR
theorem cut_lt (hm : Mx w) (z : ByteArray) (hz : z.size ≤ 65536) :
    Calls Tryd.prog 48 #[.string z, .string ⟨#[60]⟩] w fun r w' => ∃ x y, r = .returned (.tuple #[.string (bytesOf (z.data.toList.takeWhile (· != 60))), .string x, .bool y]) ∧ Bel w w' := by
  obtain ⟨h1, h2⟩ := cut_call hm z ⟨#[60]⟩ hz (by simp)
  have h3 := cut_lt_is z.data.toList
  cases hc : cutL [60] z.data.toList with
  | none =>
    rw [hc] at h3
    rw [h3]
    exact (h2 hc).mono fun r w' ⟨hr, hb⟩ => ⟨⟨#[]⟩, false, by rw [hr, bytesOf_data], hb⟩
  | some x =>
    obtain ⟨a, b⟩ := x
    rw [hc] at h3
    simp only at h3
    rw [h3]
    exact (h1 a b hc).mono fun r w' ⟨hr, hb⟩ => ⟨_, _, hr, hb⟩
/-- A mark put behind, as the walk meets it. -/
theorem app_plain (h : MkRows w B v ms) (hB : B ≤ w.heap.size) (hlen : ms.length ≤ 65536) (k x : Int) (nm tx : List UInt8) (ty : TypeId) :
    ∃ v' w', (Builtin.append_ #[22, 22] ty #[v, .slice (some ⟨w.heap.size, 0, none⟩) 1 1]).run Tryd.prog (w.alloc (.cells #[.int .i64 k, .int .i64 x, .string (bytesOf nm), .slice none 0 0, .string (bytesOf tx)] 31)) = .ok v' w' ∧
      (MkRows w' B v' (ms ++ [⟨k, x, nm, [], tx⟩]) ∧ BelBut w w' v.ownBlock) :=
  app_mark h hB hlen ⟨k, x, nm, [], tx⟩ none 0 Row.nil (fun a e => by cases e) ty
theorem but_below' {w1 w2 : World} {v : Value} {w0 : World} {ms : List Mk} (h : BelBut w1 w2 v.ownBlock) (hne : v.ownBlock ≠ some B) (hM : MkRows w0 (B + 1) v ms) (hB : B ≤ w1.heap.size) : Below B w1 w2 := by
  obtain ⟨xs, h1, _⟩ := hM
  have hl := World.ownsRow.lt h1
  exact ⟨h.os, h.tape, h.output, h.size, fun k hk => h.block k (by omega) (fun e => by have := (hl k e.symm).1; omega)⟩
set_option maxRecDepth 100000 in
set_option maxHeartbeats 4000000 in
theorem comment_any (h : St w B s p ms q e) (hm : Mx w) (hgB : 0 < B) (hp : p ≤ s.size) (hs : s.size ≤ 65536) {u : List UInt8} (hl : s.data.toList.drop p = [60, 33, 45, 45] ++ u) :
    Calls Tryd.prog 29 #[.pointer (some ⟨B, 0, none⟩)] w fun r w' => PartOut B s p (s.data.toList.drop p) ms q e r w w' (comL (s.data.toList.drop p)) := by
  obtain ⟨v, hR, hM⟩ := h
  obtain ⟨hdr, hzr⟩ := drop_more hp hl
  have hBw : B ≤ w.heap.size := Nat.le_of_lt hR.1
  have BW := Lib.hid hBw
  have MM := Lib.hid hM
  have T1 := Lib.hid (take_yes hR hp hs ⟨#[60, 33, 45, 45]⟩ (by decide) (preB_of (a := [60, 33, 45, 45]) hl))
  rw [hl]
  have e4 : ([60, 33, 45, 45] ++ u).drop 4 = u := rfl
  unfold comL
  rw [e4]
  have hmk : ∀ W, BelBut w W (some B) → Mx W := fun W hb => hm.but hb (by simp; omega)
  simp only [List.length_cons, List.length_nil] at hdr hzr
  obtain ⟨r0, ⟨a0, a1, a2, a3, a4⟩, ⟨f0, f1, f2, f3, f4⟩⟩ := hR
  cases hc : cutL [45, 45] u with
  | none =>
    have U1 := Lib.hid fun W (R : Rec W B s (p + 4) v q e) (hb : BelBut w W (some B)) => until_no R (hmk W hb) (by omega) hs ⟨#[45, 45]⟩ (by simp) (by rw [hdr]; exact hc)
    simp only
    clear hc hl hM hBw hmk
    go_enter Tryd.func29, Tryd.ntmps29
    go_wp2_with (first
      | (go_at_call 43; refine (fail_any R2 _ _).mono ?_; rintro r W3 ⟨rfl, R3, B3⟩)
      | (go_at_call 42; refine (U1.out _ R1 B1).mono ?_; rintro r W2 ⟨rfl, R2, B2⟩)
      | (go_at_call 41; refine (T1.out).mono ?_; rintro r W1 ⟨rfl, R1, B1⟩; obtain ⟨r1, ⟨c10, c11, c12, c13, c14⟩, ⟨g10, g11, g12, g13, g14⟩⟩ := (id R1 : Rec W1 B s (p + 4) v q e)))
    go_ret
    exact ⟨but_below (but_trans B1 (but_trans B2 B3)) BW.out, rfl, _, v, R3, MM.out.light (but_trans B1 (but_trans B2 B3))⟩
  | some x =>
    obtain ⟨b, r⟩ := x
    have hu := cutL_split (by simp) hc
    have hul := congrArg List.length hu
    simp only [List.length_append, List.length_cons, List.length_nil] at hul
    obtain ⟨hd2, hz2⟩ := drop_more (s := s) (p := p + 4) (a := b ++ [45, 45]) (u := r) (by omega) (by rw [hdr, hu])
    simp only [List.length_append, List.length_cons, List.length_nil] at hd2 hz2
    have U1 := Lib.hid fun W (R : Rec W B s (p + 4) v q e) (hb : BelBut w W (some B)) => until_yes R (hmk W hb) (by omega) hs ⟨#[45, 45]⟩ (by simp) (by rw [hdr]; exact hc)
    have es : (⟨#[45, 45]⟩ : ByteArray).size = 2 := rfl
    rw [es] at U1
    have hbz : (bytesOf b).size ≤ 65536 := by rw [bytesOf_size]; omega
    simp only
    by_cases hr : [62].isPrefixOf r = true
    · obtain ⟨x, rfl⟩ := (pre_cons _ _).1 hr
      rw [if_pos hr]
      have T2 := Lib.hid fun W (R : Rec W B s (p + 4 + (b.length + 2)) v q e) => take_yes R (by omega) hs ⟨#[62]⟩ (by decide) (preB_of (a := [62]) (u := x) hd2)
      have es1 : (⟨#[62]⟩ : ByteArray).size = 1 := rfl
      rw [es1] at T2
      have LE := Lib.hid (show ([60, 33, 45, 45] ++ u).length - x.length = 4 + (b.length + 2) + 1 from by
        rw [hu]; simp only [List.length_append, List.length_cons, List.length_nil]; omega)
      rcases bad_rng (bytesOf b) with hb | hb
      · rw [if_pos hb]
        have V1 := Lib.hid fun W (R : Rec W B s (p + 4 + (b.length + 2) + 1) v q e) => valid_yes R (bytesOf b) hbz ((p + 4 : Nat) : Int) hb
        clear hc hl hM hBw hmk hr hb hu hul hdr hd2
        go_enter Tryd.func29, Tryd.ntmps29
        go_wp2_with (first
          | (go_at_call 44; refine (V1.out _ R3).mono ?_; rintro r W4 ⟨rfl, R4, B4⟩)
          | (go_at_call 41; refine (T2.out _ R2).mono ?_; rintro r W3 ⟨rfl, R3, B3⟩)
          | (go_at_call 42; refine (U1.out _ R1 B1).mono ?_; rintro r W2 ⟨rfl, R2, B2⟩)
          | (go_at_call 41; refine (T1.out).mono ?_; rintro r W1 ⟨rfl, R1, B1⟩; obtain ⟨r1, ⟨c10, c11, c12, c13, c14⟩, ⟨g10, g11, g12, g13, g14⟩⟩ := (id R1 : Rec W1 B s (p + 4) v q e)))
        go_ret
        refine ⟨but_below (but_trans B1 (but_trans B2 (but_trans B3 B4))) BW.out, rfl, v, ?_, ?_⟩
        · show Rec W4 B s (p + (([60, 33, 45, 45] ++ u).length - x.length)) v q e
          rw [LE.out]
          exact (show p + (4 + (b.length + 2) + 1) = p + 4 + (b.length + 2) + 1 by omega) ▸ R4
        · rw [show optM p none = [] from rfl, List.append_nil]
          exact MM.out.light (but_trans B1 (but_trans B2 (but_trans B3 B4)))
      · obtain ⟨n, hn⟩ : ∃ n : Nat, badV (bytesOf b) = n := ⟨(badV (bytesOf b)).toNat, by omega⟩
        rw [hn, if_neg (by omega)]
        have V1 := Lib.hid fun W (R : Rec W B s (p + 4 + (b.length + 2) + 1) v q e) => valid_no R (bytesOf b) hbz (p + 4) n (by omega) hn
        clear hc hl hM hBw hmk hr hb hu hul hdr hd2 hn
        go_enter Tryd.func29, Tryd.ntmps29
        go_wp2_with (first
          | (go_at_call 44; refine (V1.out _ R3).mono ?_; rintro r W4 ⟨rfl, R4, B4⟩)
          | (go_at_call 41; refine (T2.out _ R2).mono ?_; rintro r W3 ⟨rfl, R3, B3⟩)
          | (go_at_call 42; refine (U1.out _ R1 B1).mono ?_; rintro r W2 ⟨rfl, R2, B2⟩)
          | (go_at_call 41; refine (T1.out).mono ?_; rintro r W1 ⟨rfl, R1, B1⟩; obtain ⟨r1, ⟨c10, c11, c12, c13, c14⟩, ⟨g10, g11, g12, g13, g14⟩⟩ := (id R1 : Rec W1 B s (p + 4) v q e)))
        go_ret
        have R4' : Rec W4 B s (p + 4 + (b.length + 2) + 1) v ((p + (4 + (n : Int).toNat) : Nat) : Int) 6 := by
          rw [show p + (4 + (n : Int).toNat) = p + 4 + n by omega]
          exact R4
        exact ⟨but_below (but_trans B1 (but_trans B2 (but_trans B3 B4))) BW.out, rfl, _, v, R4', MM.out.light (but_trans B1 (but_trans B2 (but_trans B3 B4)))⟩
    · rw [if_neg hr]
      have T2 := Lib.hid fun W (R : Rec W B s (p + 4 + (b.length + 2)) v q e) => take_no R (by omega) hs ⟨#[62]⟩ (by
        unfold preB
        rw [hd2]
        exact Bool.eq_false_iff.2 hr)
      clear hc hl hM hBw hmk hr hu hul hdr hd2
      go_enter Tryd.func29, Tryd.ntmps29
      go_wp2_with (first
        | (go_at_call 43; refine (fail_any R3 _ _).mono ?_; rintro r W4 ⟨rfl, R4, B4⟩)
        | (go_at_call 41; refine (T2.out _ R2).mono ?_; rintro r W3 ⟨rfl, R3, B3⟩)
        | (go_at_call 42; refine (U1.out _ R1 B1).mono ?_; rintro r W2 ⟨rfl, R2, B2⟩)
        | (go_at_call 41; refine (T1.out).mono ?_; rintro r W1 ⟨rfl, R1, B1⟩; obtain ⟨r1, ⟨c10, c11, c12, c13, c14⟩, ⟨g10, g11, g12, g13, g14⟩⟩ := (id R1 : Rec W1 B s (p + 4) v q e)))
      go_ret
      exact ⟨but_below (but_trans B1 (but_trans B2 (but_trans B3 B4))) BW.out, rfl, _, v, R4, MM.out.light (but_trans B1 (but_trans B2 (but_trans B3 B4)))⟩
set_option maxRecDepth 100000 in
set_option maxHeartbeats 4000000 in
theorem section_any (h : St w B s p ms q e) (hm : Mx w) (hgB : 0 < B) (hp : p ≤ s.size) (hs : s.size ≤ 65536) (hml : ms.length ≤ 65536) {u : List UInt8} (hl : s.data.toList.drop p = [60, 33, 91, 67, 68, 65, 84, 65, 91] ++ u) :
    Calls Tryd.prog 30 #[.pointer (some ⟨B, 0, none⟩)] w fun r w' => PartOut B s p (s.data.toList.drop p) ms q e r w w' (secL (s.data.toList.drop p)) := by
  obtain ⟨v, hR, hM⟩ := h
  obtain ⟨hdr, hzr⟩ := drop_more hp hl
  have hBw : B ≤ w.heap.size := Nat.le_of_lt hR.1
  have BW := Lib.hid hBw
  have MM := Lib.hid hM
  have T1 := Lib.hid (take_yes hR hp hs ⟨#[60, 33, 91, 67, 68, 65, 84, 65, 91]⟩ (by decide) (preB_of (a := [60, 33, 91, 67, 68, 65, 84, 65, 91]) hl))
  rw [hl]
  have e4 : ([60, 33, 91, 67, 68, 65, 84, 65, 91] ++ u).drop 9 = u := rfl
  unfold secL
  rw [e4]
  have hmk : ∀ W, BelBut w W (some B) → Mx W := fun W hb => hm.but hb (by simp; omega)
  simp only [List.length_cons, List.length_nil] at hdr hzr
  obtain ⟨r0, ⟨a0, a1, a2, a3, a4⟩, ⟨f0, f1, f2, f3, f4⟩⟩ := hR
  cases hc : cutL [93, 93, 62] u with
  | none =>
    have U1 := Lib.hid fun W (R : Rec W B s (p + 9) v q e) (hb : BelBut w W (some B)) => until_no R (hmk W hb) (by omega) hs ⟨#[93, 93, 62]⟩ (by simp) (by rw [hdr]; exact hc)
    simp only
    clear hc hl hM hBw hmk
    go_enter Tryd.func30, Tryd.ntmps30
    go_wp2_with (first
      | (go_at_call 43; refine (fail_any R2 _ _).mono ?_; rintro r W3 ⟨rfl, R3, B3⟩)
      | (go_at_call 42; refine (U1.out _ R1 B1).mono ?_; rintro r W2 ⟨rfl, R2, B2⟩)
      | (go_at_call 41; refine (T1.out).mono ?_; rintro r W1 ⟨rfl, R1, B1⟩; obtain ⟨r1, ⟨c10, c11, c12, c13, c14⟩, ⟨g10, g11, g12, g13, g14⟩⟩ := (id R1 : Rec W1 B s (p + 9) v q e)))
    go_ret
    exact ⟨but_below (but_trans B1 (but_trans B2 B3)) BW.out, rfl, _, v, R3, MM.out.light (but_trans B1 (but_trans B2 B3))⟩
  | some x =>
    obtain ⟨b, r⟩ := x
    have hu := cutL_split (by simp) hc
    have hul := congrArg List.length hu
    simp only [List.length_append, List.length_cons, List.length_nil] at hul
    have U1 := Lib.hid fun W (R : Rec W B s (p + 9) v q e) (hb : BelBut w W (some B)) => until_yes R (hmk W hb) (by omega) hs ⟨#[93, 93, 62]⟩ (by simp) (by rw [hdr]; exact hc)
    have es : (⟨#[93, 93, 62]⟩ : ByteArray).size = 3 := rfl
    rw [es] at U1
    have hbz : (bytesOf b).size ≤ 65536 := by rw [bytesOf_size]; omega
    simp only
    rcases bad_rng (bytesOf b) with hb | hb
    · rw [if_pos hb]
      have LE := Lib.hid (show ([60, 33, 91, 67, 68, 65, 84, 65, 91] ++ u).length - r.length = 9 + (b.length + 3) from by
        rw [hu]; simp only [List.length_append, List.length_cons, List.length_nil]; omega)
      have V1 := Lib.hid fun W (R : Rec W B s (p + 9 + (b.length + 3)) v q e) => valid_yes R (bytesOf b) hbz ((p + 9 : Nat) : Int) hb
      have AP := Lib.hid fun W (hB : BelBut w W (some B)) ty => app_plain (hM.light hB) (Nat.lt_of_lt_of_le r0 (but_size hB)) hml 3 p [] b ty
      have NE := Lib.hid hM.ne
      clear hc hl hM hBw hmk hb hu hul hdr
      go_enter Tryd.func30, Tryd.ntmps30
      go_wp2_with (first
        | (go_at_call 44; refine (V1.out _ R2).mono ?_; rintro r W3 ⟨rfl, R3, B3⟩; obtain ⟨r3, ⟨c30, c31, c32, c33, c34⟩, ⟨g30, g31, g32, g33, g34⟩⟩ := (id R3 : Rec W3 B s (p + 9 + (b.length + 3)) v q e))
        | (go_at_call 42; refine (U1.out _ R1 B1).mono ?_; rintro r W2 ⟨rfl, R2, B2⟩)
        | (go_at_call 41; refine (T1.out).mono ?_; rintro r W1 ⟨rfl, R1, B1⟩; obtain ⟨r1, ⟨c10, c11, c12, c13, c14⟩, ⟨g10, g11, g12, g13, g14⟩⟩ := (id R1 : Rec W1 B s (p + 9) v q e))
        | (at_builtin; refine wpList_app rfl (.tmp 36) (.tmp 40) _ rfl (AP.out _ (but_trans B1 (but_trans B2 B3)) _) ?_; rintro v' w4 ⟨M4, B4⟩; obtain ⟨A4, k4, rfl⟩ := M4.val1; have M4 := Lib.hid M4; have R4 := R3.but B4 NE.out; obtain ⟨r4, ⟨c40, c41, c42, c43, c44⟩, ⟨g40, g41, g42, g43, g44⟩⟩ := (id R4 : Rec w4 B s (p + 9 + (b.length + 3)) v q e)))
      go_ret
      refine ⟨?_, rfl, _, ?_, M4.out.light (but_set _ _ _ _)⟩
      · exact (but_below (but_trans B1 (but_trans B2 B3)) BW.out).trans ((but_below' B4 NE.out MM.out (Nat.le_of_lt r3)).setCell (Nat.le_refl _) _)
      · show Rec _ B s (p + (([60, 33, 91, 67, 68, 65, 84, 65, 91] ++ u).length - r.length)) _ q e
        rw [LE.out]
        exact (show p + (9 + (b.length + 3)) = p + 9 + (b.length + 3) by omega) ▸ R4.set2 _
    · obtain ⟨n, hn⟩ : ∃ n : Nat, badV (bytesOf b) = n := ⟨(badV (bytesOf b)).toNat, by omega⟩
      rw [hn, if_neg (by omega)]
      have V1 := Lib.hid fun W (R : Rec W B s (p + 9 + (b.length + 3)) v q e) => valid_no R (bytesOf b) hbz (p + 9) n (by omega) hn
      clear hc hl hM hBw hmk hb hu hul hdr hn
      go_enter Tryd.func30, Tryd.ntmps30
      go_wp2_with (first
        | (go_at_call 44; refine (V1.out _ R2).mono ?_; rintro r W3 ⟨rfl, R3, B3⟩)
        | (go_at_call 42; refine (U1.out _ R1 B1).mono ?_; rintro r W2 ⟨rfl, R2, B2⟩)
        | (go_at_call 41; refine (T1.out).mono ?_; rintro r W1 ⟨rfl, R1, B1⟩; obtain ⟨r1, ⟨c10, c11, c12, c13, c14⟩, ⟨g10, g11, g12, g13, g14⟩⟩ := (id R1 : Rec W1 B s (p + 9) v q e)))
      go_ret
      have R3' : Rec W3 B s (p + 9 + (b.length + 3)) v ((p + (9 + (n : Int).toNat) : Nat) : Int) 6 := by
        rw [show p + (9 + (n : Int).toNat) = p + 9 + n by omega]
        exact R3
      exact ⟨but_below (but_trans B1 (but_trans B2 B3)) BW.out, rfl, _, v, R3', MM.out.light (but_trans B1 (but_trans B2 B3))⟩
set_option maxRecDepth 100000 in
set_option maxHeartbeats 4000000 in
theorem plain_any (h : St w B s p ms q e) (hm : Mx w) (hgB : 0 < B) (hp : p ≤ s.size) (hs : s.size ≤ 65536) (hml : ms.length ≤ 65536) :
    Calls Tryd.prog 33 #[.pointer (some ⟨B, 0, none⟩)] w fun r w' => PartOut B s p (s.data.toList.drop p) ms q e r w w' (plnL (s.data.toList.drop p)) := by
  obtain ⟨v, hR, hM⟩ := h
  have hBw : B ≤ w.heap.size := Nat.le_of_lt hR.1
  have BW := Lib.hid hBw
  have MM := Lib.hid hM
  have RR := Lib.hid hR
  have hmk : ∀ W, BelBut w W (some B) → Mx W := fun W hb => hm.but hb (by simp; omega)
  have hls : (s.data.toList.drop p).length = s.size - p := by rw [List.length_drop, size_list]
  have hlt := tw_lens (· != 60) (s.data.toList.drop p)
  have CU := Lib.hid (cut_lt hm (s.extract p s.size) (by rw [ext_size]; omega))
  rw [ext_end] at CU
  have LE := Lib.hid (show (s.data.toList.drop p).length - ((s.data.toList.drop p).dropWhile (· != 60)).length = ((s.data.toList.drop p).takeWhile (· != 60)).length from by omega)
  unfold plnL
  generalize (s.data.toList.drop p).dropWhile (· != 60) = y at *
  generalize (s.data.toList.drop p).takeWhile (· != 60) = x at *
  generalize (s.data.toList.drop p) = l at *
  have hbz : (bytesOf x).size = x.length := bytesOf_size x
  have UN := Lib.hid fun W => unescape_any (bytesOf x) (by rw [hbz]; omega) W
  have hxi : x.length ≤ 65536 := by omega
  unfold unO
  have hxp : (p : Int) + (x.length : Int) ≤ s.size := by omega
  have hpi : (p : Int) ≤ s.size := by omega
  have hsi : (s.size : Int) ≤ 65536 := by omega
  have UE := Lib.hid (un_err (bytesOf x))
  rw [hbz] at UE
  have w1 : IntKind.i64.wrap ((p : Int) + (x.length : Int)) = (p : Int) + (x.length : Int) := by rw [IntKind.wrap_i64]; omega
  have AP := Lib.hid fun W (hB : BelBut w W (some B)) tx ty => app_plain (hM.light hB) (Nat.lt_of_lt_of_le hR.1 (but_size hB)) hml 3 p [] tx ty
  have NE := Lib.hid hM.ne
  generalize unS (bytesOf x) = u at *
  obtain ⟨t, at_, er⟩ := u
  unfold unV at UN
  simp only at UN UE ⊢
  obtain ⟨r0, ⟨a0, a1, a2, a3, a4⟩, ⟨f0, f1, f2, f3, f4⟩⟩ := hR
  clear hM hBw hmk hlt hls hm
  by_cases he : er = 0
  · subst he
    rw [if_pos rfl]
    have e0 : ((0 : Nat) : Int) = 0 := rfl
    rw [e0] at UN
    go_enter Tryd.func33, Tryd.ntmps33
    go_wp2_with (first
      | (go_at_call 49; refine (UN.out _).mono ?_; rintro r W2 ⟨rfl, hb2⟩; have R2 := (R1.set1 _ (p + x.length) (by omega)).keep hb2; have B2 := but_trans B1 (but_trans (but_set _ _ _ _) (bel_but hb2 (some B))); obtain ⟨r2, ⟨c20, c21, c22, c23, c24⟩, ⟨g20, g21, g22, g23, g24⟩⟩ := (id R2 : Rec W2 B s (p + x.length) v q e))
      | (go_at_call 48; refine CU.out.mono ?_; rintro r W1 ⟨x1, y1, rfl, hb1⟩; have R1 := RR.out.keep hb1; have B1 := bel_but hb1 (some B); obtain ⟨r1, ⟨c10, c11, c12, c13, c14⟩, ⟨g10, g11, g12, g13, g14⟩⟩ := (id R1 : Rec W1 B s p v q e))
      | (at_builtin; refine wpList_app rfl (.tmp 52) (.tmp 56) _ rfl (AP.out _ B2 _ _) ?_; rintro v' w4 ⟨M4, B4⟩; obtain ⟨A4, k4, rfl⟩ := M4.val1; have M4 := Lib.hid M4; have R4 := R2.but B4 NE.out; obtain ⟨r4, ⟨c40, c41, c42, c43, c44⟩, ⟨g40, g41, g42, g43, g44⟩⟩ := (id R4 : Rec w4 B s (p + x.length) v q e)))
    go_ret
    refine ⟨?_, rfl, _, ?_, M4.out.light (but_set _ _ _ _)⟩
    · exact (but_below B2 BW.out).trans ((but_below' B4 NE.out MM.out (Nat.le_of_lt r2)).setCell (Nat.le_refl _) _)
    · show Rec _ B s (p + (l.length - y.length)) _ q e
      rw [LE.out]
      exact R4.set2 _
  · have UE := UE.out.resolve_left he
    have hx : ∀ k : Nat, er = k → k ≠ 0 → Calls Tryd.prog 33 #[.pointer (some ⟨B, 0, none⟩)] w fun r w' => Below B w w' ∧ r = .returned (.bool false) ∧ ∃ p', St w' B s p' ms ((p + at_ : Nat) : Int) k := by
      intro k hk h0
      subst hk
      have hat := UE.2.1
      have w2 : IntKind.i64.wrap ((p : Int) + (at_ : Int)) = ((p + at_ : Nat) : Int) := by rw [IntKind.wrap_i64]; omega
      have en : (((er : Nat) : Int) != 0) = true := by rw [bne_iff_ne]; omega
      have en2 : (((er : Nat) : Int) == 0) = false := by rw [beq_eq_false_iff_ne]; omega
      clear he UE hat h0
      go_enter Tryd.func33, Tryd.ntmps33
      go_wp2_with (first
        | (go_at_call 43; refine (fail_any R2 _ _).mono ?_; rintro r W3 ⟨rfl, R3, B3⟩)
        | (go_at_call 49; refine (UN.out _).mono ?_; rintro r W2 ⟨rfl, hb2⟩; have R2 := (R1.set1 _ (p + x.length) (by omega)).keep hb2; have B2 := but_trans B1 (but_trans (but_set _ _ _ _) (bel_but hb2 (some B))))
        | (go_at_call 48; refine CU.out.mono ?_; rintro r W1 ⟨x1, y1, rfl, hb1⟩; have R1 := RR.out.keep hb1; have B1 := bel_but hb1 (some B); obtain ⟨r1, ⟨c10, c11, c12, c13, c14⟩, ⟨g10, g11, g12, g13, g14⟩⟩ := (id R1 : Rec W1 B s p v q e)))
      go_ret
      exact ⟨but_below (but_trans B2 B3) BW.out, rfl, _, v, R3, MM.out.light (but_trans B2 B3)⟩
    rw [if_neg he]
    exact hx er rfl he
set_option maxRecDepth 100000 in
set_option maxHeartbeats 4000000 in
theorem end_any (h : St w B s p ms q e) (hp : p ≤ s.size) (hs : s.size ≤ 65536) (hml : ms.length ≤ 65536) {u : List UInt8} (hl : s.data.toList.drop p = [60, 47] ++ u) :
    Calls Tryd.prog 31 #[.pointer (some ⟨B, 0, none⟩)] w fun r w' => PartOut B s p (s.data.toList.drop p) ms q e r w w' (endL (s.data.toList.drop p)) := by
  obtain ⟨v, hR, hM⟩ := h
  obtain ⟨hdr, hzr⟩ := drop_more hp hl
  have hBw : B ≤ w.heap.size := Nat.le_of_lt hR.1
  have BW := Lib.hid hBw
  have MM := Lib.hid hM
  have T1 := Lib.hid (take_yes hR hp hs ⟨#[60, 47]⟩ (by decide) (preB_of (a := [60, 47]) hl))
  have es : (⟨#[60, 47]⟩ : ByteArray).size = 2 := rfl
  rw [es] at T1
  rw [hl]
  have e4 : ([60, 47] ++ u).drop 2 = u := rfl
  unfold endL
  rw [e4]
  simp only [List.length_cons, List.length_nil] at hdr hzr
  have hl1 := tw_lens nmByte u
  have hl2 := tw_lens whB (u.dropWhile nmByte)
  have hd3 : s.data.toList.drop (p + 2 + (u.takeWhile nmByte).length) = u.dropWhile nmByte := by rw [← List.drop_drop, hdr, drop_tw]
  have hd4 : s.data.toList.drop (p + 2 + (u.takeWhile nmByte).length + ((u.dropWhile nmByte).takeWhile whB).length) = (u.dropWhile nmByte).dropWhile whB := by rw [← List.drop_drop, hd3, drop_tw]
  have N1 := Lib.hid fun W (R : Rec W B s (p + 2) v q e) => name_meth R (by omega) hs (nm := u.takeWhile nmByte) (by rw [hdr])
  have W1' := Lib.hid fun W (R : Rec W B s (p + 2 + (u.takeWhile nmByte).length) v q e) => white_meth R (by omega) hs (x := (u.dropWhile nmByte).takeWhile whB) (by rw [hd3])
  have HU := Lib.hid (show u.length = (u.takeWhile nmByte).length + ((u.dropWhile nmByte).takeWhile whB).length + ((u.dropWhile nmByte).dropWhile whB).length from by omega)
  have ND : ([60, 47] ++ u).length = u.length + 2 := by simp
  generalize (u.dropWhile nmByte).takeWhile whB = wh at *
  generalize (u.dropWhile nmByte).dropWhile whB = r at *
  generalize u.takeWhile nmByte = nm at *
  obtain ⟨r0, ⟨a0, a1, a2, a3, a4⟩, ⟨f0, f1, f2, f3, f4⟩⟩ := hR
  have hsz : p + 2 + nm.length + wh.length + r.length = s.size := by have := HU.out; omega
  by_cases hn : nmOk nm = true
  · rw [hn] at N1
    by_cases hr : [62].isPrefixOf r = true
    · obtain ⟨x, rfl⟩ := (pre_cons _ _).1 hr
      rw [if_pos ⟨hn, hr⟩]
      have T2 := Lib.hid fun W (R : Rec W B s (p + 2 + nm.length + wh.length) v q e) => take_yes R (by omega) hs ⟨#[62]⟩ (by decide) (preB_of (a := [62]) (u := x) hd4)
      have es1 : (⟨#[62]⟩ : ByteArray).size = 1 := rfl
      rw [es1] at T2
      have LE := Lib.hid (show ([60, 47] ++ u).length - x.length = 2 + nm.length + wh.length + 1 from by
        have := HU.out
        rw [List.length_cons] at this
        rw [ND]
        omega)
      have AP := Lib.hid fun W (hB : BelBut w W (some B)) ty => app_plain (hM.light hB) (Nat.lt_of_lt_of_le r0 (but_size hB)) hml 2 p nm [] ty
      have NE := Lib.hid hM.ne
      clear hl hM hBw hr hn hl1 hl2 hd3 hd4 hdr ND
      go_enter Tryd.func31, Tryd.ntmps31
      go_wp2_with (first
        | (go_at_call 41; refine (T2.out _ R3).mono ?_; rintro r W4 ⟨rfl, R4, B4⟩; obtain ⟨r4, ⟨c40, c41, c42, c43, c44⟩, ⟨g40, g41, g42, g43, g44⟩⟩ := (id R4 : Rec W4 B s (p + 2 + nm.length + wh.length + 1) v q e))
        | (go_at_call 46; refine (W1'.out _ R2).mono ?_; rintro r W3 ⟨rfl, R3, B3⟩)
        | (go_at_call 45; refine (N1.out _ R1).mono ?_; rintro r W2 ⟨rfl, R2, B2⟩)
        | (go_at_call 41; refine (T1.out).mono ?_; rintro r W1 ⟨rfl, R1, B1⟩)
        | (at_builtin; refine wpList_app rfl (.tmp 33) (.tmp 37) _ rfl (AP.out _ (but_trans B1 (but_trans B2 (but_trans B3 B4))) _) ?_; rintro v' w4 ⟨M4, B5⟩; obtain ⟨A4, k4, rfl⟩ := M4.val1; have M4 := Lib.hid M4; have R5 := R4.but B5 NE.out; obtain ⟨r5, ⟨c50, c51, c52, c53, c54⟩, ⟨g50, g51, g52, g53, g54⟩⟩ := (id R5 : Rec w4 B s (p + 2 + nm.length + wh.length + 1) v q e)))
      go_ret
      refine ⟨?_, rfl, _, ?_, M4.out.light (but_set _ _ _ _)⟩
      · exact (but_below (but_trans B1 (but_trans B2 (but_trans B3 B4))) BW.out).trans ((but_below' B5 NE.out MM.out (Nat.le_of_lt r4)).setCell (Nat.le_refl _) _)
      · show Rec _ B s (p + (([60, 47] ++ u).length - x.length)) _ q e
        rw [LE.out]
        exact (show p + (2 + nm.length + wh.length + 1) = p + 2 + nm.length + wh.length + 1 by omega) ▸ R5.set2 _
    · rw [if_neg (fun h => hr h.2)]
      have T2 := Lib.hid fun W (R : Rec W B s (p + 2 + nm.length + wh.length) v q e) => take_no R (by omega) hs ⟨#[62]⟩ (by
        unfold preB
        rw [hd4]
        exact Bool.eq_false_iff.2 hr)
      clear hl hM hBw hr hn hl1 hl2 hd3 hd4 hdr ND
      go_enter Tryd.func31, Tryd.ntmps31
      go_wp2_with (first
        | (go_at_call 43; refine (fail_any R4 _ _).mono ?_; rintro r W5 ⟨rfl, R5, B5⟩)
        | (go_at_call 41; refine (T2.out _ R3).mono ?_; rintro r W4 ⟨rfl, R4, B4⟩)
        | (go_at_call 46; refine (W1'.out _ R2).mono ?_; rintro r W3 ⟨rfl, R3, B3⟩)
        | (go_at_call 45; refine (N1.out _ R1).mono ?_; rintro r W2 ⟨rfl, R2, B2⟩)
        | (go_at_call 41; refine (T1.out).mono ?_; rintro r W1 ⟨rfl, R1, B1⟩))
      go_ret
      exact ⟨but_below (but_trans B1 (but_trans B2 (but_trans B3 (but_trans B4 B5)))) BW.out, rfl, _, v, R5, MM.out.light (but_trans B1 (but_trans B2 (but_trans B3 (but_trans B4 B5))))⟩
  · rw [if_neg (fun h => hn h.1)]
    rw [Bool.eq_false_iff.2 hn] at N1
    clear hl hM hBw hn hl1 hl2 hd3 hd4 hdr ND
    go_enter Tryd.func31, Tryd.ntmps31
    go_wp2_with (first
        | (go_at_call 43; refine (fail_any R3 _ _).mono ?_; rintro r W5 ⟨rfl, R5, B5⟩)
        | (go_at_call 46; refine (W1'.out _ R2).mono ?_; rintro r W3 ⟨rfl, R3, B3⟩)
        | (go_at_call 45; refine (N1.out _ R1).mono ?_; rintro r W2 ⟨rfl, R2, B2⟩)
        | (go_at_call 41; refine (T1.out).mono ?_; rintro r W1 ⟨rfl, R1, B1⟩))
    go_ret
    exact ⟨but_below (but_trans B1 (but_trans B2 (but_trans B3 B5))) BW.out, rfl, _, v, R5, MM.out.light (but_trans B1 (but_trans B2 (but_trans B3 B5)))⟩
end
end Go.Proofs.YtobdokeklcdpoaaDoor
