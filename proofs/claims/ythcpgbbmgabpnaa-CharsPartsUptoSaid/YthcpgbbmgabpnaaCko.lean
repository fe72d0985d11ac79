import Derived.Test.YthcpgbbmgabpnaaCkn
namespace Go.Proofs.Ythcpgbbmgabpnaa
set_option linter.unusedSimpArgs false
set_option linter.unusedVariables false
open Go.RowKit

/-! Chars: what is escaped stands for itself; texts in parts: the plain words. -/
theorem first_ext (g g' : Nat → Nat) (m m' r w : Nat) (h : first g m = (r, w)) (hw : 1 ≤ w) (he : ∀ i, i < w → g' i = g i) (hm : w ≤ m') : first g' m' = (r, w) := by
  have e0 := he 0 (by omega)
  unfold first at h ⊢
  rw [e0]
  by_cases c1 : g 0 < 0x80
  · rw [if_pos c1] at h ⊢
    exact h
  · rw [if_neg c1] at h ⊢
    by_cases c2 : 0xC0 ≤ g 0 ∧ g 0 < 0xE0
    · rw [if_pos c2] at h ⊢
      split at h
      · rename_i hc
        obtain ⟨rfl, rfl⟩ := Prod.mk.inj h
        rw [he 1 (by omega)]
        rw [if_pos ⟨by omega, hc.2⟩]
      · obtain ⟨_, rfl⟩ := Prod.mk.inj h
        omega
    · rw [if_neg c2] at h ⊢
      by_cases c3 : 0xE0 ≤ g 0 ∧ g 0 < 0xF0
      · rw [if_pos c3] at h ⊢
        split at h
        · rename_i hc
          obtain ⟨rfl, rfl⟩ := Prod.mk.inj h
          rw [he 1 (by omega), he 2 (by omega)]
          rw [if_pos ⟨by omega, hc.2⟩]
        · obtain ⟨_, rfl⟩ := Prod.mk.inj h
          omega
      · rw [if_neg c3] at h ⊢
        by_cases c4 : 0xF0 ≤ g 0 ∧ g 0 < 0xF8
        · rw [if_pos c4] at h ⊢
          split at h
          · rename_i hc
            obtain ⟨rfl, rfl⟩ := Prod.mk.inj h
            rw [he 1 (by omega), he 2 (by omega), he 3 (by omega)]
            rw [if_pos ⟨by omega, hc.2⟩]
          · obtain ⟨_, rfl⟩ := Prod.mk.inj h
            omega
        · rw [if_neg c4] at h
          obtain ⟨_, rfl⟩ := Prod.mk.inj h
          omega
/-- A sign stands whatever comes behind it. -/
theorem ok_ext (l l' : List UInt8) (hne : l ≠ []) (hok : okL l = true) (he : ∀ i, i < wL l → l'.getD i 0 = l.getD i 0) (hm : wL l ≤ l'.length) : okL l' = true ∧ decL l' = decL l := by
  have hl : 0 < l.length := List.length_pos_iff.2 hne
  have hw := wL_pos l
  have h1 := first_is (fun i => (l.getD i 0).toNat) l.length (fun i => (l.getD i 0).toNat_lt) hl
  have hok' : may (fun i => (l.getD i 0).toNat) l.length = true := hok
  rw [if_pos hok'] at h1
  have h2 := first_ext (fun i => (l.getD i 0).toNat) (fun i => (l'.getD i 0).toNat) l.length l'.length (decL l).1 (decL l).2 h1.symm hw (fun i hi => by show (l'.getD i 0).toNat = (l.getD i 0).toNat; rw [he i hi]) hm
  have h3 := first_is (fun i => (l'.getD i 0).toNat) l'.length (fun i => (l'.getD i 0).toNat_lt) (by omega)
  rw [h2] at h3
  by_cases hk : may (fun i => (l'.getD i 0).toNat) l'.length = true
  · rw [if_pos hk] at h3
    exact ⟨hk, h3⟩
  · rw [if_neg hk] at h3
    have h4 : (decL l).2 = 0 := (Prod.mk.inj h3).2.symm
    have h5 : 1 ≤ (decL l).2 := hw
    omega
theorem ok_app (l b : List UInt8) (hne : l ≠ []) (hok : okL l = true) : okL (l ++ b) = true ∧ decL (l ++ b) = decL l := by
  have hw := wL_le l hne
  refine ok_ext l (l ++ b) hne hok (fun i hi => ?_) (by rw [List.length_append]; omega)
  rw [List.getD_eq_getElem?_getD, List.getD_eq_getElem?_getD, List.getElem?_append_left (by omega)]
/-- Signs one by one. -/
theorem good_rec (P : List UInt8 → Prop) (h0 : P []) (hs : ∀ l, l ≠ [] → okL l = true → P (l.drop (wL l)) → P l) (s : ByteArray) (hg : goodB s = true) : P s.data.toList := by
  have key : ∀ f pos, badFrom s f pos = -1 → s.size ≤ f + pos → P (s.data.toList.drop pos) := by
    intro f
    induction f with
    | zero => intro pos _ h; rw [List.drop_of_length_le (by rw [size_list]; omega)]; exact h0
    | succ f ih =>
      intro pos hb h
      by_cases hp : pos < s.size
      · rw [badFrom, if_pos hp] at hb
        have hwd := wd_pos s pos
        by_cases hok : okAt s pos = true
        · rw [if_pos hok] at hb
          refine hs _ ?_ (by rw [← okAt_L]; exact hok) ?_
          · intro e
            have := drop_len s pos
            rw [e] at this
            simp at this; omega
          · rw [List.drop_drop, ← wdAt_L]
            exact ih _ hb (by omega)
        · rw [if_neg hok] at hb
          exact absurd hb (by omega)
      · rw [List.drop_of_length_le (by rw [size_list]; omega)]
        exact h0
  have := key s.size 0 (of_decide_eq_true hg) (by omega)
  rwa [List.drop_zero] at this
/-- The first byte of a sign that may stand. -/
theorem ok_head (l : List UInt8) (hne : l ≠ []) (hok : okL l = true) : (∃ c t, l = c :: t ∧ c.toNat < 128 ∧ wL l = 1 ∧ (c.toNat = 9 ∨ c.toNat = 10 ∨ c.toNat = 13 ∨ 32 ≤ c.toNat)) ∨ (∀ c ∈ l.take (wL l), 128 ≤ c.toNat) := by
  rcases dec_shape (fun i => (l.getD i 0).toNat) l.length with ⟨h1, h2⟩ | ⟨h1, h2, h3⟩
  · left
    match l, hne with
    | c :: t, _ =>
      have hd : decL (c :: t) = (c.toNat, 1) := h2
      refine ⟨c, t, rfl, h1, by unfold wL; rw [hd], ?_⟩
      have hs := ((may_iff _ _).1 hok).1
      have hs' : sgn (decL (c :: t)).1 = true := hs
      rw [hd] at hs'
      have := (sgn_iff _).1 hs'
      simp only at this
      omega
  · right
    intro c hc
    obtain ⟨j, hj, rfl⟩ := List.mem_iff_getElem.1 hc
    rw [List.length_take] at hj
    have := h3 j (by show j < wL l; omega)
    rw [List.getElem_take]
    rw [List.getD_eq_getElem?_getD, List.getElem?_eq_getElem (by omega)] at this
    exact this
def clean (c : UInt8) : Prop := c.toNat ≠ 60 ∧ c.toNat ≠ 62 ∧ c.toNat ≠ 34 ∧ c.toNat ≠ 39 ∧ 32 ≤ c.toNat
theorem esc_clean (s : ByteArray) (hg : goodB s = true) : ∀ c ∈ escL s.data.toList, clean c := by
  refine good_rec (fun l => ∀ c ∈ escL l, clean c) (fun c hc => by simp [escL] at hc) ?_ s hg
  intro l hne hok ih c hc
  rw [← List.take_append_drop (wL l) l, escL_append] at hc
  rcases List.mem_append.1 hc with hc | hc
  · rcases ok_head l hne hok with ⟨x, t, rfl, h1, h2, h3⟩ | h
    · rw [h2] at hc
      have hc' : c ∈ escB x := by simpa [escL] using hc
      by_cases hx : x.toNat ≠ 38 ∧ x.toNat ≠ 60 ∧ x.toNat ≠ 62 ∧ x.toNat ≠ 34 ∧ x.toNat ≠ 39 ∧ x.toNat ≠ 9 ∧ x.toNat ≠ 10 ∧ x.toNat ≠ 13
      · rw [escB_same x hx] at hc'
        have : c = x := by simpa using hc'
        subst this
        exact ⟨by omega, by omega, by omega, by omega, by omega⟩
      · have hx' : x.toNat = 38 ∨ x.toNat = 60 ∨ x.toNat = 62 ∨ x.toNat = 34 ∨ x.toNat = 39 ∨ x.toNat = 9 ∨ x.toNat = 10 ∨ x.toNat = 13 := by omega
        have all : ∀ y : List UInt8, (∀ c ∈ y, c.toNat ≠ 60 ∧ c.toNat ≠ 62 ∧ c.toNat ≠ 34 ∧ c.toNat ≠ 39 ∧ 32 ≤ c.toNat) → escB x = y → clean c := fun y hy e => hy c (by rw [← e]; exact hc')
        rcases hx' with e | e | e | e | e | e | e | e
        · exact all [38, 97, 109, 112, 59] (by decide) (by rw [byte_eq (n := 38) (by decide) e]; rfl)
        · exact all [38, 108, 116, 59] (by decide) (by rw [byte_eq (n := 60) (by decide) e]; rfl)
        · exact all [38, 103, 116, 59] (by decide) (by rw [byte_eq (n := 62) (by decide) e]; rfl)
        · exact all [38, 113, 117, 111, 116, 59] (by decide) (by rw [byte_eq (n := 34) (by decide) e]; rfl)
        · exact all [38, 97, 112, 111, 115, 59] (by decide) (by rw [byte_eq (n := 39) (by decide) e]; rfl)
        · exact all [38, 35, 57, 59] (by decide) (by rw [byte_eq (n := 9) (by decide) e]; rfl)
        · exact all [38, 35, 49, 48, 59] (by decide) (by rw [byte_eq (n := 10) (by decide) e]; rfl)
        · exact all [38, 35, 49, 51, 59] (by decide) (by rw [byte_eq (n := 13) (by decide) e]; rfl)
    · rw [escL_hi _ h] at hc
      have := h c hc
      exact ⟨by omega, by omega, by omega, by omega, by omega⟩
  · exact ih c hc
theorem un_ref (f pos r : Nat) (nm t acc : List UInt8) (hn : nmL (nm ++ 59 :: t) = nm) (he : entL nm = some r) : unL (f + 1) pos (38 :: (nm ++ 59 :: t)) acc = unL f (pos + 2 + nm.length) t (acc ++ Lib.encodeRune (r : Int)) := by
  rw [un_amp, hn, he]
  have h1 : ¬ nm.length = (nm ++ 59 :: t).length := by rw [List.length_append, List.length_cons]; omega
  simp only
  rw [if_neg h1]
  congr 1
  rw [List.drop_append]
  simp
theorem un_esc (s : ByteArray) (hg : goodB s = true) : ∀ f pos acc, (escL s.data.toList).length ≤ f → unL f pos (escL s.data.toList) acc = (acc ++ s.data.toList, 0, 0) := by
  refine good_rec (fun l => ∀ f pos acc, (escL l).length ≤ f → unL f pos (escL l) acc = (acc ++ l, 0, 0)) ?_ ?_ s hg
  · intro f pos acc _
    rw [show escL [] = [] from rfl, un_end, List.append_nil]
  · intro l hne hok ih f pos acc hf
    have hw := wL_pos l
    have hwl := wL_le l hne
    have hsp : escL l = escL (l.take (wL l)) ++ escL (l.drop (wL l)) := by rw [← escL_append, List.take_append_drop]
    have hls : acc ++ l = (acc ++ l.take (wL l)) ++ l.drop (wL l) := by rw [List.append_assoc, List.take_append_drop]
    rw [hsp] at hf ⊢
    rw [hls]
    rw [List.length_append] at hf
    have plain : ∀ y : List UInt8, escL (l.take (wL l)) = y → y = l.take (wL l) → (∀ c t, l = c :: t → c ≠ 60 ∧ c ≠ 38) → unL f pos (escL (l.take (wL l)) ++ escL (l.drop (wL l))) acc = ((acc ++ l.take (wL l)) ++ l.drop (wL l), 0, 0) := by
      intro y hy hyl hc
      rw [hy, hyl] at hf ⊢
      rw [List.length_take] at hf
      obtain ⟨f', rfl⟩ : ∃ f', f = f' + 1 := ⟨f - 1, by omega⟩
      match l, hne with
      | c :: t, _ =>
        obtain ⟨k, hk⟩ : ∃ k, wL (c :: t) = k + 1 := ⟨wL (c :: t) - 1, by omega⟩
        have hx := ok_ext (c :: t) ((c :: t).take (wL (c :: t)) ++ escL ((c :: t).drop (wL (c :: t)))) (by simp) hok (fun i hi => by
          rw [List.getD_eq_getElem?_getD, List.getD_eq_getElem?_getD, List.getElem?_append_left (by rw [List.length_take]; omega), List.getElem?_take, if_pos hi]) (by rw [List.length_append, List.length_take]; omega)
        have hw2 : wL ((c :: t).take (wL (c :: t)) ++ escL ((c :: t).drop (wL (c :: t)))) = wL (c :: t) := congrArg Prod.snd hx.2
        obtain ⟨x, hxe⟩ : ∃ x, x = escL ((c :: t).drop (wL (c :: t))) := ⟨_, rfl⟩
        rw [← hxe] at hx hw2 ⊢
        have htk : (c :: t).take (wL (c :: t)) = c :: t.take k := by rw [hk, List.take_succ_cons]
        have hlen : ((c :: t).take (wL (c :: t))).length = wL (c :: t) := by rw [List.length_take]; omega
        have hcc := hc c t rfl
        rw [htk] at hx hw2 hlen ⊢
        rw [List.cons_append] at hx hw2 ⊢
        rw [un_ok _ _ _ _ _ hcc.1 hcc.2, if_pos hx.1, hw2]
        have e1 : (c :: (t.take k ++ x)).drop (wL (c :: t)) = x := by
          rw [← List.cons_append, List.drop_append, List.drop_of_length_le (by omega), hlen, Nat.sub_self, List.drop_zero, List.nil_append]
        have e2 : (c :: (t.take k ++ x)).take (wL (c :: t)) = c :: t.take k := by
          rw [← List.cons_append, List.take_append, List.take_of_length_le (by omega), hlen, Nat.sub_self, List.take_zero, List.append_nil]
        rw [e1, e2, hxe]
        exact ih _ _ _ (by rw [← hxe] at hf ⊢; omega)
    rcases ok_head l hne hok with ⟨x, t, rfl, h1, h2, h3⟩ | h
    · have h4 : escL ((x :: t).take (wL (x :: t))) = escB x := by rw [h2]; simp [escL]
      have h5 : (x :: t).take (wL (x :: t)) = [x] := by rw [h2]; rfl
      by_cases hx : x.toNat ≠ 38 ∧ x.toNat ≠ 60 ∧ x.toNat ≠ 62 ∧ x.toNat ≠ 34 ∧ x.toNat ≠ 39 ∧ x.toNat ≠ 9 ∧ x.toNat ≠ 10 ∧ x.toNat ≠ 13
      · refine plain (escB x) h4 (by rw [escB_same x hx, h5]) fun c t' e => ?_
        have : x = c := (List.cons.inj e).1
        subst this
        exact ⟨fun e => hx.2.1 (by rw [e]; rfl), fun e => hx.1 (by rw [e]; rfl)⟩
      · have hx' : x.toNat = 38 ∨ x.toNat = 60 ∨ x.toNat = 62 ∨ x.toNat = 34 ∨ x.toNat = 39 ∨ x.toNat = 9 ∨ x.toNat = 10 ∨ x.toNat = 13 := by omega
        have ref : ∀ (nm : List UInt8) (r : Nat), escB x = 38 :: (nm ++ [59]) → (∀ t, nmL (nm ++ 59 :: t) = nm) → entL nm = some r → Lib.encodeRune (r : Int) = [x] → unL f pos (escL ((x :: t).take (wL (x :: t))) ++ escL ((x :: t).drop (wL (x :: t)))) acc = ((acc ++ (x :: t).take (wL (x :: t))) ++ (x :: t).drop (wL (x :: t)), 0, 0) := by
          intro nm r he hn hr henc
          have hlen : (escL ((x :: t).take (wL (x :: t)))).length = nm.length + 2 := by rw [h4, he]; simp
          obtain ⟨f', rfl⟩ : ∃ f', f = f' + 1 := ⟨f - 1, by omega⟩
          rw [h4, he, List.cons_append, List.append_assoc, List.singleton_append, un_ref _ _ r _ _ _ (hn _) hr, henc, h5]
          exact ih _ _ _ (by omega)
        rcases hx' with e | e | e | e | e | e | e | e
        · exact ref [97, 109, 112] 38 (by rw [byte_eq (n := 38) (by decide) e]; rfl) (fun t => rfl) rfl (by rw [byte_eq (n := 38) (by decide) e]; decide)
        · exact ref [108, 116] 60 (by rw [byte_eq (n := 60) (by decide) e]; rfl) (fun t => rfl) rfl (by rw [byte_eq (n := 60) (by decide) e]; decide)
        · exact ref [103, 116] 62 (by rw [byte_eq (n := 62) (by decide) e]; rfl) (fun t => rfl) rfl (by rw [byte_eq (n := 62) (by decide) e]; decide)
        · exact ref [113, 117, 111, 116] 34 (by rw [byte_eq (n := 34) (by decide) e]; rfl) (fun t => rfl) rfl (by rw [byte_eq (n := 34) (by decide) e]; decide)
        · exact ref [97, 112, 111, 115] 39 (by rw [byte_eq (n := 39) (by decide) e]; rfl) (fun t => rfl) rfl (by rw [byte_eq (n := 39) (by decide) e]; decide)
        · exact ref [35, 57] 9 (by rw [byte_eq (n := 9) (by decide) e]; rfl) (fun t => rfl) (by decide) (by rw [byte_eq (n := 9) (by decide) e]; decide)
        · exact ref [35, 49, 48] 10 (by rw [byte_eq (n := 10) (by decide) e]; rfl) (fun t => rfl) (by decide) (by rw [byte_eq (n := 10) (by decide) e]; decide)
        · exact ref [35, 49, 51] 13 (by rw [byte_eq (n := 13) (by decide) e]; rfl) (fun t => rfl) (by decide) (by rw [byte_eq (n := 13) (by decide) e]; decide)
    · refine plain (l.take (wL l)) (escL_hi _ h) rfl fun c t e => ?_
      have hm : c ∈ l.take (wL l) := by
        obtain ⟨k, hk⟩ : ∃ k, wL l = k + 1 := ⟨wL l - 1, by omega⟩
        rw [hk, e, List.take_succ_cons]
        simp
      have := h c hm
      exact ⟨fun e => by rw [e] at this; exact absurd this (by decide), fun e => by rw [e] at this; exact absurd this (by decide)⟩
theorem back_is (s : ByteArray) (hg : goodB s = true) : unS (escT s) = (s.data.toList, 0, 0) := by
  have h1 : escT s = bytesOf (escL s.data.toList) := by rw [escT, if_pos hg]
  unfold unS
  rw [h1]
  have h2 := un_esc s hg (bytesOf (escL s.data.toList)).size 0 [] (by rw [bytesOf_size]; exact Nat.le_refl _)
  rw [List.nil_append] at h2
  exact h2
end Go.Proofs.Ythcpgbbmgabpnaa
