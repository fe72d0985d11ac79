import Derived.Test.YtobdokeklcdpoaaDoorMka
import Derived.Lib.CutLaws
namespace Go.Proofs.YtobdokeklcdpoaaDoor
set_option linter.unusedSimpArgs false
set_option linter.unusedVariables false
open Go.RowKit

/-! What is known of signs, as the marks want it. -/
theorem unL_err : ∀ (f pos : Nat) (l acc : List UInt8), (unL f pos l acc).2.2 = 0 ∨ (((unL f pos l acc).2.2 = 6 ∨ (unL f pos l acc).2.2 = 7) ∧ pos ≤ (unL f pos l acc).2.1 ∧ (unL f pos l acc).2.1 < pos + l.length ∧ (unL f pos l acc).1 = []) := by
  intro f
  induction f with
  | zero => intro pos l acc; exact .inl rfl
  | succ f ih =>
    intro pos l acc
    match l with
    | [] => exact .inl rfl
    | c :: t =>
      by_cases h1 : c = 60
      · subst h1
        rw [un_lt]
        exact .inr ⟨.inl rfl, Nat.le_refl _, by simp, rfl⟩
      by_cases h2 : c = 38
      · subst h2
        rw [un_amp]
        cases entL (nmL t) with
        | none => exact .inr ⟨.inr rfl, Nat.le_refl _, by simp, rfl⟩
        | some r =>
          simp only
          split
          · exact .inr ⟨.inr rfl, Nat.le_refl _, by simp, rfl⟩
          · rename_i h3
            have h4 := (nm_spec t).1
            rcases ih (pos + 2 + (nmL t).length) (t.drop ((nmL t).length + 1)) (acc ++ Lib.encodeRune (r : Int)) with h | ⟨h5, h6, h7, h8⟩
            · exact .inl h
            · rw [List.length_drop] at h7
              rw [List.length_cons]
              exact .inr ⟨h5, by omega, by omega, h8⟩
      · rw [un_ok _ _ _ _ _ h1 h2]
        split
        · have h4 := wL_le (c :: t) (by simp)
          have h5 := wL_pos (c :: t)
          rcases ih (pos + wL (c :: t)) ((c :: t).drop (wL (c :: t))) (acc ++ (c :: t).take (wL (c :: t))) with h | ⟨h5, h6, h7, h8⟩
          · exact .inl h
          · rw [List.length_drop] at h7
            exact .inr ⟨h5, by omega, by omega, h8⟩
        · exact .inr ⟨.inl rfl, Nat.le_refl _, by simp, rfl⟩
theorem un_err (s : ByteArray) : (unS s).2.2 = 0 ∨ (((unS s).2.2 = 6 ∨ (unS s).2.2 = 7) ∧ (unS s).2.1 < s.size ∧ (unS s).1 = []) := by
  have h := unL_err s.size 0 s.data.toList []
  rw [size_list, Nat.zero_add] at h
  unfold unS
  rcases h with h | ⟨h1, _, h2, h3⟩
  · exact .inl h
  · exact .inr ⟨h1, h2, h3⟩
theorem badFrom_rng (s : ByteArray) (f : Nat) : ∀ pos, badFrom s f pos = -1 ∨ ((pos : Int) ≤ badFrom s f pos ∧ badFrom s f pos < s.size) := by
  induction f with
  | zero => intro pos; exact .inl rfl
  | succ f ih =>
    intro pos
    unfold badFrom
    split
    · split
      · rcases ih (pos + wdAt s pos) with h | h
        · exact .inl h
        · exact .inr (by omega)
      · exact .inr (by omega)
    · exact .inl rfl
theorem bad_rng (s : ByteArray) : badV s = -1 ∨ (0 ≤ badV s ∧ badV s < s.size) := badFrom_rng s s.size 0
theorem bytes_list (l : List UInt8) : (bytesOf l).data.toList = l := rfl
theorem un_escL (l : List UInt8) (h : goodB (bytesOf l) = true) : unS (bytesOf (escL l)) = (l, 0, 0) := by
  have := back_is (bytesOf l) h
  rwa [escT, if_pos h, bytes_list] at this
theorem escL_clean (l : List UInt8) (h : goodB (bytesOf l) = true) : ∀ c ∈ escL l, c.toNat ≠ 60 ∧ c.toNat ≠ 34 := by
  intro c hc
  have := esc_clean (bytesOf l) h c hc
  exact ⟨this.1, this.2.2.1⟩
theorem escL_nil (l : List UInt8) : escL l = [] ↔ l = [] := by
  constructor
  · intro h
    cases l with
    | nil => rfl
    | cons c t =>
      have h1 : escB c ++ escL t = [] := h
      have h2 := (List.append_eq_nil_iff.1 h1).1
      exfalso
      revert h2
      unfold escB
      repeat' split
      all_goals simp
  · rintro rfl; rfl
theorem name_bytes (l : List UInt8) (h : nameB (bytesOf l) = true) : l ≠ [] ∧ (∀ c ∈ l, c.toNat = 95 ∨ (97 ≤ c.toNat ∧ c.toNat ≤ 122) ∨ (65 ≤ c.toNat ∧ c.toNat ≤ 90) ∨ (48 ≤ c.toNat ∧ c.toNat ≤ 57)) ∧ l.length ≤ 32 := by
  unfold nameB at h
  rw [Bool.and_eq_true, decide_eq_true_eq, List.all_eq_true] at h
  obtain ⟨⟨h1, h2⟩, h3⟩ := h
  have hsz : (bytesOf l).size = l.length := List.size_toArray
  rw [hsz] at h1 h2 h3
  refine ⟨fun e => by rw [e] at h1; exact absurd h1 (by simp), fun c hc => ?_, h2⟩
  obtain ⟨i, hi, rfl⟩ := List.mem_iff_getElem.1 hc
  have h4 := h3 i (List.mem_range.2 hi)
  have h5 : gOf (bytesOf l) 0 i = l[i].toNat := by
    rw [gOf_list, bytes_list, List.drop_zero, List.getD_eq_getElem?_getD, List.getElem?_eq_getElem hi]
    rfl
  rw [h5] at h4
  unfold okN letB dgB at h4
  simp only [Bool.or_eq_true, Bool.and_eq_true, decide_eq_true_eq] at h4
  omega
/-! Marks: plain words. -/
structure Mk where
  kind : Int
  pos : Int
  name : List UInt8
  attrs : List (List UInt8 × List UInt8)
  text : List UInt8
/-- A text cut at the first place where another stands in it. -/
def cutL (sep : List UInt8) : List UInt8 → Option (List UInt8 × List UInt8)
  | [] => none
  | c :: t => if sep.isPrefixOf (c :: t) = true then some ([], (c :: t).drop sep.length) else match cutL sep t with
    | some (a, b) => some (c :: a, b)
    | none => none
theorem pre_iff (a l : List UInt8) : a.isPrefixOf l = true ↔ ∃ t, l = a ++ t := by
  rw [List.isPrefixOf_iff_prefix]
  constructor
  · rintro ⟨t, h⟩; exact ⟨t, h.symm⟩
  · rintro ⟨t, h⟩; exact ⟨t, h.symm⟩
theorem cutL_index (sep : List UInt8) (hs : sep ≠ []) : ∀ l, match cutL sep l with
    | some (a, b) => Lib.index l sep = a.length ∧ l = a ++ sep ++ b
    | none => Lib.index l sep = -1
  | [] => by
    unfold cutL Lib.index
    cases sep with
    | nil => exact absurd rfl hs
    | cons a b => rfl
  | c :: t => by
    have ih := cutL_index sep hs t
    unfold cutL Lib.index
    by_cases h : sep.isPrefixOf (c :: t) = true
    · rw [if_pos h, if_pos h]
      obtain ⟨u, hu⟩ := (pre_iff _ _).1 h
      exact ⟨rfl, by rw [hu]; simp⟩
    · rw [if_neg h, if_neg h]
      cases hc : cutL sep t with
      | none =>
        rw [hc] at ih
        simp only at ih ⊢
        rw [ih]; rfl
      | some p =>
        obtain ⟨a, b⟩ := p
        rw [hc] at ih
        simp only at ih ⊢
        rw [ih.1, if_neg (by rw [beq_iff_eq]; omega)]
        exact ⟨by simp, by rw [ih.2]; simp⟩
theorem cut_is (sep : List UInt8) (hs : sep ≠ []) (l : List UInt8) : Lib.cut l sep = match cutL sep l with
    | some (a, b) => (a, b, true)
    | none => (l, [], false) := by
  have h := cutL_index sep hs l
  unfold Lib.cut
  cases hc : cutL sep l with
  | none =>
    rw [hc] at h
    simp only at h ⊢
    rw [h]; rfl
  | some p =>
    obtain ⟨a, b⟩ := p
    rw [hc] at h
    simp only at h ⊢
    rw [h.1, if_pos (by omega)]
    simp only [Int.toNat_natCast]
    rw [h.2]
    simp
theorem cutL_split {sep l a b : List UInt8} (hs : sep ≠ []) (h : cutL sep l = some (a, b)) : l = a ++ sep ++ b := by
  have := cutL_index sep hs l
  rw [h] at this
  exact this.2
/-- What comes behind the place does not matter. -/
theorem cutL_ext {sep : List UInt8} (hs : sep ≠ []) : ∀ {l a b : List UInt8}, cutL sep l = some (a, b) → ∀ b', cutL sep (a ++ sep ++ b') = some (a, b')
  | [], a, b, h, b' => by simp [cutL] at h
  | c :: t, a, b, h, b' => by
    unfold cutL at h
    by_cases hp : sep.isPrefixOf (c :: t) = true
    · rw [if_pos hp] at h
      obtain ⟨rfl, rfl⟩ := Prod.mk.inj (Option.some.inj h)
      rw [List.nil_append]
      cases hsep : sep ++ b' with
      | nil => exact absurd (List.append_eq_nil_iff.1 hsep).1 hs
      | cons x y =>
        unfold cutL
        rw [← hsep, if_pos ((pre_iff _ _).2 ⟨b', rfl⟩)]
        simp
    · rw [if_neg hp] at h
      cases hc : cutL sep t with
      | none => rw [hc] at h; cases h
      | some p =>
        obtain ⟨a0, b0⟩ := p
        rw [hc] at h
        simp only [Option.some.injEq, Prod.mk.injEq] at h
        obtain ⟨rfl, rfl⟩ := h
        have hl := cutL_split hs hc
        have ih := cutL_ext hs hc b'
        rw [List.cons_append, List.cons_append]
        unfold cutL
        rw [if_neg, ih]
        intro h2
        apply hp
        obtain ⟨u, hu⟩ := (pre_iff _ _).1 h2
        rw [pre_iff]
        refine ⟨(c :: t).drop sep.length, ?_⟩
        have e1 : (c :: t).take sep.length = sep := by
          have h3 : (c :: (a0 ++ sep ++ b')).take sep.length = sep := by rw [hu]; simp
          have h4 : (c :: t).take sep.length = (c :: (a0 ++ sep ++ b')).take sep.length := by
            rw [hl]
            have q : ∀ z : List UInt8, (c :: (a0 ++ sep ++ z)).take sep.length = (c :: (a0 ++ sep)).take sep.length := fun z => by
              rw [← List.cons_append, List.take_append_of_le_length (by simp; omega)]
            rw [q, q]
          rw [h4, h3]
        conv => lhs; rw [← List.take_append_drop sep.length (c :: t), e1]
theorem cutL_one (x : UInt8) : ∀ (a b : List UInt8), (∀ c ∈ a, c ≠ x) → cutL [x] (a ++ x :: b) = some (a, b)
  | [], b, _ => by unfold cutL; simp
  | c :: a, b, h => by
    rw [List.cons_append]
    unfold cutL
    rw [if_neg, cutL_one x a b (fun d hd => h d (by simp [hd]))]
    simp only [List.isPrefixOf, Bool.and_true, beq_iff_eq]
    exact fun e => h c (by simp) e.symm
def nmByte (c : UInt8) : Bool := c == 95 || (decide (97 ≤ c.toNat) && decide (c.toNat ≤ 122)) || (decide (65 ≤ c.toNat) && decide (c.toNat ≤ 90)) || (decide (48 ≤ c.toNat) && decide (c.toNat ≤ 57))
def whB (c : UInt8) : Bool := c == 9 || c == 10 || c == 13 || c == 32
def nmOk (l : List UInt8) : Bool := nameB (bytesOf l)
def unO (l : List UInt8) : List UInt8 × Nat × Nat := unS (bytesOf l)
/-- What a piece of a text is: wrong at a place, with an error; or a mark or none, and what is behind it. -/
inductive Res where
  | bad (d e : Nat)
  | ok (rest : List UInt8) (m : Option Mk)
inductive Att where
  | bad (d e : Nat)
  | ok (rest : List UInt8) (al : List (List UInt8 × List UInt8)) (d : Nat)
/-- An attribute. -/
def attL (d : Nat) (r : List UInt8) (acc : List (List UInt8 × List UInt8)) : Att :=
  if nmOk (r.takeWhile nmByte) = true ∧ [61, 34].isPrefixOf (r.dropWhile nmByte) = true then
    match cutL [34] ((r.dropWhile nmByte).drop 2) with
    | none => .bad 0 8
    | some (v, r2) =>
      if (unO v).2.2 ≠ 0 then .bad (d + (r.takeWhile nmByte).length + 2 + (unO v).2.1) (unO v).2.2
      else if acc.any (fun a => a.1 == r.takeWhile nmByte) = true then .bad 0 8
      else .ok r2 (acc ++ [(r.takeWhile nmByte, (unO v).1)]) (d + (r.takeWhile nmByte).length + 2 + v.length + 1)
  else .bad 0 8
/-- A tag behind its name. -/
def tagL (nm : List UInt8) : Nat → Nat → List UInt8 → List (List UInt8 × List UInt8) → Res
  | 0, _, _, _ => .bad 0 8
  | f + 1, d, l, acc =>
    if [62].isPrefixOf (l.dropWhile whB) = true then .ok ((l.dropWhile whB).drop 1) (some ⟨1, 0, nm, acc, []⟩)
    else if [47, 62].isPrefixOf (l.dropWhile whB) = true then .ok ((l.dropWhile whB).drop 2) (some ⟨4, 0, nm, acc, []⟩)
    else if (l.dropWhile whB).length = l.length then .bad 0 8
    else match attL (d + (l.length - (l.dropWhile whB).length)) (l.dropWhile whB) acc with
      | .bad x e => .bad x e
      | .ok r2 acc' d' => tagL nm f d' r2 acc'
def comL (l : List UInt8) : Res :=
  match cutL [45, 45] (l.drop 4) with
  | some (b, r) => if [62].isPrefixOf r = true then (if badV (bytesOf b) = -1 then .ok (r.drop 1) none else .bad (4 + (badV (bytesOf b)).toNat) 6) else .bad 0 8
  | none => .bad 0 8
def secL (l : List UInt8) : Res :=
  match cutL [93, 93, 62] (l.drop 9) with
  | some (b, r) => if badV (bytesOf b) = -1 then .ok r (some ⟨3, 0, [], [], b⟩) else .bad (9 + (badV (bytesOf b)).toNat) 6
  | none => .bad 0 8
def endL (l : List UInt8) : Res :=
  if nmOk ((l.drop 2).takeWhile nmByte) = true ∧ [62].isPrefixOf (((l.drop 2).dropWhile nmByte).dropWhile whB) = true then
    .ok ((((l.drop 2).dropWhile nmByte).dropWhile whB).drop 1) (some ⟨2, 0, (l.drop 2).takeWhile nmByte, [], []⟩)
  else .bad 0 8
def begL (l : List UInt8) : Res :=
  if nmOk ((l.drop 1).takeWhile nmByte) = true then tagL ((l.drop 1).takeWhile nmByte) (l.length + 1) (1 + ((l.drop 1).takeWhile nmByte).length) ((l.drop 1).dropWhile nmByte) [] else .bad 0 8
def plnL (l : List UInt8) : Res :=
  if (unO (l.takeWhile (· != 60))).2.2 = 0 then .ok (l.dropWhile (· != 60)) (some ⟨3, 0, [], [], (unO (l.takeWhile (· != 60))).1⟩) else .bad (unO (l.takeWhile (· != 60))).2.1 (unO (l.takeWhile (· != 60))).2.2
def stepL (l : List UInt8) : Res :=
  if [60, 33, 45, 45].isPrefixOf l = true then comL l
  else if [60, 33, 91, 67, 68, 65, 84, 65, 91].isPrefixOf l = true then secL l
  else if [60, 47].isPrefixOf l = true then endL l
  else if [60].isPrefixOf l = true then begL l
  else plnL l
def optM (p : Nat) : Option Mk → List Mk
  | none => []
  | some m => [{ m with pos := p }]
def marksL : Nat → Nat → List UInt8 → List Mk → List Mk × Nat × Nat
  | 0, _, _, acc => (acc, 0, 0)
  | _ + 1, _, [], acc => (acc, 0, 0)
  | f + 1, p, c :: t, acc => match stepL (c :: t) with
    | .bad d e => ([], p + d, e)
    | .ok r m => marksL f (p + ((c :: t).length - r.length)) r (acc ++ optM p m)
def marksS (s : ByteArray) : List Mk × Nat × Nat := if 65536 < s.size then ([], 0, 10) else marksL (s.size + 1) 0 s.data.toList []

/-! What is wrong is within the text; what is right does not hang on what comes behind. -/
theorem pre_app {a x : List UInt8} (h : a.isPrefixOf x = true) (y : List UInt8) : a.isPrefixOf (x ++ y) = true := by
  obtain ⟨t, rfl⟩ := (pre_iff _ _).1 h
  exact (pre_iff _ _).2 ⟨t ++ y, by simp⟩
theorem span_app (q : UInt8 → Bool) : ∀ (a b : List UInt8), (∀ c ∈ a, q c = true) → (b = [] ∨ ∃ c t, b = c :: t ∧ q c = false) → (a ++ b).takeWhile q = a ∧ (a ++ b).dropWhile q = b
  | [], b, _, hb => by
    rcases hb with rfl | ⟨c, t, rfl, hc⟩
    · exact ⟨rfl, rfl⟩
    · simp [List.takeWhile, List.dropWhile, hc]
  | c :: a, b, ha, hb => by
    obtain ⟨h1, h2⟩ := span_app q a b (fun x hx => ha x (by simp [hx])) hb
    simp [List.takeWhile, List.dropWhile, ha c (by simp), h1, h2]
theorem span_is (q : UInt8 → Bool) : ∀ l : List UInt8, l = l.takeWhile q ++ l.dropWhile q ∧ (∀ c ∈ l.takeWhile q, q c = true) ∧ (l.dropWhile q = [] ∨ ∃ c t, l.dropWhile q = c :: t ∧ q c = false)
  | [] => ⟨rfl, by simp, .inl rfl⟩
  | c :: l => by
    obtain ⟨h1, h2, h3⟩ := span_is q l
    by_cases hc : q c = true
    · simp only [List.takeWhile, List.dropWhile, hc]
      refine ⟨by rw [List.cons_append, ← h1], ?_, h3⟩
      intro x hx
      rcases List.mem_cons.1 hx with rfl | hx
      · exact hc
      · exact h2 x hx
    · have hc' : q c = false := by simpa using hc
      simp only [List.takeWhile, List.dropWhile, hc']
      exact ⟨by simp, by simp, .inr ⟨c, l, rfl, hc'⟩⟩
/-- The same span ahead of another rest that begins alike. -/
theorem span_move (q : UInt8 → Bool) {l x : List UInt8} {c : UInt8} (hl : l.dropWhile q = c :: x) (y : List UInt8) : (l.takeWhile q ++ c :: y).takeWhile q = l.takeWhile q ∧ (l.takeWhile q ++ c :: y).dropWhile q = c :: y := by
  obtain ⟨_, h2, h3⟩ := span_is q l
  refine span_app q _ _ h2 (.inr ⟨c, y, rfl, ?_⟩)
  rcases h3 with h3 | ⟨c', t', h3, h4⟩
  · rw [h3] at hl; cases hl
  · rw [h3] at hl
    cases hl
    exact h4
theorem size_bytes (l : List UInt8) : (bytesOf l).size = l.length := List.size_toArray
theorem unO_err (v : List UInt8) : (unO v).2.2 = 0 ∨ (((unO v).2.2 = 6 ∨ (unO v).2.2 = 7) ∧ (unO v).2.1 < v.length ∧ (unO v).1 = []) := by
  have := un_err (bytesOf v)
  rw [size_bytes] at this
  exact this
theorem attL_ok {d : Nat} {r : List UInt8} {acc : List (List UInt8 × List UInt8)} {r2 : List UInt8} {acc' : List (List UInt8 × List UInt8)} {d' : Nat} (h : attL d r acc = .ok r2 acc' d') :
    ∃ pre, r = pre ++ r2 ∧ pre ≠ [] ∧ d' = d + pre.length ∧ (∃ c x, pre = c :: x ∧ nmByte c = true) ∧ ∀ t, attL d (pre ++ t) acc = .ok t acc' d' := by
  unfold attL at h
  split at h
  · rename_i hc
    split at h
    · cases h
    · rename_i v r' hcut
      split at h
      · cases h
      · rename_i hu
        split at h
        · cases h
        · rename_i hany
          simp only [Att.ok.injEq] at h
          obtain ⟨rfl, rfl, rfl⟩ := h
          obtain ⟨u, hu2⟩ := (pre_iff _ _).1 hc.2
          obtain ⟨hs1, hs2, hs3⟩ := span_is nmByte r
          have e1 : (r.dropWhile nmByte).drop 2 = v ++ [34] ++ r' := cutL_split (by simp) hcut
          have e2 : r.dropWhile nmByte = 61 :: 34 :: (v ++ [34] ++ r') := by
            rw [hu2] at e1 ⊢
            simpa using e1
          have hne : r.takeWhile nmByte ≠ [] := by
            intro e
            have := hc.1
            unfold nmOk at this
            rw [e] at this
            exact (name_bytes _ this).1 rfl
          refine ⟨r.takeWhile nmByte ++ 61 :: 34 :: (v ++ [34]), ?_, ?_, ?_, ?_, ?_⟩
          · conv => lhs; rw [hs1, e2]
            simp
          · simp
          · simp; omega
          · cases hh : r.takeWhile nmByte with
            | nil => exact absurd hh hne
            | cons c x =>
              rw [hh] at hs2
              exact ⟨c, _, rfl, hs2 c (by simp)⟩
          · intro t
            have e3 : (r.takeWhile nmByte ++ 61 :: 34 :: (v ++ [34])) ++ t = r.takeWhile nmByte ++ 61 :: (34 :: (v ++ [34] ++ t)) := by simp
            obtain ⟨m1, m2⟩ := span_move nmByte e2 (34 :: (v ++ [34] ++ t))
            unfold attL
            rw [e3, m1, m2, if_pos ⟨hc.1, by simp [List.isPrefixOf]⟩]
            have e4 : (61 :: 34 :: (v ++ [34] ++ t)).drop 2 = v ++ [34] ++ t := rfl
            rw [e4, cutL_ext (by simp) hcut t]
            simp only
            rw [if_neg hu, if_neg hany]
  · cases h
theorem attL_bad {d : Nat} {r : List UInt8} {acc : List (List UInt8 × List UInt8)} {x e : Nat} (h : attL d r acc = .bad x e) : (x = 0 ∧ e = 8) ∨ ((e = 6 ∨ e = 7) ∧ x < d + r.length) := by
  unfold attL at h
  split at h
  · rename_i hc
    split at h
    · simp only [Att.bad.injEq] at h; exact .inl ⟨h.1.symm, h.2.symm⟩
    · rename_i v r' hcut
      split at h
      · rename_i hu
        simp only [Att.bad.injEq] at h
        right
        rcases unO_err v with h0 | ⟨h1, h2, _⟩
        · exact absurd h0 hu
        · obtain ⟨hs1, _, _⟩ := span_is nmByte r
          obtain ⟨u, hu2⟩ := (pre_iff _ _).1 hc.2
          have e1 := cutL_split (by simp) hcut
          have l1 := congrArg List.length hs1
          have l2 := congrArg List.length hu2
          have l3 := congrArg List.length e1
          rw [List.length_append] at l1
          simp only [List.length_append, List.length_cons, List.length_nil] at l2
          simp only [List.length_append, List.length_cons, List.length_nil, List.length_drop] at l3
          exact ⟨by omega, by omega⟩
      · split at h
        · simp only [Att.bad.injEq] at h; exact .inl ⟨h.1.symm, h.2.symm⟩
        · cases h
  · simp only [Att.bad.injEq] at h; exact .inl ⟨h.1.symm, h.2.symm⟩
theorem wh_nm (c : UInt8) (h : nmByte c = true) : whB c = false := by
  unfold nmByte at h
  unfold whB
  simp only [Bool.or_eq_true, Bool.and_eq_true, decide_eq_true_eq, beq_iff_eq] at h
  have k : ∀ n : UInt8, n.toNat < 48 → c ≠ n := fun n hn e => by
    subst e
    rcases h with ((h | h) | h) | h
    · subst h; exact absurd hn (by decide)
    · omega
    · omega
    · omega
  simp [k 9 (by decide), k 10 (by decide), k 13 (by decide), k 32 (by decide)]
theorem tagL_ok (nm : List UInt8) : ∀ (f d : Nat) (l : List UInt8) (acc : List (List UInt8 × List UInt8)) (rest : List UInt8) (m : Option Mk), tagL nm f d l acc = .ok rest m →
    ∃ pre, l = pre ++ rest ∧ pre ≠ [] ∧ ∀ t f', (pre ++ t).length < f' → tagL nm f' d (pre ++ t) acc = .ok t m := by
  intro f
  induction f with
  | zero => intro d l acc rest m h; cases h
  | succ f ih =>
    intro d l acc rest m h
    obtain ⟨hs1, hs2, hs3⟩ := span_is whB l
    unfold tagL at h
    split at h
    · rename_i h1
      obtain ⟨u, hu⟩ := (pre_iff _ _).1 h1
      rw [hu] at h
      simp only [Res.ok.injEq] at h
      obtain ⟨h2, rfl⟩ := h
      have hu' : u = rest := by simpa using h2
      subst hu'
      refine ⟨l.takeWhile whB ++ [62], ?_, by simp, ?_⟩
      · conv => lhs; rw [hs1, hu]
        simp
      · intro t f' hf
        obtain ⟨f', rfl⟩ : ∃ k, f' = k + 1 := ⟨f' - 1, by omega⟩
        have e3 : (l.takeWhile whB ++ [62]) ++ t = l.takeWhile whB ++ 62 :: t := by simp
        obtain ⟨m1, m2⟩ := span_move whB hu t
        unfold tagL
        rw [e3, m2, if_pos (by simp [List.isPrefixOf])]
        rfl
    · rename_i h1
      split at h
      · rename_i h2
        obtain ⟨u, hu⟩ := (pre_iff _ _).1 h2
        rw [hu] at h
        simp only [Res.ok.injEq] at h
        obtain ⟨h3, rfl⟩ := h
        have hu' : u = rest := by simpa using h3
        subst hu'
        refine ⟨l.takeWhile whB ++ [47, 62], ?_, by simp, ?_⟩
        · conv => lhs; rw [hs1, hu]
          simp
        · intro t f' hf
          obtain ⟨f', rfl⟩ : ∃ k, f' = k + 1 := ⟨f' - 1, by omega⟩
          have e3 : (l.takeWhile whB ++ [47, 62]) ++ t = l.takeWhile whB ++ 47 :: (62 :: t) := by simp
          obtain ⟨m1, m2⟩ := span_move whB hu (62 :: t)
          unfold tagL
          rw [e3, m2, if_neg (by simp [List.isPrefixOf]), if_pos (by simp [List.isPrefixOf])]
          rfl
      · rename_i h2
        split at h
        · cases h
        · rename_i h3
          split at h
          · cases h
          · rename_i r2 acc' d' ha
            obtain ⟨p1, e1, n1, hd', ⟨c, x, hcx, hcn⟩, k1⟩ := attL_ok ha
            obtain ⟨p2, e2, n2, k2⟩ := ih _ _ _ _ _ h
            have hwne : l.takeWhile whB ≠ [] := by
              intro e
              rw [e, List.nil_append] at hs1
              exact h3 (congrArg List.length hs1.symm)
            refine ⟨l.takeWhile whB ++ (p1 ++ p2), ?_, by simp [n1], ?_⟩
            · conv => lhs; rw [hs1, e1, e2]
              simp
            · intro t f' hf
              obtain ⟨f', rfl⟩ : ∃ k, f' = k + 1 := ⟨f' - 1, by omega⟩
              have hdw : l.dropWhile whB = c :: (x ++ r2) := by rw [e1, hcx]; rfl
              obtain ⟨m1, m2⟩ := span_move whB hdw (x ++ (p2 ++ t))
              have e3 : (l.takeWhile whB ++ (p1 ++ p2)) ++ t = l.takeWhile whB ++ c :: (x ++ (p2 ++ t)) := by rw [hcx]; simp
              have e4 : c :: (x ++ (p2 ++ t)) = p1 ++ (p2 ++ t) := by rw [hcx]; rfl
              have c62 : c ≠ 62 := fun e => by subst e; exact absurd hcn (by decide)
              have c47 : c ≠ 47 := fun e => by subst e; exact absurd hcn (by decide)
              have hlen : (l.takeWhile whB ++ c :: (x ++ (p2 ++ t))).length - (c :: (x ++ (p2 ++ t))).length = l.length - (l.dropWhile whB).length := by
                have l1 := congrArg List.length hs1
                rw [List.length_append] at l1
                rw [List.length_append]
                omega
              unfold tagL
              rw [e3, m2, if_neg (by simp [List.isPrefixOf]; exact fun e => c62 e.symm), if_neg (by simp [List.isPrefixOf]; exact fun e => absurd e.symm c47), if_neg (by
                have := List.length_pos_iff.2 hwne
                simp; omega), hlen, e4, k1]
              simp only
              refine k2 t f' ?_
              have := List.length_pos_iff.2 hwne
              rw [List.append_assoc, List.append_assoc, List.length_append, List.length_append] at hf
              omega
theorem tagL_bad (nm : List UInt8) : ∀ (f d : Nat) (l : List UInt8) (acc : List (List UInt8 × List UInt8)) (x e : Nat), tagL nm f d l acc = .bad x e → (x = 0 ∧ e = 8) ∨ ((e = 6 ∨ e = 7) ∧ x < d + l.length) := by
  intro f
  induction f with
  | zero => intro d l acc x e h; simp only [tagL, Res.bad.injEq] at h; exact .inl ⟨h.1.symm, h.2.symm⟩
  | succ f ih =>
    intro d l acc x e h
    obtain ⟨hs1, hs2, hs3⟩ := span_is whB l
    have l1 := congrArg List.length hs1
    rw [List.length_append] at l1
    unfold tagL at h
    split at h
    · cases h
    · split at h
      · cases h
      · split at h
        · simp only [Res.bad.injEq] at h; exact .inl ⟨h.1.symm, h.2.symm⟩
        · split at h
          · rename_i ha
            simp only [Res.bad.injEq] at h
            obtain ⟨rfl, rfl⟩ := h
            rcases attL_bad ha with h | ⟨h1, h2⟩
            · exact .inl h
            · exact .inr ⟨h1, by omega⟩
          · rename_i r2 acc' d' ha
            obtain ⟨p1, e1, n1, hd', _, _⟩ := attL_ok ha
            have l2 := congrArg List.length e1
            rw [List.length_append] at l2
            rcases ih _ _ _ _ _ h with h | ⟨h1, h2⟩
            · exact .inl h
            · exact .inr ⟨h1, by omega⟩

theorem pre_cons (a : UInt8) (l : List UInt8) : [a].isPrefixOf l = true ↔ ∃ t, l = a :: t := by
  rw [pre_iff]; rfl
theorem nm_head {c : UInt8} (h : nmByte c = true) : c ≠ 33 ∧ c ≠ 47 ∧ c ≠ 60 ∧ c ≠ 62 := by
  refine ⟨?_, ?_, ?_, ?_⟩ <;> (rintro rfl; exact absurd h (by decide))
theorem stepL_ok {l rest : List UInt8} {m : Option Mk} (hl : l ≠ []) (h : stepL l = .ok rest m) :
    ∃ pre, l = pre ++ rest ∧ pre ≠ [] ∧ ((∃ x, l = 60 :: x) ∨ rest = [] ∨ ∃ x, rest = 60 :: x) ∧ ∀ t, (t = [] ∨ (∃ x, t = 60 :: x) ∨ (∃ x, l = 60 :: x)) → stepL (pre ++ t) = .ok t m := by
  unfold stepL at h
  split at h
  · rename_i h1
    obtain ⟨u, rfl⟩ := (pre_iff _ _).1 h1
    unfold comL at h
    split at h
    · rename_i b r hc
      have e1 := cutL_split (by simp) hc
      split at h
      · rename_i h2
        obtain ⟨x, rfl⟩ := (pre_cons _ _).1 h2
        split at h
        · rename_i h3
          simp only [Res.ok.injEq] at h
          obtain ⟨h4, rfl⟩ := h
          have h4' : x = rest := h4
          subst h4'
          have e2 : u = b ++ [45, 45] ++ 62 :: x := e1
          refine ⟨[60, 33, 45, 45] ++ (b ++ [45, 45, 62]), by rw [e2]; simp, by simp, .inl ⟨_, rfl⟩, fun t _ => ?_⟩
          have e3 : ([60, 33, 45, 45] ++ (b ++ [45, 45, 62])) ++ t = [60, 33, 45, 45] ++ (b ++ [45, 45] ++ 62 :: t) := by simp
          rw [e3]
          unfold stepL
          rw [if_pos ((pre_iff _ _).2 ⟨_, rfl⟩)]
          unfold comL
          have e4 : ([60, 33, 45, 45] ++ (b ++ [45, 45] ++ 62 :: t)).drop 4 = b ++ [45, 45] ++ 62 :: t := rfl
          rw [e4, cutL_ext (by simp) hc]
          simp only
          rw [if_pos (by simp [List.isPrefixOf]), if_pos h3]
          rfl
        · cases h
      · cases h
    · cases h
  · rename_i h1
    split at h
    · rename_i h2
      obtain ⟨u, rfl⟩ := (pre_iff _ _).1 h2
      unfold secL at h
      split at h
      · rename_i b r hc
        have e1 := cutL_split (by simp) hc
        split at h
        · rename_i h3
          simp only [Res.ok.injEq] at h
          obtain ⟨rfl, rfl⟩ := h
          have e2 : u = b ++ [93, 93, 62] ++ r := e1
          refine ⟨[60, 33, 91, 67, 68, 65, 84, 65, 91] ++ (b ++ [93, 93, 62]), by rw [e2]; simp, by simp, .inl ⟨_, rfl⟩, fun t _ => ?_⟩
          have e3 : ([60, 33, 91, 67, 68, 65, 84, 65, 91] ++ (b ++ [93, 93, 62])) ++ t = [60, 33, 91, 67, 68, 65, 84, 65, 91] ++ (b ++ [93, 93, 62] ++ t) := by simp
          rw [e3]
          unfold stepL
          rw [if_neg (by simp [List.isPrefixOf]), if_pos ((pre_iff _ _).2 ⟨_, rfl⟩)]
          unfold secL
          have e4 : ([60, 33, 91, 67, 68, 65, 84, 65, 91] ++ (b ++ [93, 93, 62] ++ t)).drop 9 = b ++ [93, 93, 62] ++ t := rfl
          rw [e4, cutL_ext (by simp) hc]
          simp only
          rw [if_pos h3]
        · cases h
      · cases h
    · rename_i h2
      split at h
      · rename_i h3
        obtain ⟨u, rfl⟩ := (pre_iff _ _).1 h3
        unfold endL at h
        split at h
        · rename_i h4
          have e0 : ([60, 47] ++ u).drop 2 = u := rfl
          rw [e0] at h h4
          obtain ⟨hs1, hs2, hs3⟩ := span_is nmByte u
          obtain ⟨ws1, ws2, ws3⟩ := span_is whB (u.dropWhile nmByte)
          obtain ⟨x, hx⟩ := (pre_cons _ _).1 h4.2
          rw [hx] at h
          simp only [Res.ok.injEq] at h
          obtain ⟨h5, rfl⟩ := h
          have h5' : x = rest := h5
          subst h5'
          refine ⟨[60, 47] ++ (u.takeWhile nmByte ++ ((u.dropWhile nmByte).takeWhile whB ++ [62])), ?_, by simp, .inl ⟨_, rfl⟩, fun t _ => ?_⟩
          · conv => lhs; rw [hs1, ws1, hx]
            simp
          · have e3 : ([60, 47] ++ (u.takeWhile nmByte ++ ((u.dropWhile nmByte).takeWhile whB ++ [62]))) ++ t = [60, 47] ++ (u.takeWhile nmByte ++ ((u.dropWhile nmByte).takeWhile whB ++ 62 :: t)) := by simp
            obtain ⟨m1, m2⟩ := span_move whB hx t
            have hb : ((u.dropWhile nmByte).takeWhile whB ++ 62 :: t = [] ∨ ∃ c y, (u.dropWhile nmByte).takeWhile whB ++ 62 :: t = c :: y ∧ nmByte c = false) := by
              right
              cases hw : (u.dropWhile nmByte).takeWhile whB with
              | nil => exact ⟨62, t, rfl, by decide⟩
              | cons c y =>
                refine ⟨c, _, rfl, ?_⟩
                rw [hw] at ws2
                have hc := ws2 c (by simp)
                cases hn : nmByte c with
                | false => rfl
                | true => rw [wh_nm c hn] at hc; cases hc
            obtain ⟨n1, n2⟩ := span_app nmByte (u.takeWhile nmByte) _ hs2 hb
            rw [e3]
            unfold stepL
            rw [if_neg (by simp [List.isPrefixOf]), if_neg (by simp [List.isPrefixOf]), if_pos ((pre_iff _ _).2 ⟨_, rfl⟩)]
            unfold endL
            have e4 : ([60, 47] ++ (u.takeWhile nmByte ++ ((u.dropWhile nmByte).takeWhile whB ++ 62 :: t))).drop 2 = u.takeWhile nmByte ++ ((u.dropWhile nmByte).takeWhile whB ++ 62 :: t) := rfl
            rw [e4, n1, n2, m2, if_pos ⟨h4.1, by simp [List.isPrefixOf]⟩]
            rfl
        · cases h
      · rename_i h3
        split at h
        · rename_i h4
          obtain ⟨u, rfl⟩ := (pre_cons _ _).1 h4
          unfold begL at h
          split at h
          · rename_i h5
            have e0 : (60 :: u).drop 1 = u := rfl
            rw [e0] at h h5
            obtain ⟨hs1, hs2, hs3⟩ := span_is nmByte u
            obtain ⟨p2, e2, n2, k2⟩ := tagL_ok _ _ _ _ _ _ _ h
            have hne : u.takeWhile nmByte ≠ [] := fun e => by
              unfold nmOk at h5
              rw [e] at h5
              exact (name_bytes _ h5).1 rfl
            obtain ⟨c, y, hcy⟩ : ∃ c y, u.takeWhile nmByte = c :: y := by
              cases hh : u.takeWhile nmByte with
              | nil => exact absurd hh hne
              | cons c y => exact ⟨c, y, rfl⟩
            have hcn : nmByte c = true := by rw [hcy] at hs2; exact hs2 c (by simp)
            obtain ⟨c33, c47, _, _⟩ := nm_head hcn
            refine ⟨60 :: (u.takeWhile nmByte ++ p2), ?_, by simp, .inl ⟨_, rfl⟩, fun t _ => ?_⟩
            · conv => lhs; rw [hs1, e2]
              simp
            · have e3 : (60 :: (u.takeWhile nmByte ++ p2)) ++ t = 60 :: (u.takeWhile nmByte ++ (p2 ++ t)) := by simp
              have hb : p2 ++ t = [] ∨ ∃ c y, p2 ++ t = c :: y ∧ nmByte c = false := by
                right
                cases hp : p2 with
                | nil => exact absurd hp n2
                | cons d z =>
                  rw [hp] at e2
                  rcases hs3 with hs3 | ⟨c', t', hs3, hs4⟩
                  · rw [hs3] at e2; cases e2
                  · rw [hs3] at e2
                    cases e2
                    exact ⟨_, _, rfl, hs4⟩
              obtain ⟨n1, n3⟩ := span_app nmByte (u.takeWhile nmByte) _ hs2 hb
              have e4 : (60 :: (u.takeWhile nmByte ++ (p2 ++ t))).drop 1 = u.takeWhile nmByte ++ (p2 ++ t) := rfl
              have e5 : begL (60 :: (u.takeWhile nmByte ++ (p2 ++ t))) = .ok t m := by
                unfold begL
                rw [e4, n1, n3, if_pos h5]
                exact k2 t _ (by simp; omega)
              rw [e3]
              unfold stepL
              rw [hcy] at e5 ⊢
              rw [List.cons_append] at e5 ⊢
              rw [if_neg (by simp [List.isPrefixOf]; exact fun e => absurd e.symm c33), if_neg (by simp [List.isPrefixOf]; exact fun e => absurd e.symm c33), if_neg (by simp [List.isPrefixOf]; exact fun e => c47 e.symm), if_pos (by simp [List.isPrefixOf])]
              exact e5
          · cases h
        · rename_i h4
          unfold plnL at h
          split at h
          · rename_i h5
            simp only [Res.ok.injEq] at h
            obtain ⟨rfl, rfl⟩ := h
            obtain ⟨hs1, hs2, hs3⟩ := span_is (· != 60) l
            have hno : ¬ ∃ x, l = 60 :: x := fun ⟨x, e⟩ => h4 ((pre_cons _ _).2 ⟨x, e⟩)
            obtain ⟨c, y, hcy⟩ : ∃ c y, l.takeWhile (· != 60) = c :: y := by
              cases hh : l with
              | nil => exact absurd hh hl
              | cons c z =>
                have hc : c ≠ 60 := fun e => hno ⟨z, by rw [hh, e]⟩
                exact ⟨c, z.takeWhile (· != 60), by rw [List.takeWhile_cons, if_pos (by simpa using hc)]⟩
            have hcn : c ≠ 60 := by
              rw [hcy] at hs2
              simpa using hs2 c (by simp)
            refine ⟨l.takeWhile (· != 60), hs1, by rw [hcy]; simp, ?_, fun t ht => ?_⟩
            · rcases hs3 with hs3 | ⟨d, z, hs3, hs4⟩
              · exact .inr (.inl hs3)
              · have : d = 60 := by simpa using hs4
                subst this
                exact .inr (.inr ⟨z, hs3⟩)
            · have hb : t = [] ∨ ∃ c y, t = c :: y ∧ (c != 60) = false := by
                rcases ht with h | ⟨x, h⟩ | h
                · exact .inl h
                · exact .inr ⟨60, x, h, by decide⟩
                · exact absurd h hno
              obtain ⟨n1, n2⟩ := span_app (· != 60) (l.takeWhile (· != 60)) t hs2 hb
              have e5 : plnL (l.takeWhile (· != 60) ++ t) = .ok t (some ⟨3, 0, [], [], (unO (l.takeWhile (· != 60))).1⟩) := by
                unfold plnL
                rw [n1, n2, if_pos h5]
              unfold stepL
              rw [if_neg (by rw [hcy]; simp [List.isPrefixOf]; exact fun e => absurd e.symm hcn), if_neg (by rw [hcy]; simp [List.isPrefixOf]; exact fun e => absurd e.symm hcn), if_neg (by rw [hcy]; simp [List.isPrefixOf]; exact fun e => absurd e.symm hcn), if_neg (by rw [hcy]; simp [List.isPrefixOf]; exact fun e => hcn e.symm)]
              exact e5
          · cases h
theorem stepL_bad {l : List UInt8} {d e : Nat} (hl : l ≠ []) (h : stepL l = .bad d e) : (e = 8 ∧ d = 0 ∧ ∃ x, l = 60 :: x) ∨ ((e = 6 ∨ e = 7) ∧ d < l.length) := by
  have hlp := List.length_pos_iff.2 hl
  unfold stepL at h
  split at h
  · rename_i h1
    obtain ⟨u, rfl⟩ := (pre_iff _ _).1 h1
    have hx : ∃ x, [60, 33, 45, 45] ++ u = 60 :: x := ⟨_, rfl⟩
    unfold comL at h
    split at h
    · rename_i b r hc
      have e1 := congrArg List.length (cutL_split (by simp) hc)
      split at h
      · split at h
        · cases h
        · rename_i h3
          simp only [Res.bad.injEq] at h
          rcases bad_rng (bytesOf b) with h4 | h4
          · exact absurd h4 h3
          · rw [size_bytes] at h4
            simp at e1 ⊢
            exact .inr ⟨.inl h.2.symm, by omega⟩
      · simp only [Res.bad.injEq] at h; exact .inl ⟨h.2.symm, h.1.symm, hx⟩
    · simp only [Res.bad.injEq] at h; exact .inl ⟨h.2.symm, h.1.symm, hx⟩
  · split at h
    · rename_i h2
      obtain ⟨u, rfl⟩ := (pre_iff _ _).1 h2
      have hx : ∃ x, [60, 33, 91, 67, 68, 65, 84, 65, 91] ++ u = 60 :: x := ⟨_, rfl⟩
      unfold secL at h
      split at h
      · rename_i b r hc
        have e1 := congrArg List.length (cutL_split (by simp) hc)
        split at h
        · cases h
        · rename_i h3
          simp only [Res.bad.injEq] at h
          rcases bad_rng (bytesOf b) with h4 | h4
          · exact absurd h4 h3
          · rw [size_bytes] at h4
            simp at e1 ⊢
            exact .inr ⟨.inl h.2.symm, by omega⟩
      · simp only [Res.bad.injEq] at h; exact .inl ⟨h.2.symm, h.1.symm, hx⟩
    · split at h
      · rename_i h3
        obtain ⟨u, rfl⟩ := (pre_iff _ _).1 h3
        unfold endL at h
        split at h
        · cases h
        · simp only [Res.bad.injEq] at h; exact .inl ⟨h.2.symm, h.1.symm, _, rfl⟩
      · split at h
        · rename_i h4
          obtain ⟨u, rfl⟩ := (pre_cons _ _).1 h4
          unfold begL at h
          split at h
          · rcases tagL_bad _ _ _ _ _ _ _ h with h5 | ⟨h5, h6⟩
            · exact .inl ⟨h5.2, h5.1, _, rfl⟩
            · refine .inr ⟨h5, ?_⟩
              have hs := congrArg List.length (span_is nmByte u).1
              have e0 : (60 :: u).drop 1 = u := rfl
              rw [e0] at h6
              rw [List.length_append] at hs
              rw [List.length_cons]
              omega
          · simp only [Res.bad.injEq] at h; exact .inl ⟨h.2.symm, h.1.symm, _, rfl⟩
        · unfold plnL at h
          split at h
          · cases h
          · rename_i h5
            simp only [Res.bad.injEq] at h
            rcases unO_err (l.takeWhile (· != 60)) with h6 | ⟨h6, h7, _⟩
            · exact absurd h6 h5
            · have hs := congrArg List.length (span_is (· != 60) l).1
              rw [List.length_append] at hs
              refine .inr ⟨?_, by omega⟩
              rw [← h.2]
              exact h6

/-! From one place of a text to another. -/
inductive Run : Nat → List UInt8 → List Mk → List UInt8 → Prop
  | nil (p l) : Run p l [] l
  | cons {p l r m ms l2} : l ≠ [] → stepL l = .ok r m → Run (p + (l.length - r.length)) r ms l2 → Run p l (optM p m ++ ms) l2
theorem Run.pre {p : Nat} {l l2 : List UInt8} {ms : List Mk} (h : Run p l ms l2) : ∃ q, l = q ++ l2 := by
  induction h with
  | nil p l => exact ⟨[], rfl⟩
  | cons hl hs _ ih =>
    obtain ⟨q, hq⟩ := ih
    obtain ⟨p1, e1, _⟩ := stepL_ok hl hs
    exact ⟨p1 ++ q, by rw [e1, hq]; simp⟩
/-- What comes behind is cut off. -/
theorem Run.cut {p : Nat} {l l2 : List UInt8} {ms : List Mk} (h : Run p l ms l2) : ∀ q, l = q ++ l2 → Run p q ms [] := by
  induction h with
  | nil p l =>
    intro q hq
    have : q = [] := by
      have := congrArg List.length hq
      simp at this
      exact this
    subst this
    exact .nil _ _
  | @cons p l r m ms l2 hl hs hr ih =>
    intro q hq
    obtain ⟨p1, e1, n1, c1, k1⟩ := stepL_ok hl hs
    obtain ⟨q2, hq2⟩ := hr.pre
    have e3 : q = p1 ++ q2 := by
      rw [e1, hq2, ← List.append_assoc] at hq
      exact (List.append_cancel_right hq).symm
    subst e3
    have h1 := k1 q2 (by
      rcases c1 with c1 | c1 | ⟨x, c1⟩
      · exact .inr (.inr c1)
      · rw [c1] at hq2
        exact .inl (List.append_eq_nil_iff.1 hq2.symm).1
      · cases q2 with
        | nil => exact .inl rfl
        | cons c y =>
          rw [c1] at hq2
          cases hq2
          exact .inr (.inl ⟨_, rfl⟩))
    have h2 := ih q2 hq2
    refine .cons (by simp [n1]) h1 ?_
    have e5 : (p1 ++ q2).length - q2.length = l.length - r.length := by
      rw [e1]
      simp
    rw [e5]
    exact h2
theorem step_less {l r : List UInt8} {m : Option Mk} (hl : l ≠ []) (h : stepL l = .ok r m) : r.length < l.length := by
  obtain ⟨p1, e1, n1, _⟩ := stepL_ok hl h
  have := List.length_pos_iff.2 n1
  rw [e1, List.length_append]
  omega
theorem Run.marks {p : Nat} {l l2 : List UInt8} {ms : List Mk} (h : Run p l ms l2) : l2 = [] → ∀ f acc, l.length < f → marksL f p l acc = (acc ++ ms, 0, 0) := by
  induction h with
  | nil p l =>
    rintro rfl f acc hf
    obtain ⟨f, rfl⟩ : ∃ k, f = k + 1 := ⟨f - 1, by omega⟩
    simp [marksL]
  | @cons p l r m ms l2 hl hs hr ih =>
    intro h2 f acc hf
    obtain ⟨f, rfl⟩ : ∃ k, f = k + 1 := ⟨f - 1, by omega⟩
    have := step_less hl hs
    match l, hl with
    | c :: t, _ =>
      unfold marksL
      rw [hs]
      simp only
      rw [ih h2 f _ (by omega), List.append_assoc]
/-- All of a text is right, or where it is wrong. -/
theorem marks_run : ∀ (f p : Nat) (l : List UInt8) (acc : List Mk), l.length < f →
    (∃ ms, marksL f p l acc = (acc ++ ms, 0, 0) ∧ Run p l ms []) ∨
    (∃ ms l2 d e, marksL f p l acc = ([], p + (l.length - l2.length) + d, e) ∧ Run p l ms l2 ∧ l2 ≠ [] ∧ stepL l2 = .bad d e) := by
  intro f
  induction f with
  | zero => intro p l acc h; omega
  | succ f ih =>
    intro p l acc hf
    match l with
    | [] => exact .inl ⟨[], by simp [marksL], .nil _ _⟩
    | c :: t =>
      cases hs : stepL (c :: t) with
      | bad d e =>
        right
        refine ⟨[], c :: t, d, e, ?_, .nil _ _, by simp, hs⟩
        unfold marksL
        rw [hs]
        simp
      | ok r m =>
        have hlt := step_less (by simp) hs
        rcases ih (p + ((c :: t).length - r.length)) r (acc ++ optM p m) (by omega) with ⟨ms, h1, h2⟩ | ⟨ms, l2, d, e, h1, h2, h3, h4⟩
        · left
          refine ⟨optM p m ++ ms, ?_, .cons (by simp) hs h2⟩
          unfold marksL
          rw [hs]
          simp only
          rw [h1, List.append_assoc]
        · right
          obtain ⟨q, hq⟩ := h2.pre
          refine ⟨optM p m ++ ms, l2, d, e, ?_, .cons (by simp) hs h2, h3, h4⟩
          have hlq := congrArg List.length hq
          rw [List.length_append] at hlq
          unfold marksL
          rw [hs]
          simp only
          rw [h1]
          congr 2
          omega
theorem toList_len (s : ByteArray) : s.data.toList.length = s.size := Array.length_toList
/-- What is said of a text's marks. -/
theorem marksS_wrong (s : ByteArray) (h : (marksS s).2.2 ≠ 0) : (marksS s).1 = [] ∧ (((marksS s).2.2 = 10 ∧ 65536 < s.size ∧ (marksS s).2.1 = 0) ∨
    (((marksS s).2.2 = 6 ∨ (marksS s).2.2 = 7) ∧ (marksS s).2.1 < s.size) ∨
    ((marksS s).2.2 = 8 ∧ (marksS s).2.1 < s.size ∧ s.data.toList[(marksS s).2.1]? = some 60 ∧ ∀ z : ByteArray, z.data.toList = s.data.toList.take (marksS s).2.1 → (marksS z).2.2 = 0)) := by
  unfold marksS at h ⊢
  by_cases hsz : 65536 < s.size
  · rw [if_pos hsz]
    exact ⟨rfl, .inl ⟨rfl, hsz, rfl⟩⟩
  · rw [if_neg hsz] at h ⊢
    rcases marks_run (s.size + 1) 0 s.data.toList [] (by rw [toList_len]; omega) with ⟨ms, h1, _⟩ | ⟨ms, l2, d, e, h1, h2, h3, h4⟩
    · rw [h1] at h; exact absurd rfl h
    · rw [h1]
      simp only [Nat.zero_add]
      obtain ⟨q, hq⟩ := h2.pre
      have hl := congrArg List.length hq
      rw [List.length_append, toList_len] at hl
      have hlp := List.length_pos_iff.2 h3
      have e9 : s.data.toList.length - l2.length = q.length := by rw [toList_len]; omega
      refine ⟨trivial, .inr ?_⟩
      rcases stepL_bad h3 h4 with ⟨rfl, rfl, x, rfl⟩ | ⟨h5, h6⟩
      · right
        rw [e9, Nat.add_zero]
        refine ⟨rfl, by omega, ?_, fun z hz => ?_⟩
        · rw [hq, List.getElem?_append_right (Nat.le_refl _), Nat.sub_self]
          rfl
        · have hz2 : z.data.toList = q := by rw [hz, hq]; simp
          have hz3 : z.size = q.length := by rw [← toList_len, hz2]
          rw [if_neg (by omega), hz2, hz3, (h2.cut q hq).marks rfl _ _ (by omega)]
      · left
        exact ⟨h5, by omega⟩
theorem marksS_right (s : ByteArray) (h : (marksS s).2.2 = 0) : s.size ≤ 65536 ∧ (marksS s).2.1 = 0 ∧ Run 0 s.data.toList (marksS s).1 [] := by
  unfold marksS at h ⊢
  by_cases hsz : 65536 < s.size
  · rw [if_pos hsz] at h; cases h
  · rw [if_neg hsz] at h ⊢
    rcases marks_run (s.size + 1) 0 s.data.toList [] (by rw [toList_len]; omega) with ⟨ms, h1, h2⟩ | ⟨ms, l2, d, e, h1, h2, h3, h4⟩
    · rw [h1]
      exact ⟨by omega, rfl, by simpa using h2⟩
    · rw [h1] at h
      rcases stepL_bad h3 h4 with ⟨rfl, _⟩ | ⟨h5, _⟩
      · cases h
      · simp only at h; omega
theorem marksS_of {s : ByteArray} {ms : List Mk} (hs : s.size ≤ 65536) (h : Run 0 s.data.toList ms []) : marksS s = (ms, 0, 0) := by
  unfold marksS
  rw [if_neg (by omega), h.marks rfl _ _ (by rw [toList_len]; omega)]
  rfl
/-- The same marks, but for their places. -/
def er (m : Mk) : Mk := { m with pos := 0 }
theorem optM_er (p q : Nat) (m : Option Mk) : (optM p m).map er = (optM q m).map er := by cases m <;> rfl
theorem Run.move {p : Nat} {l l2 : List UInt8} {ms : List Mk} (h : Run p l ms l2) : ∀ q : Nat, ∃ ns, Run q l ns l2 ∧ ns.map er = ms.map er ∧ (∀ n, ms.head? = some n → ∃ n', ns.head? = some n' ∧ n'.pos - q = n.pos - p) := by
  induction h with
  | nil p l => exact fun q => ⟨[], .nil _ _, rfl, fun n h => by cases h⟩
  | @cons p l r m ms l2 hl hs hr ih =>
    intro q
    obtain ⟨ns, h1, h2, h3⟩ := ih (q + (l.length - r.length))
    refine ⟨optM q m ++ ns, .cons hl hs h1, by rw [List.map_append, List.map_append, h2, optM_er], fun n hn => ?_⟩
    cases m with
    | none =>
      obtain ⟨n', hn', he⟩ := h3 n hn
      refine ⟨n', hn', ?_⟩
      have := hn'
      omega
    | some m =>
      have : ({ m with pos := (p : Int) } : Mk) = n := Option.some.inj hn
      subst this
      exact ⟨_, rfl, by simp⟩
/-- Where the n-th mark begins. -/
theorem Run.at_mark {p : Nat} {l l2 : List UInt8} {ms : List Mk} (h : Run p l ms l2) : ∀ n (m : Mk), ms[n]? = some m → ∃ q t, l = q ++ t ∧ m.pos = p + q.length ∧ Run p l (ms.take n) t ∧ Run (p + q.length) t (ms.drop n) l2 ∧ t ≠ [] := by
  induction h with
  | nil p l => intro n m h; simp at h
  | @cons p l r m ms l2 hl hs hr ih =>
    intro n x hx
    obtain ⟨p1, e1, n1, _⟩ := stepL_ok hl hs
    have e5 : l.length - r.length = p1.length := by rw [e1]; simp
    have deep : ∀ k, ms[k]? = some x → ∃ q t, l = q ++ t ∧ x.pos = p + q.length ∧ Run p l (optM p m ++ ms.take k) t ∧ Run (p + q.length) t (ms.drop k) l2 ∧ t ≠ [] := by
      intro k hk
      obtain ⟨q, t, h1, h2, h3, h4, h5⟩ := ih k x hk
      rw [e5] at h2 h4
      refine ⟨p1 ++ q, t, by rw [e1, h1]; simp, by rw [h2]; simp; omega, .cons hl hs h3, ?_, h5⟩
      rw [List.length_append, ← Nat.add_assoc]
      exact h4
    cases m with
    | none => exact deep n hx
    | some y =>
      match n with
      | 0 =>
        have : ({ y with pos := (p : Int) } : Mk) = x := Option.some.inj hx
        subst this
        exact ⟨[], l, rfl, by simp, .nil _ _, .cons hl hs hr, hl⟩
      | k + 1 => exact deep k hx
theorem parts_is (s : ByteArray) (h : (marksS s).2.2 = 0) (n : Nat) (m : Mk) (hm : (marksS s).1[n]? = some m) : ∃ at_ : Nat, m.pos = at_ ∧ at_ < s.size ∧
    (∀ z : ByteArray, z.data.toList = s.data.toList.take at_ → marksS z = ((marksS s).1.take n, 0, 0)) ∧
    (∀ z : ByteArray, z.data.toList = s.data.toList.drop at_ → ∃ ns, marksS z = (ns, 0, 0) ∧ ns.map er = ((marksS s).1.drop n).map er ∧ ∃ n', ns.head? = some n' ∧ n'.pos = 0) := by
  obtain ⟨h0, h1, h2⟩ := marksS_right s h
  obtain ⟨q, t, e1, e2, r1, r2, ht⟩ := h2.at_mark n m hm
  have hl := congrArg List.length e1
  rw [List.length_append, toList_len] at hl
  have htp := List.length_pos_iff.2 ht
  rw [Nat.zero_add] at r2
  refine ⟨q.length, by rw [e2]; simp, by omega, fun z hz => ?_, fun z hz => ?_⟩
  · have hz2 : z.data.toList = q := by rw [hz, e1]; simp
    have hz3 : z.size = q.length := by rw [← toList_len, hz2]
    exact marksS_of (by omega) (by rw [hz2]; exact r1.cut q e1)
  · have hz2 : z.data.toList = t := by rw [hz, e1]; simp
    have hz3 : z.size = t.length := by rw [← toList_len, hz2]
    obtain ⟨ns, k1, k2, k3⟩ := r2.move 0
    refine ⟨ns, marksS_of (by omega) (by rw [hz2]; exact k1), k2, ?_⟩
    obtain ⟨n', k4, k5⟩ := k3 m (by rw [List.head?_drop]; exact hm)
    refine ⟨n', k4, ?_⟩
    rw [e2] at k5
    simpa using k5

/-! Marks al a text. -/
def goodL (l : List UInt8) : Bool := goodB (bytesOf l)
def attT (a : List UInt8 × List UInt8) : List UInt8 := 32 :: (a.1 ++ 61 :: 34 :: (escL a.2 ++ [34]))
def attsOk : List (List UInt8) → List (List UInt8 × List UInt8) → Bool
  | _, [] => true
  | seen, a :: t => !seen.contains a.1 && nmOk a.1 && goodL a.2 && attsOk (seen ++ [a.1]) t
def markT (m : Mk) : List UInt8 :=
  if m.kind = 3 then escL m.text else if m.kind = 2 then 60 :: 47 :: (m.name ++ [62])
  else 60 :: (m.name ++ (m.attrs.flatMap attT ++ ((if m.kind = 4 then [47] else []) ++ [62])))
def sndM (m : Mk) : Bool :=
  if m.kind = 3 then m.name.isEmpty && m.attrs.isEmpty && goodL m.text
  else if m.kind = 2 then m.text.isEmpty && nmOk m.name && m.attrs.isEmpty
  else if m.kind = 1 ∨ m.kind = 4 then m.text.isEmpty && nmOk m.name && attsOk [] m.attrs
  else false
def textL (ms : List Mk) : List UInt8 := ms.flatMap markT
def textS (ms : List Mk) : List UInt8 × Nat := if ms.all sndM = true then (if 65536 < (textL ms).length then ([], 10) else (textL ms, 0)) else ([], 2)
theorem nm_all {l : List UInt8} (h : nmOk l = true) : l ≠ [] ∧ ∀ c ∈ l, nmByte c = true := by
  obtain ⟨h1, h2, _⟩ := name_bytes l h
  refine ⟨h1, fun c hc => ?_⟩
  unfold nmByte
  simp only [Bool.or_eq_true, Bool.and_eq_true, decide_eq_true_eq, beq_iff_eq]
  rcases h2 c hc with h | h | h | h
  · exact .inl (.inl (.inl (UInt8.toNat_inj.1 h)))
  · exact .inl (.inl (.inr h))
  · exact .inl (.inr h)
  · exact .inr h
theorem att_back (d : Nat) (a : List UInt8 × List UInt8) (acc : List (List UInt8 × List UInt8)) (t : List UInt8) (h1 : (acc.map Prod.fst).contains a.1 = false) (h2 : nmOk a.1 = true) (h3 : goodL a.2 = true) :
    ∃ d', attL d (a.1 ++ 61 :: 34 :: (escL a.2 ++ [34]) ++ t) acc = .ok t (acc ++ [a]) d' := by
  obtain ⟨n1, n2⟩ := nm_all h2
  have e3 : a.1 ++ 61 :: 34 :: (escL a.2 ++ [34]) ++ t = a.1 ++ 61 :: (34 :: (escL a.2 ++ 34 :: t)) := by simp
  obtain ⟨m1, m2⟩ := span_app nmByte a.1 (61 :: (34 :: (escL a.2 ++ 34 :: t))) n2 (.inr ⟨61, _, rfl, by decide⟩)
  have hu : unO (escL a.2) = (a.2, 0, 0) := un_escL a.2 h3
  have hc : cutL [34] (escL a.2 ++ 34 :: t) = some (escL a.2, t) := cutL_one 34 _ _ (fun c hc e => by
    subst e
    exact (escL_clean a.2 h3 _ hc).2 rfl)
  have e4 : (61 :: 34 :: (escL a.2 ++ 34 :: t)).drop 2 = escL a.2 ++ 34 :: t := rfl
  have hany : ¬ acc.any (fun x => x.1 == a.1) = true := by
    intro h
    rw [List.any_eq_true] at h
    obtain ⟨x, hx, he⟩ := h
    have : (acc.map Prod.fst).contains a.1 = true := by
      rw [List.contains_iff_mem]
      exact List.mem_map.2 ⟨x, hx, by simpa using he⟩
    rw [h1] at this
    cases this
  unfold attL
  rw [e3, m1, m2, if_pos ⟨h2, by simp [List.isPrefixOf]⟩, e4, hc]
  simp only
  rw [hu, if_neg (by simp), if_neg hany]
  exact ⟨_, rfl⟩
theorem tag_back (nm : List UInt8) (b : Bool) (t : List UInt8) : ∀ (al acc : List (List UInt8 × List UInt8)) (f d : Nat), attsOk (acc.map Prod.fst) al = true → al.length < f →
    tagL nm f d (al.flatMap attT ++ ((if b = true then [47] else []) ++ [62]) ++ t) acc = .ok t (some ⟨if b = true then 4 else 1, 0, nm, acc ++ al, []⟩) := by
  intro al
  induction al with
  | nil =>
    intro acc f d _ hf
    obtain ⟨f, rfl⟩ : ∃ k, f = k + 1 := ⟨f - 1, by simp at hf; omega⟩
    cases b with
    | false => simp [tagL, whB, List.dropWhile, List.isPrefixOf]
    | true => simp [tagL, whB, List.dropWhile, List.isPrefixOf]
  | cons a al ih =>
    intro acc f d h hf
    obtain ⟨f, rfl⟩ : ∃ k, f = k + 1 := ⟨f - 1, by simp at hf; omega⟩
    unfold attsOk at h
    simp only [Bool.and_eq_true, Bool.not_eq_true'] at h
    obtain ⟨⟨⟨h1, h2⟩, h3⟩, h4⟩ := h
    obtain ⟨n1, n2⟩ := nm_all h2
    obtain ⟨x, y, hxy⟩ : ∃ x y, a.1 = x :: y := by
      cases hh : a.1 with
      | nil => exact absurd hh n1
      | cons x y => exact ⟨x, y, rfl⟩
    have hx : nmByte x = true := n2 x (by rw [hxy]; simp)
    obtain ⟨_, x47, _, x62⟩ := nm_head hx
    generalize hT : al.flatMap attT ++ ((if b = true then [47] else []) ++ [62]) ++ t = T at ih
    have e0 : (a :: al).flatMap attT ++ ((if b = true then [47] else []) ++ [62]) ++ t = 32 :: (a.1 ++ 61 :: 34 :: (escL a.2 ++ [34]) ++ T) := by
      rw [← hT]
      simp [attT]
    have e1 : (32 :: (a.1 ++ 61 :: 34 :: (escL a.2 ++ [34]) ++ T)).dropWhile whB = a.1 ++ 61 :: 34 :: (escL a.2 ++ [34]) ++ T := by
      rw [List.dropWhile_cons, if_pos (by decide), hxy]
      simp only [List.cons_append]
      rw [List.dropWhile_cons, if_neg (by rw [wh_nm x hx]; decide)]
    obtain ⟨d', ha⟩ := att_back (d + ((32 :: (a.1 ++ 61 :: 34 :: (escL a.2 ++ [34]) ++ T)).length - (a.1 ++ 61 :: 34 :: (escL a.2 ++ [34]) ++ T).length)) a acc T h1 h2 h3
    rw [e0]
    unfold tagL
    rw [e1, if_neg (by rw [hxy]; simp [List.isPrefixOf]; exact fun e => x62 e.symm), if_neg (by rw [hxy]; simp [List.isPrefixOf]; exact fun e => absurd e.symm x47), if_neg (by simp), ha]
    simp only
    rw [ih (acc ++ [a]) f d' (by rw [List.map_append]; exact h4) (by simp at hf; omega)]
    simp
theorem attT_len (al : List (List UInt8 × List UInt8)) : al.length ≤ (al.flatMap attT).length := by
  induction al with
  | nil => simp
  | cons a al ih => rw [List.flatMap_cons, List.length_append]; simp [attT] at ih ⊢; omega
theorem mark_back (m : Mk) (t : List UInt8) (h : sndM m = true) (h3 : m.kind = 3 → m.text ≠ [] ∧ (t = [] ∨ ∃ x, t = 60 :: x)) : stepL (markT m ++ t) = .ok t (some (er m)) ∧ markT m ≠ [] ∧ (m.kind ≠ 3 → ∃ x, markT m = 60 :: x) := by
  obtain ⟨k, q, nm, al, tx⟩ := m
  unfold sndM at h
  unfold markT er
  simp only at h h3 ⊢
  by_cases k3 : k = 3
  · subst k3
    rw [if_pos rfl] at h
    simp only [Bool.and_eq_true, List.isEmpty_iff] at h
    obtain ⟨⟨rfl, rfl⟩, hg⟩ := h
    obtain ⟨hne, ht⟩ := h3 rfl
    rw [if_pos rfl]
    have hcl := escL_clean tx hg
    have hu : unO (escL tx) = (tx, 0, 0) := un_escL tx hg
    have hne' : escL tx ≠ [] := fun e => hne ((escL_nil tx).1 e)
    obtain ⟨c, y, hcy⟩ : ∃ c y, escL tx = c :: y := by
      cases hh : escL tx with
      | nil => exact absurd hh hne'
      | cons c y => exact ⟨c, y, rfl⟩
    have c60 : c ≠ 60 := fun e => by
      subst e
      exact (hcl 60 (by rw [hcy]; simp)).1 rfl
    obtain ⟨n1, n2⟩ := span_app (· != 60) (escL tx) t (fun c hc => by
      simp only [bne_iff_ne, ne_eq]
      rintro rfl
      exact (hcl _ hc).1 rfl) (by
      rcases ht with h | ⟨x, h⟩
      · exact .inl h
      · exact .inr ⟨60, x, h, by decide⟩)
    have e5 : plnL (escL tx ++ t) = .ok t (some ⟨3, 0, [], [], tx⟩) := by
      unfold plnL
      rw [n1, n2, hu, if_pos rfl]
    refine ⟨?_, hne', fun h => absurd rfl h⟩
    unfold stepL
    rw [if_neg (by rw [hcy]; simp [List.isPrefixOf]; exact fun e => absurd e.symm c60), if_neg (by rw [hcy]; simp [List.isPrefixOf]; exact fun e => absurd e.symm c60), if_neg (by rw [hcy]; simp [List.isPrefixOf]; exact fun e => absurd e.symm c60), if_neg (by rw [hcy]; simp [List.isPrefixOf]; exact fun e => c60 e.symm)]
    exact e5
  rw [if_neg k3] at h ⊢
  by_cases k2 : k = 2
  · subst k2
    rw [if_pos rfl] at h ⊢
    simp only [Bool.and_eq_true, List.isEmpty_iff] at h
    obtain ⟨⟨rfl, hn⟩, rfl⟩ := h
    obtain ⟨n1, n2⟩ := nm_all hn
    refine ⟨?_, by simp, fun _ => ⟨_, rfl⟩⟩
    obtain ⟨m1, m2⟩ := span_app nmByte nm (62 :: t) n2 (.inr ⟨62, t, rfl, by decide⟩)
    have e3 : 60 :: 47 :: (nm ++ [62]) ++ t = 60 :: 47 :: (nm ++ 62 :: t) := by simp
    rw [e3]
    unfold stepL
    rw [if_neg (by simp [List.isPrefixOf]), if_neg (by simp [List.isPrefixOf]), if_pos (by simp [List.isPrefixOf])]
    unfold endL
    have e4 : (60 :: 47 :: (nm ++ 62 :: t)).drop 2 = nm ++ 62 :: t := rfl
    have e5 : (62 :: t).dropWhile whB = 62 :: t := by rw [List.dropWhile_cons, if_neg (by decide)]
    rw [e4, m1, m2, e5, if_pos ⟨hn, by simp [List.isPrefixOf]⟩]
    rfl
  rw [if_neg k2] at h ⊢
  have k14 : k = 1 ∨ k = 4 := by
    by_cases hk : k = 1 ∨ k = 4
    · exact hk
    · rw [if_neg hk] at h; cases h
  rw [if_pos k14] at h
  simp only [Bool.and_eq_true, List.isEmpty_iff] at h
  obtain ⟨⟨rfl, hn⟩, ha⟩ := h
  obtain ⟨n1, n2⟩ := nm_all hn
  refine ⟨?_, by simp, fun _ => ⟨_, rfl⟩⟩
  obtain ⟨b, hb, hb2⟩ : ∃ b : Bool, (if k = 4 then [(47 : UInt8)] else []) = (if b = true then [47] else []) ∧ k = if b = true then 4 else 1 := by
    rcases k14 with rfl | rfl
    · exact ⟨false, rfl, rfl⟩
    · exact ⟨true, rfl, rfl⟩
  rw [hb]
  have hT := fun f d => tag_back nm b t al [] f d ha
  generalize hU : al.flatMap attT ++ ((if b = true then [47] else []) ++ [62]) ++ t = U at hT
  have e3 : 60 :: (nm ++ (al.flatMap attT ++ ((if b = true then [47] else []) ++ [62]))) ++ t = 60 :: (nm ++ U) := by rw [← hU]; simp
  have hlen : al.length < (60 :: (nm ++ U)).length + 1 := by
    have := attT_len al
    rw [← hU]
    simp
    simp at this
    omega
  have hUh : ∃ c y, U = c :: y ∧ nmByte c = false := by
    rw [← hU]
    cases al with
    | cons a al => exact ⟨32, _, rfl, by decide⟩
    | nil =>
      cases b with
      | false => exact ⟨62, t, rfl, by decide⟩
      | true => exact ⟨47, 62 :: t, rfl, by decide⟩
  obtain ⟨m1, m2⟩ := span_app nmByte nm U n2 (.inr hUh)
  have e5 : begL (60 :: (nm ++ U)) = .ok t (some ⟨k, 0, nm, al, []⟩) := by
    unfold begL
    have e4 : (60 :: (nm ++ U)).drop 1 = nm ++ U := rfl
    rw [e4, m1, m2, if_pos hn, hT _ _ hlen, ← hb2]
    rfl
  obtain ⟨x, y, hxy⟩ : ∃ x y, nm = x :: y := by
    cases hh : nm with
    | nil => exact absurd hh n1
    | cons x y => exact ⟨x, y, rfl⟩
  obtain ⟨x33, x47, _, _⟩ := nm_head (n2 x (by rw [hxy]; simp))
  rw [e3]
  unfold stepL
  rw [hxy] at e5 ⊢
  rw [List.cons_append] at e5 ⊢
  rw [if_neg (by simp [List.isPrefixOf]; exact fun e => absurd e.symm x33), if_neg (by simp [List.isPrefixOf]; exact fun e => absurd e.symm x33), if_neg (by simp [List.isPrefixOf]; exact fun e => x47 e.symm), if_pos (by simp [List.isPrefixOf])]
  exact e5
/-- No empty texts, and none side by side. -/
def altM : List Mk → Prop
  | [] => True
  | m :: t => (m.kind = 3 → m.text ≠ [] ∧ ∀ n, t.head? = some n → n.kind ≠ 3) ∧ altM t
theorem text_run : ∀ (ms : List Mk), ms.all sndM = true → altM ms → ∀ p, ∃ ns, Run p (textL ms) ns [] ∧ ns.map er = ms.map er ∧ (textL ms = [] ∨ (∃ x, textL ms = 60 :: x) ∨ ∃ m, ms.head? = some m ∧ m.kind = 3)
  | [], _, _, p => ⟨[], .nil _ _, rfl, .inl rfl⟩
  | m :: ms, hs, ha, p => by
    rw [List.all_cons, Bool.and_eq_true] at hs
    have e : textL (m :: ms) = markT m ++ textL ms := by simp [textL]
    obtain ⟨_, _, _, hd⟩ := text_run ms hs.2 ha.2 0
    obtain ⟨h1, h2, h3⟩ := mark_back m (textL ms) hs.1 (fun k3 => by
      obtain ⟨a1, a2⟩ := ha.1 k3
      refine ⟨a1, ?_⟩
      rcases hd with h | h | ⟨n, hn, h⟩
      · exact .inl h
      · exact .inr h
      · exact absurd h (a2 n hn))
    have hlen : (markT m ++ textL ms).length - (textL ms).length = (markT m).length := by simp
    obtain ⟨ns, r1, r2, _⟩ := text_run ms hs.2 ha.2 (p + (markT m).length)
    rw [e]
    refine ⟨optM p (some (er m)) ++ ns, .cons (by simp [h2]) h1 (by rw [hlen]; exact r1), by rw [List.map_append, r2]; rfl, ?_⟩
    by_cases k3 : m.kind = 3
    · exact .inr (.inr ⟨m, rfl, k3⟩)
    · obtain ⟨x, hx⟩ := h3 k3
      exact .inr (.inl ⟨x ++ textL ms, by rw [hx]; rfl⟩)
/-- What is written is read al it was. -/
theorem back_marks (ms : List Mk) (h : (textS ms).2 = 0) (ha : altM ms) (z : ByteArray) (hz : z.data.toList = (textS ms).1) : ∃ ns, marksS z = (ns, 0, 0) ∧ ns.map er = ms.map er := by
  unfold textS at h hz
  split at h
  · rename_i h1
    rw [if_pos h1] at hz
    split at h
    · cases h
    · rename_i h2
      rw [if_neg h2] at hz
      obtain ⟨ns, r1, r2, _⟩ := text_run ms h1 ha 0
      have hzs : z.size ≤ 65536 := by rw [← toList_len, hz]; show (textL ms).length ≤ 65536; omega
      exact ⟨ns, marksS_of hzs (by rw [hz]; exact r1), r2⟩
  · cases h
end Go.Proofs.YtobdokeklcdpoaaDoor
