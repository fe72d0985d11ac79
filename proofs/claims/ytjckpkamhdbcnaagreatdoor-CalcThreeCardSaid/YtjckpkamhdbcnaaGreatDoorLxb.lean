
import Derived.Test.YtjckpkamhdbcnaaGreatDoorLxa
namespace Go.Proofs.YtjckpkamhdbcnaaGreatDoor
set_option linter.unusedSimpArgs false
set_option linter.unusedVariables false

/-! What the layers below say of a text, in plain words. -/
def bytesOf (l : List UInt8) : ByteArray := ⟨l.toArray⟩
def decOf : Value → Int × Int × Nat
  | .tuple a => match a.toList with
    | [.agg b, .int _ e] => (match b.toList with
      | [.int _ x, .int _ y] => (x, y, e.toNat)
      | _ => (0, 0, 5))
    | _ => (0, 0, 5)
  | _ => (0, 0, 5)
def decP (l : List UInt8) : Int × Int × Nat := decOf (parseV l)
theorem decV_form (x : Bool) (m s : Nat) : ∃ (a b : Int) (e : Nat), decV x m s = .tuple #[decA a b, .int .i64 e] := by
  unfold decV
  split
  · exact ⟨_, _, 3, rfl⟩
  · exact ⟨_, _, 0, rfl⟩
theorem parse_is (l : List UInt8) : parseV l = .tuple #[decA (decP l).1 (decP l).2.1, .int .i64 ((decP l).2.2 : Nat)] := by
  have h : ∃ (a b : Int) (e : Nat), parseV l = .tuple #[decA a b, .int .i64 e] := by
    unfold parseV partsV
    split
    · exact ⟨_, _, 5, rfl⟩
    · split
      · exact ⟨_, _, 3, rfl⟩
      · exact decV_form _ _ _
  obtain ⟨a, b, e, h⟩ := h
  have : decP l = (a, b, e) := by unfold decP; rw [h]; rfl
  rw [this, h]
def dayOf : Value → Int × Nat
  | .tuple a => match a.toList with
    | [.int _ n, .int _ e] => (n, e.toNat)
    | _ => (0, 5)
  | _ => (0, 5)
def dayP (l : List UInt8) : Int × Nat := dayOf (parseV_Y (bytesOf l))
theorem dayV_form (a b c : Int) : ∃ (n : Int) (e : Nat), dayV a b c = .tuple #[.int .i64 n, .int .i64 e] := by
  unfold dayV
  split
  · exact ⟨_, 0, rfl⟩
  · exact ⟨_, 3, rfl⟩
theorem day_is (l : List UInt8) : parseV_Y (bytesOf l) = .tuple #[.int .i64 (dayP l).1, .int .i64 ((dayP l).2 : Nat)] := by
  have h : ∃ (n : Int) (e : Nat), parseV_Y (bytesOf l) = .tuple #[.int .i64 n, .int .i64 e] := by
    unfold parseV_Y parseL
    split
    · split
      · split
        · exact dayV_form _ _ _
        · exact ⟨_, 5, rfl⟩
      · exact ⟨_, 5, rfl⟩
    · exact ⟨_, 5, rfl⟩
  obtain ⟨n, e, h⟩ := h
  have : dayP l = (n, e) := by unfold dayP; rw [h]; rfl
  rw [this, h]
def nmOk (l : List UInt8) : Bool := nameB (bytesOf l)
def strOk (l : List UInt8) : Bool := decide (l.length ≤ 256) && goodB (bytesOf l)

/-! Tokens: plain words. -/
structure Tok where
  kind : Int
  pos : Int
  text : List UInt8
  dn : Int
  ds : Int
  day : Int
deriving DecidableEq
def ters (t : Tok) : Tok := { t with pos := 0 }
def wsB (c : UInt8) : Bool := c == 32 || c == 9 || c == 10 || c == 13
def fgB (c : UInt8) : Bool := decide (48 ≤ c.toNat ∧ c.toNat ≤ 57)
def ltB (c : UInt8) : Bool := decide (c.toNat = 95 ∨ (97 ≤ c.toNat ∧ c.toNat ≤ 122) ∨ (65 ≤ c.toNat ∧ c.toNat ≤ 90))
def nbB (c : UInt8) : Bool := ltB c || fgB c
def sg2 : List (List UInt8) := [[46, 46], [33, 61], [60, 61], [62, 61]]
def sg1 : List UInt8 := [43, 45, 42, 47, 61, 60, 62, 40, 41, 91, 93, 44]
/-- The letters of a number, and what is behind. -/
def nmbL (l : List UInt8) : List UInt8 × List UInt8 :=
  match l.dropWhile fgB with
  | p :: d :: r => if p = 46 ∧ fgB d = true then (l.takeWhile fgB ++ p :: (d :: r).takeWhile fgB, (d :: r).dropWhile fgB) else (l.takeWhile fgB, p :: d :: r)
  | r => (l.takeWhile fgB, r)
/-- What stands between quotes, behind the first of them. -/
def strL : List UInt8 → List UInt8 → Option (List UInt8 × List UInt8)
  | _, [] => none
  | acc, c :: r => if c = 34 then some (acc, r) else if c = 92 then (match r with
    | [] => none
    | d :: r' => if d = 34 ∨ d = 92 then strL (acc ++ [d]) r' else none) else strL (acc ++ [c]) r
def sigL (l : List UInt8) : List UInt8 :=
  if sg2.contains (l.take 2) = true then l.take 2 else if ∃ c ∈ sg1, l.take 1 = [c] then l.take 1 else []
inductive TRes where
  | bad (e : Nat)
  | ok (rest : List UInt8) (m : Option Tok)
def numT (l : List UInt8) : TRes :=
  if (decP (nmbL l).1).2.2 = 0 then .ok (nmbL l).2 (some ⟨1, 0, [], (decP (nmbL l).1).1, (decP (nmbL l).1).2.1, 0⟩) else .bad (decP (nmbL l).1).2.2
def strT (l : List UInt8) : TRes :=
  match strL [] (l.drop 1) with
  | some (x, r) => if strOk x = true then .ok r (some ⟨2, 0, x, 0, 0, 0⟩) else .bad 5
  | none => .bad 5
def dayT (l : List UInt8) : TRes :=
  if [64, 34].isPrefixOf l = true ∧ (l.drop 2).dropWhile (· != 34) ≠ [] ∧ (dayP ((l.drop 2).takeWhile (· != 34))).2 = 0 then
    .ok (((l.drop 2).dropWhile (· != 34)).drop 1) (some ⟨3, 0, [], 0, 0, (dayP ((l.drop 2).takeWhile (· != 34))).1⟩)
  else .bad 5
def namT (l : List UInt8) : TRes :=
  if nmOk (l.takeWhile nbB) = true then .ok (l.dropWhile nbB) (some ⟨4, 0, l.takeWhile nbB, 0, 0, 0⟩) else .bad 5
def sigT (l : List UInt8) : TRes :=
  if sigL l = [] then .bad 5 else .ok (l.drop (sigL l).length) (some ⟨5, 0, sigL l, 0, 0, 0⟩)
def firT (c : UInt8) (l : List UInt8) : TRes :=
  if fgB c = true then numT l else if c = 34 then strT l else if c = 64 then dayT l else if ltB c = true then namT l else sigT l
def stepT : List UInt8 → TRes
  | [] => .bad 5
  | c :: t => if wsB c = true then .ok t none else firT c (c :: t)
def optT (p : Nat) : Option Tok → List Tok
  | none => []
  | some m => [{ m with pos := p }]
def tokL : Nat → Nat → List UInt8 → List Tok → List Tok × Nat × Nat
  | 0, _, _, acc => (acc, 0, 0)
  | _ + 1, _, [], acc => (acc, 0, 0)
  | f + 1, p, c :: t, acc => match stepT (c :: t) with
    | .bad e => ([], p, e)
    | .ok r m => tokL f (p + ((c :: t).length - r.length)) r (acc ++ optT p m)
def tokS (s : ByteArray) : List Tok × Nat × Nat := if 65536 < s.size then ([], 0, 10) else tokL (s.size + 1) 0 s.data.toList []
/-- What stands behind: nothing, or white. -/
def Wh (y : List UInt8) : Prop := y = [] ∨ ∃ c t, y = c :: t ∧ wsB c = true
theorem ws_facts {c : UInt8} (h : wsB c = true) : fgB c = false ∧ nbB c = false ∧ c ≠ 46 ∧ c ≠ 61 ∧ c ≠ 34 := by
  simp only [wsB, Bool.or_eq_true, beq_iff_eq] at h
  rcases h with ((rfl | rfl) | rfl) | rfl <;> decide
theorem span_app (q : UInt8 → Bool) : ∀ (x y : List UInt8), (y = [] ∨ ∃ c t, y = c :: t ∧ q c = false) → (x ++ y).takeWhile q = x.takeWhile q ∧ (x ++ y).dropWhile q = x.dropWhile q ++ y
  | [], y, h => by
    rcases h with rfl | ⟨c, t, rfl, hc⟩
    · simp
    · simp [List.takeWhile_cons, List.dropWhile_cons, hc]
  | a :: x, y, h => by
    obtain ⟨h1, h2⟩ := span_app q x y h
    by_cases ha : q a = true
    · simp only [List.cons_append, List.takeWhile_cons, List.dropWhile_cons, ha, if_true, h1, h2, and_self]
    · simp only [List.cons_append, List.takeWhile_cons, List.dropWhile_cons, if_neg ha, and_self]
theorem Wh.q {y : List UInt8} {q : UInt8 → Bool} (h : Wh y) (hq : ∀ c, wsB c = true → q c = false) : y = [] ∨ ∃ c t, y = c :: t ∧ q c = false := by
  rcases h with h | ⟨c, t, h1, h2⟩
  · exact .inl h
  · exact .inr ⟨c, t, h1, hq c h2⟩
theorem nmbL_app (x y : List UInt8) (hy : Wh y) : nmbL (x ++ y) = ((nmbL x).1, (nmbL x).2 ++ y) := by
  have hq := hy.q (q := fgB) (fun c h => (ws_facts h).1)
  obtain ⟨h1, h2⟩ := span_app fgB x y hq
  unfold nmbL
  rw [h1, h2]
  match hx : x.dropWhile fgB with
  | [] =>
    simp only [List.nil_append]
    rcases hy with rfl | ⟨c, t, rfl, hc⟩
    · rfl
    · cases t with
      | nil => rfl
      | cons d r => simp only [(ws_facts hc).2.2.1, false_and, if_false]
  | [p] =>
    simp only [List.cons_append, List.nil_append]
    rcases hy with rfl | ⟨c, t, rfl, hc⟩
    · rfl
    · simp only [(ws_facts hc).1, Bool.false_eq_true, and_false, if_false]
  | p :: d :: r =>
    simp only [List.cons_append]
    obtain ⟨h3, h4⟩ := span_app fgB (d :: r) y hq
    rw [List.cons_append] at h3 h4
    by_cases hp : p = 46 ∧ fgB d = true
    · rw [if_pos hp, if_pos hp, h3, h4]
    · rw [if_neg hp, if_neg hp]
      rfl
theorem strL_app : ∀ (n : Nat) (x acc : List UInt8), x.length ≤ n → ∀ (y : List UInt8) (z r : List UInt8), strL acc x = some (z, r) → strL acc (x ++ y) = some (z, r ++ y)
  | n, [], acc, _, y, z, r, h => by simp [strL] at h
  | 0, c :: x, acc, hn, y, z, r, h => by simp at hn
  | n + 1, c :: x, acc, hn, y, z, r, h => by
    rw [List.length_cons] at hn
    rw [List.cons_append]
    unfold strL at h ⊢
    by_cases h1 : c = 34
    · rw [if_pos h1] at h ⊢
      simp only [Option.some.injEq, Prod.mk.injEq] at h ⊢
      exact ⟨h.1, by rw [h.2]⟩
    · rw [if_neg h1] at h ⊢
      by_cases h2 : c = 92
      · rw [if_pos h2] at h ⊢
        cases x with
        | nil => cases h
        | cons d x' =>
          simp only [List.cons_append] at h ⊢
          by_cases h3 : d = 34 ∨ d = 92
          · rw [if_pos h3] at h ⊢
            exact strL_app n x' _ (by rw [List.length_cons] at hn; omega) y z r h
          · rw [if_neg h3] at h; cases h
      · rw [if_neg h2] at h ⊢
        exact strL_app n x _ (by omega) y z r h
theorem sigL_app (x y : List UInt8) (hx : x ≠ []) (hy : Wh y) (h : sigL x ≠ []) : sigL (x ++ y) = sigL x := by
  cases x with
  | nil => exact absurd rfl hx
  | cons a x =>
    cases x with
    | cons b x => simp [sigL]
    | nil =>
      rcases hy with rfl | ⟨c, t, rfl, hc⟩
      · rfl
      · have h2 : sg2.contains [a, c] = false := by
          obtain ⟨_, _, q1, q2, _⟩ := ws_facts hc
          simp [sg2, q1, q2]
        have h3 : sg2.contains [a] = false := by simp [sg2]
        simp only [sigL, List.cons_append, List.nil_append, List.take_succ_cons, List.take_zero, List.take_nil, h2, h3, Bool.false_eq_true, if_false]
        rfl
theorem sigL_len (x : List UInt8) : (sigL x).length ≤ x.length := by
  unfold sigL
  split
  · rw [List.length_take]; omega
  · split
    · rw [List.length_take]; omega
    · exact Nat.zero_le _
theorem firT_app {c : UInt8} {x y r : List UInt8} {m : Option Tok} (hx : x ≠ []) (hy : Wh y) (h : firT c x = .ok r m) : firT c (x ++ y) = .ok (r ++ y) m := by
  unfold firT at h ⊢
  split at h
  · rename_i h0
    rw [if_pos h0]
    unfold numT at h ⊢
    rw [nmbL_app x y hy]
    simp only
    split at h
    · rename_i h1
      rw [if_pos h1]
      cases h
      rfl
    · cases h
  · rename_i h0
    rw [if_neg h0]
    split at h
    · rename_i h1
      rw [if_pos h1]
      unfold strT at h ⊢
      split at h
      · rename_i z r' hz
        have hd : (x ++ y).drop 1 = x.drop 1 ++ y := by
          cases x with
          | nil => exact absurd rfl hx
          | cons _ _ => rfl
        rw [hd, strL_app _ (x.drop 1) [] (Nat.le_refl _) y z r' hz]
        simp only
        split at h
        · rename_i h2
          rw [if_pos h2]
          cases h
          rfl
        · cases h
      · cases h
    · rename_i h1
      rw [if_neg h1]
      split at h
      · rename_i h2
        rw [if_pos h2]
        unfold dayT at h ⊢
        split at h
        · rename_i h3
          obtain ⟨k1, k2, k3⟩ := h3
          have hl : 2 ≤ x.length := by
            match x, k1 with
            | [], k1 => simp at k1
            | [a], k1 => simp [List.isPrefixOf] at k1
            | a :: b :: x, _ => simp
          have hd : (x ++ y).drop 2 = x.drop 2 ++ y := List.drop_append_of_le_length hl
          have hp : [64, 34].isPrefixOf (x ++ y) = true := by
            match x, k1 with
            | [], k1 => simp at k1
            | [a], k1 => simp [List.isPrefixOf] at k1
            | a :: b :: x, k1 => simpa [List.isPrefixOf] using k1
          have sp : ∀ (u : List UInt8), u.dropWhile (· != 34) ≠ [] → (u ++ y).takeWhile (· != 34) = u.takeWhile (· != 34) ∧ (u ++ y).dropWhile (· != 34) = u.dropWhile (· != 34) ++ y := by
            intro u
            induction u with
            | nil => intro hu; exact absurd rfl hu
            | cons a u ih =>
              intro hu
              by_cases ha : (a != 34) = true
              · rw [List.dropWhile_cons, if_pos ha] at hu
                obtain ⟨i1, i2⟩ := ih hu
                simp only [List.cons_append, List.takeWhile_cons, List.dropWhile_cons, ha, if_true, i1, i2, and_self]
              · simp only [List.cons_append, List.takeWhile_cons, List.dropWhile_cons, if_neg ha, and_self]
          obtain ⟨s1, s2⟩ := sp _ k2
          rw [hd, s1, s2, if_pos ⟨hp, by simp [k2], k3⟩]
          cases h
          have : (List.dropWhile (· != 34) (x.drop 2) ++ y).drop 1 = (List.dropWhile (· != 34) (x.drop 2)).drop 1 ++ y := by
            cases hh : List.dropWhile (· != 34) (x.drop 2) with
            | nil => exact absurd hh k2
            | cons _ _ => rfl
          rw [this]
        · cases h
      · rename_i h2
        rw [if_neg h2]
        split at h
        · rename_i h3
          rw [if_pos h3]
          unfold namT at h ⊢
          obtain ⟨s1, s2⟩ := span_app nbB x y (hy.q (fun c h => (ws_facts h).2.1))
          rw [s1, s2]
          split at h
          · rename_i h4
            rw [if_pos h4]
            cases h
            rfl
          · cases h
        · rename_i h3
          rw [if_neg h3]
          unfold sigT at h ⊢
          split at h
          · cases h
          · rename_i h4
            have e := sigL_app x y hx hy h4
            rw [e, if_neg h4]
            cases h
            rw [List.drop_append_of_le_length (sigL_len x)]
theorem stepT_cons (c : UInt8) (t : List UInt8) : stepT (c :: t) = if wsB c = true then .ok t none else firT c (c :: t) := rfl
theorem step_app {x y r : List UInt8} {m : Option Tok} (hx : x ≠ []) (hy : Wh y) (h : stepT x = .ok r m) : stepT (x ++ y) = .ok (r ++ y) m := by
  cases x with
  | nil => exact absurd rfl hx
  | cons c x =>
    rw [List.cons_append, stepT_cons]
    rw [stepT_cons] at h
    by_cases h0 : wsB c = true
    · rw [if_pos h0] at h ⊢
      cases h
      rfl
    · rw [if_neg h0] at h ⊢
      rw [← List.cons_append]
      exact firT_app hx hy h
/-! What a step leaves. -/
theorem strL_suf : ∀ (n : Nat) (x acc : List UInt8), x.length ≤ n → ∀ (z r : List UInt8), strL acc x = some (z, r) → ∃ q, x = q ++ r ∧ q ≠ []
  | n, [], acc, _, z, r, h => by simp [strL] at h
  | 0, c :: x, acc, hn, z, r, h => by simp at hn
  | n + 1, c :: x, acc, hn, z, r, h => by
    rw [List.length_cons] at hn
    unfold strL at h
    by_cases h1 : c = 34
    · rw [if_pos h1] at h
      simp only [Option.some.injEq, Prod.mk.injEq] at h
      exact ⟨[c], by rw [h.2]; rfl, by simp⟩
    · rw [if_neg h1] at h
      by_cases h2 : c = 92
      · rw [if_pos h2] at h
        cases x with
        | nil => cases h
        | cons d x' =>
          simp only at h
          by_cases h3 : d = 34 ∨ d = 92
          · rw [if_pos h3] at h
            obtain ⟨q, hq, _⟩ := strL_suf n x' _ (by rw [List.length_cons] at hn; omega) z r h
            exact ⟨c :: d :: q, by rw [hq]; rfl, by simp⟩
          · rw [if_neg h3] at h; cases h
      · rw [if_neg h2] at h
        obtain ⟨q, hq, _⟩ := strL_suf n x _ (by omega) z r h
        exact ⟨c :: q, by rw [hq]; rfl, by simp⟩
theorem nmbL_suf (l : List UInt8) : l = (nmbL l).1 ++ (nmbL l).2 := by
  have h := (List.takeWhile_append_dropWhile (p := fgB) (l := l)).symm
  unfold nmbL
  match hx : l.dropWhile fgB with
  | [] => rw [hx] at h; simpa using h
  | [p] => rw [hx] at h; exact h
  | p :: d :: r =>
    rw [hx] at h
    simp only
    by_cases hp : p = 46 ∧ fgB d = true
    · rw [if_pos hp]
      simp only [List.append_assoc, List.cons_append]
      rw [List.takeWhile_append_dropWhile]
      exact h
    · rw [if_neg hp]
      exact h
theorem nmbL_ne (c : UInt8) (t : List UInt8) (h : fgB c = true) : (nmbL (c :: t)).1 ≠ [] := by
  unfold nmbL
  have : (c :: t).takeWhile fgB ≠ [] := by simp [List.takeWhile_cons, h]
  split
  · split
    · simp
    · exact this
  · exact this
theorem step_suf {x r : List UInt8} {m : Option Tok} (h : stepT x = .ok r m) : ∃ q, x = q ++ r ∧ q ≠ [] := by
  cases x with
  | nil => cases h
  | cons c t =>
    rw [stepT_cons] at h
    by_cases h0 : wsB c = true
    · rw [if_pos h0] at h
      cases h
      exact ⟨[c], rfl, by simp⟩
    · rw [if_neg h0] at h
      unfold firT at h
      split at h
      · rename_i h1
        unfold numT at h
        split at h
        · cases h
          exact ⟨_, nmbL_suf _, nmbL_ne c t h1⟩
        · cases h
      · split at h
        · unfold strT at h
          split at h
          · rename_i z r' hz
            split at h
            · cases h
              obtain ⟨q, hq, _⟩ := strL_suf _ _ [] (Nat.le_refl _) _ _ hz
              exact ⟨c :: q, by rw [List.cons_append, ← hq]; rfl, by simp⟩
            · cases h
          · cases h
        · split at h
          · unfold dayT at h
            split at h
            · rename_i h3
              cases h
              obtain ⟨k1, k2, _⟩ := h3
              cases hd : ((c :: t).drop 2).dropWhile (· != 34) with
              | nil => exact absurd hd k2
              | cons a u =>
                refine ⟨(c :: t).take 2 ++ (((c :: t).drop 2).takeWhile (· != 34) ++ [a]), ?_, by simp⟩
                have e1 := List.take_append_drop 2 (c :: t)
                have e2 := (List.takeWhile_append_dropWhile (p := (· != 34)) (l := (c :: t).drop 2))
                rw [hd] at e2
                rw [List.append_assoc, List.append_assoc]
                show _ = _ ++ (_ ++ a :: u)
                rw [e2, e1]
            · cases h
          · split at h
            · rename_i h4
              unfold namT at h
              split at h
              · cases h
                exact ⟨_, List.takeWhile_append_dropWhile.symm, by simp [List.takeWhile_cons, nbB, h4]⟩
              · cases h
            · unfold sigT at h
              split at h
              · cases h
              · rename_i h5
                cases h
                refine ⟨(c :: t).take (sigL (c :: t)).length, (List.take_append_drop _ _).symm, fun e => h5 ?_⟩
                have := congrArg List.length e
                rw [List.length_take, List.length_nil] at this
                have h6 := sigL_len (c :: t)
                exact List.length_eq_zero_iff.1 (by omega)
/-! A run of steps. -/
inductive Run : Nat → List UInt8 → List Tok → List UInt8 → Prop
  | nil (p l) : Run p l [] l
  | cons {p l r m ms l2} : stepT l = .ok r m → Run (p + (l.length - r.length)) r ms l2 → Run p l (optT p m ++ ms) l2
theorem Run.pre {p : Nat} {l l2 : List UInt8} {ms : List Tok} (h : Run p l ms l2) : ∃ q, l = q ++ l2 := by
  induction h with
  | nil p l => exact ⟨[], rfl⟩
  | cons hs hr ih =>
    obtain ⟨q, hq⟩ := ih
    obtain ⟨q2, hq2, _⟩ := step_suf hs
    exact ⟨q2 ++ q, by rw [hq2, hq, List.append_assoc]⟩
theorem Run.app {p : Nat} {l l2 y : List UInt8} {ms : List Tok} (h : Run p l ms l2) (hy : Wh y) : Run p (l ++ y) ms (l2 ++ y) := by
  induction h with
  | nil p l => exact .nil _ _
  | @cons p l r m ms l2 hs hr ih =>
    have hne : l ≠ [] := by rintro rfl; cases hs
    refine .cons (step_app hne hy hs) ?_
    obtain ⟨q, hq, _⟩ := step_suf hs
    rw [show (l ++ y).length - (r ++ y).length = l.length - r.length by simp only [List.length_append]; omega]
    exact ih
theorem Run.trans {p : Nat} {l l2 l3 : List UInt8} {ms ns : List Tok} (h : Run p l ms l2) : Run (p + (l.length - l2.length)) l2 ns l3 → Run p l (ms ++ ns) l3 := by
  induction h with
  | nil p l => intro h2; simpa using h2
  | @cons p l r m ms l2 hs hr ih =>
    intro h2
    rw [List.append_assoc]
    refine .cons hs (ih ?_)
    obtain ⟨q, hq, _⟩ := step_suf hs
    obtain ⟨q2, hq2⟩ := hr.pre
    have e1 := congrArg List.length hq
    have e2 := congrArg List.length hq2
    rw [List.length_append] at e1 e2
    rw [show p + (l.length - r.length) + (r.length - l2.length) = p + (l.length - l2.length) by omega]
    exact h2
theorem optT_er (p q : Nat) (m : Option Tok) : (optT p m).map ters = (optT q m).map ters := by cases m <;> rfl
theorem Run.move {p : Nat} {l l2 : List UInt8} {ms : List Tok} (h : Run p l ms l2) : ∀ q : Nat, ∃ ns, Run q l ns l2 ∧ ns.map ters = ms.map ters := by
  induction h with
  | nil p l => exact fun q => ⟨[], .nil _ _, rfl⟩
  | @cons p l r m ms l2 hs hr ih =>
    intro q
    obtain ⟨ns, h1, h2⟩ := ih (q + (l.length - r.length))
    exact ⟨optT q m ++ ns, .cons hs h1, by rw [List.map_append, List.map_append, h2, optT_er q p]⟩
theorem toks_run : ∀ (f p : Nat) (l : List UInt8) (acc : List Tok), l.length < f →
    (∃ ms, tokL f p l acc = (acc ++ ms, 0, 0) ∧ Run p l ms []) ∨ (∃ ms l2 e, tokL f p l acc = ([], p + (l.length - l2.length), e) ∧ Run p l ms l2 ∧ l2 ≠ [] ∧ stepT l2 = .bad e)
  | 0, p, l, acc, h => by omega
  | f + 1, p, [], acc, h => .inl ⟨[], by simp [tokL], .nil _ _⟩
  | f + 1, p, c :: t, acc, h => by
    unfold tokL
    cases hs : stepT (c :: t) with
    | bad e => exact .inr ⟨[], c :: t, e, by simp, .nil _ _, by simp, hs⟩
    | ok r m =>
      simp only
      obtain ⟨q, hq, hq0⟩ := step_suf hs
      have e1 := congrArg List.length hq
      rw [List.length_append] at e1
      have := List.length_pos_iff.2 hq0
      rcases toks_run f (p + ((c :: t).length - r.length)) r (acc ++ optT p m) (by omega) with ⟨ms, h1, h2⟩ | ⟨ms, l2, e, h1, h2, h3, h4⟩
      · exact .inl ⟨optT p m ++ ms, by rw [h1, List.append_assoc], .cons hs h2⟩
      · obtain ⟨q2, hq2⟩ := h2.pre
        have e2 := congrArg List.length hq2
        rw [List.length_append] at e2
        refine .inr ⟨optT p m ++ ms, l2, e, ?_, .cons hs h2, h3, h4⟩
        rw [h1, show p + ((c :: t).length - r.length) + (r.length - l2.length) = p + ((c :: t).length - l2.length) by omega]
theorem Run.uniq {p : Nat} {l : List UInt8} {ms ns : List Tok} (h : Run p l ms []) (h2 : Run p l ns []) : ms = ns := by
  generalize hn : ([] : List UInt8) = e at h
  induction h generalizing ns with
  | nil p l =>
    subst hn
    cases h2 with
    | nil => rfl
    | cons hs _ => cases hs
  | @cons p l r m ms l2 hs hr ih =>
    subst hn
    cases h2 with
    | nil => cases hs
    | cons hs2 hr2 =>
      rw [hs] at hs2
      cases hs2
      rw [ih hr2 rfl]
theorem Run.notbad {p : Nat} {l l2 : List UInt8} {ms ns : List Tok} {e : Nat} (h : Run p l ms []) (h2 : Run p l ns l2) (hl : l2 ≠ []) (hb : stepT l2 = .bad e) : False := by
  generalize hn : ([] : List UInt8) = z at h
  induction h generalizing ns with
  | nil p l =>
    subst hn
    cases h2 with
    | nil => exact hl rfl
    | cons hs _ => cases hs
  | @cons p l r m ms l3 hs hr ih =>
    subst hn
    cases h2 with
    | nil => rw [hs] at hb; cases hb
    | cons hs2 hr2 =>
      rw [hs] at hs2
      cases hs2
      exact ih hr2 rfl
theorem size_l (s : ByteArray) : s.data.toList.length = s.size := Array.length_toList
theorem tokS_of {s : ByteArray} {ms : List Tok} (hs : s.size ≤ 65536) (h : Run 0 s.data.toList ms []) : tokS s = (ms, 0, 0) := by
  unfold tokS
  rw [if_neg (by omega)]
  rcases toks_run (s.size + 1) 0 s.data.toList [] (by rw [size_l]; omega) with ⟨ns, h1, h2⟩ | ⟨ns, l2, e, h1, h2, h3, h4⟩
  · rw [h1, h.uniq h2]; rfl
  · exact (h.notbad h2 h3 h4).elim
theorem tokS_right (s : ByteArray) (ms : List Tok) (at_ : Nat) (h : tokS s = (ms, at_, 0)) (hb : ∀ l e, stepT l = .bad e → l ≠ [] → e ≠ 0) : s.size ≤ 65536 ∧ at_ = 0 ∧ Run 0 s.data.toList ms [] := by
  unfold tokS at h
  by_cases hsz : 65536 < s.size
  · rw [if_pos hsz] at h; cases h
  · rw [if_neg hsz] at h
    rcases toks_run (s.size + 1) 0 s.data.toList [] (by rw [size_l]; omega) with ⟨ns, h1, h2⟩ | ⟨ns, l2, e, h1, h2, h3, h4⟩
    · rw [h1] at h
      simp only [List.nil_append, Prod.mk.injEq] at h
      obtain ⟨rfl, rfl, _⟩ := h
      exact ⟨by omega, rfl, h2⟩
    · rw [h1] at h
      simp only [Prod.mk.injEq] at h
      exact absurd h.2.2 (hb l2 e h4 h3)
/-! Two texts with a blank between. -/
theorem tokS_cases (s : ByteArray) (hs : s.size ≤ 65536) : (∃ ms, tokS s = (ms, 0, 0) ∧ Run 0 s.data.toList ms []) ∨ (∃ ms l2 e, tokS s = ([], s.size - l2.length, e) ∧ Run 0 s.data.toList ms l2 ∧ l2 ≠ [] ∧ stepT l2 = .bad e) := by
  unfold tokS
  rw [if_neg (by omega)]
  rcases toks_run (s.size + 1) 0 s.data.toList [] (by rw [size_l]; omega) with ⟨ns, h1, h2⟩ | ⟨ns, l2, e, h1, h2, h3, h4⟩
  · exact .inl ⟨ns, by rw [h1]; rfl, h2⟩
  · exact .inr ⟨ns, l2, e, by rw [h1, size_l, Nat.zero_add], h2, h3, h4⟩
theorem Run.bad {p : Nat} {l l2 : List UInt8} {ms ns : List Tok} {l3 : List UInt8} {e e' : Nat} (h : Run p l ms l2) (hb : stepT l2 = .bad e) (h2 : Run p l ns l3) (hb2 : stepT l3 = .bad e') : l2 = l3 ∧ e = e' := by
  induction h generalizing ns with
  | nil p l =>
    cases h2 with
    | nil => rw [hb] at hb2; cases hb2; exact ⟨rfl, rfl⟩
    | cons hs _ => rw [hb] at hs; cases hs
  | @cons p l r m ms l4 hs hr ih =>
    cases h2 with
    | nil => rw [hs] at hb2; cases hb2
    | cons hs2 hr2 =>
      rw [hs] at hs2
      cases hs2
      exact ih hb hr2
theorem tokS_bad {s : ByteArray} {ms : List Tok} {l2 : List UInt8} {e : Nat} (hs : s.size ≤ 65536) (h : Run 0 s.data.toList ms l2) (hl : l2 ≠ []) (hb : stepT l2 = .bad e) : tokS s = ([], s.size - l2.length, e) := by
  rcases tokS_cases s hs with ⟨ns, h1, h2⟩ | ⟨ns, l3, e', h1, h2, h3, h4⟩
  · exact (h2.notbad h hl hb).elim
  · obtain ⟨rfl, rfl⟩ := h.bad hb h2 h4
    exact h1
/-- The tokens of two texts with a blank between. -/
theorem two_toks (a b z : ByteArray) (hz : z.data.toList = a.data.toList ++ 32 :: b.data.toList) (hs : z.size ≤ 65536) (xs : List Tok) (ha : Run 0 a.data.toList xs []) :
    (∃ ys zs, tokS b = (ys, 0, 0) ∧ Run 0 b.data.toList ys [] ∧ tokS z = (xs ++ zs, 0, 0) ∧ zs.map ters = ys.map ters) ∨ (∃ n e, tokS b = ([], n, e) ∧ tokS z = ([], a.size + 1 + n, e) ∧ ∃ ys l2, Run 0 b.data.toList ys l2 ∧ l2 ≠ [] ∧ stepT l2 = .bad e) := by
  have hzl := congrArg List.length hz
  rw [List.length_append, List.length_cons, size_l, size_l, size_l] at hzl
  have h1 := ha.app (y := 32 :: b.data.toList) (.inr ⟨32, _, rfl, by decide⟩)
  rw [List.nil_append] at h1
  have hst : stepT (32 :: b.data.toList) = .ok b.data.toList none := rfl
  have two : ∀ ns l2, Run (a.size + 1) b.data.toList ns l2 → Run 0 z.data.toList (xs ++ ns) l2 := by
    intro ns l2 h
    rw [hz]
    refine h1.trans ?_
    have e : 0 + ((a.data.toList ++ 32 :: b.data.toList).length - (32 :: b.data.toList).length) = a.size := by
      simp only [List.length_append, List.length_cons, size_l]
      omega
    rw [e]
    have := Run.cons (p := a.size) (m := none) (ms := ns) (l2 := l2) hst (by
      rw [show a.size + ((32 :: b.data.toList).length - b.data.toList.length) = a.size + 1 by rw [List.length_cons]; omega]
      exact h)
    simpa [optT] using this
  rcases tokS_cases b (by omega) with ⟨ys, k1, k2⟩ | ⟨ys, l2, e, k1, k2, k3, k4⟩
  · obtain ⟨zs, k3, k4⟩ := k2.move (a.size + 1)
    exact .inl ⟨ys, zs, k1, k2, tokS_of hs (two zs [] k3), k4⟩
  · obtain ⟨zs, k5, _⟩ := k2.move (a.size + 1)
    refine .inr ⟨_, e, k1, ?_, ys, l2, k2, k3, k4⟩
    rw [tokS_bad hs (two zs l2 k5) k3 k4]
    obtain ⟨q, hq⟩ := k2.pre
    have := congrArg List.length hq
    rw [List.length_append, size_l] at this
    rw [show z.size - l2.length = a.size + 1 + (b.size - l2.length) by omega]
/-! Tokens that are written are read. -/
def joinL : List (List UInt8) → List UInt8
  | [] => []
  | [x] => x
  | x :: y :: t => x ++ 32 :: joinL (y :: t)
def Reads (w : List UInt8) (t : Tok) : Prop := ∀ y, Wh y → ∃ t', stepT (w ++ y) = .ok y (some t') ∧ ters t' = ters t
theorem ters_pos (t : Tok) (p : Int) : ters { t with pos := p } = ters t := rfl
theorem Reads.one {w : List UInt8} {t : Tok} (h : Reads w t) (y : List UInt8) (hy : Wh y) (p : Nat) : ∃ ns, Run p (w ++ y) ns y ∧ ns.map ters = [ters t] := by
  obtain ⟨t', h1, h2⟩ := h y hy
  refine ⟨optT p (some t') ++ [], .cons h1 (.nil _ _), ?_⟩
  simp only [optT, List.append_nil, List.map_cons, List.map_nil]
  rw [ters_pos, h2]
theorem join_run (w : Tok → List UInt8) : ∀ (ts : List Tok), (∀ t ∈ ts, Reads (w t) t) → ∀ p, ∃ ns, Run p (joinL (ts.map w)) ns [] ∧ ns.map ters = ts.map ters
  | [], _, p => ⟨[], .nil _ _, rfl⟩
  | [t], h, p => by
    obtain ⟨ns, h1, h2⟩ := (h t (by simp)).one [] (.inl rfl) p
    rw [List.append_nil] at h1
    exact ⟨ns, h1, h2⟩
  | t :: u :: ts, h, p => by
    obtain ⟨ns, h1, h2⟩ := (h t (by simp)).one (32 :: joinL ((u :: ts).map w)) (.inr ⟨32, _, rfl, by decide⟩) p
    have hst : stepT (32 :: joinL ((u :: ts).map w)) = .ok (joinL ((u :: ts).map w)) none := rfl
    obtain ⟨ms, h3, h4⟩ := join_run w (u :: ts) (fun x hx => h x (by simp only [List.mem_cons] at hx ⊢; exact .inr hx)) (p + ((w t ++ 32 :: joinL ((u :: ts).map w)).length - (32 :: joinL ((u :: ts).map w)).length) + ((32 :: joinL ((u :: ts).map w)).length - (joinL ((u :: ts).map w)).length))
    refine ⟨ns ++ (optT _ none ++ ms), h1.trans (.cons hst h3), ?_⟩
    rw [List.map_append, List.map_append, h2, h4]
    rfl
theorem reads_name (x : List UInt8) (c : UInt8) (t : List UInt8) (hx : x = c :: t) (hc : ltB c = true) (ht : ∀ b ∈ x, nbB b = true) (hn : nmOk x = true) : Reads x ⟨4, 0, x, 0, 0, 0⟩ := by
  intro y hy
  obtain ⟨s1, s2⟩ := span_app nbB x y (hy.q (fun c h => (ws_facts h).2.1))
  have e1 : x.takeWhile nbB = x := by
    have := List.takeWhile_append_of_pos (p := nbB) (l₁ := x) (l₂ := []) ht
    simpa using this
  have e2 : x.dropWhile nbB = [] := by
    have := List.dropWhile_append_of_pos (p := nbB) (l₁ := x) (l₂ := []) ht
    simpa using this
  have hd : ∀ c : UInt8, ltB c = true → wsB c = false ∧ fgB c = false ∧ c ≠ 34 ∧ c ≠ 64 := by
    intro c hc
    simp only [ltB, decide_eq_true_eq] at hc
    refine ⟨?_, ?_, ?_, ?_⟩
    · simp only [wsB, Bool.or_eq_false_iff, beq_eq_false_iff_ne]
      refine ⟨⟨⟨?_, ?_⟩, ?_⟩, ?_⟩ <;> (rintro rfl; revert hc; decide)
    · simp only [fgB, decide_eq_false_iff_not]; omega
    · rintro rfl; revert hc; decide
    · rintro rfl; revert hc; decide
  obtain ⟨q1, q2, q3, q4⟩ := hd c hc
  refine ⟨⟨4, 0, x, 0, 0, 0⟩, ?_, rfl⟩
  subst hx
  rw [List.cons_append, stepT_cons, if_neg (by rw [q1]; decide), ← List.cons_append]
  unfold firT
  rw [if_neg (by rw [q2]; decide), if_neg q3, if_neg q4, if_pos hc]
  unfold namT
  rw [s1, s2, e1, e2, if_pos hn]
  rfl
theorem reads_sign (x : List UInt8) (hx : sigL x = x) (h0 : x ≠ []) : Reads x ⟨5, 0, x, 0, 0, 0⟩ := by
  intro y hy
  have e := sigL_app x y h0 hy (by rw [hx]; exact h0)
  have hd : ∃ c t, x = c :: t ∧ wsB c = false ∧ fgB c = false ∧ c ≠ 34 ∧ c ≠ 64 ∧ ltB c = false := by
    unfold sigL at hx
    split at hx
    · rename_i h1
      rw [hx] at h1
      simp only [sg2, List.contains_eq_mem, List.mem_cons, List.not_mem_nil, or_false, decide_eq_true_eq] at h1
      rcases h1 with h1 | h1 | h1 | h1 <;> exact ⟨_, _, h1, by decide, by decide, by decide, by decide, by decide⟩
    · split at hx
      · rename_i h1
        obtain ⟨c, hc, h2⟩ := h1
        rw [hx] at h2
        refine ⟨c, [], h2, ?_⟩
        simp only [sg1, List.mem_cons, List.not_mem_nil, or_false] at hc
        rcases hc with rfl | rfl | rfl | rfl | rfl | rfl | rfl | rfl | rfl | rfl | rfl | rfl <;> decide
      · exact absurd hx.symm h0
  obtain ⟨c, t, hx2, q1, q2, q3, q4, q5⟩ := hd
  refine ⟨⟨5, 0, x, 0, 0, 0⟩, ?_, rfl⟩
  have hst : stepT (x ++ y) = sigT (x ++ y) := by
    rw [hx2, List.cons_append, stepT_cons, if_neg (by rw [q1]; decide)]
    unfold firT
    rw [if_neg (by rw [q2]; decide), if_neg q3, if_neg q4, if_neg (by rw [q5]; decide)]
  rw [hst]
  unfold sigT
  rw [e, hx, if_neg h0]
  simp
def qB (c : UInt8) : List UInt8 := if c = 34 ∨ c = 92 then [92, c] else [c]
theorem strL_quo (y : List UInt8) : ∀ (x acc : List UInt8), strL acc (x.flatMap qB ++ 34 :: y) = some (acc ++ x, y)
  | [], acc => by
    show strL acc (34 :: y) = _
    unfold strL
    rw [if_pos rfl, List.append_nil]
  | c :: x, acc => by
    have ih := strL_quo y x (acc ++ [c])
    rw [List.flatMap_cons, List.append_assoc]
    by_cases hc : c = 34 ∨ c = 92
    · rw [qB, if_pos hc]
      simp only [List.cons_append, List.nil_append]
      unfold strL
      rw [if_neg (by decide), if_pos rfl]
      simp only
      rw [if_pos hc, ih]
      simp
    · rw [qB, if_neg hc]
      simp only [List.cons_append, List.nil_append]
      unfold strL
      rw [if_neg (fun h => hc (.inl h)), if_neg (fun h => hc (.inr h)), ih]
      simp
theorem reads_str (x : List UInt8) (h : strOk x = true) : Reads (34 :: (x.flatMap qB ++ [34])) ⟨2, 0, x, 0, 0, 0⟩ := by
  intro y hy
  refine ⟨⟨2, 0, x, 0, 0, 0⟩, ?_, rfl⟩
  have e : 34 :: (x.flatMap qB ++ [34]) ++ y = 34 :: (x.flatMap qB ++ 34 :: y) := by simp
  have hst : ∀ l, stepT (34 :: l) = strT (34 :: l) := fun l => rfl
  rw [e, hst]
  unfold strT
  rw [List.drop_succ_cons, List.drop_zero, strL_quo y x []]
  simp only [List.nil_append]
  rw [if_pos h]
theorem reads_day (d : List UInt8) (n : Int) (hd : dayP d = (n, 0)) (h34 : ∀ c ∈ d, c ≠ 34) : Reads (64 :: 34 :: (d ++ [34])) ⟨3, 0, [], 0, 0, n⟩ := by
  intro y hy
  refine ⟨⟨3, 0, [], 0, 0, n⟩, ?_, rfl⟩
  have e : 64 :: 34 :: (d ++ [34]) ++ y = 64 :: 34 :: (d ++ 34 :: y) := by simp
  have hst : ∀ l, stepT (64 :: l) = dayT (64 :: l) := fun l => rfl
  have hp : ∀ c ∈ d, (c != 34) = true := fun c hc => by simpa using h34 c hc
  have e1 : (d ++ 34 :: y).takeWhile (· != 34) = d := by
    rw [List.takeWhile_append_of_pos hp]
    simp [List.takeWhile_cons]
  have e2 : (d ++ 34 :: y).dropWhile (· != 34) = 34 :: y := by
    rw [List.dropWhile_append_of_pos hp]
    simp [List.dropWhile_cons]
  rw [e, hst]
  unfold dayT
  simp only [List.drop_succ_cons, List.drop_zero]
  rw [e1, e2, hd, if_pos ⟨by simp [List.isPrefixOf], by simp, rfl⟩]
  rfl
/-- The letters of a number: digits, or digits, a point and digits. -/
def NumW (x : List UInt8) : Prop := ∃ c a, fgB c = true ∧ (∀ b ∈ a, fgB b = true) ∧ (x = c :: a ∨ ∃ d b, fgB d = true ∧ (∀ u ∈ b, fgB u = true) ∧ x = c :: (a ++ 46 :: d :: b))
theorem nmbL_of (x y : List UInt8) (hx : NumW x) (hy : Wh y) : nmbL (x ++ y) = (x, y) := by
  rw [nmbL_app x y hy]
  have tw : ∀ (u v : List UInt8), (∀ b ∈ u, fgB b = true) → (u ++ v).takeWhile fgB = u ++ v.takeWhile fgB ∧ (u ++ v).dropWhile fgB = v.dropWhile fgB := fun u v h => ⟨List.takeWhile_append_of_pos h, List.dropWhile_append_of_pos h⟩
  obtain ⟨c, a, hc, ha, rfl | ⟨d, b, hd, hb, rfl⟩⟩ := hx
  · have h := tw (c :: a) [] (fun b hb => by rcases List.mem_cons.1 hb with rfl | hb; exact hc; exact ha b hb)
    simp only [List.append_nil, List.takeWhile_nil, List.dropWhile_nil] at h
    unfold nmbL
    rw [h.1, h.2]
    rfl
  · have h := tw (c :: a) (46 :: d :: b) (fun b hb => by rcases List.mem_cons.1 hb with rfl | hb; exact hc; exact ha b hb)
    have h2 := tw (d :: b) [] (fun u hu => by rcases List.mem_cons.1 hu with rfl | hu; exact hd; exact hb u hu)
    simp only [List.append_nil, List.takeWhile_nil, List.dropWhile_nil] at h2
    have h46 : (46 :: d :: b).takeWhile fgB = [] ∧ (46 :: d :: b).dropWhile fgB = 46 :: d :: b := by
      have : fgB 46 = false := by decide
      simp [List.takeWhile_cons, List.dropWhile_cons, this]
    rw [h46.1, h46.2, List.append_nil] at h
    rw [← List.cons_append]
    unfold nmbL
    rw [h.1, h.2]
    simp only [hd, and_self, if_true, h2.1, h2.2, List.nil_append]
theorem reads_num (x : List UInt8) (n s : Int) (hx : NumW x) (hp : decP x = (n, s, 0)) : Reads x ⟨1, 0, [], n, s, 0⟩ := by
  intro y hy
  refine ⟨⟨1, 0, [], n, s, 0⟩, ?_, rfl⟩
  have e := nmbL_of x y hx hy
  obtain ⟨c, a, hc, ha, hh⟩ := hx
  have hw : wsB c = false := by
    cases h : wsB c with
    | false => rfl
    | true => have := (ws_facts h).1; rw [hc] at this; cases this
  have hst : stepT (x ++ y) = numT (x ++ y) := by
    rcases hh with rfl | ⟨d, b, _, _, rfl⟩
    all_goals
      rw [List.cons_append, stepT_cons, if_neg (by rw [hw]; decide)]
      unfold firT
      rw [if_pos hc]
  rw [hst]
  unfold numT
  rw [e]
  simp only [hp, if_true]

end Go.Proofs.YtjckpkamhdbcnaaGreatDoor
