import Derived.Test.YtjckpkamhdbcnaaGreatDoorZb
namespace Go.Proofs.YtjckpkamhdbcnaaGreatDoor
set_option linter.unusedSimpArgs false
set_option linter.unusedVariables false
def Qaa (l : List UInt8) : ByteArray := ⟨l.toArray⟩
def decOf : Value -> Int × Int × Nat
 | .tuple a => match a.toList with
  | [.agg b, .int _ e] => (match b.toList with
   | [.int _ x, .int _ y] => (x, y, e.toNat)
   | _ => (0, 0, 5))
  | _ => (0, 0, 5)
 | _ => (0, 0, 5)
def decP (l : List UInt8) : Int × Int × Nat := decOf (parseV l)
theorem Qm6 (x : Bool) (m s : Nat) : ∃ (a b : Int) (e : Nat), decV x m s = .tuple #[decA a b, .int .i64 e] := by
 unfold decV
 split
 ·exact ⟨_, _, 3, rfl⟩
 exact ⟨_, _, 0, rfl⟩
theorem Qj5 (l : List UInt8) : parseV l = .tuple #[decA (decP l).1 (decP l).2.1, .int .i64 ((decP l).2.2 : Nat)] := by
 have h : ∃ (a b : Int) (e : Nat), parseV l = .tuple #[decA a b, .int .i64 e] := by
  unfold parseV partsV
  split
  ·exact ⟨_, _, 5, rfl⟩
  split
  ·exact ⟨_, _, 3, rfl⟩
  exact Qm6 _ _ _
 obtain ⟨a, b, e, h⟩ := h
 have : decP l = (a, b, e) := by unfold decP; rw [h]; rfl
 rw [this, h]
def dayOf : Value -> Int × Nat
 | .tuple a => match a.toList with
  | [.int _ n, .int _ e] => (n, e.toNat)
  | _ => (0, 5)
 | _ => (0, 5)
def dayP (l : List UInt8) : Int × Nat := dayOf (Qax (Qaa l))
theorem Qm7 (a b c : Int) : ∃ (n : Int) (e : Nat), dayV a b c = .tuple #[.int .i64 n, .int .i64 e] := by
 unfold dayV
 split
 ·exact ⟨_, 0, rfl⟩
 exact ⟨_, 3, rfl⟩
theorem Qm8 (l : List UInt8) : Qax (Qaa l) = .tuple #[.int .i64 (dayP l).1, .int .i64 ((dayP l).2 : Nat)] := by
 have h : ∃ (n : Int) (e : Nat), Qax (Qaa l) = .tuple #[.int .i64 n, .int .i64 e] := by
  unfold Qax parseL
  split
  ·split
   ·split
    ·exact Qm7 _ _ _
    exact ⟨_, 5, rfl⟩
   exact ⟨_, 5, rfl⟩
  exact ⟨_, 5, rfl⟩
 obtain ⟨n, e, h⟩ := h
 have : dayP l = (n, e) := by unfold dayP; rw [h]; rfl
 rw [this, h]
def nmOk (l : List UInt8) : Bool := nameB (Qaa l)
def strOk (l : List UInt8) : Bool := decide (l.length <= 256) && goodB (Qaa l)
structure Tok where
 kind : Int
 pos : Int
 text : List UInt8
 dn : Int
 ds : Int
 day : Int
deriving DecidableEq
def ters (t : Tok) : Tok := { t with pos := 0 }
def wsB (c : UInt8) : Bool := c == 32 || c == 9 || c == 10 || c == 13
def fgB (c : UInt8) : Bool := decide (48 <= c.toNat /\ c.toNat <= 57)
def ltB (c : UInt8) : Bool := decide (c.toNat = 95 \/ (97 <= c.toNat /\ c.toNat <= 122) \/ (65 <= c.toNat /\ c.toNat <= 90))
def nbB (c : UInt8) : Bool := ltB c || fgB c
def sg2 : List (List UInt8) := [[46, 46], [33, 61], [60, 61], [62, 61]]
def sg1 : List UInt8 := [43, 45, 42, 47, 61, 60, 62, 40, 41, 91, 93, 44]
def nmbL (l : List UInt8) : List UInt8 × List UInt8 :=
 match l.dropWhile fgB with
 | p :: d :: r => if p = 46 /\ fgB d = true then (l.takeWhile fgB ++ p :: (d :: r).takeWhile fgB, (d :: r).dropWhile fgB) else (l.takeWhile fgB, p :: d :: r)
 | r => (l.takeWhile fgB, r)
def strL : List UInt8 -> List UInt8 -> Option (List UInt8 × List UInt8)
 | _, [] => none
 | acc, c :: r => if c = 34 then some (acc, r) else if c = 92 then (match r with
  | [] => none
  | d :: r' => if d = 34 \/ d = 92 then strL (acc ++ [d]) r' else none) else strL (acc ++ [c]) r
def sigL (l : List UInt8) : List UInt8 :=
 if sg2.contains (l.take 2) = true then l.take 2 else if ∃ c ∈ sg1, l.take 1 = [c] then l.take 1 else []
inductive TRes where
 | bad (e : Nat)
 | ok (rest : List UInt8) (m : Option Tok)
def numT (l : List UInt8) : TRes :=
 if (decP (nmbL l).1).2.2 = 0 then .ok (nmbL l).2 (some ⟨1, 0, [], (decP (nmbL l).1).1, (decP (nmbL l).1).2.1, 0⟩) else .bad (decP (nmbL l).1).2.2
def strT (l : List UInt8) : TRes :=
 match strL [] (l.drop 1) with
 | some (x, r) => if strOk x = true then .ok r (some ⟨2, 0, x, 0, 0, 0⟩) else .bad 5
 | none => .bad 5
def dayT (l : List UInt8) : TRes :=
 if [64, 34].isPrefixOf l = true /\ (l.drop 2).dropWhile (· != 34) ≠ [] /\ (dayP ((l.drop 2).takeWhile (· != 34))).2 = 0 then
  .ok (((l.drop 2).dropWhile (· != 34)).drop 1) (some ⟨3, 0, [], 0, 0, (dayP ((l.drop 2).takeWhile (· != 34))).1⟩)
 else .bad 5
def namT (l : List UInt8) : TRes :=
 if nmOk (l.takeWhile nbB) = true then .ok (l.dropWhile nbB) (some ⟨4, 0, l.takeWhile nbB, 0, 0, 0⟩) else .bad 5
def sigT (l : List UInt8) : TRes :=
 if sigL l = [] then .bad 5 else .ok (l.drop (sigL l).length) (some ⟨5, 0, sigL l, 0, 0, 0⟩)
def firT (c : UInt8) (l : List UInt8) : TRes :=
 if fgB c = true then numT l else if c = 34 then strT l else if c = 64 then dayT l else if ltB c = true then namT l else sigT l
def stepT : List UInt8 -> TRes
 | [] => .bad 5
 | c :: t => if wsB c = true then .ok t none else firT c (c :: t)
def optT (p : Nat) : Option Tok -> List Tok
 | none => []
 | some m => [{ m with pos := p }]
def tokL : Nat -> Nat -> List UInt8 -> List Tok -> List Tok × Nat × Nat
 | 0, _, _, acc => (acc, 0, 0)
 | _ + 1, _, [], acc => (acc, 0, 0)
 | f + 1, p, c :: t, acc => match stepT (c :: t) with
  | .bad e => ([], p, e)
  | .ok r m => tokL f (p + ((c :: t).length - r.length)) r (acc ++ optT p m)
def tokS (s : ByteArray) : List Tok × Nat × Nat := if 65536 < s.size then ([], 0, 10) else tokL (s.size + 1) 0 s.data.toList []
theorem Qgq (x : List UInt8) : (sigL x).length <= x.length := by
 unfold sigL
 split
 ·rw [List.length_take]; omega
 split
 ·rw [List.length_take]; omega
 exact Nat.zero_le _
theorem Qc7 (c : UInt8) (t : List UInt8) : stepT (c :: t) = if wsB c = true then .ok t none else firT c (c :: t) := rfl
theorem Qgr : ∀ (n : Nat) (x acc : List UInt8), x.length <= n -> ∀ (z r : List UInt8), strL acc x = some (z, r) -> ∃ q, x = q ++ r /\ q ≠ []
 | n, [], acc, _, z, r, h => by simp [strL] at h
 | 0, c :: x, acc, hn, z, r, h => by simp at hn
 | n + 1, c :: x, acc, hn, z, r, h => by
  rw [List.length_cons] at hn
  unfold strL at h
  by_cases h1 : c = 34
  ·rw [iP h1] at h
   simp only [Option.some.injEq, Prod.mk.injEq] at h
   exact ⟨[c], by rw [h.2]; rfl, by simp⟩
  rw [iN h1] at h
  by_cases h2 : c = 92
  ·rw [iP h2] at h
   cases x with
   | nil => cases h
   | cons d x' =>
    simp only at h
    by_cases h3 : d = 34 \/ d = 92
    ·rw [iP h3] at h
     obtain ⟨q, hq, _⟩ := Qgr n x' _ (by rw [List.length_cons] at hn; omega) z r h
     exact ⟨c :: d :: q, by rw [hq]; rfl, by simp⟩
    rw [iN h3] at h; cases h
  rw [iN h2] at h
  obtain ⟨q, hq, _⟩ := Qgr n x _ (by omega) z r h
  exact ⟨c :: q, by rw [hq]; rfl, by simp⟩
theorem Qd3 (l : List UInt8) : l = (nmbL l).1 ++ (nmbL l).2 := by
 have h := (List.takeWhile_append_dropWhile (p := fgB) (l := l)).symm
 unfold nmbL
 match hx : l.dropWhile fgB with
 | [] => rw [hx] at h; simpa using h
 | [p] => rw [hx] at h; exact h
 | p :: d :: r =>
  rw [hx] at h
  simp only
  by_cases hp : p = 46 /\ fgB d = true
  ·rw [iP hp]
   simp only [List.append_assoc, List.cons_append]
   rw [List.takeWhile_append_dropWhile]
   exact h
  rw [iN hp]
  exact h
theorem Qm9 (c : UInt8) (t : List UInt8) (h : fgB c = true) : (nmbL (c :: t)).1 ≠ [] := by
 unfold nmbL
 have : (c :: t).takeWhile fgB ≠ [] := by simp [List.takeWhile_cons, h]
 split
 ·split
  ·simp
  exact this
 exact this
theorem Qc8 {x r : List UInt8} {m : Option Tok} (h : stepT x = .ok r m) : ∃ q, x = q ++ r /\ q ≠ [] := by
 cases x with
 | nil => cases h
 | cons c t =>
  rw [Qc7] at h
  by_cases h0 : wsB c = true
  ·rw [iP h0] at h
   cases h
   exact ⟨[c], rfl, by simp⟩
  rw [iN h0] at h
  unfold firT at h
  split at h
  ·rename_i h1
   unfold numT at h
   split at h
   ·cases h
    exact ⟨_, Qd3 _, Qm9 c t h1⟩
   cases h
  split at h
  ·unfold strT at h
   split at h
   ·rename_i z r' hz
    split at h
    ·cases h
     obtain ⟨q, hq, _⟩ := Qgr _ _ [] (Nat.le_refl _) _ _ hz
     exact ⟨c :: q, by rw [List.cons_append, ← hq]; rfl, by simp⟩
    cases h
   cases h
  split at h
  ·unfold dayT at h
   split at h
   ·rename_i h3
    cases h
    obtain ⟨k1, k2, _⟩ := h3
    cases hd : ((c :: t).drop 2).dropWhile (· != 34) with
    | nil => exact absurd hd k2
    | cons a u =>
     refine ⟨(c :: t).take 2 ++ (((c :: t).drop 2).takeWhile (· != 34) ++ [a]), ?_, by simp⟩
     have e1 := List.take_append_drop 2 (c :: t)
     have e2 := (List.takeWhile_append_dropWhile (p := (· != 34)) (l := (c :: t).drop 2))
     rw [hd] at e2
     rw [List.append_assoc, List.append_assoc]
     show _ = _ ++ (_ ++ a :: u)
     rw [e2, e1]
   cases h
  split at h
  ·rename_i h4
   unfold namT at h
   split at h
   ·cases h
    exact ⟨_, List.takeWhile_append_dropWhile.symm, by simp [List.takeWhile_cons, nbB, h4]⟩
   cases h
  unfold sigT at h
  split at h
  ·cases h
  rename_i h5
  cases h
  refine ⟨(c :: t).take (sigL (c :: t)).length, (List.take_append_drop _ _).symm, fun e => h5 ?_⟩
  have := congrArg List.length e
  rw [List.length_take, List.length_nil] at this
  have h6 := Qgq (c :: t)
  exact List.length_eq_zero_iff.1 (by omega)
inductive Run : Nat -> List UInt8 -> List Tok -> List UInt8 -> Prop
 | nil (p l) : Run p l [] l
 | cons {p l r m ms l2} : stepT l = .ok r m -> Run (p + (l.length - r.length)) r ms l2 -> Run p l (optT p m ++ ms) l2
theorem Run.pre {p : Nat} {l l2 : List UInt8} {ms : List Tok} (h : Run p l ms l2) : ∃ q, l = q ++ l2 := by
 induction h with
 | nil p l => exact ⟨[], rfl⟩
 | cons hs hr ih =>
  obtain ⟨q, hq⟩ := ih
  obtain ⟨q2, hq2, _⟩ := Qc8 hs
  exact ⟨q2 ++ q, by rw [hq2, hq, List.append_assoc]⟩
theorem Run.trans {p : Nat} {l l2 l3 : List UInt8} {ms ns : List Tok} (h : Run p l ms l2) : Run (p + (l.length - l2.length)) l2 ns l3 -> Run p l (ms ++ ns) l3 := by
 induction h with
 | nil p l => intro h2; simpa using h2
 | @cons p l r m ms l2 hs hr ih =>
  intro h2
  rw [List.append_assoc]
  refine .cons hs (ih ?_)
  obtain ⟨q, hq, _⟩ := Qc8 hs
  obtain ⟨q2, hq2⟩ := hr.pre
  have e1 := congrArg List.length hq
  have e2 := congrArg List.length hq2
  rw [lA] at e1 e2
  rw [show p + (l.length - r.length) + (r.length - l2.length) = p + (l.length - l2.length) by omega]
  exact h2
theorem Qti (p q : Nat) (m : Option Tok) : (optT p m).map ters = (optT q m).map ters := by cases m <;> rfl
theorem Run.move {p : Nat} {l l2 : List UInt8} {ms : List Tok} (h : Run p l ms l2) : ∀ q : Nat, ∃ ns, Run q l ns l2 /\ ns.map ters = ms.map ters := by
 induction h with
 | nil p l => exact fun q => ⟨[], .nil _ _, rfl⟩
 | @cons p l r m ms l2 hs hr ih =>
  intro q
  obtain ⟨ns, h1, h2⟩ := ih (q + (l.length - r.length))
  exact ⟨optT q m ++ ns, .cons hs h1, by rw [List.map_append, List.map_append, h2, Qti q p]⟩
theorem Qe3 : ∀ (f p : Nat) (l : List UInt8) (acc : List Tok), l.length < f ->
  (∃ ms, tokL f p l acc = (acc ++ ms, 0, 0) /\ Run p l ms []) \/ (∃ ms l2 e, tokL f p l acc = ([], p + (l.length - l2.length), e) /\ Run p l ms l2 /\ l2 ≠ [] /\ stepT l2 = .bad e)
 | 0, p, l, acc, h => by omega
 | f + 1, p, [], acc, h => .inl ⟨[], by simp [tokL], .nil _ _⟩
 | f + 1, p, c :: t, acc, h => by
  unfold tokL
  cases hs : stepT (c :: t) with
  | bad e => exact .inr ⟨[], c :: t, e, by simp, .nil _ _, by simp, hs⟩
  | ok r m =>
   simp only
   obtain ⟨q, hq, hq0⟩ := Qc8 hs
   have e1 := congrArg List.length hq
   rw [lA] at e1
   have := List.length_pos_iff.2 hq0
   rcases Qe3 f (p + ((c :: t).length - r.length)) r (acc ++ optT p m) (by omega) with ⟨ms, h1, h2⟩ | ⟨ms, l2, e, h1, h2, h3, h4⟩
   ·exact .inl ⟨optT p m ++ ms, by rw [h1, List.append_assoc], .cons hs h2⟩
   obtain ⟨q2, hq2⟩ := h2.pre
   have e2 := congrArg List.length hq2
   rw [lA] at e2
   refine .inr ⟨optT p m ++ ms, l2, e, ?_, .cons hs h2, h3, h4⟩
   rw [h1, show p + ((c :: t).length - r.length) + (r.length - l2.length) = p + ((c :: t).length - l2.length) by omega]
theorem Run.uniq {p : Nat} {l : List UInt8} {ms ns : List Tok} (h : Run p l ms []) (h2 : Run p l ns []) : ms = ns := by
 generalize hn : ([] : List UInt8) = e at h
 induction h generalizing ns with
 | nil p l =>
  subst hn
  cases h2 with
  | nil => rfl
  | cons hs _ => cases hs
 | @cons p l r m ms l2 hs hr ih =>
  subst hn
  cases h2 with
  | nil => cases hs
  | cons hs2 hr2 =>
   rw [hs] at hs2
   cases hs2
   rw [ih hr2 rfl]
theorem Run.notbad {p : Nat} {l l2 : List UInt8} {ms ns : List Tok} {e : Nat} (h : Run p l ms []) (h2 : Run p l ns l2) (hl : l2 ≠ []) (hb : stepT l2 = .bad e) : False := by
 generalize hn : ([] : List UInt8) = z at h
 induction h generalizing ns with
 | nil p l =>
  subst hn
  cases h2 with
  | nil => exact hl rfl
  | cons hs _ => cases hs
 | @cons p l r m ms l3 hs hr ih =>
  subst hn
  cases h2 with
  | nil => rw [hs] at hb; cases hb
  | cons hs2 hr2 =>
   rw [hs] at hs2
   cases hs2
   exact ih hr2 rfl
theorem Qj6 (s : ByteArray) : s.data.toList.length = s.size := Array.length_toList
theorem Qtj {s : ByteArray} {ms : List Tok} (hs : s.size <= 65536) (h : Run 0 s.data.toList ms []) : tokS s = (ms, 0, 0) := by
 unfold tokS
 rw [iN (by omega)]
 rcases Qe3 (s.size + 1) 0 s.data.toList [] (by rw [Qj6]; omega) with ⟨ns, h1, h2⟩ | ⟨ns, l2, e, h1, h2, h3, h4⟩
 ·rw [h1, h.uniq h2]; rfl
 exact (h.notbad h2 h3 h4).elim
theorem Qf6 (s : ByteArray) (hs : s.size <= 65536) : (∃ ms, tokS s = (ms, 0, 0) /\ Run 0 s.data.toList ms []) \/ (∃ ms l2 e, tokS s = ([], s.size - l2.length, e) /\ Run 0 s.data.toList ms l2 /\ l2 ≠ [] /\ stepT l2 = .bad e) := by
 unfold tokS
 rw [iN (by omega)]
 rcases Qe3 (s.size + 1) 0 s.data.toList [] (by rw [Qj6]; omega) with ⟨ns, h1, h2⟩ | ⟨ns, l2, e, h1, h2, h3, h4⟩
 ·exact .inl ⟨ns, by rw [h1]; rfl, h2⟩
 exact .inr ⟨ns, l2, e, by rw [h1, Qj6, Nat.zero_add], h2, h3, h4⟩
theorem Run.bad {p : Nat} {l l2 : List UInt8} {ms ns : List Tok} {l3 : List UInt8} {e e' : Nat} (h : Run p l ms l2) (hb : stepT l2 = .bad e) (h2 : Run p l ns l3) (hb2 : stepT l3 = .bad e') : l2 = l3 /\ e = e' := by
 induction h generalizing ns with
 | nil p l =>
  cases h2 with
  | nil => rw [hb] at hb2; cases hb2; exact ⟨rfl, rfl⟩
  | cons hs _ => rw [hb] at hs; cases hs
 | @cons p l r m ms l4 hs hr ih =>
  cases h2 with
  | nil => rw [hs] at hb2; cases hb2
  | cons hs2 hr2 =>
   rw [hs] at hs2
   cases hs2
   exact ih hb hr2
theorem Qp8 {s : ByteArray} {ms : List Tok} {l2 : List UInt8} {e : Nat} (hs : s.size <= 65536) (h : Run 0 s.data.toList ms l2) (hl : l2 ≠ []) (hb : stepT l2 = .bad e) : tokS s = ([], s.size - l2.length, e) := by
 rcases Qf6 s hs with ⟨ns, h1, h2⟩ | ⟨ns, l3, e', h1, h2, h3, h4⟩
 ·exact (h2.notbad h hl hb).elim
 obtain ⟨rfl, rfl⟩ := h.bad hb h2 h4
 exact h1
section
open Go.RowKit
def below (f : Nat -> Nat) (k : Nat) : Nat -> Nat := fun i => if i < k then f i else 0
theorem Qp9 (l : List UInt8) (h : dOk l = true) : numL l < 10 ^ l.length := by
 have := Qmn l 0 h
 unfold numL
 omega
theorem Qit (s : ByteArray) (a : Nat) : (s.extract a s.size).data.toList = s.data.toList.drop a := by
 rw [Lib.extract_data, List.take_of_length_le]
 rw [List.length_drop, Array.length_toList]
 exact Nat.le_refl _
def accF (r0 : Nat) (g : Nat -> Nat) : Nat -> Nat
 | 0 => r0
 | k + 1 => accF r0 g k * 64 + (g (k + 1) - 0x80)
def conts (g : Nat -> Nat) (k : Nat) : Prop := ∀ i, 1 <= i -> i <= k -> 0x80 <= g i /\ g i < 0xC0
instance (g : Nat -> Nat) (k : Nat) : Decidable (conts g k) := by
 have : conts g k ↔ ∀ i, i < k -> 0x80 <= g (i + 1) /\ g (i + 1) < 0xC0 := by
  constructor
  ·intro h i hi; exact h (i + 1) (by omega) (by omega)
  intro h i h1 h2
  have := h (i - 1) (by omega)
  rwa [show i - 1 + 1 = i by omega] at this
 exact decidable_of_iff _ this.symm
def firstT (r0 n least : Nat) (g : Nat -> Nat) (m : Nat) : Nat × Nat :=
 if n <= m /\ conts g (n - 1) /\ least <= accF r0 g (n - 1) /\ Qa0 (accF r0 g (n - 1)) = true then (accF r0 g (n - 1), n) else (0, 0)
theorem conts1 (g : Nat -> Nat) : conts g 0 := fun i h1 h2 => by omega
theorem Qb6 (g : Nat -> Nat) (k : Nat) : conts g (k + 1) ↔ conts g k /\ 0x80 <= g (k + 1) /\ g (k + 1) < 0xC0 := by
 constructor
 ·intro h; exact ⟨fun i h1 h2 => h i h1 (by omega), h (k + 1) (by omega) (by omega)⟩
 rintro ⟨h, h'⟩ i h1 h2
 by_cases hi : i = k + 1
 ·subst hi; exact h'
 exact h i h1 (by omega)
theorem Qtk (g : Nat -> Nat) (m : Nat) (hm : 0 < m) : first g m = if g 0 < 0x80 then firstT (g 0) 1 0 g m else if 0xC0 <= g 0 /\ g 0 < 0xE0 then firstT (g 0 - 0xC0) 2 0x80 g m
  else if 0xE0 <= g 0 /\ g 0 < 0xF0 then firstT (g 0 - 0xE0) 3 0x800 g m else if 0xF0 <= g 0 /\ g 0 < 0xF8 then firstT (g 0 - 0xF0) 4 0x10000 g m else (0, 0) := by
 unfold first firstT
 refine Qbm Iff.rfl (fun _ => Qbm ?_ (fun _ => rfl) fun _ => rfl) fun _ => Qbm Iff.rfl (fun _ => Qbm ?_ (fun _ => rfl) fun _ => rfl) fun _ => Qbm Iff.rfl (fun _ => Qbm ?_ (fun _ => rfl) fun _ => rfl) fun _ => Qbm Iff.rfl (fun _ => Qbm ?_ (fun _ => rfl) fun _ => rfl) fun _ => rfl
 ·exact ⟨fun h => ⟨hm, conts1 g, Nat.zero_le _, h⟩, fun h => h.2.2.2⟩
 ·rw [show (2 : Nat) - 1 = 0 + 1 from rfl, Qb6]
  exact ⟨fun ⟨a, b, c, d, e⟩ => ⟨a, ⟨conts1 g, b, c⟩, d, e⟩, fun ⟨a, ⟨_, b, c⟩, d, e⟩ => ⟨a, b, c, d, e⟩⟩
 ·rw [show (3 : Nat) - 1 = 0 + 1 + 1 from rfl, Qb6, Qb6]
  exact ⟨fun ⟨a, b, c, b', c', d, e⟩ => ⟨a, ⟨⟨conts1 g, b, c⟩, b', c'⟩, d, e⟩, fun ⟨a, ⟨⟨_, b, c⟩, b', c'⟩, d, e⟩ => ⟨a, b, c, b', c', d, e⟩⟩
 rw [show (4 : Nat) - 1 = 0 + 1 + 1 + 1 from rfl, Qb6, Qb6, Qb6]
 exact ⟨fun ⟨a, b, c, b', c', b'', c'', d, e⟩ => ⟨a, ⟨⟨⟨conts1 g, b, c⟩, b', c'⟩, b'', c''⟩, d, e⟩, fun ⟨a, ⟨⟨⟨_, b, c⟩, b', c'⟩, b'', c''⟩, d, e⟩ => ⟨a, b, c, b', c', b'', c'', d, e⟩⟩
theorem Qj7 (r0 : Nat) (g : Nat -> Nat) (h : r0 <= 127) (hg : ∀ i, g i < 256) (k : Nat) (hk : k <= 3) : accF r0 g k <= 40000000 := by
 have st : ∀ j, accF r0 g (j + 1) <= accF r0 g j * 64 + 127 := fun j => by
  have := hg (j + 1)
  show accF r0 g j * 64 + (g (j + 1) - 0x80) <= _
  omega
 have s0 : accF r0 g 0 <= 127 := h
 have s1 : accF r0 g 1 <= accF r0 g 0 * 64 + 127 := st 0
 have s2 : accF r0 g 2 <= accF r0 g 1 * 64 + 127 := st 1
 have s3 : accF r0 g 3 <= accF r0 g 2 * 64 + 127 := st 2
 have hc : k = 0 \/ k = 1 \/ k = 2 \/ k = 3 := by omega
 rcases hc with rfl | rfl | rfl | rfl <;> omega
theorem Qj8 (s : ByteArray) (pos : Nat) : (s.extract pos s.size).size = s.size - pos := by simp [ByteArray.size_extract]
end
end Go.Proofs.YtjckpkamhdbcnaaGreatDoor
