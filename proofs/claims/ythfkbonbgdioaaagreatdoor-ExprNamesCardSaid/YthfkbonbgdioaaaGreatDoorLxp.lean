
import Derived.Test.YthfkbonbgdioaaaGreatDoorLxc
import Derived.Deep.LoopGhost
import Derived.Deep.CutBlock
import Derived.Deep.DeepCutAuto
import Derived.Deep.OwnRows
import Derived.Deep.RegionHeld3
import Derived.Shelf.Abstract
import Derived.Laws.Cover1
namespace Go.Proofs.YthfkbonbgdioaaaGreatDoor
set_option linter.unusedSimpArgs false
set_option linter.unusedVariables false
open Go.RowKit

/-! Tokens as values; rows of them. -/
theorem bytesOf_size (l : List UInt8) : (bytesOf l).size = l.length := List.size_toArray
theorem bytesOf_data (s : ByteArray) : bytesOf s.data.toList = s := by
  unfold bytesOf
  exact ByteArray.ext (by simp)
theorem bytes_toList (l : List UInt8) : (bytesOf l).data.toList = l := by simp [bytesOf]
theorem bytesOf_inj {a b : List UInt8} (h : bytesOf a = bytesOf b) : a = b := by
  have := congrArg (fun s => s.data.toList) h
  simpa [bytesOf] using this
theorem bytes_app (a b : List UInt8) : bytesOf a ++ bytesOf b = bytesOf (a ++ b) := by
  rw [← bytesOf_data (bytesOf a ++ bytesOf b)]
  congr 1
theorem bytes_lit (l : List UInt8) : (⟨l.toArray⟩ : ByteArray) = bytesOf l := rfl
theorem ext_bytes (s : ByteArray) (a b : Nat) : s.extract a b = bytesOf ((s.data.toList.drop a).take (b - a)) := by
  rw [← bytesOf_data (s.extract a b)]
  congr 1
  simp [ByteArray.data_extract, List.drop_take, List.extract_eq_take_drop]
theorem span_is (q : UInt8 → Bool) : ∀ l : List UInt8, l = l.takeWhile q ++ l.dropWhile q ∧ (∀ c ∈ l.takeWhile q, q c = true) ∧ (l.dropWhile q = [] ∨ ∃ c t, l.dropWhile q = c :: t ∧ q c = false)
  | [] => ⟨rfl, by simp, .inl rfl⟩
  | c :: l => by
    obtain ⟨h1, h2, h3⟩ := span_is q l
    by_cases hc : q c = true
    · simp only [List.takeWhile, List.dropWhile, hc]
      refine ⟨by rw [List.cons_append, ← h1], ?_, h3⟩
      intro x hx
      rcases List.mem_cons.1 hx with rfl | hx
      · exact hc
      · exact h2 x hx
    · have hc' : q c = false := by simpa using hc
      simp only [List.takeWhile, List.dropWhile, hc']
      exact ⟨by simp, by simp, .inr ⟨c, l, rfl, hc'⟩⟩
theorem tw_take (f : UInt8 → Bool) (l : List UInt8) : l.take (l.takeWhile f).length = l.takeWhile f := by
  obtain ⟨h1, _, _⟩ := span_is f l
  generalize l.takeWhile f = x at *
  generalize l.dropWhile f = y at *
  subst h1
  simp
theorem drop_tw (f : UInt8 → Bool) (l : List UInt8) : l.drop (l.takeWhile f).length = l.dropWhile f := by
  obtain ⟨h1, _, _⟩ := span_is f l
  generalize l.takeWhile f = x at *
  generalize l.dropWhile f = y at *
  subst h1
  simp
theorem tw_lens (f : UInt8 → Bool) (l : List UInt8) : (l.takeWhile f).length + (l.dropWhile f).length = l.length := by
  have := congrArg List.length (span_is f l).1
  rw [List.length_append] at this
  exact this.symm
theorem tw_get (f : UInt8 → Bool) (l : List UInt8) (k : Nat) : (k < (l.takeWhile f).length → ∃ c, l[k]? = some c ∧ f c = true) ∧ (k = (l.takeWhile f).length → l.length = k ∨ ∃ c, l[k]? = some c ∧ f c = false) := by
  obtain ⟨h1, h2, h3⟩ := span_is f l
  generalize l.takeWhile f = x at *
  generalize l.dropWhile f = y at *
  subst h1
  constructor
  · intro hk
    exact ⟨x[k], by rw [List.getElem?_append_left hk]; exact List.getElem?_eq_getElem hk, h2 _ (List.getElem_mem hk)⟩
  · rintro rfl
    rcases h3 with rfl | ⟨c, t, rfl, hc⟩
    · left; simp
    · right
      exact ⟨c, by rw [List.getElem?_append_right (Nat.le_refl _)]; simp, hc⟩
def teqv (a b : Int) (t : ByteArray) (c d e a' b' : Int) (t' : ByteArray) (c' d' e' : Int) : Bool := decide (a = a' ∧ b = b' ∧ t = t' ∧ c = c' ∧ d = d' ∧ e = e')
theorem teqv_iff {a b : Int} {t : ByteArray} {c d e a' b' : Int} {t' : ByteArray} {c' d' e' : Int} : teqv a b t c d e a' b' t' c' d' e' = true ↔ a = a' ∧ b = b' ∧ t = t' ∧ c = c' ∧ d = d' ∧ e = e' := by simp [teqv]
theorem ite6 {w : World} {p1 p2 p3 p4 p5 p6 : Prop} [Decidable p1] [Decidable p2] [Decidable p3] [Decidable p4] [Decidable p5] [Decidable p6] {b : Bool} (h : b = true ↔ p1 ∧ p2 ∧ p3 ∧ p4 ∧ p5 ∧ p6) :
    (if p1 then if p2 then if p3 then if p4 then if p5 then if p6 then Result.ok (Value.bool true) w else Result.ok (Value.bool false) w else Result.ok (Value.bool false) w else Result.ok (Value.bool false) w else Result.ok (Value.bool false) w else Result.ok (Value.bool false) w else Result.ok (Value.bool false) w) = Result.ok (Value.bool b) w := by
  cases b
  · simp only [Bool.false_eq_true, false_iff] at h
    repeat' split
    all_goals first | rfl | exact absurd ⟨‹_›, ‹_›, ‹_›, ‹_›, ‹_›, ‹_›⟩ h
  · have := h.1 rfl
    simp [this]
theorem eql_tok (a b c d e a' b' c' d' e' : Int) (t t' : ByteArray) (w : World) :
    (binOp .eql 104 (.agg #[.int .i64 a, .int .i64 b, .string t, .int .i64 c, .int .i64 d, .int .i64 e]) (.agg #[.int .i64 a', .int .i64 b', .string t', .int .i64 c', .int .i64 d', .int .i64 e'])).run Tryz.prog w = .ok (.bool (teqv a b t c d e a' b' t' c' d' e')) w := by
  go_simp
  exact ite6 (by rw [teqv_iff, toList_inj])
theorem neq_tok (a b c d e a' b' c' d' e' : Int) (t t' : ByteArray) (w : World) :
    (binOp .neq 104 (.agg #[.int .i64 a, .int .i64 b, .string t, .int .i64 c, .int .i64 d, .int .i64 e]) (.agg #[.int .i64 a', .int .i64 b', .string t', .int .i64 c', .int .i64 d', .int .i64 e'])).run Tryz.prog w = .ok (.bool (!teqv a b t c d e a' b' t' c' d' e')) w := by
  have h := eql_tok a b c d e a' b' c' d' e' t t' w
  rw [run_eql_struct] at h
  rw [run_neq_struct]
  generalize (Op.equalIn 10000 104 _ _).run Tryz.prog w = r at h ⊢
  cases r with
  | ok x w1 =>
    simp only [Result.andThen_ok, Result.ok.injEq, Value.bool.injEq] at h ⊢
    simp [h]
  | halt x w1 => simp [Result.andThen] at h
def Tok.val (t : Tok) : Value := .agg #[.int .i64 t.kind, .int .i64 t.pos, .string (bytesOf t.text), .int .i64 t.dn, .int .i64 t.ds, .int .i64 t.day]
def tkCells (t : Tok) : List Value := [.int .i64 t.kind, .int .i64 t.pos, .string (bytesOf t.text), .int .i64 t.dn, .int .i64 t.ds, .int .i64 t.day]
def tsCells (l : List Tok) : List Value := l.flatMap tkCells
theorem tsCells_len (l : List Tok) : (tsCells l).length = 6 * l.length := by
  induction l with
  | nil => rfl
  | cons a l ih => unfold tsCells at ih ⊢; rw [List.flatMap_cons, List.length_append, ih]; simp [tkCells]; omega
theorem tsCells_app (a b : List Tok) : tsCells (a ++ b) = tsCells a ++ tsCells b := by simp [tsCells]
theorem tks_at : ∀ (l : List Tok) (j i : Nat) (x : Tok) (u : Value), l[j]? = some x → (tkCells x)[i]? = some u → (tsCells l)[j * 6 + i]? = some u
  | [], j, i, x, u, h, _ => by simp at h
  | y :: l, 0, i, x, u, h, hu => by
    obtain rfl : y = x := by simpa using h
    unfold tsCells
    rw [List.flatMap_cons, Nat.zero_mul, Nat.zero_add, List.getElem?_append_left (List.getElem?_eq_some_iff.1 hu).1]
    exact hu
  | y :: l, j + 1, i, x, u, h, hu => by
    unfold tsCells
    rw [List.flatMap_cons, List.getElem?_append_right (by simp [tkCells]; omega)]
    rw [show (j + 1) * 6 + i - (tkCells y).length = j * 6 + i by simp [tkCells]; omega]
    exact tks_at l j i x u h hu
/-- A token lies at an address. -/
def TokAt (w : World) (b o : Nat) (t : Tok) : Prop :=
  w.cell? ⟨b, o, none⟩ = some (.int .i64 t.kind) ∧ w.cell? ⟨b, o + 1, none⟩ = some (.int .i64 t.pos) ∧ w.cell? ⟨b, o + 2, none⟩ = some (.string (bytesOf t.text)) ∧
    w.cell? ⟨b, o + 3, none⟩ = some (.int .i64 t.dn) ∧ w.cell? ⟨b, o + 4, none⟩ = some (.int .i64 t.ds) ∧ w.cell? ⟨b, o + 5, none⟩ = some (.int .i64 t.day)
theorem TokAt.keep {w w' : World} {b o : Nat} {t : Tok} (h : TokAt w b o t) (hb : Bel w w') (hlt : b < w.heap.size) : TokAt w' b o t := by
  simp only [TokAt, hb.cells _ _ hlt]
  exact h
/-- A slice of tokens reads as a list. -/
def Toks (w : World) (A : Option Addr) (l : List Tok) : Prop := Row w A (tsCells l)
theorem Toks.keep {w w' : World} {A : Option Addr} {l : List Tok} (h : Toks w A l) (hb : Bel w w') : Toks w' A l := Row.keep h hb
theorem Toks.at {w : World} {A : Option Addr} {l : List Tok} (h : Toks w A l) (h0 : 0 < l.length) : ∃ b off, A = some ⟨b, off, none⟩ ∧ b < w.heap.size ∧ ∀ i t, l[i]? = some t → TokAt w b (off + i * 6) t := by
  obtain ⟨b, off, hA, hlt, hc⟩ := h (by rw [tsCells_len]; omega)
  refine ⟨b, off, hA, hlt, fun i t ht => ?_⟩
  have g := fun k u hu => hc _ u (tks_at l i k t u ht hu)
  refine ⟨?_, ?_, ?_, ?_, ?_, ?_⟩
  · exact g 0 _ rfl
  · exact g 1 _ rfl
  · exact g 2 _ rfl
  · exact g 3 _ rfl
  · exact g 4 _ rfl
  · exact g 5 _ rfl
theorem Toks.take {w : World} {A : Option Addr} {l : List Tok} (h : Toks w A l) (n : Nat) : Toks w A (l.take n) := fun h0 => by
  have hs : tsCells l = tsCells (l.take n) ++ tsCells (l.drop n) := by rw [← tsCells_app, List.take_append_drop]
  obtain ⟨b, off, hA, hlt, hc⟩ := h (by rw [hs, List.length_append]; omega)
  refine ⟨b, off, hA, hlt, fun j u hu => hc j u ?_⟩
  rw [hs, List.getElem?_append_left (List.getElem?_eq_some_iff.1 hu).1]
  exact hu
/-- Tokens that the call owns, from a block on. -/
def TkRows (w : World) (B : Nat) (v : Value) (l : List Tok) : Prop := w.ownsRow B 104 6 v l.length (tsCells l)
theorem TkRows.keep {w w' : World} {B : Nat} {v : Value} {l : List Tok} (h : TkRows w B v l) (hb : Bel w w') : TkRows w' B v l := own_keep h hb
theorem TkRows.nil (w : World) (B : Nat) : TkRows w B (.slice none 0 0) [] := World.ownsRow_nil w B _ _
theorem TkRows.val {w : World} {B : Nat} {v : Value} {l : List Tok} (h : TkRows w B v l) : ∃ A c, v = .slice A l.length c ∧ Toks w A l ∧ (A = none → c = 0) := by
  obtain ⟨A, c, e, h2, h3, _⟩ := own_row h
  exact ⟨A, c, e, h2, h3⟩
theorem infoTk : (Tryz.prog.info? 104).map (fun i => (i.zero, i.size, i.bytes)) = some (some (.agg #[.int .i64 0, .int .i64 0, .string ⟨#[]⟩, .int .i64 0, .int .i64 0, .int .i64 0]), 6, 56) := by kernel_rfl
theorem infoTk' : ∃ i0, Tryz.prog.info? 104 = some i0 ∧ i0.zero = some (.agg #[.int .i64 0, .int .i64 0, .string ⟨#[]⟩, .int .i64 0, .int .i64 0, .int .i64 0]) ∧ i0.size = 6 ∧ i0.bytes = 56 := by
  obtain ⟨i0, h1, h2⟩ := Option.map_eq_some_iff.1 infoTk
  simp only [Prod.mk.injEq] at h2
  exact ⟨i0, h1, h2.1, h2.2.1, h2.2.2⟩
theorem tkCells_one (t : Tok) : ∀ u ∈ tkCells t, u.oneCell' = true := by
  intro u hu
  simp only [tkCells, List.mem_cons, List.not_mem_nil, or_false] at hu
  rcases hu with rfl | rfl | rfl | rfl | rfl | rfl <;> rfl
theorem lit_row (w : World) (xs : List Value) (t : TypeId) : Row (w.alloc (.cells xs.toArray t)) (some ⟨w.heap.size, 0, none⟩) xs := fun _ => by
  refine ⟨w.heap.size, 0, rfl, by simp, fun j u hu => ?_⟩
  have hadd : (0 + j) = j := by omega
  rw [hadd, Lib.cell_of_heap (heap_alloc_new w _)]
  simpa using hu
/-- A token is put behind those that the call owns. -/
theorem app_tok {w : World} {B : Nat} {v : Value} {l : List Tok} (h : TkRows w B v l) (hB : B ≤ w.heap.size) (hlen : l.length ≤ 1000000) (t : Tok) (ty : TypeId) :
    ∃ v' w', (Builtin.append_ #[62, 62] ty #[v, .slice (some ⟨w.heap.size, 0, none⟩) 1 1]).run Tryz.prog (w.alloc (.cells #[.int .i64 t.kind, .int .i64 t.pos, .string (bytesOf t.text), .int .i64 t.dn, .int .i64 t.ds, .int .i64 t.day] 104)) = .ok v' w' ∧
      (TkRows w' B v' (l ++ [t]) ∧ BelBut w w' v.ownBlock) := by
  obtain ⟨i0, hi, hz0, hz1, hz2⟩ := infoTk'
  have ho := own_keep h ((Bel.refl w).alloc (.cells (tkCells t).toArray 104))
  obtain ⟨v', w', hr, k1, k2, k3⟩ := run_app (P := Tryz.prog) _ B 62 ty 104 i0 _ 6 56 Tryz.underlying62 hi hz0 hz1 hz2 rfl (by omega) ho (m := 1) (c := 1) (lit_row w (tkCells t) _) rfl (by simp) (tkCells_one t) (by simp only [maxLen]; omega) (by omega) (by simp; omega)
  refine ⟨v', w', hr, ?_, World.grownBy.trans ⟨((Bel.refl w).alloc _).os, ((Bel.refl w).alloc _).tape, ((Bel.refl w).alloc _).output, Below.size ((Bel.refl w).alloc _), fun k hk _ => ((Bel.refl w).alloc _).block k hk⟩ k2⟩
  unfold TkRows
  rw [List.length_append, tsCells_app]
  exact k1
theorem but_belT {w0 w1 w2 : World} {v : Value} {l : List Tok} (h0 : Bel w0 w1) (hM : TkRows w1 w0.heap.size v l) (h : BelBut w1 w2 v.ownBlock) : Bel w0 w2 :=
  BelBut.bel h0 h fun k hk => (World.ownsRow.lt hM k hk).1
end Go.Proofs.YthfkbonbgdioaaaGreatDoor
namespace Go.Proofs.YthfkbonbgdioaaaGreatDoor
set_option linter.unusedSimpArgs false
set_option linter.unusedVariables false
open Go.RowKit

/-! Dates, signs and names: plain words. -/
theorem day_form {l : List UInt8} (h : (dayP l).2 = 0) : l.length = 10 ∧ ∀ c ∈ l, c ≠ 34 ∧ c ≠ 92 := by
  have hd := day_is l
  rw [h] at hd
  have bad : ∀ n : Int, badV = .tuple #[.int .i64 n, .int .i64 ((0 : Nat) : Int)] → False := by
    intro n e
    simp [badV] at e
  generalize (dayP l).1 = n at hd
  clear h
  by_cases hlen : l.length = 10
  · refine ⟨hlen, ?_⟩
    unfold parseV_Y at hd
    rw [bytes_toList] at hd
    match l, hlen, hd with
    | [a, b, c, d, e, f, g, i, j, k], _, hd =>
      simp only at hd
      split at hd
      · rename_i h45
        obtain ⟨rfl, rfl⟩ := h45
        unfold parseL at hd
        split at hd
        · rename_i hk
          obtain ⟨k1, k2, k3⟩ := hk
          simp only [dOk_Y, List.all_cons, List.all_nil, Bool.and_true, Bool.and_eq_true] at k1 k2 k3
          have q : ∀ c, dB_Y c = true → c ≠ 34 ∧ c ≠ 92 := by
            intro c hc
            constructor <;> (rintro rfl; revert hc; decide)
          intro x hx
          simp only [List.mem_cons, List.not_mem_nil, or_false] at hx
          rcases hx with h | h | h | h | h | h | h | h | h | h <;> rw [h]
          · exact q _ k1.1
          · exact q _ k1.2.1
          · exact q _ k1.2.2.1
          · exact q _ k1.2.2.2
          · decide
          · exact q _ k2.1
          · exact q _ k2.2
          · decide
          · exact q _ k3.1
          · exact q _ k3.2
        · exact absurd hd (bad _)
      · exact absurd hd (bad _)
  · rw [parseV_no _ (by rw [bytesOf_size]; exact hlen)] at hd
    exact absurd hd (bad _)
theorem strL_plain : ∀ (x acc r : List UInt8), (∀ c ∈ x, c ≠ 34 ∧ c ≠ 92) → strL acc (x ++ 34 :: r) = some (acc ++ x, r)
  | [], acc, r, _ => by
    show strL acc (34 :: r) = _
    unfold strL
    rw [if_pos rfl, List.append_nil]
  | c :: x, acc, r, h => by
    have ih := strL_plain x (acc ++ [c]) r (fun d hd => h d (by simp [hd]))
    have hc := h c (by simp)
    rw [List.cons_append]
    unfold strL
    rw [if_neg hc.1, if_neg hc.2, ih]
    simp
theorem strL_exact : ∀ (n : Nat) (x acc z r : List UInt8), x.length ≤ n → strL acc x = some (z, r) → ∃ v, z = acc ++ v ∧ v.length + 1 + r.length ≤ x.length ∧ (v.length + 1 + r.length = x.length → x = v ++ 34 :: r ∧ ∀ c ∈ v, c ≠ 34 ∧ c ≠ 92)
  | n, [], acc, z, r, _, h => by simp [strL] at h
  | 0, c :: x, acc, z, r, hn, _ => by simp at hn
  | n + 1, c :: x, acc, z, r, hn, h => by
    rw [List.length_cons] at hn
    unfold strL at h
    by_cases h1 : c = 34
    · rw [if_pos h1] at h
      simp only [Option.some.injEq, Prod.mk.injEq] at h
      obtain ⟨rfl, rfl⟩ := h
      exact ⟨[], by simp, by simp; omega, fun _ => ⟨by rw [h1]; rfl, by simp⟩⟩
    · rw [if_neg h1] at h
      by_cases h2 : c = 92
      · rw [if_pos h2] at h
        cases x with
        | nil => cases h
        | cons d x' =>
          simp only at h
          by_cases h3 : d = 34 ∨ d = 92
          · rw [if_pos h3] at h
            rw [List.length_cons] at hn
            obtain ⟨v, e1, e2, e3⟩ := strL_exact n x' _ z r (by omega) h
            refine ⟨d :: v, by rw [e1]; simp, by simp only [List.length_cons]; omega, fun e => ?_⟩
            simp only [List.length_cons] at e
            omega
          · rw [if_neg h3] at h; cases h
      · rw [if_neg h2] at h
        obtain ⟨v, e1, e2, e3⟩ := strL_exact n x _ z r (by omega) h
        refine ⟨c :: v, by rw [e1]; simp, by simp only [List.length_cons]; omega, fun e => ?_⟩
        simp only [List.length_cons] at e
        obtain ⟨f1, f2⟩ := e3 (by omega)
        refine ⟨by rw [f1]; rfl, ?_⟩
        intro b hb
        rcases List.mem_cons.1 hb with rfl | hb
        · exact ⟨h1, h2⟩
        · exact f2 b hb
/-- A date by the rule of strings. -/
def dayR (u : List UInt8) : TRes :=
  match strL [] u with
  | some (x, r) => if u.length - r.length = 11 ∧ (dayP x).2 = 0 then .ok r (some ⟨3, 0, [], 0, 0, (dayP x).1⟩) else .bad 5
  | none => .bad 5
theorem day_two (u : List UInt8) : dayT (64 :: 34 :: u) = dayR u := by
  unfold dayT dayR
  rw [show ([64, 34] : List UInt8).isPrefixOf (64 :: 34 :: u) = true by simp [List.isPrefixOf], show (64 :: 34 :: u).drop 2 = u from rfl]
  obtain ⟨h1, h2, h3⟩ := span_is (· != 34) u
  have key : ∀ x r, strL [] u = some (x, r) → u.length - r.length = 11 → (dayP x).2 = 0 → u.takeWhile (· != 34) = x ∧ u.dropWhile (· != 34) = 34 :: r := by
    intro x r hs hl hd
    obtain ⟨d1, d2⟩ := day_form hd
    obtain ⟨v, e1, e2, e3⟩ := strL_exact _ u [] x r (Nat.le_refl _) hs
    rw [List.nil_append] at e1
    subst e1
    obtain ⟨e4, e5⟩ := e3 (by omega)
    have hp : ∀ c ∈ x, (c != 34) = true := fun c hc => by simpa using (e5 c hc).1
    constructor
    · rw [e4, List.takeWhile_append_of_pos hp]
      simp [List.takeWhile_cons]
    · rw [e4, List.dropWhile_append_of_pos hp]
      simp [List.dropWhile_cons]
  by_cases hy : u.dropWhile (· != 34) ≠ [] ∧ (dayP (u.takeWhile (· != 34))).2 = 0
  · rw [if_pos ⟨rfl, hy⟩]
    obtain ⟨hy1, hy2⟩ := hy
    obtain ⟨d1, d2⟩ := day_form hy2
    rcases h3 with h3 | ⟨c, t, h3, hc⟩
    · exact absurd h3 hy1
    have hc' : c = 34 := by simpa using hc
    subst hc'
    generalize u.takeWhile (· != 34) = y at *
    rw [h3] at h1 ⊢
    have hs := strL_plain y [] t d2
    rw [← h1, List.nil_append] at hs
    rw [hs]
    simp only
    have hl := congrArg List.length h1
    simp only [List.length_append, List.length_cons] at hl
    rw [if_pos ⟨by omega, hy2⟩]
    rfl
  · rw [if_neg (fun h => hy h.2)]
    split
    · rename_i x r hs
      split
      · rename_i hh
        obtain ⟨k1, k2⟩ := key x r hs hh.1 hh.2
        exact absurd ⟨by rw [k2]; simp, by rw [k1]; exact hh.2⟩ hy
      · rfl
    · rfl
theorem day_none {l : List UInt8} (h : [64, 34].isPrefixOf l = false) : dayT l = .bad 5 := by
  unfold dayT
  rw [if_neg (by rw [h]; simp)]
/-! Signs. -/
def signsL : List (List UInt8) := sg2 ++ sg1.map fun c => [c]
theorem find_pre (k : Nat) (l : List UInt8) : ∀ L : List (List UInt8), (∀ g ∈ L, g.length = k) → L.find? (fun g => g.isPrefixOf l) = if L.contains (l.take k) = true then some (l.take k) else none
  | [], _ => rfl
  | g :: L, h => by
    have ih := find_pre k l L (fun x hx => h x (by simp [hx]))
    have hg := h g (by simp)
    have hp : g.isPrefixOf l = true ↔ l.take k = g := by
      rw [List.isPrefixOf_iff_prefix, List.prefix_iff_eq_take, hg]
      exact eq_comm
    by_cases hq : l.take k = g
    · have hp' := hp.2 hq
      simp only [List.find?_cons, hp']
      rw [hq]
      simp
    · have hp' : g.isPrefixOf l = false := by
        rw [Bool.eq_false_iff]
        exact fun e => hq (hp.1 e)
      simp only [List.find?_cons, hp']
      rw [ih]
      have : (g :: L).contains (l.take k) = L.contains (l.take k) := by
        rw [List.contains_cons, beq_eq_false_iff_ne.2 hq, Bool.false_or]
      rw [this]
theorem sig_find (l : List UInt8) : sigL l = (signsL.find? (fun g => g.isPrefixOf l)).getD [] := by
  unfold sigL signsL
  rw [List.find?_append, find_pre 2 l sg2 (by decide), find_pre 1 l (sg1.map fun c => [c]) (by decide)]
  have e : (sg1.map fun c => [c]).contains (l.take 1) = true ↔ ∃ c ∈ sg1, l.take 1 = [c] := by
    rw [List.contains_iff_mem, List.mem_map]
    constructor
    · rintro ⟨c, hc, h⟩; exact ⟨c, hc, h.symm⟩
    · rintro ⟨c, hc, h⟩; exact ⟨c, hc, h.symm⟩
  by_cases h2 : sg2.contains (l.take 2) = true
  · rw [if_pos h2, if_pos h2]; rfl
  · rw [if_neg h2, if_neg h2]
    by_cases h1 : ∃ c ∈ sg1, l.take 1 = [c]
    · rw [if_pos h1, if_pos (e.2 h1)]; rfl
    · rw [if_neg h1, if_neg (fun h => h1 (e.1 h))]; rfl
theorem sig_mem (l : List UInt8) : (l ≠ [] ∧ sigL l = l) ↔ l ∈ signsL := by
  constructor
  · rintro ⟨h0, h⟩
    rw [sig_find] at h
    cases hf : signsL.find? (fun g => g.isPrefixOf l) with
    | none => rw [hf] at h; exact absurd h.symm h0
    | some g =>
      rw [hf] at h
      have : g = l := h
      subst this
      exact List.mem_of_find?_eq_some hf
  · intro h
    revert l
    decide
/-! Names. -/
theorem nm_gof (l : List UInt8) (i : Nat) : gOf (bytesOf l) 0 i = (l.getD i 0).toNat := by
  rw [gOf_list, bytes_toList, List.drop_zero]
theorem okN_is (i : Nat) (c : UInt8) : okN i c.toNat = if i = 0 then ltB c else nbB c := by
  have e1 : letB c.toNat = ltB c := rfl
  have e2 : dgB c.toNat = fgB c := rfl
  unfold okN
  rw [e1, e2]
  by_cases h : i = 0
  · rw [if_pos h, h]; simp
  · rw [if_neg h, decide_eq_true h, Bool.true_and]; rfl
theorem nm_is (l : List UInt8) : nmOk l = true ↔ (0 < l.length ∧ l.length ≤ 32) ∧ ∀ i c, l[i]? = some c → (if i = 0 then ltB c else nbB c) = true := by
  unfold nmOk nameB
  rw [bytesOf_size, Bool.and_eq_true, decide_eq_true_eq, List.all_eq_true]
  refine and_congr Iff.rfl ⟨fun h i c hc => ?_, fun h i hi => ?_⟩
  · have hlt := (List.getElem?_eq_some_iff.1 hc).1
    have := h i (List.mem_range.2 hlt)
    rw [nm_gof, okN_is, List.getD_eq_getElem?_getD, hc] at this
    exact this
  · have hlt := List.mem_range.1 hi
    have := h i l[i] (List.getElem?_eq_getElem hlt)
    rw [nm_gof, okN_is, List.getD_eq_getElem?_getD, List.getElem?_eq_getElem hlt]
    exact this
theorem nm_one (c : UInt8) : nmOk [c] = ltB c := by
  rw [Bool.eq_iff_iff, nm_is]
  constructor
  · intro h
    have := h.2 0 c rfl
    simpa using this
  · intro h
    refine ⟨by simp, fun i d hd => ?_⟩
    cases i with
    | zero => simp at hd; subst hd; simpa using h
    | succ i => simp at hd
theorem nm_x (c : UInt8) : nmOk [120, c] = nbB c := by
  rw [Bool.eq_iff_iff, nm_is]
  constructor
  · intro h
    have := h.2 1 c rfl
    simpa using this
  · intro h
    refine ⟨by simp, fun i d hd => ?_⟩
    match i, hd with
    | 0, hd => simp at hd; subst hd; decide
    | 1, hd => simp at hd; subst hd; simpa using h
    | i + 2, hd => simp at hd
theorem nm_form {l : List UInt8} (h : nmOk l = true) : l.length ≤ 32 ∧ ∃ c t, l = c :: t ∧ ltB c = true ∧ ∀ b ∈ l, nbB b = true := by
  rw [nm_is] at h
  obtain ⟨⟨h0, h1⟩, h2⟩ := h
  refine ⟨h1, ?_⟩
  cases l with
  | nil => simp at h0
  | cons c t =>
    have hc := h2 0 c rfl
    simp only [if_true] at hc
    refine ⟨c, t, rfl, hc, fun b hb => ?_⟩
    obtain ⟨i, hi⟩ := List.mem_iff_getElem?.1 hb
    have := h2 i b hi
    split at this
    · unfold nbB; rw [this]; rfl
    · exact this
theorem nm_len {l : List UInt8} {c : UInt8} {t : List UInt8} (hl : l = c :: t) (hc : ltB c = true) (ha : ∀ b ∈ l, nbB b = true) : nmOk l = decide (l.length ≤ 32) := by
  rw [Bool.eq_iff_iff, nm_is, decide_eq_true_eq]
  constructor
  · exact fun h => h.1.2
  · intro h
    refine ⟨⟨by rw [hl]; simp, h⟩, fun i b hb => ?_⟩
    have hm := ha b (List.mem_of_getElem? hb)
    split
    · rename_i h0
      subst h0
      rw [hl] at hb
      simp at hb
      subst hb
      exact hc
    · exact hm
end Go.Proofs.YthfkbonbgdioaaaGreatDoor
