import Derived.Test.YtjckpkamhdbcnaaGreatDoorLxc
import Derived.Deep.LoopGhost
import Derived.Deep.CutBlock
import Derived.Deep.DeepCutAuto
import Derived.Deep.OwnRows
import Derived.Deep.RegionHeld3
import Derived.Shelf.Abstract
import Derived.Laws.Cover1
namespace Go.Proofs.YtjckpkamhdbcnaaGreatDoor
set_option linter.unusedSimpArgs false
set_option linter.unusedVariables false
open Go.RowKit
/-! Tokens as values; rows of them. -/
theorem bytesOf_size (l : List UInt8) : (bytesOf l).size = l.length := List.size_toArray
theorem bytesOf_data (s : ByteArray) : bytesOf s.data.toList = s := by
 unfold bytesOf
 exact ByteArray.ext (by simp)
theorem bytes_toList (l : List UInt8) : (bytesOf l).data.toList = l := by simp [bytesOf]
theorem bytesOf_inj {a b : List UInt8} (h : bytesOf a = bytesOf b) : a = b := by
 have := congrArg (fun s => s.data.toList) h
 simpa [bytesOf] using this
theorem ext_bytes (s : ByteArray) (a b : Nat) : s.extract a b = bytesOf ((s.data.toList.drop a).take (b - a)) := by
 rw [← bytesOf_data (s.extract a b)]
 congr 1
 simp [ByteArray.data_extract, List.drop_take, List.extract_eq_take_drop]
theorem span_is (q : UInt8 → Bool) : ∀ l : List UInt8, l = l.takeWhile q ++ l.dropWhile q ∧ (∀ c ∈ l.takeWhile q, q c = true) ∧ (l.dropWhile q = [] ∨ ∃ c t, l.dropWhile q = c :: t ∧ q c = false)
 | [] => ⟨rfl, by simp, .inl rfl⟩
 | c :: l => by
  obtain ⟨h1, h2, h3⟩ := span_is q l
  by_cases hc : q c = true
  ·simp only [List.takeWhile, List.dropWhile, hc]
   refine ⟨by rw [List.cons_append, ← h1], ?_, h3⟩
   intro x hx
   rcases List.mem_cons.1 hx with rfl | hx
   ·exact hc
   ·exact h2 x hx
  ·have hc' : q c = false := by simpa using hc
   simp only [List.takeWhile, List.dropWhile, hc']
   exact ⟨by simp, by simp, .inr ⟨c, l, rfl, hc'⟩⟩
theorem tw_take (f : UInt8 → Bool) (l : List UInt8) : l.take (l.takeWhile f).length = l.takeWhile f := by
 obtain ⟨h1, _, _⟩ := span_is f l
 generalize l.takeWhile f = x at *
 generalize l.dropWhile f = y at *
 subst h1
 simp
theorem drop_tw (f : UInt8 → Bool) (l : List UInt8) : l.drop (l.takeWhile f).length = l.dropWhile f := by
 obtain ⟨h1, _, _⟩ := span_is f l
 generalize l.takeWhile f = x at *
 generalize l.dropWhile f = y at *
 subst h1
 simp
theorem tw_lens (f : UInt8 → Bool) (l : List UInt8) : (l.takeWhile f).length + (l.dropWhile f).length = l.length := by
 have := congrArg List.length (span_is f l).1
 rw [List.length_append] at this
 exact this.symm
theorem tw_get (f : UInt8 → Bool) (l : List UInt8) (k : Nat) : (k < (l.takeWhile f).length → ∃ c, l[k]? = some c ∧ f c = true) ∧ (k = (l.takeWhile f).length → l.length = k ∨ ∃ c, l[k]? = some c ∧ f c = false) := by
 obtain ⟨h1, h2, h3⟩ := span_is f l
 generalize l.takeWhile f = x at *
 generalize l.dropWhile f = y at *
 subst h1
 constructor
 ·intro hk
  exact ⟨x[k], by rw [List.getElem?_append_left hk]; exact List.getElem?_eq_getElem hk, h2 _ (List.getElem_mem hk)⟩
 ·rintro rfl
  rcases h3 with rfl | ⟨c, t, rfl, hc⟩
  ·left; simp
  ·right
   exact ⟨c, by rw [List.getElem?_append_right (Nat.le_refl _)]; simp, hc⟩
def teqv (a b : Int) (t : ByteArray) (c d e a' b' : Int) (t' : ByteArray) (c' d' e' : Int) : Bool := decide (a = a' ∧ b = b' ∧ t = t' ∧ c = c' ∧ d = d' ∧ e = e')
theorem teqv_iff {a b : Int} {t : ByteArray} {c d e a' b' : Int} {t' : ByteArray} {c' d' e' : Int} : teqv a b t c d e a' b' t' c' d' e' = true ↔ a = a' ∧ b = b' ∧ t = t' ∧ c = c' ∧ d = d' ∧ e = e' := by simp [teqv]
theorem ite6 {w : World} {p1 p2 p3 p4 p5 p6 : Prop} [Decidable p1] [Decidable p2] [Decidable p3] [Decidable p4] [Decidable p5] [Decidable p6] {b : Bool} (h : b = true ↔ p1 ∧ p2 ∧ p3 ∧ p4 ∧ p5 ∧ p6) :
  (if p1 then if p2 then if p3 then if p4 then if p5 then if p6 then Result.ok (Value.bool true) w else Result.ok (Value.bool false) w else Result.ok (Value.bool false) w else Result.ok (Value.bool false) w else Result.ok (Value.bool false) w else Result.ok (Value.bool false) w else Result.ok (Value.bool false) w) = Result.ok (Value.bool b) w := by
 cases b
 ·simp only [Bool.false_eq_true, false_iff] at h
  repeat' split
  all_goals first | rfl | exact absurd ⟨‹_›, ‹_›, ‹_›, ‹_›, ‹_›, ‹_›⟩ h
 ·have := h.1 rfl
  simp [this]
theorem eql_tok (a b c d e a' b' c' d' e' : Int) (t t' : ByteArray) (w : World) :
  (binOp .eql 111 (.agg #[.int .i64 a, .int .i64 b, .string t, .int .i64 c, .int .i64 d, .int .i64 e]) (.agg #[.int .i64 a', .int .i64 b', .string t', .int .i64 c', .int .i64 d', .int .i64 e'])).run Tryz.prog w = .ok (.bool (teqv a b t c d e a' b' t' c' d' e')) w := by
 go_simp
 exact ite6 (by rw [teqv_iff, toList_inj])
theorem neq_tok (a b c d e a' b' c' d' e' : Int) (t t' : ByteArray) (w : World) :
  (binOp .neq 111 (.agg #[.int .i64 a, .int .i64 b, .string t, .int .i64 c, .int .i64 d, .int .i64 e]) (.agg #[.int .i64 a', .int .i64 b', .string t', .int .i64 c', .int .i64 d', .int .i64 e'])).run Tryz.prog w = .ok (.bool (!teqv a b t c d e a' b' t' c' d' e')) w := by
 have h := eql_tok a b c d e a' b' c' d' e' t t' w
 rw [run_eql_struct] at h
 rw [run_neq_struct]
 generalize (Op.equalIn 10000 111 _ _).run Tryz.prog w = r at h ⊢
 cases r with
 | ok x w1 =>
  simp only [Result.andThen_ok, Result.ok.injEq, Value.bool.injEq] at h ⊢
  simp [h]
 | halt x w1 => simp [Result.andThen] at h
def Tok.val (t : Tok) : Value := .agg #[.int .i64 t.kind, .int .i64 t.pos, .string (bytesOf t.text), .int .i64 t.dn, .int .i64 t.ds, .int .i64 t.day]
def tkCells (t : Tok) : List Value := [.int .i64 t.kind, .int .i64 t.pos, .string (bytesOf t.text), .int .i64 t.dn, .int .i64 t.ds, .int .i64 t.day]
def tsCells (l : List Tok) : List Value := l.flatMap tkCells
theorem tsCells_len (l : List Tok) : (tsCells l).length = 6 * l.length := by
 induction l with
 | nil => rfl
 | cons a l ih => unfold tsCells at ih ⊢; rw [List.flatMap_cons, List.length_append, ih]; simp [tkCells]; omega
theorem tsCells_app (a b : List Tok) : tsCells (a ++ b) = tsCells a ++ tsCells b := by simp [tsCells]
theorem tks_at : ∀ (l : List Tok) (j i : Nat) (x : Tok) (u : Value), l[j]? = some x → (tkCells x)[i]? = some u → (tsCells l)[j * 6 + i]? = some u
 | [], j, i, x, u, h, _ => by simp at h
 | y :: l, 0, i, x, u, h, hu => by
  obtain rfl : y = x := by simpa using h
  unfold tsCells
  rw [List.flatMap_cons, Nat.zero_mul, Nat.zero_add, List.getElem?_append_left (List.getElem?_eq_some_iff.1 hu).1]
  exact hu
 | y :: l, j + 1, i, x, u, h, hu => by
  unfold tsCells
  rw [List.flatMap_cons, List.getElem?_append_right (by simp [tkCells]; omega)]
  rw [show (j + 1) * 6 + i - (tkCells y).length = j * 6 + i by simp [tkCells]; omega]
  exact tks_at l j i x u h hu
/-- A token lies at an address. -/
def TokAt (w : World) (b o : Nat) (t : Tok) : Prop :=
 w.cell? ⟨b, o, none⟩ = some (.int .i64 t.kind) ∧ w.cell? ⟨b, o + 1, none⟩ = some (.int .i64 t.pos) ∧ w.cell? ⟨b, o + 2, none⟩ = some (.string (bytesOf t.text)) ∧
  w.cell? ⟨b, o + 3, none⟩ = some (.int .i64 t.dn) ∧ w.cell? ⟨b, o + 4, none⟩ = some (.int .i64 t.ds) ∧ w.cell? ⟨b, o + 5, none⟩ = some (.int .i64 t.day)
theorem TokAt.keep {w w' : World} {b o : Nat} {t : Tok} (h : TokAt w b o t) (hb : Bel w w') (hlt : b < w.heap.size) : TokAt w' b o t := by
 simp only [TokAt, hb.cells _ _ hlt]
 exact h
/-- A slice of tokens reads as a list. -/
def Toks (w : World) (A : Option Addr) (l : List Tok) : Prop := Row w A (tsCells l)
theorem Toks.keep {w w' : World} {A : Option Addr} {l : List Tok} (h : Toks w A l) (hb : Bel w w') : Toks w' A l := Row.keep h hb
theorem Toks.at {w : World} {A : Option Addr} {l : List Tok} (h : Toks w A l) (h0 : 0 < l.length) : ∃ b off, A = some ⟨b, off, none⟩ ∧ b < w.heap.size ∧ ∀ i t, l[i]? = some t → TokAt w b (off + i * 6) t := by
 obtain ⟨b, off, hA, hlt, hc⟩ := h (by rw [tsCells_len]; omega)
 refine ⟨b, off, hA, hlt, fun i t ht => ?_⟩
 have g := fun k u hu => hc _ u (tks_at l i k t u ht hu)
 refine ⟨?_, ?_, ?_, ?_, ?_, ?_⟩
 ·exact g 0 _ rfl
 ·exact g 1 _ rfl
 ·exact g 2 _ rfl
 ·exact g 3 _ rfl
 ·exact g 4 _ rfl
 ·exact g 5 _ rfl
theorem Toks.take {w : World} {A : Option Addr} {l : List Tok} (h : Toks w A l) (n : Nat) : Toks w A (l.take n) := fun h0 => by
 have hs : tsCells l = tsCells (l.take n) ++ tsCells (l.drop n) := by rw [← tsCells_app, List.take_append_drop]
 obtain ⟨b, off, hA, hlt, hc⟩ := h (by rw [hs, List.length_append]; omega)
 refine ⟨b, off, hA, hlt, fun j u hu => hc j u ?_⟩
 rw [hs, List.getElem?_append_left (List.getElem?_eq_some_iff.1 hu).1]
 exact hu
/-- Tokens that the call owns, from a block on. -/
def TkRows (w : World) (B : Nat) (v : Value) (l : List Tok) : Prop := w.ownsRow B 111 6 v l.length (tsCells l)
theorem TkRows.keep {w w' : World} {B : Nat} {v : Value} {l : List Tok} (h : TkRows w B v l) (hb : Bel w w') : TkRows w' B v l := own_keep h hb
theorem TkRows.nil (w : World) (B : Nat) : TkRows w B (.slice none 0 0) [] := World.ownsRow_nil w B _ _
theorem TkRows.val {w : World} {B : Nat} {v : Value} {l : List Tok} (h : TkRows w B v l) : ∃ A c, v = .slice A l.length c ∧ Toks w A l ∧ (A = none → c = 0) := by
 obtain ⟨A, c, e, h2, h3, _⟩ := own_row h
 exact ⟨A, c, e, h2, h3⟩
theorem infoTk : (Tryz.prog.info? 111).map (fun i => (i.zero, i.size, i.bytes)) = some (some (.agg #[.int .i64 0, .int .i64 0, .string ⟨#[]⟩, .int .i64 0, .int .i64 0, .int .i64 0]), 6, 56) := by kernel_rfl
theorem infoTk' : ∃ i0, Tryz.prog.info? 111 = some i0 ∧ i0.zero = some (.agg #[.int .i64 0, .int .i64 0, .string ⟨#[]⟩, .int .i64 0, .int .i64 0, .int .i64 0]) ∧ i0.size = 6 ∧ i0.bytes = 56 := by
 obtain ⟨i0, h1, h2⟩ := Option.map_eq_some_iff.1 infoTk
 simp only [Prod.mk.injEq] at h2
 exact ⟨i0, h1, h2.1, h2.2.1, h2.2.2⟩
theorem tkCells_one (t : Tok) : ∀ u ∈ tkCells t, u.oneCell' = true := by
 intro u hu
 simp only [tkCells, List.mem_cons, List.not_mem_nil, or_false] at hu
 rcases hu with rfl | rfl | rfl | rfl | rfl | rfl <;> rfl
theorem lit_row (w : World) (xs : List Value) (t : TypeId) : Row (w.alloc (.cells xs.toArray t)) (some ⟨w.heap.size, 0, none⟩) xs := fun _ => by
 refine ⟨w.heap.size, 0, rfl, by simp, fun j u hu => ?_⟩
 have hadd : (0 + j) = j := by omega
 rw [hadd, Lib.cell_of_heap (heap_alloc_new w _)]
 simpa using hu
/-- A token is put behind those that the call owns. -/
theorem app_tok {w : World} {B : Nat} {v : Value} {l : List Tok} (h : TkRows w B v l) (hB : B ≤ w.heap.size) (hlen : l.length ≤ 1000000) (t : Tok) (ty : TypeId) :
  ∃ v' w', (Builtin.append_ #[58, 58] ty #[v, .slice (some ⟨w.heap.size, 0, none⟩) 1 1]).run Tryz.prog (w.alloc (.cells #[.int .i64 t.kind, .int .i64 t.pos, .string (bytesOf t.text), .int .i64 t.dn, .int .i64 t.ds, .int .i64 t.day] 111)) = .ok v' w' ∧
   (TkRows w' B v' (l ++ [t]) ∧ BelBut w w' v.ownBlock) := by
 obtain ⟨i0, hi, hz0, hz1, hz2⟩ := infoTk'
 have ho := own_keep h ((Bel.refl w).alloc (.cells (tkCells t).toArray 111))
 obtain ⟨v', w', hr, k1, k2, k3⟩ := run_app (P := Tryz.prog) _ B 58 ty 111 i0 _ 6 56 Tryz.underlying58 hi hz0 hz1 hz2 rfl (by omega) ho (m := 1) (c := 1) (lit_row w (tkCells t) _) rfl (by simp) (tkCells_one t) (by simp only [maxLen]; omega) (by omega) (by simp; omega)
 refine ⟨v', w', hr, ?_, World.grownBy.trans ⟨((Bel.refl w).alloc _).os, ((Bel.refl w).alloc _).tape, ((Bel.refl w).alloc _).output, Below.size ((Bel.refl w).alloc _), fun k hk _ => ((Bel.refl w).alloc _).block k hk⟩ k2⟩
 unfold TkRows
 rw [List.length_append, tsCells_app]
 exact k1
theorem but_belT {w0 w1 w2 : World} {v : Value} {l : List Tok} (h0 : Bel w0 w1) (hM : TkRows w1 w0.heap.size v l) (h : BelBut w1 w2 v.ownBlock) : Bel w0 w2 :=
 BelBut.bel h0 h fun k hk => (World.ownsRow.lt hM k hk).1
end Go.Proofs.YtjckpkamhdbcnaaGreatDoor
