import Derived.Test.YtobdokeklcdpoaaDoorMle
import Derived.Test.YtobdokeklcdpoaaDoorMla
namespace Go.Proofs.YtobdokeklcdpoaaDoor
set_option linter.unusedSimpArgs false
set_option linter.unusedVariables false
open Go.RowKit

/-! A row of marks whose attributes were there before. -/
def FCells (w : World) (B : Nat) : List Mk → List Value → Prop
  | [], xs => xs = []
  | m :: ms, xs => ∃ A c ys, xs = mkHead m A c ++ ys ∧ Row w A (atsCells m.attrs) ∧ (∀ a, A = some a → 0 < m.attrs.length → a.block < B) ∧ FCells w B ms ys
theorem FCells.len {w : World} {B : Nat} : ∀ {ms : List Mk} {xs : List Value}, FCells w B ms xs → xs.length = ms.length * 5
  | [], xs, h => by rw [show xs = [] from h]; rfl
  | m :: ms, xs, h => by
    obtain ⟨A, c, ys, rfl, _, _, h4⟩ := h
    rw [List.length_append, h4.len, List.length_cons, Nat.add_mul]
    show 5 + _ = _
    omega
theorem row_but {w w' : World} {B : Nat} {row : Option Nat} {A : Option Addr} {al : List (List UInt8 × List UInt8)} (hb : BelBut w w' row) (hr : ∀ b, row = some b → B ≤ b) (h2 : Row w A (atsCells al)) (h3 : ∀ a, A = some a → 0 < al.length → a.block < B) : Row w' A (atsCells al) := by
  by_cases h0 : 0 < al.length
  · refine hb.row h2 (fun k a hk ha e => ?_)
    have := h3 a ha h0
    have := hr k hk
    omega
  · intro h
    rw [atsCells_len] at h
    omega
theorem FCells.move {w w' : World} {B : Nat} {row : Option Nat} (hb : BelBut w w' row) (hr : ∀ b, row = some b → B ≤ b) : ∀ {ms : List Mk} {xs : List Value}, FCells w B ms xs → FCells w' B ms xs
  | [], xs, h => h
  | m :: ms, xs, h => by
    obtain ⟨A, c, ys, rfl, h2, h3, h4⟩ := h
    exact ⟨A, c, ys, rfl, row_but hb hr h2 h3, h3, h4.move hb hr⟩
theorem FCells.snoc {w : World} {B : Nat} {m : Mk} {A : Option Addr} {c : Nat} (h2 : Row w A (atsCells m.attrs)) (h3 : ∀ a, A = some a → 0 < m.attrs.length → a.block < B) : ∀ {ms : List Mk} {xs : List Value}, FCells w B ms xs → FCells w B (ms ++ [m]) (xs ++ mkHead m A c)
  | [], xs, h => by
    rw [show xs = [] from h]
    exact ⟨A, c, [], by simp, h2, h3, rfl⟩
  | n :: ms, xs, h => by
    obtain ⟨A', c', ys, rfl, k2, k3, k4⟩ := h
    exact ⟨A', c', ys ++ mkHead m A c, by simp, k2, k3, k4.snoc h2 h3⟩
theorem FCells.at_ {w : World} {B : Nat} : ∀ {ms : List Mk} {xs : List Value} (j : Nat) (m : Mk), FCells w B ms xs → ms[j]? = some m → ∃ A c, Row w A (atsCells m.attrs) ∧ ∀ i u, (mkHead m A c)[i]? = some u → xs[j * 5 + i]? = some u
  | [], xs, j, m, _, h => by simp at h
  | n :: ms, xs, 0, m, h, hj => by
    obtain rfl : n = m := by simpa using hj
    obtain ⟨A, c, ys, rfl, h2, _, _⟩ := h
    refine ⟨A, c, h2, fun i u hu => ?_⟩
    rw [Nat.zero_mul, Nat.zero_add, List.getElem?_append_left (List.getElem?_eq_some_iff.1 hu).1]
    exact hu
  | n :: ms, xs, j + 1, m, h, hj => by
    obtain ⟨A, c, ys, rfl, h2, _, h4⟩ := h
    obtain ⟨A', c', k1, k2⟩ := h4.at_ j m hj
    refine ⟨A', c', k1, fun i u hu => ?_⟩
    have hl : (mkHead n A c).length = 5 := rfl
    rw [List.getElem?_append_right (by rw [hl]; omega), hl, show (j + 1) * 5 + i - 5 = j * 5 + i by omega]
    exact k2 i u hu
def Few (w : World) (B : Nat) (v : Value) (ms : List Mk) : Prop := ∃ xs, w.ownsRow B 31 5 v ms.length xs ∧ FCells w B ms xs
theorem Few.keep {w w' : World} {B : Nat} {v : Value} {ms : List Mk} (h : Few w B v ms) (hb : Bel w w') : Few w' B v ms := by
  obtain ⟨xs, h1, h2⟩ := h
  exact ⟨xs, own_keep h1 hb, h2.move (bel_but hb none) (fun b e => by cases e)⟩
theorem Few.nil (w : World) (B : Nat) : Few w B (.slice none 0 0) [] := ⟨[], World.ownsRow_nil w B _ _, rfl⟩
theorem Few.val {w : World} {B : Nat} {v : Value} {ms : List Mk} (h : Few w B v ms) : ∃ A c, v = .slice A ms.length c := by
  obtain ⟨xs, h1, _⟩ := h
  obtain ⟨A, c, e, _⟩ := own_row h1
  exact ⟨A, c, e⟩
theorem Few.reads {w : World} {B : Nat} {A : Option Addr} {n c : Nat} {ms : List Mk} (h : Few w B (.slice A n c) ms) : Mks w A ms := fun h0 => by
  obtain ⟨xs, h1, h2⟩ := h
  obtain ⟨A', c', e', hr, _⟩ := own_row h1
  cases e'
  obtain ⟨b, off, e, hlt, hc⟩ := hr (by rw [h2.len]; omega)
  refine ⟨b, off, e, hlt, fun j m hj => ?_⟩
  obtain ⟨A2, c2, k1, k2⟩ := h2.at_ j m hj
  have g := fun i u hu => hc (j * 5 + i) u (k2 i u hu)
  refine ⟨A2, c2, ?_, ?_, ?_, ?_, ?_, k1⟩
  · exact g 0 _ rfl
  · exact g 1 _ rfl
  · exact g 2 _ rfl
  · exact g 3 _ rfl
  · exact g 4 _ rfl
theorem Few.at_ {w : World} {B : Nat} {A : Option Addr} {n c : Nat} {ms : List Mk} (h : Few w B (.slice A n c) ms) : Mks w A ms := h.reads
/-- A mark is put behind those that the call owns. -/
theorem app_few {w : World} {B : Nat} {v : Value} {ms : List Mk} (h : Few w B v ms) (hB : B ≤ w.heap.size) (hlen : ms.length ≤ 65536) (m : Mk) (A : Option Addr) (c : Nat) (h2 : Row w A (atsCells m.attrs)) (h3 : ∀ a, A = some a → 0 < m.attrs.length → a.block < B) (ty : TypeId) :
    ∃ v' w', (Builtin.append_ #[22, 22] ty #[v, .slice (some ⟨w.heap.size, 0, none⟩) 1 1]).run Tryd.prog (w.alloc (.cells (mkHead m A c).toArray 31)) = .ok v' w' ∧
      (Few w' B v' (ms ++ [m]) ∧ Below B w w') := by
  obtain ⟨xs, h1, hm⟩ := h
  obtain ⟨i0, hi, hz0, hz1, hz2⟩ := infoMk'
  have hl := World.ownsRow.lt h1
  have ho := own_keep h1 ((Bel.refl w).alloc (.cells (mkHead m A c).toArray 31))
  obtain ⟨v', w', hr, k1, k2, k3⟩ := run_app (P := Tryd.prog) _ B 22 ty 31 i0 _ 5 72 Tryd.underlying22 hi hz0 hz1 hz2 rfl (by omega) ho (m := 1) (c := 1) (lit_row w (mkHead m A c) _) rfl (by simp) (mkHead_one m A c) (by simp only [maxLen]; omega) (by omega) (by simp; omega)
  have hb : BelBut w w' v.ownBlock := but_trans (bel_but ((Bel.refl w).alloc _) _) k2
  have hge : ∀ b, v.ownBlock = some b → B ≤ b := fun b e => (hl b e).1
  refine ⟨v', w', hr, ⟨xs ++ mkHead m A c, by rw [List.length_append]; exact k1, ?_⟩, ⟨hb.os, hb.tape, hb.output, hb.size, fun k hk => hb.block k (by omega) (fun e => by have := hge k e.symm; omega)⟩⟩
  exact FCells.snoc (row_but hb hge h2 h3) h3 (hm.move hb hge)
theorem app_few' {w : World} {B : Nat} {v : Value} {ms : List Mk} (h : Few w B v ms) (hB : B ≤ w.heap.size) (hlen : ms.length ≤ 65536) (k x : Int) (nm tx : List UInt8) (al : List (List UInt8 × List UInt8)) (A : Option Addr) (c : Nat) (h2 : Row w A (atsCells al)) (h3 : ∀ a, A = some a → 0 < al.length → a.block < B) (ty : TypeId) :
    ∃ v' w', (Builtin.append_ #[22, 22] ty #[v, .slice (some ⟨w.heap.size, 0, none⟩) 1 1]).run Tryd.prog (w.alloc (.cells #[.int .i64 k, .int .i64 x, .string (bytesOf nm), .slice A al.length c, .string (bytesOf tx)] 31)) = .ok v' w' ∧
      (Few w' B v' (ms ++ [⟨k, x, nm, al, tx⟩]) ∧ Below B w w') := app_few h hB hlen ⟨k, x, nm, al, tx⟩ A c h2 h3 ty
theorem altM_snoc : ∀ (fs : List Mk) (m : Mk), altM fs → (m.kind = 3 → m.text ≠ [] ∧ ∀ n, fs.getLast? = some n → n.kind ≠ 3) → altM (fs ++ [m])
  | [], m, _, h => ⟨fun k => ⟨(h k).1, fun n hn => by cases hn⟩, trivial⟩
  | [x], m, hx, h => by
    refine ⟨fun k => ⟨(hx.1 k).1, fun n hn => ?_⟩, ⟨fun k => ⟨(h k).1, fun n hn => by cases hn⟩, trivial⟩⟩
    obtain rfl : m = n := by simpa using hn
    intro k2
    exact (h k2).2 x rfl k
  | x :: y :: t, m, hx, h => by
    have := altM_snoc (y :: t) m hx.2 (fun k => ⟨(h k).1, fun n hn => (h k).2 n (by simpa using hn)⟩)
    exact ⟨fun k => ⟨(hx.1 k).1, fun n hn => (hx.1 k).2 n (by simpa using hn)⟩, this⟩
end Go.Proofs.YtobdokeklcdpoaaDoor
