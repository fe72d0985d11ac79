import Derived.Test.YtjckpkamhdbcnaaGreatDoorKit
import Derived.Maps.AppendAt
import Derived.Laws.AppendOwnNone
import Derived.Deep.AppendLies
namespace Go.Proofs.YtjckpkamhdbcnaaGreatDoor
set_option linter.unusedSimpArgs false
set_option linter.unusedVariables false
open Go.RowKit
/-- The cells of a slice of which each element takes some cells. -/
def Row (w : World) (A : Option Addr) (xs : List Value) : Prop :=
 0 < xs.length → ∃ b off, A = some ⟨b, off, none⟩ ∧ b < w.heap.size ∧ ∀ j u, xs[j]? = some u → w.cell? ⟨b, off + j, none⟩ = some u
theorem Row.keep {w w' : World} {A : Option Addr} {xs : List Value} (h : Row w A xs) (hb : Bel w w') : Row w' A xs := fun h0 => by
 obtain ⟨b, off, hA, hlt, hc⟩ := h h0
 exact ⟨b, off, hA, Nat.lt_of_lt_of_le hlt hb.size, fun j u hu => (hb.cells _ _ hlt).trans (hc j u hu)⟩
theorem Row.nil {w : World} {A : Option Addr} : Row w A [] := fun h => absurd h (by simp)
section
variable {w w' : World} {B size n : Nat} {e : TypeId} {v : Value} {xs : List Value}
/-- What the call owns reads as a row. -/
theorem own_row (h : w.ownsRow B e size v n xs) : ∃ A c, v = .slice A n c ∧ Row w A xs ∧ (A = none → c = 0) ∧ (xs = [] ∨ ∃ g, A = some ⟨g, 0, none⟩ ∧ B ≤ g ∧ g < w.heap.size) := by
 have h' := h
 obtain ⟨hl, h2⟩ := h
 rcases h2 with ⟨rfl, rfl⟩ | ⟨g, cap, cur, rfl, hB, hh, hn, hm, hsz, ht⟩
 ·have : xs = [] := List.eq_nil_of_length_eq_zero (by simpa using hl)
  subst this
  exact ⟨none, 0, rfl, Row.nil, fun _ => rfl, .inl rfl⟩
 ·have hg : g < w.heap.size := by
   rcases Nat.lt_or_ge g w.heap.size with h | h
   ·exact h
   ·rw [Array.getElem?_eq_none h] at hh; cases hh
  refine ⟨some ⟨g, 0, none⟩, cap, rfl, fun _ => ⟨g, 0, rfl, hg, fun j u hu => ?_⟩, fun h => by (cases h), .inr ⟨g, rfl, hB, hg⟩⟩
  have := h'.cells (g := g) rfl j u hu
  rwa [Go.WideShapes.add_plain] at this
theorem own_keep (h : w.ownsRow B e size v n xs) (hb : Bel w w') : w'.ownsRow B e size v n xs :=
 h.kept (row := none) ⟨hb.os, hb.tape, hb.output, Below.size hb, fun k hk _ => hb.block k hk⟩ (by
  rcases h.2 with ⟨rfl, _⟩ | ⟨g, cap, cur, rfl, _⟩
  ·exact .inl rfl
  ·exact .inr (by simp [Value.ownBlock]))
theorem own_len (h : w.ownsRow B e size v n xs) : xs.length = n * size := h.1
end
/-- Nothing that was there has turned, but for one block of the call's own. -/
def BelBut (w w' : World) (row : Option Nat) : Prop := w.grownBy w' row
theorem BelBut.keepOwn {w w' : World} {row : Option Nat} {B size n : Nat} {e : TypeId} {v : Value} {xs : List Value} (hb : BelBut w w' row) (h : w.ownsRow B e size v n xs) (hne : v.ownBlock = none ∨ v.ownBlock ≠ row) : w'.ownsRow B e size v n xs :=
 h.kept hb hne
theorem BelBut.bel {w0 w w' : World} {row : Option Nat} (h0 : Bel w0 w) (hb : BelBut w w' row) (hr : ∀ k, row = some k → w0.heap.size ≤ k) : Bel w0 w' :=
 Below.grown h0 hb h0.size hr
theorem BelBut.row {w w' : World} {row : Option Nat} {A : Option Addr} {xs : List Value} (hb : BelBut w w' row) (h : Row w A xs) (hr : ∀ k a, row = some k → A = some a → a.block ≠ k) : Row w' A xs := fun h0 => by
 obtain ⟨b, off, hA, hlt, hc⟩ := h h0
 refine ⟨b, off, hA, Nat.lt_of_lt_of_le hlt hb.size, fun j u hu => ?_⟩
 rw [← hc j u hu]
 exact World.cell?_of_block (hb.block b hlt (fun e => hr b _ e.symm hA rfl))
/-- append onto a row of the call's own, whatever the source. -/
theorem run_app {P : Program} (w : World) (B : Nat) (t ty e : TypeId) (i : TypeInfo) (z : Value) (size bytes : Nat) (ht : P.underlying t = some (.slice e)) (hi : P.info? e = some i) (hz : i.zero = some z)
  (hsize : i.size = size) (hby : i.bytes = bytes) (hzs : z.cells.size = size) (hsz : 0 < size) {v : Value} {n : Nat} {xs : List Value} (hown : w.ownsRow B e size v n xs)
  {A : Option Addr} {m c : Nat} {news : List Value} (hrow : Row w A news) (hlen : news.length = m * size) (hA : A = none → c = 0) (h1 : ∀ u ∈ news, u.oneCell' = true)
  (h63 : n + m ≤ maxLen) (hbytes : (n + m) * bytes ≤ 140737488355328) (hbase : B ≤ w.heap.size) :
  ∃ v' w', (Builtin.append_ #[t, t] ty #[v, .slice A m c]).run P w = .ok v' w' ∧ w'.ownsRow B e size v' (n + m) (xs ++ news) ∧ BelBut w w' v.ownBlock ∧
   (v'.ownBlock = v.ownBlock ∨ v'.ownBlock = some w.heap.size) := by
 cases A with
 | none =>
  have hn : news = [] := by
   rcases Nat.eq_zero_or_pos news.length with h | h
   ·exact List.eq_nil_of_length_eq_zero h
   ·obtain ⟨b, off, hh, _⟩ := hrow h
    cases hh
  subst hn
  have hm : m = 0 := by
   have : m * size = 0 := by simpa using hlen.symm
   rcases Nat.mul_eq_zero.1 this with h | h
   ·exact h
   ·omega
  subst hm
  rw [hA rfl]
  exact ⟨v, w, run_append_owned_none (P := P) (w := w) B t ty e i size ht hi v n xs hown, by simpa using hown, World.grownBy.refl w _, .inl rfl⟩
 | some ad =>
  have hcells : ∀ j u, news[j]? = some u → w.cell? (ad.add j) = some u := by
   intro j u hu
   obtain ⟨b, off, hh, _, hc⟩ := hrow (by
    have := (List.getElem?_eq_some_iff.1 hu).1
    omega)
   cases hh
   rw [Go.WideShapes.add_plain]
   exact hc j u hu
  obtain ⟨v', w', hrun, h2, h3, _, h5⟩ := run_append_own_at (P := P) w B t ty e i z size bytes ht hi hz hsize hby hzs hsz v n xs hown ad m c news hlen hcells h1 h63 hbytes hbase
  exact ⟨v', w', hrun, h2, h3, h5⟩
theorem wpList_app {P : Program} {w : World} {ops : Array Oper} {rest : List Oper} {o : Oper} {a : Act} {Q : Exit → Act → World → Prop} (hgd : o.guard = none) (s x : Operand) (t : TypeId)
  (ho : o.op = .call { callee := .builtin .append, args := #[s, x], argTypes := #[t, t] }) {R : Value → World → Prop}
  (hrun : ∃ v' w', (Builtin.append_ #[t, t] o.type #[a.eval s, a.eval x]).run P w = .ok v' w' ∧ R v' w')
  (h : ∀ v' w', R v' w' → wpList P ops Q rest (a.put o.dst v') w') : wpList P ops Q (o :: rest) a w := by
 obtain ⟨v', w', hr, hR⟩ := hrun
 refine wpList_plain hgd fun K hK => ?_
 unfold Oper.wp execOp
 simp only [ho, resolve, invoke, builtin, Sem.run_bind, Sem.run_pure, Result.andThen_ok, List.map_toArray, List.map_cons, List.map_nil, hr]
 exact hK _ _ (h v' w' hR)
end Go.Proofs.YtjckpkamhdbcnaaGreatDoor
