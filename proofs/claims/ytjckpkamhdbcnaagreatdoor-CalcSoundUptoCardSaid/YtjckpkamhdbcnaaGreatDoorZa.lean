import Derived.Test.YtjckpkamhdbcnaaGreatDoorRows
import Derived.WalkKit
import Derived.WalkSpells
import Derived.ProofKit
import Derived.Outline
import Derived.Below
import Derived.Deep.RegionHeld3
import Derived.Lib.Hide
import Derived.OpenShut
import Derived.Deep.Slices
import Derived.Maps.AppendAt
import Derived.Laws.AppendOwnNone
import Derived.Deep.AppendLies
import Derived.OrdersHeld
namespace Go.Proofs.YtjckpkamhdbcnaaGreatDoor
set_option linter.unusedSimpArgs false
set_option linter.unusedVariables false
section
open Go.RowKit
theorem Qba (a b : ByteArray) : a.toList = b.toList ↔ a = b := by
 constructor
 ·intro h
  rw [ByteArray.toList_eq, ByteArray.toList_eq] at h
  obtain ⟨⟨x⟩⟩ := a
  obtain ⟨⟨y⟩⟩ := b
  simp_all
 rintro rfl; rfl
def Bel (w w' : World) : Prop := Below w.heap.size w w'
theorem Bel.refl (w : World) : Bel w w := Below.refl _ _
theorem Bel.size {w w' : World} (h : Bel w w') : w.heap.size <= w'.heap.size := Below.size h
theorem Bel.trans {a b c : World} (h : Bel a b) (k : Bel b c) : Bel a c := Below.trans h (Below.mono k h.size)
theorem Bel.drew {a b : World} (h : Bel a b) : Bel a b.drew := Below.drew h
theorem Bel.alloc {a b : World} (h : Bel a b) (o : Obj) : Bel a (b.alloc o) := Below.alloc h h.size o
theorem Bel.setCell {a b : World} (h : Bel a b) {p : Addr} (hp : a.heap.size <= p.block) (u : Value) : Bel a (b.setCell p u) := Below.setCell h hp u
theorem Hd {p : Prop} (h : p) : Go.RowKit.Hid p := h
theorem Bel.y {w w' : World} (h : Bel w w' := by (with_reducible repeat first | exact Bel.refl _ | refine Bel.setCell ?_ (by first | exact Nat.le_refl _ | (dsimp only; omega)) _ | refine Bel.alloc ?_ _ | refine Bel.drew ?_ | assumption | refine Bel.trans ?_ (by assumption))) : Bel w w' := h
theorem dF {p : Prop} [Decidable p] (h : ¬p) : decide p = false := decide_eq_false h
theorem dT {p : Prop} [Decidable p] (h : p) : decide p = true := decide_eq_true h
theorem bN {α : Type _} [BEq α] [LawfulBEq α] {a b : α} : (a == b) = false ↔ a ≠ b := beq_eq_false_iff_ne
theorem pR {P : Program} {fn : Func} {R : Ending → World → Prop} {a : Act} {w : World} {v : Value} (hr : (results fn a.tmps).run P w = .ok v w) (hd : a.defers = []) (hR : R (.returned v) w) : bodyPost P fn R .ret a w := bodyPost_ret hr hd hR
theorem lL {a b c : Nat} (h : a < b) (k : b ≤ c) : a < c := Nat.lt_of_lt_of_le h k
theorem gE {α : Type _} {l : List α} {i : Nat} (h : i < l.length) : l[i]? = some l[i] := List.getElem?_eq_getElem h
theorem iN {c : Prop} {h : Decidable c} (hnc : ¬c) {α : Sort _} {t e : α} : ite c t e = e := if_neg hnc
theorem iP {c : Prop} {h : Decidable c} (hc : c) {α : Sort _} {t e : α} : ite c t e = t := if_pos hc
theorem bA (a b : Bool) : ((a && b) = true) = (a = true ∧ b = true) := Bool.and_eq_true a b
theorem lA {α : Type _} {xs ys : List α} : (xs ++ ys).length = xs.length + ys.length := List.length_append
theorem Bel.cell {a b : World} (h : Bel a b) {p : Addr} (hp : p.block < a.heap.size) : b.cell? p = a.cell? p := Below.cell h hp
theorem Bel.cells {a b : World} (h : Bel a b) : ∀ k o, k < a.heap.size -> b.cell? ⟨k, o, none⟩ = a.cell? ⟨k, o, none⟩ := fun k o hk => Below.cell h (p := ⟨k, o, none⟩) hk
theorem Bel.frozens {a b : World} (h : Bel a b) : ∀ k o, k < a.heap.size -> b.frozen? ⟨k, o, none⟩ = a.frozen? ⟨k, o, none⟩ := fun k o hk => Below.frozen h (p := ⟨k, o, none⟩) hk
theorem Bel.lt1 {w w1 : World} {o : Obj} (h : Bel (w.alloc o) w1) : w.heap.size < w1.heap.size := by have := h.size; simp at this; omega
theorem Bel.lt2 {w w1 : World} {o o' : Obj} (h : Bel ((w.alloc o).alloc o') w1) : w.heap.size < w1.heap.size /\ w.heap.size + 1 < w1.heap.size := by have := h.size; simp at this; omega
theorem uN {P : Program} {c : Code} {Q : Exit -> Act -> World -> Prop} {a : Act} {w0 w : World} (hb : Bel w0 w)
  (h : ∀ W, (∀ p, W.cell? p = w.cell? p) -> (∀ p, W.frozen? p = w.frozen? p) -> W.heap.size = w.heap.size -> Bel w0 W -> c.wp P Q a W) : c.wp P Q a w :=
 h w (fun _ => rfl) (fun _ => rfl) rfl hb
theorem Qac {P : Program} {f : FuncId} {args : Array Value} {Q : Ending -> World -> Prop} {w0 w : World} (hb : Bel w0 w)
  (h : ∀ W, (∀ p, W.cell? p = w.cell? p) -> (∀ p, W.frozen? p = w.frozen? p) -> W.heap.size = w.heap.size -> Bel w0 W -> Calls P f args W Q) : Calls P f args w Q :=
 h w (fun _ => rfl) (fun _ => rfl) rfl hb
theorem keep0 {W : World} : Bel W W.drew /\ (∀ b o, b < W.heap.size -> W.drew.cell? ⟨b, o, none⟩ = W.cell? ⟨b, o, none⟩) :=
 ⟨(Bel.refl _).drew, fun _ _ _ => rfl⟩
theorem keep1 {W w1 w2 : World} (h : Bel W w1 /\ (∀ b o, b < W.heap.size -> w1.cell? ⟨b, o, none⟩ = W.cell? ⟨b, o, none⟩)) (hb : Bel w1 w2) :
  Bel W w2 /\ (∀ b o, b < W.heap.size -> w2.cell? ⟨b, o, none⟩ = W.cell? ⟨b, o, none⟩) :=
 have k : Bel W w2 := h.1.trans hb
 ⟨k, k.cells⟩
end
section
open Go.ChangeShapes Go.WideShapes Go.ChangeAt Go.RowKit
section
variable {H : Type} {enc : TypeId × Value -> H} {P : Program}
end
end
section
open Go.ChangeShapes Go.WideShapes Go.ChangeAt Go.RowKit Go.Deep
theorem Tryz.own : ownKnob Tryz.prog.godebug = none := by kernel_rfl
def In64 (n : Int) : Prop := -9223372036854775808 <= n /\ n <= 9223372036854775807
theorem Qgk {n : Int} (h : (Lit.int .i64 n).wf = true) : In64 n := by
 simp [Lit.wf, IntKind.min, IntKind.max, IntKind.signed, IntKind.bits] at h
 exact ⟨by omega, by omega⟩
theorem Qbk {fs : Array Field} {i : Nat} {t : TypeId} {o : Nat} (h : (fs[i]?).map (fun f => (f.type, f.offset)) = some (t, o)) : ∃ f, fs[i]? = some f /\ f.type = t /\ f.offset = o := by
 cases hf : fs[i]? with
 | none => rw [hf] at h; cases h
 | some f =>
  rw [hf] at h
  simp only [Option.map_some, Option.some.injEq, Prod.mk.injEq] at h
  exact ⟨f, rfl, h.1, h.2⟩
end
section
open Go.RowKit
def Row (w : World) (A : Option Addr) (xs : List Value) : Prop :=
 0 < xs.length -> ∃ b off, A = some ⟨b, off, none⟩ /\ b < w.heap.size /\ ∀ j u, xs[j]? = some u -> w.cell? ⟨b, off + j, none⟩ = some u
theorem Row.keep {w w' : World} {A : Option Addr} {xs : List Value} (h : Row w A xs) (hb : Bel w w') : Row w' A xs := fun h0 => by
 obtain ⟨b, off, hA, hlt, hc⟩ := h h0
 exact ⟨b, off, hA, lL hlt hb.size, fun j u hu => (hb.cells _ _ hlt).trans (hc j u hu)⟩
theorem Row.nil {w : World} {A : Option Addr} : Row w A [] := fun h => absurd h (by simp)
section
variable {w w' : World} {B size n : Nat} {e : TypeId} {v : Value} {xs : List Value}
theorem Qef (h : w.ownsRow B e size v n xs) : ∃ A c, v = .slice A n c /\ Row w A xs /\ (A = none -> c = 0) /\ (xs = [] \/ ∃ g, A = some ⟨g, 0, none⟩ /\ B <= g /\ g < w.heap.size) := by
 have h' := h
 obtain ⟨hl, h2⟩ := h
 rcases h2 with ⟨rfl, rfl⟩ | ⟨g, cap, cur, rfl, hB, hh, hn, hm, hsz, ht⟩
 ·have : xs = [] := List.eq_nil_of_length_eq_zero (by simpa using hl)
  subst this
  exact ⟨none, 0, rfl, Row.nil, fun _ => rfl, .inl rfl⟩
 have hg : g < w.heap.size := by
  rcases Nat.lt_or_ge g w.heap.size with h | h
  ·exact h
  rw [Array.getElem?_eq_none h] at hh; cases hh
 refine ⟨some ⟨g, 0, none⟩, cap, rfl, fun _ => ⟨g, 0, rfl, hg, fun j u hu => ?_⟩, fun h => by (cases h), .inr ⟨g, rfl, hB, hg⟩⟩
 have := h'.cells (g := g) rfl j u hu
 rwa [Go.WideShapes.add_plain] at this
theorem Qe0 (h : w.ownsRow B e size v n xs) (hb : Bel w w') : w'.ownsRow B e size v n xs :=
 h.kept (row := none) ⟨hb.os, hb.tape, hb.output, Below.size hb, fun k hk _ => hb.block k hk⟩ (by
  rcases h.2 with ⟨rfl, _⟩ | ⟨g, cap, cur, rfl, _⟩
  ·exact .inl rfl
  exact .inr (by simp [Value.ownBlock]))
end
def BelBut (w w' : World) (row : Option Nat) : Prop := w.grownBy w' row
theorem BelBut.bel {w0 w w' : World} {row : Option Nat} (h0 : Bel w0 w) (hb : BelBut w w' row) (hr : ∀ k, row = some k -> w0.heap.size <= k) : Bel w0 w' :=
 Below.grown h0 hb h0.size hr
theorem BelBut.row {w w' : World} {row : Option Nat} {A : Option Addr} {xs : List Value} (hb : BelBut w w' row) (h : Row w A xs) (hr : ∀ k a, row = some k -> A = some a -> a.block ≠ k) : Row w' A xs := fun h0 => by
 obtain ⟨b, off, hA, hlt, hc⟩ := h h0
 refine ⟨b, off, hA, lL hlt hb.size, fun j u hu => ?_⟩
 rw [← hc j u hu]
 exact World.cell?_of_block (hb.block b hlt (fun e => hr b _ e.symm hA rfl))
theorem Qik {P : Program} (w : World) (B : Nat) (t ty e : TypeId) (i : TypeInfo) (z : Value) (size bytes : Nat) (ht : P.underlying t = some (.slice e)) (hi : P.info? e = some i) (hz : i.zero = some z)
  (hsize : i.size = size) (hby : i.bytes = bytes) (hzs : z.cells.size = size) (hsz : 0 < size) {v : Value} {n : Nat} {xs : List Value} (hown : w.ownsRow B e size v n xs)
  {A : Option Addr} {m c : Nat} {news : List Value} (hrow : Row w A news) (hlen : news.length = m * size) (hA : A = none -> c = 0) (h1 : ∀ u ∈ news, u.oneCell' = true)
  (h63 : n + m <= maxLen) (hbytes : (n + m) * bytes <= 140737488355328) (hbase : B <= w.heap.size) :
  ∃ v' w', (Builtin.append_ #[t, t] ty #[v, .slice A m c]).run P w = .ok v' w' /\ w'.ownsRow B e size v' (n + m) (xs ++ news) /\ BelBut w w' v.ownBlock /\
   (v'.ownBlock = v.ownBlock \/ v'.ownBlock = some w.heap.size) := by
 cases A with
 | none =>
  have hn : news = [] := by
   rcases Nat.eq_zero_or_pos news.length with h | h
   ·exact List.eq_nil_of_length_eq_zero h
   obtain ⟨b, off, hh, _⟩ := hrow h
   cases hh
  subst hn
  have hm : m = 0 := by
   have : m * size = 0 := by simpa using hlen.symm
   rcases Nat.mul_eq_zero.1 this with h | h
   ·exact h
   omega
  subst hm
  rw [hA rfl]
  exact ⟨v, w, run_append_owned_none (P := P) (w := w) B t ty e i size ht hi v n xs hown, by simpa using hown, World.grownBy.refl w _, .inl rfl⟩
 | some ad =>
  have hcells : ∀ j u, news[j]? = some u -> w.cell? (ad.add j) = some u := by
   intro j u hu
   obtain ⟨b, off, hh, _, hc⟩ := hrow (by
    have := (List.getElem?_eq_some_iff.1 hu).1
    omega)
   cases hh
   rw [Go.WideShapes.add_plain]
   exact hc j u hu
  obtain ⟨v', w', hrun, h2, h3, _, h5⟩ := run_append_own_at (P := P) w B t ty e i z size bytes ht hi hz hsize hby hzs hsz v n xs hown ad m c news hlen hcells h1 h63 hbytes hbase
  exact ⟨v', w', hrun, h2, h3, h5⟩
theorem Qeg {P : Program} {w : World} {ops : Array Oper} {rest : List Oper} {o : Oper} {a : Act} {Q : Exit -> Act -> World -> Prop} (hgd : o.guard = none) (s x : Operand) (t : TypeId)
  (ho : o.op = .call { callee := .builtin .append, args := #[s, x], argTypes := #[t, t] }) {R : Value -> World -> Prop}
  (hrun : ∃ v' w', (Builtin.append_ #[t, t] o.type #[a.eval s, a.eval x]).run P w = .ok v' w' /\ R v' w')
  (h : ∀ v' w', R v' w' -> wpList P ops Q rest (a.put o.dst v') w') : wpList P ops Q (o :: rest) a w := by
 obtain ⟨v', w', hr, hR⟩ := hrun
 refine wpList_plain hgd fun K hK => ?_
 unfold Oper.wp execOp
 simp only [ho, resolve, invoke, builtin, Sem.run_bind, Sem.run_pure, Result.andThen_ok, List.map_toArray, List.map_cons, List.map_nil, hr]
 exact hK _ _ (h v' w' hR)
end
section
open Go
def gives (P : Program) (o : Oper) (a : Act) (w : World) (R : Value -> World -> Prop) : Prop :=
 match (execOp a.eval o).run P w with
 | .ok (.value v) w' => R v w'
 | .ok .skip w' => R undef w'
 | .ok (.enter f args) w' => Calls P f args w' fun e w'' => ∃ v, e = .returned v /\ R v w''
 | _ => False
theorem Qpq {P : Program} {o : Oper} {a : Act} {w : World} {R : Value -> World -> Prop} {K : Act -> World -> Prop} {Q : Exit -> Act -> World -> Prop}
  (h : gives P o a w R) (hk : ∀ v w', R v w' -> K (a.put o.dst v) w') : o.wp P a w K Q := by
 unfold gives at h
 unfold Oper.wp
 generalize (execOp a.eval o).run P w = r at h ⊢
 cases r with
 | halt x w' => exact h.elim
 | ok n w' =>
  cases n with
  | value v => exact hk _ _ h
  | skip => exact hk _ _ h
  | enter f args => exact Calls.mono h fun e w'' ⟨v, he, hr⟩ => by subst he; exact hk _ _ hr
  | defer d => exact h.elim
  | _ => exact h.elim
def Gives (P : Program) (ops : Array Oper) (S : World -> Prop) (o : Oper) (v : Value) (a : Act) : Prop :=
 (Region.wanted o (yielded ops a.tmps) = true /\ ∀ w, S w -> gives P o a w fun u w' => u = v /\ S w') \/
 (Region.wanted o (yielded ops a.tmps) = false /\ v = undef)
def wpUni (P : Program) (ops : Array Oper) (S : World -> Prop) (R : Act -> Prop) : List Oper -> Act -> Prop
 | [], a => R a
 | o :: rest, a => ∃ v, Gives P ops S o v a /\ wpUni P ops S R rest (a.put o.dst v)
section
variable {P : Program} {ops : Array Oper} {S : World -> Prop} {R : Act -> Prop} {o : Oper} {rest : List Oper} {a : Act} {v : Value}
theorem Qbp (h : R a) : wpUni P ops S R [] a := h
theorem Qbg (hw : Region.wanted o (yielded ops a.tmps) = false) (h : wpUni P ops S R rest (a.put o.dst undef)) : wpUni P ops S R (o :: rest) a :=
 ⟨_, .inr ⟨hw, rfl⟩, h⟩
theorem Qa7 (hw : Region.wanted o (yielded ops a.tmps) = true) (hv : ∀ w, S w -> (execOp a.eval o).run P w = .ok (.value v) w)
  (h : wpUni P ops S R rest (a.put o.dst v)) : wpUni P ops S R (o :: rest) a :=
 ⟨v, .inl ⟨hw, fun w hS => by unfold gives; rw [hv w hS]; exact ⟨rfl, hS⟩⟩, h⟩
theorem Qbo {f : FuncId} {args : Array Value} (hw : Region.wanted o (yielded ops a.tmps) = true) (hv : ∀ w, (execOp a.eval o).run P w = .ok (.enter f args) w)
  (hc : ∀ w, S w -> Calls P f args w fun e w' => e = .returned v /\ S w')
  (h : wpUni P ops S R rest (a.put o.dst v)) : wpUni P ops S R (o :: rest) a :=
 ⟨v, .inl ⟨hw, fun w hS => by unfold gives; rw [hv w]; exact (hc w hS).mono fun e w' ⟨he, hs⟩ => ⟨v, he, rfl, hs⟩⟩, h⟩
end
def uniB (ops : Array Oper) : Bool :=
 Region.noSelect ops && (List.range ops.size).all fun i => match ops[i]? with
  | none => false
  | some oi => oi.after.all (fun e => decide (e.on < i)) && (List.range ops.size).all fun j => j == i || match ops[j]? with
   | none => false
   | some oj => match oj.dst with
    | none => true
    | some d => oi.dst != some d && (!(oi.looksAt ops).contains d || (decide (j < i) && oi.after.any fun e => Region.binds .any e && e.on == j) || (decide (i < j) && oj.after.any fun e => Region.binds .any e && e.on == i))
structure Uni (ops : Array Oper) : Prop where
 sel : ∀ (j : Nat) (o : Oper) cs b, ops[j]? = some o -> o.op ≠ .select cs b
 topo : ∀ (i : Nat) (o : Oper) (e : Edge), ops[i]? = some o -> e ∈ o.after -> e.on < i
 dst : ∀ (i j : Nat) (oi oj : Oper) (d : Tmp), ops[i]? = some oi -> ops[j]? = some oj -> j ≠ i -> oj.dst = some d -> oi.dst ≠ some d
 look : ∀ (i j : Nat) (oi oj : Oper) (d : Tmp), ops[i]? = some oi -> ops[j]? = some oj -> j ≠ i -> oj.dst = some d -> d ∈ oi.looksAt ops ->
  (j < i /\ ∃ e ∈ oi.after, Region.binds .any e = true /\ e.on = j) \/ (i < j /\ ∃ e ∈ oj.after, Region.binds .any e = true /\ e.on = i)
theorem Qvo {ops : Array Oper} (h : uniB ops = true) : Uni ops := by
 unfold uniB at h
 rw [bA] at h
 obtain ⟨hs, h⟩ := h
 rw [List.all_eq_true] at h
 have key : ∀ i oi, ops[i]? = some oi -> (∀ e ∈ oi.after, e.on < i) /\ ∀ j oj, ops[j]? = some oj -> j ≠ i -> ∀ d, oj.dst = some d -> oi.dst ≠ some d /\ (d ∈ oi.looksAt ops ->
   (j < i /\ ∃ e ∈ oi.after, Region.binds .any e = true /\ e.on = j) \/ (i < j /\ ∃ e ∈ oj.after, Region.binds .any e = true /\ e.on = i)) := by
  intro i oi hi
  have h1 := h i (List.mem_range.2 (Array.getElem?_eq_some_iff.1 hi).1)
  simp only [hi, bA] at h1
  obtain ⟨h2, h3⟩ := h1
  refine ⟨fun e he => by simpa using (Array.all_eq_true'.1 h2) e he, fun j oj hj hne d hd => ?_⟩
  rw [List.all_eq_true] at h3
  have h4 := h3 j (List.mem_range.2 (Array.getElem?_eq_some_iff.1 hj).1)
  simp only [hj, hd, Bool.or_eq_true, beq_iff_eq, hne, false_or, bA, bne_iff_ne, Bool.not_eq_true', decide_eq_true_eq] at h4
  refine ⟨h4.1, fun hl => ?_⟩
  rcases h4.2 with (h5 | ⟨h5, h6⟩) | ⟨h5, h6⟩
  ·simp [List.contains_iff_mem] at h5
   exact absurd hl h5
  ·obtain ⟨e, he, hb⟩ := Array.any_eq_true'.1 h6
   simp at hb
   exact .inl ⟨h5, e, he, hb.1, hb.2⟩
  obtain ⟨e, he, hb⟩ := Array.any_eq_true'.1 h6
  simp at hb
  exact .inr ⟨h5, e, he, hb.1, hb.2⟩
 exact ⟨Region.noSelect_spec hs, fun i o e hi he => (key i o hi).1 e he, fun i j oi oj d hi hj hne hd => ((key i oi hi).2 j oj hj hne d hd).1,
  fun i j oi oj d hi hj hne hd => ((key i oi hi).2 j oj hj hne d hd).2⟩
def sAct (ops : Array Oper) (V : Nat -> Value) (a0 : Act) (f : Nat -> Bool) : Nat -> Act
 | 0 => a0
 | n + 1 => if f n then (sAct ops V a0 f n).put ((ops[n]?).bind (·.dst)) (V n) else sAct ops V a0 f n
theorem Qdu (ops : Array Oper) (V : Nat -> Value) (a0 : Act) (f : Nat -> Bool) (n : Nat) : (sAct ops V a0 f n).tmps.size = a0.tmps.size := by
 induction n with
 | zero => rfl
 | succ n ih =>
  unfold sAct
  split
  ·unfold Act.put
   split <;> simp [ih]
  exact ih
theorem Qf3 (ops : Array Oper) (V : Nat -> Value) (a0 : Act) {f g : Nat -> Bool} (n : Nat) (h : ∀ i, i < n -> f i = g i) : sAct ops V a0 f n = sAct ops V a0 g n := by
 induction n with
 | zero => rfl
 | succ n ih => simp only [sAct, h n (Nat.lt_succ_self n), ih fun i hi => h i (by omega)]
theorem Qdv (a : Act) (dst : Option Tmp) (v : Value) (t : Nat) : (a.put dst v).tmps.getD t undef = if dst = some t /\ t < a.tmps.size then v else a.tmps.getD t undef := by
 unfold Act.put
 cases dst with
 | none => simp
 | some d =>
  simp only [Option.some.injEq, Array.getD_eq_getD_getElem?, Array.getElem?_setIfInBounds]
  by_cases h : d = t
  ·subst h
   by_cases h2 : d < a.tmps.size <;> simp [h2]
  simp [h]
theorem Qla (ops : Array Oper) (V : Nat -> Value) (a0 : Act) (f g : Nat -> Bool) (o : Oper) : ∀ n, (∀ j, j < n -> f j ≠ g j -> ∀ d, (ops[j]?).bind (·.dst) = some d -> d ∉ o.looksAt ops) ->
  ∀ t ∈ o.looksAt ops, (sAct ops V a0 f n).tmps.getD t undef = (sAct ops V a0 g n).tmps.getD t undef := by
 intro n
 induction n with
 | zero => intro _ t _; rfl
 | succ n ih =>
  intro h t ht
  have ih' := ih (fun j hj => h j (by omega)) t ht
  have hs1 := Qdu ops V a0 f n
  have hs2 := Qdu ops V a0 g n
  simp only [sAct]
  by_cases hfg : f n = g n
  ·rw [hfg]
   split
   ·rw [Qdv, Qdv, ih', hs1, hs2]
   exact ih'
  have hn := h n (Nat.lt_succ_self n) hfg
  have hne : (ops[n]?).bind (·.dst) ≠ some t := fun e => hn t e ht
  by_cases hf : f n = true
  ·rw [iP hf, Qdv, iN (fun h => hne h.1)]
   split
   ·rw [Qdv, iN (fun h => hne h.1)]; exact ih'
   exact ih'
  rw [iN hf]
  split
  ·rw [Qdv, iN (fun h => hne h.1)]; exact ih'
  exact ih'
theorem Qlb {ops : Array Oper} {a a' : Act} {o : Oper} (hsel : ∀ cs b, o.op ≠ .select cs b) (h : ∀ t ∈ o.looksAt ops, a.tmps.getD t undef = a'.tmps.getD t undef) :
  execOp a.eval o = execOp a'.eval o := by
 refine execOp_congr o hsel fun x hx => ?_
 cases x with
 | tmp t =>
  refine h t ?_
  unfold Oper.looksAt
  rw [List.mem_append]
  left
  rw [List.mem_filterMap]
  exact ⟨.tmp t, Array.mem_toList_iff.2 hx, rfl⟩
 | _ => rfl
theorem Qhh {ops : Array Oper} {a a' : Act} {o : Oper} (hsz : a.tmps.size = a'.tmps.size) (h : ∀ t ∈ o.looksAt ops, a.tmps.getD t undef = a'.tmps.getD t undef) :
  Region.wanted o (yielded ops a.tmps) = Region.wanted o (yielded ops a'.tmps) := by
 unfold Region.wanted
 cases hg : o.guard with
 | none => rfl
 | some g =>
  obtain ⟨j, want⟩ := g
  have : yielded ops a.tmps j = yielded ops a'.tmps j := by
   unfold yielded
   cases hd : (ops[j]?).bind (·.dst) with
   | none => rfl
   | some d =>
    have hl : d ∈ o.looksAt ops := by
     unfold Oper.looksAt
     rw [List.mem_append]
     right
     simp [hg, hd]
    have h1 := h d hl
    have h2 : a.tmps[d]? = a'.tmps[d]? := by
     by_cases hlt : d < a.tmps.size
     ·have hlt' : d < a'.tmps.size := hsz ▸ hlt
      simp only [Array.getD_eq_getD_getElem?, Array.getElem?_eq_getElem hlt, Array.getElem?_eq_getElem hlt', Option.getD_some] at h1
      rw [Array.getElem?_eq_getElem hlt, Array.getElem?_eq_getElem hlt', h1]
     have hge : a.tmps.size <= d := Nat.le_of_not_lt hlt
     rw [Array.getElem?_eq_none hge, Array.getElem?_eq_none (hsz ▸ hge)]
    simp [h2]
  simp [this]
theorem Gives.of_agree {P : Program} {ops : Array Oper} {S : World -> Prop} {o : Oper} {v : Value} {a a' : Act} (hsel : ∀ cs b, o.op ≠ .select cs b) (hsz : a.tmps.size = a'.tmps.size)
  (h : ∀ t ∈ o.looksAt ops, a.tmps.getD t undef = a'.tmps.getD t undef) (hg : Gives P ops S o v a) : Gives P ops S o v a' := by
 unfold Gives gives at *
 rw [Qlb hsel h, Qhh hsz h] at hg
 exact hg
theorem Qlc {P : Program} {ops : Array Oper} {S : World -> Prop} {R : Act -> Prop} (a0 : Act) : ∀ (l : List Oper) (k : Nat) (V0 : Nat -> Value), (∀ j, l[j]? = ops[k + j]?) -> l.length = ops.size - k -> k <= ops.size ->
  wpUni P ops S R l (sAct ops V0 a0 (fun _ => true) k) ->
  ∃ V : Nat -> Value, (∀ i, i < k -> V i = V0 i) /\ (∀ i o, k <= i -> ops[i]? = some o -> Gives P ops S o (V i) (sAct ops V a0 (fun _ => true) i)) /\ R (sAct ops V a0 (fun _ => true) ops.size) := by
 intro l
 induction l with
 | nil =>
  intro k V0 _ hlen hk h
  have : k = ops.size := by simp at hlen; omega
  subst this
  exact ⟨V0, fun _ _ => rfl, fun i o hi ho => absurd (Array.getElem?_eq_some_iff.1 ho).1 (by omega), h⟩
 | cons o l ih =>
  intro k V0 hl hlen hk h
  obtain ⟨v, hg, hr⟩ := h
  have h0 : ops[k]? = some o := by have := hl 0; simpa using this.symm
  have hlt : k < ops.size := (Array.getElem?_eq_some_iff.1 h0).1
  let V1 : Nat -> Value := fun i => if i = k then v else V0 i
  have hV1 : ∀ n, n <= k -> sAct ops V1 a0 (fun _ => true) n = sAct ops V0 a0 (fun _ => true) n := by
   intro n
   induction n with
   | zero => intro _; rfl
   | succ n ihn =>
    intro hn
    have hne : n ≠ k := by omega
    simp only [sAct, if_true, ihn (by omega), V1, iN hne]
  have hstep : sAct ops V1 a0 (fun _ => true) (k + 1) = (sAct ops V0 a0 (fun _ => true) k).put o.dst v := by
   simp only [sAct, if_true, hV1 k (Nat.le_refl _), h0, Option.bind_some, V1]
  obtain ⟨V, hV, hG, hR⟩ := ih (k + 1) V1 (fun j => by have := hl (j + 1); simpa [Nat.add_assoc, Nat.add_comm 1 j] using this) (by simp at hlen; omega) (by omega) (by rw [hstep]; exact hr)
  have hVk : V k = v := by rw [hV k (by omega)]; simp [V1]
  have hV0 : ∀ i, i < k -> V i = V0 i := fun i hi => by rw [hV i (by omega)]; simp [V1, Nat.ne_of_lt hi]
  have hsame : ∀ n, n <= k -> sAct ops V a0 (fun _ => true) n = sAct ops V0 a0 (fun _ => true) n := by
   intro n
   induction n with
   | zero => intro _; rfl
   | succ n ihn =>
    intro hn
    simp only [sAct, if_true, ihn (by omega), hV0 n (by omega)]
  refine ⟨V, hV0, fun i o' hi ho => ?_, hR⟩
  rcases Nat.eq_or_lt_of_le hi with rfl | hi'
  ·rw [h0] at ho
   cases ho
   rw [hVk, hsame k (Nat.le_refl _)]
   exact hg
  exact hG i o' hi' ho
theorem Qpr {ops : Array Oper} (hu : Uni ops) (V : Nat -> Value) (a0 : Act) {f g : Nat -> Bool} {i : Nat} {o : Oper} (ho : ops[i]? = some o) (hfi : f i = false) (hgi : g i = true) (hfg : ∀ k, k ≠ i -> g k = f k) :
  ∀ n, n <= ops.size -> sAct ops V a0 g n = if i < n then (sAct ops V a0 f n).put o.dst (V i) else sAct ops V a0 f n := by
 intro n
 induction n with
 | zero => intro _; rfl
 | succ n ihn =>
  intro hn
  simp only [sAct]
  by_cases hni : n = i
  ·subst hni
   rw [iP hgi, ihn (by omega), iN (Nat.lt_irrefl _), iP (Nat.lt_succ_self _), iN (by simp [hfi]), ho]
   rfl
  rw [hfg n hni, ihn (by omega)]
  by_cases hin : i < n
  ·rw [iP hin, iP (show i < n + 1 by omega)]
   split
   ·obtain ⟨on, hon⟩ : ∃ on, ops[n]? = some on := ⟨_, Array.getElem?_eq_getElem (by omega)⟩
    rw [hon]
    simp only [Option.bind_some]
    rw [Act.put_comm]
    exact fun d hd hd2 => hu.dst i n o on d ho hon hni hd2 hd
   rfl
  rw [iN hin, iN (show ¬ i < n + 1 by omega)]
theorem Ql8 (p q : Nat -> Bool) (l : List Nat) (h : ∀ k, p k = true -> q k = true) : (l.filter p).length <= (l.filter q).length := by
 induction l with
 | nil => simp
 | cons x l ih =>
  simp only [List.filter_cons]
  by_cases hp : p x = true
  ·simp [hp, h x hp, ih]
  rw [iN hp]
  split
  ·simp; omega
  exact ih
theorem Ql9 (p q : Nat -> Bool) (l : List Nat) (h : ∀ k, p k = true -> q k = true) (i : Nat) (hi : i ∈ l) (hq : q i = true) (hp : p i = false) : (l.filter p).length < (l.filter q).length := by
 induction l with
 | nil => cases hi
 | cons x l ih =>
  simp only [List.filter_cons]
  rcases List.mem_cons.1 hi with rfl | hi
  ·have := Ql8 p q l h
   simp [hp, hq]; omega
  have := ih hi
  by_cases hpx : p x = true
  ·simp [hpx, h x hpx]; omega
  rw [iN hpx]
  split
  ·simp; omega
  exact this
theorem Qma {P : Program} {ops : Array Oper} {S : World -> Prop} {Q : Exit -> Act -> World -> Prop} (hu : Uni ops) (V : Nat -> Value) (a0 : Act)
  (hG : ∀ (i : Nat) (o : Oper), ops[i]? = some o -> Gives P ops S o (V i) (sAct ops V a0 (fun _ => true) i))
  (hQ : ∀ w, S w -> Q .normal (sAct ops V a0 (fun _ => true) ops.size) w) :
  ∀ (fuel : Nat) (listed : Array Bool) (w : World), listed.size = ops.size ->
   (∀ (j : Nat) (o : Oper) (e : Edge), ops[j]? = some o -> listed.getD j false = true -> e ∈ o.after -> Region.binds .any e = true -> listed.getD e.on false = true) ->
   ((List.range ops.size).filter fun i => !listed.getD i false).length <= fuel -> S w ->
   wpAny P .any ops Q fuel listed (sAct ops V a0 (fun i => listed.getD i false) ops.size) w := by
 -- where none is ready all are listed
 have hall : ∀ (listed : Array Bool), listed.size = ops.size -> Region.ready .any ops listed = [] -> ∀ i, i < ops.size -> listed.getD i false = true := by
  intro listed hsz hr i
  induction i using Nat.strongRecOn with
  | _ i ih =>
   intro hi
   by_cases h : listed.getD i false = true
   ·exact h
   exfalso
   have hmem : i ∈ Region.ready .any ops listed := by
    rw [mem_ready]
    refine ⟨?_, ops[i], Array.getElem?_eq_getElem hi, fun e he _ => ?_⟩
    ·simpa [Array.getD_eq_getD_getElem?, Array.getElem?_eq_getElem (by omega : i < listed.size)] using h
    have hlt := hu.topo i _ e (Array.getElem?_eq_getElem hi) he
    exact ih e.on hlt (by omega)
   rw [hr] at hmem
   cases hmem
 have hfin : ∀ (listed : Array Bool) (w : World), listed.size = ops.size -> S w -> Region.ready .any ops listed = [] -> Q .normal (sAct ops V a0 (fun i => listed.getD i false) ops.size) w := by
  intro listed w hsz hS hr
  rw [Qf3 ops V a0 (g := fun _ => true) ops.size (fun i hi => hall listed hsz hr i hi)]
  exact hQ w hS
 intro fuel
 induction fuel with
 | zero =>
  intro listed w hsz hcl hn hS
  have hl : ∀ i, i < ops.size -> listed.getD i false = true := fun i hi => by
   by_cases h : listed.getD i false = true
   ·exact h
   have : i ∈ (List.range ops.size).filter fun i => !listed.getD i false := by
    rw [List.mem_filter]
    exact ⟨List.mem_range.2 hi, by simpa using h⟩
   have h0 := List.eq_nil_of_length_eq_zero (Nat.le_zero.1 hn)
   rw [h0] at this
   cases this
  have hr : Region.ready .any ops listed = [] := by
   rw [List.eq_nil_iff_forall_not_mem]
   intro i hi
   obtain ⟨h1, o, ho, _⟩ := mem_ready.1 hi
   have hlt := (Array.getElem?_eq_some_iff.1 ho).1
   have h2 := hl i hlt
   simp [Array.getD_eq_getD_getElem?, Array.getElem?_eq_getElem (by omega : i < listed.size)] at h1 h2
   rw [h1] at h2
   cases h2
  exact ⟨hr, hfin listed w hsz hS hr⟩
 | succ fuel ih =>
  intro listed w hsz hcl hn hS
  refine ⟨hfin listed w hsz hS, fun i hi => ?_⟩
  obtain ⟨h1, o, ho, hedges⟩ := mem_ready.1 hi
  have hlt := (Array.getElem?_eq_some_iff.1 ho).1
  have hil : listed.getD i false = false := by
   simpa [Array.getD_eq_getD_getElem?, Array.getElem?_eq_getElem (by omega : i < listed.size)] using h1
  -- the state as o sees it
  have hag : ∀ t ∈ o.looksAt ops, (sAct ops V a0 (fun _ => true) i).tmps.getD t undef = (sAct ops V a0 (fun i => listed.getD i false) ops.size).tmps.getD t undef := by
   have e1 : sAct ops V a0 (fun _ => true) i = sAct ops V a0 (fun j => decide (j < i)) ops.size := by
    have key : ∀ n, i <= n -> sAct ops V a0 (fun _ => true) i = sAct ops V a0 (fun j => decide (j < i)) n := by
     intro n
     induction n with
     | zero => intro h; obtain rfl : i = 0 := (by omega); rfl
     | succ n ihn =>
      intro h
      rcases Nat.eq_or_lt_of_le h with h2 | h2
      ·subst h2
       exact Qf3 _ _ _ _ (fun j hj => by simp [hj])
      simp only [sAct]
      rw [iN (by simp; omega)]
      exact ihn (by omega)
    exact key _ (Nat.le_of_lt hlt)
   rw [e1]
   refine Qla ops V a0 _ _ o ops.size (fun j hj hne d hd hlook => ?_)
   obtain ⟨oj, hoj⟩ : ∃ oj, ops[j]? = some oj := ⟨_, Array.getElem?_eq_getElem hj⟩
   rw [hoj] at hd
   simp only [Option.bind_some] at hd
   by_cases hji : j = i
   ·subst hji
    simp [hil] at hne
   rcases hu.look i j o oj d ho hoj hji hd hlook with ⟨hlt', e, he, hb, hon⟩ | ⟨hlt', e, he, hb, hon⟩
   ·have := hedges e he hb
    rw [hon] at this
    simp [hlt', this] at hne
   have hnl : listed.getD j false = true := by
    have : decide (j < i) = false := by simp; omega
    simp only [this] at hne
    cases hx : listed.getD j false
    ·exact absurd hx.symm hne
    rfl
   have := hcl j oj e hoj hnl he hb
   rw [hon, hil] at this
   cases this
  have hg := (hG i o ho).of_agree (hu.sel i o · · ho) (by rw [Qdu, Qdu]) hag
  -- behind it
  have hnext : sAct ops V a0 (fun k => (listed.setIfInBounds i true).getD k false) ops.size = (sAct ops V a0 (fun k => listed.getD k false) ops.size).put o.dst (V i) := by
   have hg' : ∀ k, k ≠ i -> (listed.setIfInBounds i true).getD k false = listed.getD k false := fun k hk => getD_set_ne false (Ne.symm hk)
   have hi' : (listed.setIfInBounds i true).getD i false = true := by
    simp [Array.getD_eq_getD_getElem?, Array.getElem?_setIfInBounds, (by omega : i < listed.size)]
   rw [Qpr hu V a0 (f := fun k => listed.getD k false) (g := fun k => (listed.setIfInBounds i true).getD k false) ho hil hi' hg' ops.size (Nat.le_refl _), iP hlt]
  have hsz' : (listed.setIfInBounds i true).size = ops.size := by simp [hsz]
  have hcl' : ∀ (j : Nat) (o : Oper) (e : Edge), ops[j]? = some o -> (listed.setIfInBounds i true).getD j false = true -> e ∈ o.after -> Region.binds .any e = true -> (listed.setIfInBounds i true).getD e.on false = true := by
   intro j oj e hoj hl he hb
   refine getD_set_true ?_
   by_cases hji : j = i
   ·subst hji
    rw [ho] at hoj
    cases hoj
    exact hedges e he hb
   rw [getD_set_ne false (Ne.symm hji)] at hl
   exact hcl j oj e hoj hl he hb
  have hn' : ((List.range ops.size).filter fun k => !(listed.setIfInBounds i true).getD k false).length <= fuel := by
   have := Ql9 (fun k => !(listed.setIfInBounds i true).getD k false) (fun k => !listed.getD k false) (List.range ops.size) (fun k hk => by
    by_cases hki : k = i
    ·subst hki; simp [hil]
    ·rw [getD_set_ne false (Ne.symm hki)] at hk; exact hk) i (List.mem_range.2 hlt) (by simp [hil]) (by
    simp [Array.getD_eq_getD_getElem?, Array.getElem?_setIfInBounds, (by omega : i < listed.size)])
   omega
  unfold wpOp
  simp only [ho]
  rcases hg with ⟨hw, hg⟩ | ⟨hw, hv⟩
  ·rw [iP hw]
   refine .inl (Qpq (hg w hS) fun u w' ⟨hu', hS'⟩ => ?_)
   rw [hu', ← hnext]
   exact ih _ w' hsz' hcl' hn' hS'
  simp only [hw, Bool.false_eq_true, if_false]
  rw [← hv, ← hnext]
  exact ih _ w hsz' hcl' hn' hS
theorem Qb0 (n i : Nat) : (Array.replicate n false).getD i false = false := by
 simp only [Array.getD_eq_getD_getElem?, Array.getElem?_replicate]
 split <;> rfl
theorem Qaw {P : Program} {id : Nat} {l : List Oper} {S : World -> Prop} {Q : Exit -> Act -> World -> Prop} {a : Act} {w : World} (hm : P.follows .mixedOrders = true) (hu : uniB l.toArray = true)
  (hS : S w.drew) (h : wpUni P l.toArray S (fun a' => ∀ w', S w' -> Q .normal a' w') l a) : (Code.region id l.toArray true).wp P Q a w := by
 obtain ⟨V, _, hG, hR⟩ := Qlc (P := P) (ops := l.toArray) (S := S) a l 0 (fun _ => undef) (by simp) (by simp) (Nat.zero_le _) h
 refine wp_region_any hm ?_
 have := Qma (Qvo hu) V a (fun i o ho => hG i o (Nat.zero_le _) ho) hR l.toArray.size (Array.replicate l.toArray.size false) w.drew (by simp) (by
  intro j o e _ hl
  rw [Qb0] at hl
  cases hl) (by
  refine Nat.le_trans (List.length_filter_le _ _) (by simp)) hS
 have e0 : sAct l.toArray V a (fun i => (Array.replicate l.toArray.size false).getD i false) l.toArray.size = a := by
  have : ∀ n, sAct l.toArray V a (fun i => (Array.replicate l.toArray.size false).getD i false) n = a := by
   intro n
   induction n with
   | zero => rfl
   | succ n ih =>
    simp only [sAct]
    rw [iN (by rw [Qb0]; decide), ih]
  exact this _
 rw [e0] at this
 exact this
end
end Go.Proofs.YtjckpkamhdbcnaaGreatDoor
