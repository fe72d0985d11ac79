import Derived.Test.YtjckpkamhdbcnaaGreatDoorZn
import Derived.Test.YtjckpkamhdbcnaaGreatDoorLay
import Derived.Shelf.SlicesE.Clone
namespace Go.Proofs.YtjckpkamhdbcnaaGreatDoor
set_option maxRecDepth 100000
set_option maxHeartbeats 64000000
set_option linter.unusedSimpArgs false
set_option linter.unusedVariables false
section
open Go.RowKit
structure Bag (b : Nat) (w w' : World) : Prop where
 os : w'.os = w.os
 tape : w'.tape = w.tape
 output : w'.output = w.output
 size : w.heap.size <= w'.heap.size
 block : ∀ k, k < w.heap.size -> k ≠ b -> w'.heap[k]? = w.heap[k]?
theorem But.bag {b : Nat} {w w' : World} (h : But b w w') : Bag b w w' := ⟨h.os, h.tape, h.output, h.size, h.block⟩
theorem Bag.of {b : Nat} {w w' : World} (h : Bel w w') : Bag b w w' := ⟨h.os, h.tape, h.output, h.size, fun k hk _ => h.block k hk⟩
theorem Bag.refl (b : Nat) (w : World) : Bag b w w := Bag.of (Bel.refl w)
theorem Bag.trans {b : Nat} {u v w : World} (h : Bag b u v) (k : Bag b v w) : Bag b u w :=
 ⟨k.os.trans h.os, k.tape.trans h.tape, k.output.trans h.output, Nat.le_trans h.size k.size, fun i hi hb => (k.block i (lL hi h.size) hb).trans (h.block i hi hb)⟩
theorem Bag.setCell {b : Nat} {u w : World} (h : Bag b u w) {p : Addr} (hp : p.block = b) (x : Value) : Bag b u (w.setCell p x) :=
 h.trans ⟨rfl, rfl, rfl, by simp [World.setCell], fun k _ hk => Below.heap_setCell _ _ _ _ (by rw [hp]; exact hk)⟩
theorem Bag.new {b : Nat} {u w : World} (h : Bag b u w) {p : Addr} (hp : u.heap.size <= p.block) (x : Value) : Bag b u (w.setCell p x) :=
 ⟨h.os, h.tape, h.output, by simpa [World.setCell] using h.size, fun k hk hb => (Below.heap_setCell _ _ _ _ (by omega)).trans (h.block k hk hb)⟩
theorem Bag.bel {b : Nat} {w0 w w' : World} (hb : Bag b w w') (h : Bel w0 w) (h0 : w0.heap.size <= b) : Bel w0 w' :=
 Below.trans h ⟨hb.os, hb.tape, hb.output, hb.size, fun k hk => hb.block k (lL hk h.size) (by omega)⟩
theorem Bag.cell {b : Nat} {w w' : World} (h : Bag b w w') {p : Addr} (hp : p.block < w.heap.size) (hb : p.block ≠ b) : w'.cell? p = w.cell? p := World.cell?_of_block (w := w) (h.block p.block hp hb)
theorem Bag.frozen {b : Nat} {w w' : World} (h : Bag b w w') {p : Addr} (hp : p.block < w.heap.size) (hb : p.block ≠ b) : w'.frozen? p = w.frozen? p := World.frozen?_of_block (w := w) (h.block p.block hp hb)
def Psr (w : World) (b : Nat) (A : Option Addr) (n c i : Nat) (en wr e p d : Int) : Prop := Rdc w b A n c i en wr e /\
 (w.cell? ⟨b, 5, none⟩ = some (.int .i64 p) /\ w.cell? ⟨b, 6, none⟩ = some (.int .i64 d)) /\ (w.frozen? ⟨b, 5, none⟩ = false /\ w.frozen? ⟨b, 6, none⟩ = false)
theorem Psr.keep {w w' : World} {b : Nat} {A : Option Addr} {n c i : Nat} {en wr e p d : Int} (h : Psr w b A n c i en wr e p d) (hb : Bel w w') : Psr w' b A n c i en wr e p d := by
 obtain ⟨h0, ⟨h1, h2⟩, ⟨h3, h4⟩⟩ := h
 have z := h0.1
 exact ⟨h0.keep hb, ⟨by rw [hb.cells _ _ z]; exact h1, by rw [hb.cells _ _ z]; exact h2⟩, ⟨by rw [hb.frozens _ _ z]; exact h3, by rw [hb.frozens _ _ z]; exact h4⟩⟩
theorem Psr.but {w w' : World} {b : Nat} {A : Option Addr} {n c i j : Nat} {en wr e wr' e' p d : Int} (h : Psr w b A n c i en wr e p d) (hb : But b w w') (hr : Rdc w' b A n c j en wr' e') : Psr w' b A n c j en wr' e' p d := by
 obtain ⟨h0, ⟨h1, h2⟩, ⟨h3, h4⟩⟩ := h
 have z := h0.1
 exact ⟨hr, ⟨by rw [(hb.rest z 5 (by omega)).1]; exact h1, by rw [(hb.rest z 6 (by omega)).1]; exact h2⟩, ⟨by rw [(hb.rest z 5 (by omega)).2]; exact h3, by rw [(hb.rest z 6 (by omega)).2]; exact h4⟩⟩
theorem Psr.far {w : World} {b : Nat} {A : Option Addr} {n c i : Nat} {en wr e p d : Int} (h : Psr w b A n c i en wr e p d) {q : Addr} (hp : b ≠ q.block) (x : Value) : Psr (w.setCell q x) b A n c i en wr e p d := by
 obtain ⟨h0, ⟨h1, h2⟩, ⟨h3, h4⟩⟩ := h
 have hc : ∀ o, (w.setCell q x).cell? ⟨b, o, none⟩ = w.cell? ⟨b, o, none⟩ := fun o => World.cell?_setCell_far w q ⟨b, o, none⟩ x (fun e => hp e.symm)
 have hf : ∀ o, (w.setCell q x).frozen? ⟨b, o, none⟩ = w.frozen? ⟨b, o, none⟩ := fun o => by simp [go_sem]
 exact ⟨h0.far hp x, ⟨by rw [hc]; exact h1, by rw [hc]; exact h2⟩, ⟨by rw [hf]; exact h3, by rw [hf]; exact h4⟩⟩
theorem Psr.apart {w w' : World} {b g : Nat} {A : Option Addr} {n c i : Nat} {en wr e p d : Int} (h : Psr w b A n c i en wr e p d) (hb : Bag g w w') (hg : b ≠ g) : Psr w' b A n c i en wr e p d := by
 obtain ⟨⟨h0, ⟨a0, a1, a2, a3, a4⟩, ⟨f0, f1, f2, f3, f4⟩⟩, ⟨h1, h2⟩, ⟨h3, h4⟩⟩ := h
 have c : ∀ o, w'.cell? ⟨b, o, none⟩ = w.cell? ⟨b, o, none⟩ := fun o => hb.cell (p := ⟨b, o, none⟩) h0 hg
 have f : ∀ o, w'.frozen? ⟨b, o, none⟩ = w.frozen? ⟨b, o, none⟩ := fun o => hb.frozen (p := ⟨b, o, none⟩) h0 hg
 refine ⟨⟨lL h0 hb.size, ⟨?_, ?_, ?_, ?_, ?_⟩, ⟨?_, ?_, ?_, ?_, ?_⟩⟩, ⟨?_, ?_⟩, ⟨?_, ?_⟩⟩
 all_goals first | (rw [c]; assumption) | (rw [f]; assumption)
theorem Psr.parts {w : World} {b : Nat} {A : Option Addr} {n c i : Nat} {en wr e p d : Int} (h : Psr w b A n c i en wr e p d) (q : Int) : Psr (w.setCell ⟨b, 5, none⟩ (.int .i64 q)) b A n c i en wr e q d := by
 obtain ⟨⟨h0, ⟨a0, a1, a2, a3, a4⟩, ⟨f0, f1, f2, f3, f4⟩⟩, ⟨h1, h2⟩, ⟨h3, h4⟩⟩ := h
 simp [Psr, Rdc, go_sem, h0, a0, a1, a2, a3, a4, f0, f1, f2, f3, f4, h1, h2, h3, h4]
theorem Psr.depth {w : World} {b : Nat} {A : Option Addr} {n c i : Nat} {en wr e p d : Int} (h : Psr w b A n c i en wr e p d) (q : Int) : Psr (w.setCell ⟨b, 6, none⟩ (.int .i64 q)) b A n c i en wr e p q := by
 obtain ⟨⟨h0, ⟨a0, a1, a2, a3, a4⟩, ⟨f0, f1, f2, f3, f4⟩⟩, ⟨h1, h2⟩, ⟨h3, h4⟩⟩ := h
 simp [Psr, Rdc, go_sem, h0, a0, a1, a2, a3, a4, f0, f1, f2, f3, f4, h1, h2, h3, h4]
abbrev exV (o : Int) (v : Val) (nm : ByteArray) (A : Option Addr) (n c : Nat) : Value := .agg #[.int .i64 o, .int .i64 v.kind, .int .i64 v.n, .int .i64 v.scale, .string v.text, .int .i64 v.num, .string nm, .slice A n c]
def Qap (w : World) (b o : Nat) (op : Int) (v : Val) (nm : ByteArray) (A : Option Addr) (n c : Nat) : Prop :=
 w.cell? ⟨b, o, none⟩ = some (.int .i64 op) /\ w.cell? ⟨b, o + 1, none⟩ = some (.int .i64 v.kind) /\ w.cell? ⟨b, o + 2, none⟩ = some (.int .i64 v.n) /\ w.cell? ⟨b, o + 3, none⟩ = some (.int .i64 v.scale) /\
 w.cell? ⟨b, o + 4, none⟩ = some (.string v.text) /\ w.cell? ⟨b, o + 5, none⟩ = some (.int .i64 v.num) /\ w.cell? ⟨b, o + 6, none⟩ = some (.string nm) /\ w.cell? ⟨b, o + 7, none⟩ = some (.slice A n c)
theorem Qap.same {w w' : World} {b o : Nat} {op : Int} {v : Val} {nm : ByteArray} {A : Option Addr} {n c : Nat} (h : Qap w b o op v nm A n c) (hc : ∀ o, w'.cell? ⟨b, o, none⟩ = w.cell? ⟨b, o, none⟩) : Qap w' b o op v nm A n c := by
 simp only [Qap, hc]
 exact h
def LieAt (P : Nat -> Prop) : Nat -> World -> Option Addr -> List Ex -> Prop
 | 0, _, _, l => l = []
 | n + 1, w, A, l => 0 < l.length -> ∃ b off, A = some ⟨b, off, none⟩ /\ P b /\ b < w.heap.size /\ ∀ i x, l[i]? = some x -> ∃ A' c', Qap w b (off + i * 8) x.op x.v (Qaa x.nm) A' x.ks.length c' /\ LieAt P n w A' x.ks
theorem LieAt.keep {P : Nat -> Prop} {w w' : World} (hz : w.heap.size <= w'.heap.size) (hc : ∀ b o, P b -> b < w.heap.size -> w'.cell? ⟨b, o, none⟩ = w.cell? ⟨b, o, none⟩) : ∀ (n : Nat) {A : Option Addr} {l : List Ex}, LieAt P n w A l -> LieAt P n w' A l
 | 0, A, l, h => h
 | n + 1, A, l, h => fun h0 => by
  obtain ⟨b, off, e, hP, hlt, hat⟩ := h h0
  refine ⟨b, off, e, hP, lL hlt hz, fun i x hx => ?_⟩
  obtain ⟨A', c', k1, k2⟩ := hat i x hx
  exact ⟨A', c', k1.same (fun o => hc b o hP hlt), LieAt.keep hz hc n k2⟩
theorem LieAt.weak {P Q : Nat -> Prop} {w : World} (hq : ∀ b, P b -> b < w.heap.size -> Q b) : ∀ (n : Nat) {A : Option Addr} {l : List Ex}, LieAt P n w A l -> LieAt Q n w A l
 | 0, A, l, h => h
 | n + 1, A, l, h => fun h0 => by
  obtain ⟨b, off, e, hP, hlt, hat⟩ := h h0
  refine ⟨b, off, e, hq b hP hlt, hlt, fun i x hx => ?_⟩
  obtain ⟨A', c', k1, k2⟩ := hat i x hx
  exact ⟨A', c', k1, LieAt.weak hq n k2⟩
theorem LieAt.more {P : Nat -> Prop} {w : World} : ∀ (n : Nat) {A : Option Addr} {l : List Ex}, LieAt P n w A l -> LieAt P (n + 1) w A l
 | 0, A, l, h => fun h0 => by
  have h' : l = [] := h
  rw [h'] at h0
  exact absurd h0 (by simp)
 | n + 1, A, l, h => fun h0 => by
  obtain ⟨b, off, e, hP, hlt, hat⟩ := h h0
  refine ⟨b, off, e, hP, hlt, fun i x hx => ?_⟩
  obtain ⟨A', c', k1, k2⟩ := hat i x hx
  exact ⟨A', c', k1, LieAt.more n k2⟩
theorem LieAt.le {P : Nat -> Prop} {w : World} {n k : Nat} {A : Option Addr} {l : List Ex} (h : LieAt P n w A l) (hk : n <= k) : LieAt P k w A l := by
 induction k with
 | zero =>
  obtain rfl : n = 0 := by omega
  exact h
 | succ k ih =>
  rcases Nat.lt_or_ge k n with h1 | h1
  ·obtain rfl : n = k + 1 := by omega
   exact h
  exact LieAt.more k (ih h1)
def Lie (P : Nat -> Prop) (w : World) (A : Option Addr) (l : List Ex) : Prop := ∃ n, LieAt P n w A l
theorem Lie.nil (P : Nat -> Prop) (w : World) (A : Option Addr) : Lie P w A [] := ⟨0, rfl⟩
theorem Lie.keep {P : Nat -> Prop} {w w' : World} {A : Option Addr} {l : List Ex} (h : Lie P w A l) (hb : Bel w w') : Lie P w' A l := by
 obtain ⟨n, h⟩ := h
 exact ⟨n, LieAt.keep hb.size (fun b o _ hlt => hb.cells b o hlt) n h⟩
theorem Lie.bag {P : Nat -> Prop} {w w' : World} {b : Nat} {A : Option Addr} {l : List Ex} (h : Lie P w A l) (hb : Bag b w w') (hP : ¬ P b) : Lie P w' A l := by
 obtain ⟨n, h⟩ := h
 exact ⟨n, LieAt.keep hb.size (fun k o hk hlt => hb.cell (p := ⟨k, o, none⟩) hlt (fun e => hP (by rw [← e]; exact hk))) n h⟩
theorem Lie.weak {P Q : Nat -> Prop} {w : World} {A : Option Addr} {l : List Ex} (h : Lie P w A l) (hq : ∀ b, P b -> b < w.heap.size -> Q b) : Lie Q w A l := by
 obtain ⟨n, h⟩ := h
 exact ⟨n, LieAt.weak hq n h⟩
def Qab (w : World) (b : Nat) (op : Int) (v : Val) (nm : ByteArray) (A : Option Addr) (n c : Nat) : Prop := b < w.heap.size /\ Qap w b 0 op v nm A n c /\
 (w.frozen? ⟨b, 0, none⟩ = false /\ w.frozen? ⟨b, 1, none⟩ = false /\ w.frozen? ⟨b, 2, none⟩ = false /\ w.frozen? ⟨b, 3, none⟩ = false /\ w.frozen? ⟨b, 4, none⟩ = false /\ w.frozen? ⟨b, 5, none⟩ = false /\ w.frozen? ⟨b, 6, none⟩ = false /\ w.frozen? ⟨b, 7, none⟩ = false)
theorem Qab.bag {w w' : World} {b g : Nat} {op : Int} {v : Val} {nm : ByteArray} {A : Option Addr} {n c : Nat} (h : Qab w b op v nm A n c) (hb : Bag g w w') (hg : b ≠ g) : Qab w' b op v nm A n c := by
 obtain ⟨h0, h1, h2⟩ := h
 have cc : ∀ o, w'.cell? ⟨b, o, none⟩ = w.cell? ⟨b, o, none⟩ := fun o => hb.cell (p := ⟨b, o, none⟩) h0 hg
 have f : ∀ o, w'.frozen? ⟨b, o, none⟩ = w.frozen? ⟨b, o, none⟩ := fun o => hb.frozen (p := ⟨b, o, none⟩) h0 hg
 refine ⟨lL h0 hb.size, h1.same cc, ?_⟩
 simp only [f]
 exact h2
theorem Qab.u {w : World} {b : Nat} {o : Int} {v : Val} {nm : ByteArray} {A : Option Addr} {n c : Nat} (h : Qab w b o v nm A n c) : b < w.heap.size /\ w.cell? ⟨b, 0, none⟩ = some (.int .i64 o) /\ w.cell? ⟨b, 1, none⟩ = some (.int .i64 v.kind) /\ w.cell? ⟨b, 2, none⟩ = some (.int .i64 v.n) /\ w.cell? ⟨b, 3, none⟩ = some (.int .i64 v.scale) /\ w.cell? ⟨b, 4, none⟩ = some (.string v.text) /\ w.cell? ⟨b, 5, none⟩ = some (.int .i64 v.num) /\ w.cell? ⟨b, 6, none⟩ = some (.string nm) /\ w.cell? ⟨b, 7, none⟩ = some (.slice A n c) := by
 obtain ⟨z, ⟨t0, t1, t2, t3, t4, t5, t6, t7⟩, -⟩ := h
 simp only [Nat.zero_add] at t0 t1 t2 t3 t4 t5 t6 t7
 exact ⟨z, t0, t1, t2, t3, t4, t5, t6, t7⟩
theorem Qab.keep {w w' : World} {b : Nat} {op : Int} {v : Val} {nm : ByteArray} {A : Option Addr} {n c : Nat} (h : Qab w b op v nm A n c) (hb : Bel w w') : Qab w' b op v nm A n c := h.bag (Bag.of (b := b + 1) hb) (by omega)
theorem Qdb {P : Program} {c : Code} {Q : Exit -> Act -> World -> Prop} {a : Act} {w : World} (w' : World) (h : w' = w) (k : c.wp P Q a w') : c.wp P Q a w := h ▸ k
def XRes (P : Nat -> Prop) (ts : List Tok) (en wo d : Int) (q : PR (Ex × Nat)) (o : Int) (v : Val) (nm : ByteArray) (A' : Option Addr) (n' : Nat) (ok : Bool) (w' : World) (j : Nat) (wr' e' p' d' : Int) : Prop := match q with
 | .ok y rest => ok = true /\ o = y.1.op /\ v = y.1.v /\ nm = Qaa y.1.nm /\ n' = y.1.ks.length /\ Lie P w' A' y.1.ks /\ ts.drop j = rest /\ wr' = wo /\ e' = 0 /\ p' = y.2 /\ d' = d /\ y.2 <= 4096
 | .bad rest f => ok = false /\ wr' = plcT en rest /\ e' = f
def XOut (P : Nat -> Prop) (ts : List Tok) (b : Nat) (A : Option Addr) (c : Nat) (en wo d : Int) (q : PR (Ex × Nat)) (w : World) (r : Ending) (w' : World) : Prop :=
 ∃ (j : Nat) (wr' e' p' d' o : Int) (v : Val) (nm : ByteArray) (A' : Option Addr) (n' c' : Nat) (ok : Bool), Bag b w w' /\ Psr w' b A ts.length c j en wr' e' p' d' /\ j <= ts.length /\ r = .returned (.tuple #[exV o v nm A' n' c', .bool ok]) /\ XRes P ts en wo d q o v nm A' n' ok w' j wr' e' p' d'
theorem XRes.keep {P : Nat -> Prop} {ts : List Tok} {en wo d : Int} {q : PR (Ex × Nat)} {o : Int} {v : Val} {nm : ByteArray} {A' : Option Addr} {n' : Nat} {ok : Bool} {w w' : World} {j : Nat} {wr' e' p' d' : Int} (h : XRes P ts en wo d q o v nm A' n' ok w j wr' e' p' d') (hk : ∀ l, Lie P w A' l -> Lie P w' A' l) : XRes P ts en wo d q o v nm A' n' ok w' j wr' e' p' d' := by
 cases q with
 | bad r f => exact h
 | ok y r =>
  obtain ⟨h1, h2, h3, h4, h5, h6, h7⟩ := h
  exact ⟨h1, h2, h3, h4, h5, hk _ h6, h7⟩
end
section
open Go.RowKit
def Cx (ts : List Tok) (A : Option Addr) (b : Nat) (w : World) : Prop := (∃ B, Toks B A ts /\ Bel B w /\ B.heap.size <= b) /\ ts.length <= 65536 /\ ∀ t ∈ ts, ksnd t = true
theorem Cx.toks {ts : List Tok} {A : Option Addr} {b : Nat} {w : World} (h : Cx ts A b w) : Toks w A ts := by
 obtain ⟨⟨B, h1, h2, _⟩, _⟩ := h
 exact h1.keep h2
theorem Cx.bag {ts : List Tok} {A : Option Addr} {b : Nat} {w w' : World} (h : Cx ts A b w) (hb : Bag b w w') : Cx ts A b w' := by
 obtain ⟨⟨B, h1, h2, h3⟩, h4⟩ := h
 exact ⟨⟨B, h1, hb.bel h2 h3, h3⟩, h4⟩
theorem Cx.keep {ts : List Tok} {A : Option Addr} {b : Nat} {w w' : World} (h : Cx ts A b w) (hb : Bel w w') : Cx ts A b w' := h.bag (Bag.of hb)
theorem Qaq {P : Nat -> Prop} {ts : List Tok} {b : Nat} {A : Option Addr} {c : Nat} {en wo d : Int} {q : PR (Ex × Nat)} {w : World} {r : Ending} {w' : World} {j : Nat} {wr' e' p' d' o : Int} {v : Val} {nm : ByteArray} {A' : Option Addr} {n' c' : Nat} {ok : Bool}
  (hbag : Bag b w w') (hps : Psr w' b A ts.length c j en wr' e' p' d') (hj : j <= ts.length) (hr : r = .returned (.tuple #[exV o v nm A' n' c', .bool ok])) (hres : Bag b w w' -> XRes P ts en wo d q o v nm A' n' ok w' j wr' e' p' d') : XOut P ts b A c en wo d q w r w' :=
 ⟨j, wr', e', p', d', o, v, nm, A', n', c', ok, hbag, hps, hj, hr, hres hbag⟩
theorem Qqx (ts : List Tok) (w : World) (b : Nat) (A : Option Addr) (n c i : Nat) (en wr e : Int) (hr : Rdc w b A n c i en wr e) (hi : i <= 65536) :
  Calls Tryz.prog 196 #[.pointer (some ⟨b, 0, none⟩)] w fun r w' => r = .returned (.tuple #[]) /\ But b w w' /\ Rdc w' b A n c (i + 1) en wr e := by
 have KR := Hd hr
 obtain ⟨h0, ⟨a0, a1, a2, a3, a4⟩, ⟨f0, f1, f2, f3, f4⟩⟩ := hr
 have w1 : IntKind.i64.wrap ((i : Int) + 1) = ((i + 1 : Nat) : Int) := by rw [IntKind.wrap_i64]; omega
 have hN := Hd (KR.out.next (i + 1))
 clear hi
 go_enter Tryz.func196, Tryz.ntmps196
 go_wp2_with fail
 go_end0
 exact ⟨rfl, (But.refl b w).setCell (by decide) _, hN.out⟩
theorem Qbu (ts : List Tok) (w : World) (b : Nat) (A : Option Addr) (c i : Nat) (en wr : Int) (f p d : Int) (hC : Cx ts A b w) (hr : Psr w b A ts.length c i en wr 0 p d) (hi : i <= ts.length) :
  Calls Tryz.prog 63 #[.pointer (some ⟨b, 0, none⟩), .int .i64 f] w fun r w' => r = .returned (.tuple #[exV 0 zv ⟨#[]⟩ none 0 0, .bool false]) /\ Bag b w w' /\ Psr w' b A ts.length c i en (plcT en (ts.drop i)) f p d := by
 have hbw := hr.1.1
 have CF := Hd fun W (hW : Bel w W) => Qki ts W b A c i en wr 0 f (plcT en (ts.drop i)) f (hC.keep hW).toks (hr.keep hW).1 hi hC.2.1 (by rw [iP rfl]) (by rw [iP rfl])
 have KR := Hd hr
 generalize plcT en (ts.drop i) = pl at CF ⊢
 clear hC hr
 go_enter Tryz.func63, Tryz.ntmps63
 go_upto_region 1 with fail
 refine uN ((Bel.refl w).alloc _) fun W hcc hf hz hb => ?_
 have T1 : Qab W w.heap.size 0 zv ⟨#[]⟩ none 0 0 := by simp [Qab, Qap, zv, hcc, hf, hz, go_sem]
 clear hcc hf hz
 generalize hN : w.heap.size = N at T1 ⊢
 have NW := Hd (show w.heap.size <= N from by omega)
 have nb : N ≠ b := by omega
 clear hN
 have xN : ¬ b = N := fun e => nb e.symm
 have K1 := Hd T1
 clear T1
 go_wp2_with (go_at_call 35; (with_reducible refine Calls.mono (CF.out _ hb) ?_); rintro ee V1 ⟨rfl, hb1, hr1⟩; have hq1 := Hd hb1; have hq2 := Hd ((KR.out.keep hb).but hb1 hr1); obtain ⟨sz, ⟨s0, s1, s2, s3, s4, s5, s6, s7⟩, ⟨f0, f1, f2, f3, f4, f5, f6, f7⟩⟩ := K1.out.bag hb1.bag nb; simp only [zv, Nat.zero_add] at s0 s1 s2 s3 s4 s5 s6 s7; clear hb1 hr1)
 refine pR (v := .tuple #[exV 0 zv ⟨#[]⟩ none 0 0, .bool false]) (by simp [results, Tryz.results63, go_sem, zv, sz, s0, s1, s2, s3, s4, s5, s6, s7]) rfl ⟨rfl, ?_, ?_⟩
 ·repeat (first | with_reducible exact (Bag.of hb).trans hq1.out.bag | refine Bag.new ?_ NW.out _)
 repeat (first | with_reducible exact hq2.out | refine Psr.far ?_ xN _)
theorem Qcw (P : Nat -> Prop) (x : Ex) (A' : Option Addr) (c' : Nat) (ts : List Tok) (w : World) (b : Nat) (A : Option Addr) (c i : Nat) (en wr : Int) (p : Nat) (d : Int) (hC : Cx ts A b w) (hr : Psr w b A ts.length c i en wr 0 p d) (hi : i <= ts.length) (hL : Lie P w A' x.ks) (hP : ¬ P b) (hp : p <= 4096) :
  Calls Tryz.prog 142 #[.pointer (some ⟨b, 0, none⟩), exV x.op x.v (Qaa x.nm) A' x.ks.length c'] w (XOut P ts b A c en wr d (cmpX x p (ts.drop i)) w) := by
 have hbw := hr.1.1
 have KR := Hd hr
 have KC := Hd hC
 have KL := Hd hL
 have w1 : IntKind.i64.wrap ((p : Int) + 1) = ((p + 1 : Nat) : Int) := by rw [IntKind.wrap_i64]; omega
 obtain ⟨xo, ⟨vk, vn, vs, vt, vm⟩, nm, ks⟩ := x
 simp only [Ex.op, Ex.v, Ex.nm, Ex.ks] at KL ⊢
 generalize hks : ks.length = nk
 have hks := Hd hks
 generalize hbn : Qaa nm = bn
 have hbn := Hd hbn
 clear hL hC hr
 go_enter Tryz.func142, Tryz.ntmps142
 go_upto_region 1 with fail
 refine uN (((Bel.refl w).alloc _).alloc _) fun W hcc hf hz hb => ?_
 have T1 : Qab W w.heap.size xo ⟨vk, vn, vs, vt, vm⟩ bn A' nk c' := by simp [Qab, Qap, hcc, hf, hz, go_sem]
 have T2 : Qab W (w.heap.size + 1) 0 zv ⟨#[]⟩ none 0 0 := by simp [Qab, Qap, zv, hcc, hf, hz, go_sem]
 clear hcc hf hz
 generalize hN : w.heap.size = N at T1 T2 ⊢
 have NW := Hd (show w.heap.size <= N from by omega)
 have MW := Hd (show w.heap.size <= N + 1 from by omega)
 have nb : N ≠ b := by omega
 have mb : N + 1 ≠ b := by omega
 clear hN
 have xN : ¬ b = N := fun e => nb e.symm
 have xM : ¬ b = N + 1 := fun e => mb e.symm
 have K1 := Hd T1
 have K2 := Hd T2
 clear T1 T2
 have KP := Hd (KR.out.keep hb)
 obtain ⟨⟨z0, ⟨a0, a1, a2, a3, a4⟩, ⟨b0, b1, b2, b3, b4⟩⟩, ⟨a5, a6⟩, ⟨b5, b6⟩⟩ := KP.out
 go_upto_region 2 with fail
 clear z0 a0 a1 a2 a3 a4 b0 b1 b2 b3 b4 a5 a6 b5 b6
 have hB2 : Bag b W (W.setCell ⟨b, 5, none⟩ (.int .i64 ((p + 1 : Nat) : Int))) := (Bag.refl b W).setCell (p := ⟨b, 5, none⟩) rfl _
 have P2 := Hd (KP.out.parts ((p + 1 : Nat) : Int))
 have L1 := Hd (K1.out.bag hB2 nb)
 have L2 := Hd (K2.out.bag hB2 mb)
 have B2 := Hd ((Bag.of hb).trans hB2)
 refine Qdb (W.setCell ⟨b, 5, none⟩ (.int .i64 ((p + 1 : Nat) : Int))) rfl ?_
 clear hB2
 generalize W.setCell ⟨b, 5, none⟩ (.int .i64 ((p + 1 : Nat) : Int)) = W2 at P2 L1 L2 B2 ⊢
 obtain ⟨⟨z0, ⟨a0, a1, a2, a3, a4⟩, ⟨b0, b1, b2, b3, b4⟩⟩, ⟨a5, a6⟩, ⟨b5, b6⟩⟩ := P2.out
 by_cases h1 : 4096 < p + 1
 ·have e1 := Hd (show cmpX (.mk xo ⟨vk, vn, vs, vt, vm⟩ nm ks) p (ts.drop i) = .bad (ts.drop i) 10 from by unfold cmpX; rw [iP h1])
  have g1 : (4096 : Int) < ((p + 1 : Nat) : Int) := by omega
  have CF := Hd (Qbu ts W2 b A c i en wr 10 ((p + 1 : Nat) : Int) d (KC.out.bag B2.out) P2.out hi)
  clear h1
  go_upto_region 3 with fail
  clear z0 a0 a1 a2 a3 a4 b0 b1 b2 b3 b4 a5 a6 b5 b6
  go_wp2_with (go_at_call 63; (with_reducible refine Calls.mono CF.out ?_); rintro ee V3 ⟨rfl, hb3, hr3⟩; have hq3 := Hd hb3; have hq4 := Hd hr3; obtain ⟨sz, ⟨s0, s1, s2, s3, s4, s5, s6, s7⟩, ⟨f0, f1, f2, f3, f4, f5, f6, f7⟩⟩ := L2.out.bag hb3 mb; simp only [zv, Nat.zero_add] at s0 s1 s2 s3 s4 s5 s6 s7; clear hb3 hr3)
  refine pR (v := .tuple #[exV 0 zv ⟨#[]⟩ none 0 0, .bool false]) (by simp [results, Tryz.results142, go_sem, zv, sz, s0, s1, s2, s3, s4, s5, s6, s7]) rfl (Qaq (j := i) (e' := 10) (p' := ((p + 1 : Nat) : Int)) (d' := d) ?_ ?_ hi rfl (fun _ => by rw [e1.out]; exact ⟨rfl, rfl, rfl⟩))
  ·repeat (first | with_reducible exact B2.out.trans hq3.out | refine Bag.new ?_ MW.out _)
  repeat (first | with_reducible exact hq4.out | refine Psr.far ?_ xM _)
 have e1 := Hd (show cmpX (.mk xo ⟨vk, vn, vs, vt, vm⟩ nm ks) p (ts.drop i) = .ok (.mk xo ⟨vk, vn, vs, vt, vm⟩ nm ks, p + 1) (ts.drop i) from by unfold cmpX; rw [iN h1])
 have g1 : ¬ (4096 : Int) < ((p + 1 : Nat) : Int) := by omega
 have g2 := Hd (show p + 1 <= 4096 from by omega)
 clear h1
 go_upto_region 4 with fail
 clear z0 a0 a1 a2 a3 a4 b0 b1 b2 b3 b4 a5 a6 b5 b6
 obtain ⟨sz, ⟨s0, s1, s2, s3, s4, s5, s6, s7⟩, ⟨f0, f1, f2, f3, f4, f5, f6, f7⟩⟩ := L2.out
 obtain ⟨tz, ⟨t0, t1, t2, t3, t4, t5, t6, t7⟩, -⟩ := L1.out
 simp only [zv, Nat.zero_add] at s0 s1 s2 s3 s4 s5 s6 s7 t0 t1 t2 t3 t4 t5 t6 t7
 go_wp2_with fail
 refine pR (v := .tuple #[exV xo ⟨vk, vn, vs, vt, vm⟩ bn A' nk c', .bool true]) (by simp [results, Tryz.results142, go_sem, zv, sz, s0, s1, s2, s3, s4, s5, s6, s7]) rfl (Qaq (j := i) ?_ ?_ hi rfl (fun h => by rw [e1.out]; exact ⟨rfl, rfl, rfl, hbn.out.symm, hks.out.symm, KL.out.bag h hP, rfl, rfl, rfl, rfl, rfl, g2.out⟩))
 ·repeat (first | with_reducible exact B2.out | refine Bag.new ?_ MW.out _)
 repeat (first | with_reducible exact P2.out | refine Psr.far ?_ xM _)
end
section
open Go.RowKit
def XCon (F : Nat) (m : Md) (n : Nat) : Prop := ∀ (P : Nat -> Prop) (ts : List Tok) (w : World) (b : Nat) (A : Option Addr) (c i : Nat) (en wo : Int) (p d : Nat), Cx ts A b w -> Psr w b A ts.length c i en wo 0 p d -> i <= ts.length -> ¬ P b -> (∀ k, w.heap.size <= k -> P k) -> p <= 4096 -> d <= 64 -> (parX n m d p (ts.drop i)).fine ->
 Calls Tryz.prog F #[.pointer (some ⟨b, 0, none⟩)] w (XOut P ts b A c en wo d (parX n m d p (ts.drop i)) w)
theorem XRes.move {P Q : Nat -> Prop} {ts : List Tok} {en wo d : Int} {q : PR (Ex × Nat)} {o : Int} {v : Val} {nm : ByteArray} {A' : Option Addr} {n' : Nat} {ok : Bool} {w w' : World} {j : Nat} {wr' e' p' d' : Int} (h : XRes P ts en wo d q o v nm A' n' ok w j wr' e' p' d') (hk : ∀ l, Lie P w A' l -> Lie Q w' A' l) : XRes Q ts en wo d q o v nm A' n' ok w' j wr' e' p' d' := by
 cases q with
 | bad r f => exact h
 | ok y r =>
  obtain ⟨h1, h2, h3, h4, h5, h6, h7⟩ := h
  exact ⟨h1, h2, h3, h4, h5, hk _ h6, h7⟩
theorem XRes.deep {P : Nat -> Prop} {ts : List Tok} {en wo d : Int} {q : PR (Ex × Nat)} {o : Int} {v : Val} {nm : ByteArray} {A' : Option Addr} {n' : Nat} {ok : Bool} {w : World} {j : Nat} {wr' e' p' d' : Int} (h : XRes P ts en wo d q o v nm A' n' ok w j wr' e' p' d') {f f' : Int} (hf : d' = d -> f' = f) : XRes P ts en wo f q o v nm A' n' ok w j wr' e' p' f' := by
 cases q with
 | bad r e => exact h
 | ok y r =>
  obtain ⟨h1, h2, h3, h4, h5, h6, h7, h8, h9, h10, h11, h12⟩ := h
  exact ⟨h1, h2, h3, h4, h5, h6, h7, h8, h9, h10, hf h11, h12⟩
theorem Qnw (n : Nat) (IH : XCon 64 .expr n) : XCon 33 .inner (n + 1) := by
 intro P ts w b A c i en wo p d hC hr hi hP hPw hp hd hfine
 have hbw := hr.1.1
 have KR := Hd hr
 have KC := Hd hC
 have KPw := Hd hPw
 have w1 : IntKind.i64.wrap ((d : Int) + 1) = ((d + 1 : Nat) : Int) := by rw [IntKind.wrap_i64]; omega
 have he : parX (n + 1) .inner d p (ts.drop i) = if 64 < d + 1 then .bad (ts.drop i) 9 else parX n .expr (d + 1) p (ts.drop i) := by rw [parX.eq_def]
 rw [he] at hfine ⊢
 clear he hC hr hPw
 by_cases h1 : 64 < d + 1
 ·rw [iP h1]
  have g1 : (64 : Int) < ((d + 1 : Nat) : Int) := by omega
  clear h1 hfine hd
  go_enter Tryz.func33, Tryz.ntmps33
  go_upto_region 1 with fail
  refine uN ((Bel.refl w).alloc _) fun W hcc hf hz hb => ?_
  have T1 : Qab W w.heap.size 0 zv ⟨#[]⟩ none 0 0 := by simp [Qab, Qap, zv, hcc, hf, hz, go_sem]
  clear hcc hf hz
  have hwW : w.heap.size < W.heap.size := T1.1
  generalize hN : w.heap.size = N at T1 hwW ⊢
  have NW := Hd (show w.heap.size <= N from by omega)
  have nb : N ≠ b := by omega
  clear hN
  have xN : ¬ b = N := fun e => nb e.symm
  have K1 := Hd T1
  clear T1
  have KP := Hd (KR.out.keep hb)
  have B1 := Hd (Bag.of (b := b) hb)
  have hPN : ¬ (fun k => P k /\ k ≠ N) b := fun h => hP h.1
  have hPNN : ¬ (fun k => P k /\ k ≠ N) N := fun h => h.2 rfl
  have hPNw := Hd (show ∀ k, W.heap.size <= k -> (fun k => P k /\ k ≠ N) k from fun k hk => ⟨KPw.out k (by have := NW.out; omega), by omega⟩)
  obtain ⟨⟨z0, ⟨a0, a1, a2, a3, a4⟩, ⟨b0, b1, b2, b3, b4⟩⟩, ⟨a5, a6⟩, ⟨b5, b6⟩⟩ := KP.out
  go_upto_region 2 with fail
  clear z0 a0 a1 a2 a3 a4 b0 b1 b2 b3 b4 a5 a6 b5 b6
  have hB2 : Bag b W (W.setCell ⟨b, 6, none⟩ (.int .i64 ((d + 1 : Nat) : Int))) := (Bag.refl b W).setCell (p := ⟨b, 6, none⟩) rfl _
  have P2 := Hd (KP.out.depth ((d + 1 : Nat) : Int))
  have L1 := Hd (K1.out.bag hB2 nb)
  have B2 := Hd (B1.out.trans hB2)
  have hsz2 := Hd hB2.size
  refine Qdb (W.setCell ⟨b, 6, none⟩ (.int .i64 ((d + 1 : Nat) : Int))) rfl ?_
  clear hB2
  generalize W.setCell ⟨b, 6, none⟩ (.int .i64 ((d + 1 : Nat) : Int)) = W2 at P2 L1 B2 hsz2 ⊢
  obtain ⟨⟨z0, ⟨a0, a1, a2, a3, a4⟩, ⟨b0, b1, b2, b3, b4⟩⟩, ⟨a5, a6⟩, ⟨b5, b6⟩⟩ := P2.out
  go_upto_region 3 with fail
  clear z0 a0 a1 a2 a3 a4 b0 b1 b2 b3 b4 a5 a6 b5 b6
  have CF := Hd (Qbu ts W2 b A c i en wo 9 p ((d + 1 : Nat) : Int) (KC.out.bag B2.out) P2.out hi)
  go_wp2_with (go_at_call 63; (with_reducible refine Calls.mono CF.out ?_); rintro ee V9 ⟨rfl, hb9, hr9⟩; have hq9 := Hd (B2.out.trans hb9); have hr9' := Hd hr9; obtain ⟨sz, ⟨s0, s1, s2, s3, s4, s5, s6, s7⟩, ⟨sf0, sf1, sf2, sf3, sf4, sf5, sf6, sf7⟩⟩ := L1.out.bag hb9 nb; simp only [zv, Nat.zero_add] at s0 s1 s2 s3 s4 s5 s6 s7; clear hb9 hr9)
  refine pR (v := .tuple #[exV 0 zv ⟨#[]⟩ none 0 0, .bool false]) (by simp [results, Tryz.results33, go_sem, zv, sz, s0, s1, s2, s3, s4, s5, s6, s7]) rfl (Qaq (j := i) (wr' := plcT en (ts.drop i)) (e' := 9) (p' := p) (d' := ((d + 1 : Nat) : Int)) ?_ ?_ hi rfl ?_)
  ·repeat (first | with_reducible exact hq9.out | refine Bag.new ?_ NW.out _)
  ·repeat (first | with_reducible exact hr9'.out | refine Psr.far ?_ xN _)
  exact fun _ => ⟨rfl, rfl, rfl⟩
 rw [iN h1] at hfine ⊢
 have g1 : ¬ (64 : Int) < ((d + 1 : Nat) : Int) := by omega
 have w2 := Hd (show IntKind.i64.wrap (((d + 1 : Nat) : Int) - 1) = (d : Int) from by rw [IntKind.wrap_i64]; omega)
 have CE := Hd fun (Q : Nat -> Prop) (W0 : World) (hQ : ¬ Q b) (hQw : ∀ k, W0.heap.size <= k -> Q k) W (h0 : W0.heap.size <= W.heap.size) (hW : Bag b w W) (hR : Psr W b A ts.length c i en wo 0 p ((d + 1 : Nat) : Int)) => IH Q ts W b A c i en wo p (d + 1) (KC.out.bag hW) hR hi hQ (fun k hk => hQw k (Nat.le_trans h0 hk)) hp (by omega) hfine
 generalize hq : parX n .expr (d + 1) p (ts.drop i) = q at CE ⊢
 clear h1 hfine hd hq
 go_enter Tryz.func33, Tryz.ntmps33
 go_upto_region 1 with fail
 refine uN ((Bel.refl w).alloc _) fun W hcc hf hz hb => ?_
 have T1 : Qab W w.heap.size 0 zv ⟨#[]⟩ none 0 0 := by simp [Qab, Qap, zv, hcc, hf, hz, go_sem]
 clear hcc hf hz
 have hwW : w.heap.size < W.heap.size := T1.1
 generalize hN : w.heap.size = N at T1 hwW ⊢
 have NW := Hd (show w.heap.size <= N from by omega)
 have nb : N ≠ b := by omega
 clear hN
 have xN : ¬ b = N := fun e => nb e.symm
 have K1 := Hd T1
 clear T1
 have KP := Hd (KR.out.keep hb)
 have B1 := Hd (Bag.of (b := b) hb)
 have hPN : ¬ (fun k => P k /\ k ≠ N) b := fun h => hP h.1
 have hPNN : ¬ (fun k => P k /\ k ≠ N) N := fun h => h.2 rfl
 have hPNw := Hd (show ∀ k, W.heap.size <= k -> (fun k => P k /\ k ≠ N) k from fun k hk => ⟨KPw.out k (by have := NW.out; omega), by omega⟩)
 obtain ⟨⟨z0, ⟨a0, a1, a2, a3, a4⟩, ⟨b0, b1, b2, b3, b4⟩⟩, ⟨a5, a6⟩, ⟨b5, b6⟩⟩ := KP.out
 go_upto_region 2 with fail
 clear z0 a0 a1 a2 a3 a4 b0 b1 b2 b3 b4 a5 a6 b5 b6
 have hB2 : Bag b W (W.setCell ⟨b, 6, none⟩ (.int .i64 ((d + 1 : Nat) : Int))) := (Bag.refl b W).setCell (p := ⟨b, 6, none⟩) rfl _
 have P2 := Hd (KP.out.depth ((d + 1 : Nat) : Int))
 have L1 := Hd (K1.out.bag hB2 nb)
 have B2 := Hd (B1.out.trans hB2)
 have hsz2 := Hd hB2.size
 refine Qdb (W.setCell ⟨b, 6, none⟩ (.int .i64 ((d + 1 : Nat) : Int))) rfl ?_
 clear hB2
 generalize W.setCell ⟨b, 6, none⟩ (.int .i64 ((d + 1 : Nat) : Int)) = W2 at P2 L1 B2 hsz2 ⊢
 obtain ⟨⟨z0, ⟨a0, a1, a2, a3, a4⟩, ⟨b0, b1, b2, b3, b4⟩⟩, ⟨a5, a6⟩, ⟨b5, b6⟩⟩ := P2.out
 have CE2 := Hd fun X (hX : X = W2) (hW : Bag b w X) (hR : Psr X b A ts.length c i en wo 0 p ((d + 1 : Nat) : Int)) => CE.out (fun k => P k /\ k ≠ N) W hPN hPNw.out X (by rw [hX]; exact hsz2.out) hW hR
 have CEX := Hd fun X => CE2.out X
 go_upto_region 4 with fail
 clear z0 a0 a1 a2 a3 a4 b0 b1 b2 b3 b4 a5 a6 b5 b6
 go_upto_region 5 with (go_at_call 64; (with_reducible refine Calls.mono (CEX.out _ rfl B2.out P2.out) ?_); rintro ee V3 ⟨j3, wr3, e3, p3, d3, o3, v3, nm3, A3, n3, c3, ok3, hbV3, hrV3, hj3, rfl, hxV3⟩; have bg3 := Hd (B2.out.trans hbV3); have ps3 := Hd hrV3; have xr3 := Hd hxV3; have L3 := Hd (L1.out.bag hbV3 nb); clear hbV3 hrV3 hxV3)
 obtain ⟨vk3, vn3, vs3, vt3, vm3⟩ := v3
 refine uN (w0 := V3) (by exact Bel.y) fun W4 hcc hf hz hbW4 => ?_
 have T3 : Qab W4 V3.heap.size o3 ⟨vk3, vn3, vs3, vt3, vm3⟩ nm3 A3 n3 c3 := by simp [Qab, Qap, hcc, hf, hz, go_sem]
 clear hcc hf hz
 have nM3 : N < V3.heap.size := L3.out.1
 have bM3 : b < V3.heap.size := ps3.out.1.1
 have xs3 := Hd (show ∀ l, Lie (fun k => P k /\ k ≠ N) V3 A3 l -> Lie (fun k => (P k /\ k ≠ N) /\ k ≠ V3.heap.size) W4 A3 l from fun l h => (h.weak (Q := fun k => (P k /\ k ≠ N) /\ k ≠ V3.heap.size) (fun q hq hlt => ⟨hq, by omega⟩)).keep hbW4)
 have MW3 := Hd (show w.heap.size <= V3.heap.size from bg3.out.size)
 generalize V3.heap.size = M at T3 nM3 bM3 xs3 MW3
 have mb3 : M ≠ b := by omega
 have mN3 : ¬ N = M := by omega
 have Nm3 : ¬ M = N := by omega
 have xM3 : ¬ b = M := by omega
 have LM3 := Hd T3
 have LN3 := Hd (L3.out.keep hbW4)
 have bh3 := Hd (bg3.out.trans (Bag.of hbW4))
 have ph3 := Hd (ps3.out.keep hbW4)
 clear T3 hbW4
 obtain ⟨dd, w3⟩ : ∃ dd, IntKind.i64.wrap (d3 - 1) = dd := ⟨_, rfl⟩
 have w3h := Hd w3
 obtain ⟨⟨z0, ⟨a0, a1, a2, a3, a4⟩, ⟨b0, b1, b2, b3, b4⟩⟩, ⟨a5, a6⟩, ⟨b5, b6⟩⟩ := ph3.out
 go_upto_region 6 with fail
 clear z0 a0 a1 a2 a3 a4 b0 b1 b2 b3 b4 a5 a6 b5 b6 w3
 have hB5 : Bag b W4 (W4.setCell ⟨b, 6, none⟩ (.int .i64 dd)) := (Bag.refl b W4).setCell (p := ⟨b, 6, none⟩) rfl _
 have P5 := Hd (ph3.out.depth dd)
 have L5 := Hd (LN3.out.bag hB5 nb)
 have L6 := Hd (LM3.out.bag hB5 mb3)
 have B5 := Hd (bh3.out.trans hB5)
 have xs5 := Hd (show ∀ l, Lie (fun k => P k /\ k ≠ N) V3 A3 l -> Lie (fun k => (P k /\ k ≠ N) /\ k ≠ M) (W4.setCell ⟨b, 6, none⟩ (.int .i64 dd)) A3 l from fun l h => (xs3.out l h).bag hB5 (fun h => hPN h.1))
 refine Qdb (W4.setCell ⟨b, 6, none⟩ (.int .i64 dd)) rfl ?_
 clear hB5
 generalize W4.setCell ⟨b, 6, none⟩ (.int .i64 dd) = W5 at P5 L5 L6 B5 xs5 ⊢
 obtain ⟨sz, ⟨s0, s1, s2, s3, s4, s5, s6, s7⟩, ⟨sf0, sf1, sf2, sf3, sf4, sf5, sf6, sf7⟩⟩ := L5.out
 simp only [zv, Nat.zero_add] at s0 s1 s2 s3 s4 s5 s6 s7
 obtain ⟨tz, ⟨t0, t1, t2, t3, t4, t5, t6, t7⟩, ⟨tf0, tf1, tf2, tf3, tf4, tf5, tf6, tf7⟩⟩ := L6.out
 simp only [zv, Nat.zero_add] at t0 t1 t2 t3 t4 t5 t6 t7
 go_wp2_with fail
 refine pR (v := .tuple #[exV o3 ⟨vk3, vn3, vs3, vt3, vm3⟩ nm3 A3 n3 c3, .bool ok3]) (by simp [results, Tryz.results33, go_sem, zv, sz, s0, s1, s2, s3, s4, s5, s6, s7]) rfl (Qaq (j := j3) (wr' := wr3) (e' := e3) (p' := p3) (d' := dd) ?_ ?_ hj3 rfl ?_)
 ·repeat (first | with_reducible exact B5.out | refine Bag.new ?_ NW.out _)
 ·repeat (first | with_reducible exact P5.out | refine Psr.far ?_ xN _)
 intro _
 refine XRes.deep (XRes.move xr3.out fun l hl => ((xs5.out l hl).bag (b := N) ?_ (fun h => hPNN h.1)).weak fun k h _ => h.1.1) (fun e => ?_)
 ·repeat (first | with_reducible exact Bag.refl N W5 | refine Bag.setCell (b := N) ?_ rfl _)
 rw [← w3h.out, e]
 exact w2.out
def XEnc (n : Nat) : Prop := ∀ (P : Nat -> Prop) (ts : List Tok) (w : World) (b : Nat) (A : Option Addr) (c i : Nat) (en wo : Int) (p d : Nat), Cx ts A b w -> Psr w b A ts.length c i en wo 0 p d -> i <= ts.length -> ¬ P b -> (∀ k, w.heap.size <= k -> P k) -> p <= 4096 -> d <= 64 -> (encX (parX n .inner d p (ts.drop i))).fine ->
 Calls Tryz.prog 194 #[.pointer (some ⟨b, 0, none⟩)] w (XOut P ts b A c en wo d (encX (parX n .inner d p (ts.drop i))) w)
theorem Qhs (n : Nat) (IH : XCon 33 .inner n) : XEnc n := by
 intro P ts w b A c i en wo p d hC hr hi hP hPw hp hd hfine
 have hbw := hr.1.1
 have KR := Hd hr
 have KC := Hd hC
 have KPw := Hd hPw
 have hf2 := Qgy hfine
 have CE := Hd fun (Q : Nat -> Prop) (W0 : World) (hQ : ¬ Q b) (hQw : ∀ k, W0.heap.size <= k -> Q k) W (h0 : W0.heap.size <= W.heap.size) (hW : Bag b w W) (hR : Psr W b A ts.length c i en wo 0 p d) => IH Q ts W b A c i en wo p d (KC.out.bag hW) hR hi hQ (fun k hk => hQw k (Nat.le_trans h0 hk)) hp hd hf2
 generalize hq : parX n .inner d p (ts.drop i) = q at CE ⊢
 clear hfine hd hq hC hr hPw hf2
 go_enter Tryz.func194, Tryz.ntmps194
 go_upto_region 1 with fail
 refine uN ((Bel.refl w).alloc _) fun W hcc hf hz hb => ?_
 have T1 : Qab W w.heap.size 0 zv ⟨#[]⟩ none 0 0 := by simp [Qab, Qap, zv, hcc, hf, hz, go_sem]
 clear hcc hf hz
 have hwW : w.heap.size < W.heap.size := T1.1
 generalize hN : w.heap.size = N at T1 hwW ⊢
 have NW := Hd (show w.heap.size <= N from by omega)
 have nb : N ≠ b := by omega
 clear hN
 have xN : ¬ b = N := fun e => nb e.symm
 have K1 := Hd T1
 clear T1
 have KP := Hd (KR.out.keep hb)
 have B1 := Hd (Bag.of (b := b) hb)
 have hPN : ¬ (fun k => P k /\ k ≠ N) b := fun h => hP h.1
 have hPNN : ¬ (fun k => P k /\ k ≠ N) N := fun h => h.2 rfl
 have hPNw := Hd (show ∀ k, W.heap.size <= k -> (fun k => P k /\ k ≠ N) k from fun k hk => ⟨KPw.out k (by have := NW.out; omega), by omega⟩)
 have CEX := Hd fun X (hX : X = W) (hW : Bag b w X) (hR : Psr X b A ts.length c i en wo 0 p d) => CE.out (fun k => P k /\ k ≠ N) W hPN hPNw.out X (by rw [hX]; exact Nat.le_refl _) hW hR
 go_upto_region 2 with (go_at_call 33; (with_reducible refine Calls.mono (CEX.out _ rfl B1.out KP.out) ?_); rintro ee V3 ⟨j3, wr3, e3, p3, d3, o3, v3, nm3, A3, n3, c3, ok3, hbV3, hrV3, hj3, rfl, hxV3⟩; have bg3 := Hd (B1.out.trans hbV3); have ps3 := Hd hrV3; have xr3 := Hd hxV3; have L3 := Hd (K1.out.bag hbV3 nb); clear hbV3 hrV3 hxV3)
 obtain ⟨vk3, vn3, vs3, vt3, vm3⟩ := v3
 refine uN (w0 := V3) (by exact Bel.y) fun W4 hcc hf hz hbW4 => ?_
 have T3 : Qab W4 V3.heap.size o3 ⟨vk3, vn3, vs3, vt3, vm3⟩ nm3 A3 n3 c3 := by simp [Qab, Qap, hcc, hf, hz, go_sem]
 clear hcc hf hz
 have nM3 : N < V3.heap.size := L3.out.1
 have bM3 : b < V3.heap.size := ps3.out.1.1
 have xs3 := Hd (show ∀ l, Lie (fun k => P k /\ k ≠ N) V3 A3 l -> Lie (fun k => (P k /\ k ≠ N) /\ k ≠ V3.heap.size) W4 A3 l from fun l h => (h.weak (Q := fun k => (P k /\ k ≠ N) /\ k ≠ V3.heap.size) (fun q hq hlt => ⟨hq, by omega⟩)).keep hbW4)
 have MW3 := Hd (show w.heap.size <= V3.heap.size from bg3.out.size)
 generalize V3.heap.size = M at T3 nM3 bM3 xs3 MW3
 have mb3 : M ≠ b := by omega
 have mN3 : ¬ N = M := by omega
 have Nm3 : ¬ M = N := by omega
 have xM3 : ¬ b = M := by omega
 have LM3 := Hd T3
 have LN3 := Hd (L3.out.keep hbW4)
 have bh3 := Hd (bg3.out.trans (Bag.of hbW4))
 have ph3 := Hd (ps3.out.keep hbW4)
 clear T3 hbW4
 cases q with
 | bad r f =>
  obtain ⟨rfl, hw3, he3⟩ : ok3 = false /\ wr3 = plcT en r /\ e3 = f := xr3.out
  have hwe := Hd (And.intro hw3 he3)
  clear hw3 he3
  obtain ⟨sz, ⟨s0, s1, s2, s3, s4, s5, s6, s7⟩, ⟨sf0, sf1, sf2, sf3, sf4, sf5, sf6, sf7⟩⟩ := LN3.out
  simp only [zv, Nat.zero_add] at s0 s1 s2 s3 s4 s5 s6 s7
  obtain ⟨tz, ⟨t0, t1, t2, t3, t4, t5, t6, t7⟩, ⟨tf0, tf1, tf2, tf3, tf4, tf5, tf6, tf7⟩⟩ := LM3.out
  simp only [zv, Nat.zero_add] at t0 t1 t2 t3 t4 t5 t6 t7
  go_wp2_with fail
  refine pR (v := .tuple #[exV o3 ⟨vk3, vn3, vs3, vt3, vm3⟩ nm3 A3 n3 c3, .bool false]) (by simp [results, Tryz.results194, go_sem, zv, sz, s0, s1, s2, s3, s4, s5, s6, s7]) rfl (Qaq (j := j3) (wr' := wr3) (e' := e3) (p' := p3) (d' := d3) ?_ ?_ hj3 rfl ?_)
  ·repeat (first | with_reducible exact bh3.out | refine Bag.new ?_ NW.out _)
  ·repeat (first | with_reducible exact ph3.out | refine Psr.far ?_ xN _)
  ·exact fun _ => ⟨rfl, hwe.out.1, hwe.out.2⟩
 | ok y r =>
  obtain ⟨rfl, ho3, hv3, hn3, hk3, hl3, hd3, rfl, rfl, hp3, hdd3, hpp3⟩ : ok3 = true /\ o3 = y.1.op /\ _ = y.1.v /\ nm3 = Qaa y.1.nm /\ n3 = y.1.ks.length /\ Lie _ V3 A3 y.1.ks /\ ts.drop j3 = r /\ wr3 = wo /\ e3 = 0 /\ p3 = y.2 /\ d3 = d /\ y.2 <= 4096 := xr3.out
  replace ho3 := Hd (And.intro ho3 (And.intro hv3 (And.intro hn3 hk3)))
  replace hd3 := Hd hd3
  replace hl3 := Hd (xs3.out _ hl3)
  have hpp := Hd (And.intro hp3 (And.intro hdd3 hpp3))
  clear hv3 hn3 hk3 hp3 hdd3 hpp3 xr3
  cases h1 : isS [41] r with
  | true =>
   have hE := Hd (show encX (.ok y r) = .ok y r.tail from by unfold encX; simp only; rw [iP h1])
   have hs3 := Hd (show isK 5 [41] (ts.drop j3) = true from by rw [hd3.out]; exact h1)
   have hjl : j3 < ts.length := by
    have hne := Qnr hs3.out
    rcases Nat.lt_or_ge j3 ts.length with h2 | h2
    ·exact h2
    exact absurd (List.drop_eq_nil_of_le h2) hne
   have CS := fun X (hX : X = W4) => Qbd ts [41] X b A c j3 (j3 + 1) en wr3 0 (KC.out.bag (by rw [hX]; exact bh3.out)).toks (by rw [hX]; exact ph3.out.1) hj3 KC.out.2.1 (by rw [iP hs3.out])
   rw [hs3.out, show Qaa [41] = (⟨#[41]⟩ : ByteArray) from rfl] at CS
   replace CS := Hd CS
   clear h1
   go_upto_region 4 with (go_at_call 176; (with_reducible refine Calls.mono (CS.out _ rfl) ?_); rintro ee V5 ⟨rfl, hb5, hr5⟩; have bg5 := Hd (bh3.out.trans hb5.bag); have ps5 := Hd (ph3.out.but hb5 hr5); have L5 := Hd (LN3.out.bag hb5.bag nb); have L6 := Hd (LM3.out.bag hb5.bag mb3); have hl5 := Hd (hl3.out.bag hb5.bag (fun h => hPN h.1)); clear hb5 hr5)
   obtain ⟨sz, ⟨s0, s1, s2, s3, s4, s5, s6, s7⟩, ⟨sf0, sf1, sf2, sf3, sf4, sf5, sf6, sf7⟩⟩ := L5.out
   simp only [zv, Nat.zero_add] at s0 s1 s2 s3 s4 s5 s6 s7
   obtain ⟨tz, ⟨t0, t1, t2, t3, t4, t5, t6, t7⟩, ⟨tf0, tf1, tf2, tf3, tf4, tf5, tf6, tf7⟩⟩ := L6.out
   simp only [zv, Nat.zero_add] at t0 t1 t2 t3 t4 t5 t6 t7
   go_wp2_with fail
   refine pR (v := .tuple #[exV o3 ⟨vk3, vn3, vs3, vt3, vm3⟩ nm3 A3 n3 c3, .bool true]) (by simp [results, Tryz.results194, go_sem, zv, sz, s0, s1, s2, s3, s4, s5, s6, s7]) rfl (Qaq (j := (j3 + 1)) (wr' := wr3) (e' := 0) (p' := p3) (d' := d3) ?_ ?_ hjl rfl ?_)
   ·repeat (first | with_reducible exact bg5.out | refine Bag.new ?_ NW.out _)
   ·repeat (first | with_reducible exact ps5.out | refine Psr.far ?_ xN _)
   ·intro _
    rw [hE.out]
    refine ⟨rfl, ho3.out.1, ho3.out.2.1, ho3.out.2.2.1, ho3.out.2.2.2, (hl5.out.bag (b := N) ?_ (fun h => hPNN h.1)).weak fun k h _ => h.1.1, by rw [← hd3.out, List.tail_drop], rfl, rfl, hpp.out⟩
    repeat (first | with_reducible exact Bag.refl N V5 | refine Bag.setCell (b := N) ?_ rfl _)
  | false =>
   have hE := Hd (show encX (.ok y r) = .bad r 5 from by unfold encX; simp only; rw [iN (by rw [h1]; decide)])
   have hs3 := Hd (show isK 5 [41] (ts.drop j3) = false from by rw [hd3.out]; exact h1)
   have CS := fun X (hX : X = W4) => Qbd ts [41] X b A c j3 j3 en wr3 0 (KC.out.bag (by rw [hX]; exact bh3.out)).toks (by rw [hX]; exact ph3.out.1) hj3 KC.out.2.1 (by rw [iN (by rw [hs3.out]; decide)])
   rw [hs3.out, show Qaa [41] = (⟨#[41]⟩ : ByteArray) from rfl] at CS
   replace CS := Hd CS
   clear h1
   go_upto_region 3 with (go_at_call 176; (with_reducible refine Calls.mono (CS.out _ rfl) ?_); rintro ee V5 ⟨rfl, hb5, hr5⟩; have bg5 := Hd (bh3.out.trans hb5.bag); have ps5 := Hd (ph3.out.but hb5 hr5); have L5 := Hd (LN3.out.bag hb5.bag nb); have L6 := Hd (LM3.out.bag hb5.bag mb3); have hl5 := Hd (hl3.out.bag hb5.bag (fun h => hPN h.1)); clear hb5 hr5)
   have CF := Hd (Qbu ts V5 b A c j3 en wr3 5 p3 d3 (KC.out.bag bg5.out) ps5.out hj3)
   go_wp2_with (go_at_call 63; (with_reducible refine Calls.mono CF.out ?_); rintro ee V9 ⟨rfl, hb9, hr9⟩; have hq9 := Hd (bg5.out.trans hb9); have hr9' := Hd hr9; obtain ⟨sz, ⟨s0, s1, s2, s3, s4, s5, s6, s7⟩, ⟨sf0, sf1, sf2, sf3, sf4, sf5, sf6, sf7⟩⟩ := L5.out.bag hb9 nb; simp only [zv, Nat.zero_add] at s0 s1 s2 s3 s4 s5 s6 s7; clear hb9 hr9)
   refine pR (v := .tuple #[exV 0 zv ⟨#[]⟩ none 0 0, .bool false]) (by simp [results, Tryz.results194, go_sem, zv, sz, s0, s1, s2, s3, s4, s5, s6, s7]) rfl (Qaq (j := j3) (wr' := plcT en (ts.drop j3)) (e' := 5) (p' := p3) (d' := d3) ?_ ?_ hj3 rfl ?_)
   ·repeat (first | with_reducible exact hq9.out | refine Bag.new ?_ NW.out _)
   ·repeat (first | with_reducible exact hr9'.out | refine Psr.far ?_ xN _)
   intro _
   rw [hE.out]
   exact ⟨rfl, by rw [hd3.out], rfl⟩
end
section
open Go.RowKit
def c8 (x : Ex) (k : Option Addr × Nat) : List Value := [.int .i64 x.op, .int .i64 x.v.kind, .int .i64 x.v.n, .int .i64 x.v.scale, .string x.v.text, .int .i64 x.v.num, .string (Qaa x.nm), .slice k.1 x.ks.length k.2]
def flatE : List Ex -> List (Option Addr × Nat) -> List Value
 | x :: l, k :: ks => c8 x k ++ flatE l ks
 | _, _ => []
theorem Qht : ∀ (l : List Ex) (ks : List (Option Addr × Nat)), ks.length = l.length -> (flatE l ks).length = l.length * 8
 | [], [], _ => rfl
 | [], _ :: _, h => by cases h
 | _ :: _, [], h => by cases h
 | x :: l, k :: ks, h => by
  unfold flatE
  rw [lA, Qht l ks (by simpa using h)]
  simp [c8]
  omega
theorem Qkk : ∀ (l : List Ex) (ks : List (Option Addr × Nat)) (j i : Nat) (x : Ex) (k : Option Addr × Nat) (u : Value), l[j]? = some x -> ks[j]? = some k -> (c8 x k)[i]? = some u -> (flatE l ks)[j * 8 + i]? = some u
 | [], ks, j, i, x, k, u, h, _, _ => by simp at h
 | y :: l, [], j, i, x, k, u, _, h, _ => by simp at h
 | y :: l, q :: ks, 0, i, x, k, u, h, hk, hu => by
  obtain rfl : y = x := by simpa using h
  obtain rfl : q = k := by simpa using hk
  unfold flatE
  rw [Nat.zero_mul, Nat.zero_add, List.getElem?_append_left (List.getElem?_eq_some_iff.1 hu).1]
  exact hu
 | y :: l, q :: ks, j + 1, i, x, k, u, h, hk, hu => by
  unfold flatE
  rw [List.getElem?_append_right (by simp [c8]; omega)]
  rw [show (j + 1) * 8 + i - (c8 y q).length = j * 8 + i by simp [c8]; omega]
  exact Qkk l ks j i x k u h hk hu
theorem Qfq : ∀ (l : List Ex) (ks : List (Option Addr × Nat)) (j : Nat) (u : Value), (flatE l ks)[j]? = some u -> ∃ x k, l[j / 8]? = some x /\ ks[j / 8]? = some k /\ (c8 x k)[j % 8]? = some u
 | [], ks, j, u, h => by unfold flatE at h; simp at h
 | y :: l, [], j, u, h => by unfold flatE at h; simp at h
 | y :: l, q :: ks, j, u, h => by
  unfold flatE at h
  by_cases hj : j < 8
  ·rw [List.getElem?_append_left (by simp [c8]; omega)] at h
   have e0 : j / 8 = 0 := by omega
   have e1 : j % 8 = j := by omega
   rw [e0, e1]
   exact ⟨y, q, rfl, rfl, h⟩
  rw [List.getElem?_append_right (by simp [c8]; omega)] at h
  have e : j - (c8 y q).length = j - 8 := by simp [c8]
  rw [e] at h
  obtain ⟨x, k, h1, h2, h3⟩ := Qfq l ks (j - 8) u h
  have e0 : j / 8 = (j - 8) / 8 + 1 := by omega
  have e1 : j % 8 = (j - 8) % 8 := by omega
  rw [e0, e1]
  exact ⟨x, k, by simpa using h1, by simpa using h2, h3⟩
theorem Qnx (l : List Ex) (ks : List (Option Addr × Nat)) : ∀ u ∈ flatE l ks, u.oneCell' = true := by
 intro u hu
 obtain ⟨j, hj⟩ := List.mem_iff_getElem?.1 hu
 obtain ⟨x, k, _, _, h⟩ := Qfq l ks j u hj
 have hm := List.mem_of_getElem? h
 simp only [c8, List.mem_cons, List.not_mem_nil, or_false] at hm
 rcases hm with rfl | rfl | rfl | rfl | rfl | rfl | rfl | rfl <;> rfl
theorem Qt8 {w : World} {b o : Nat} {x : Ex} {k : Option Addr × Nat} (h : ∀ i u, (c8 x k)[i]? = some u -> w.cell? ⟨b, o + i, none⟩ = some u) : Qap w b o x.op x.v (Qaa x.nm) k.1 x.ks.length k.2 :=
 ⟨h 0 _ rfl, h 1 _ rfl, h 2 _ rfl, h 3 _ rfl, h 4 _ rfl, h 5 _ rfl, h 6 _ rfl, h 7 _ rfl⟩
theorem Qqy {w : World} {b o : Nat} {x : Ex} {k : Option Addr × Nat} (h : Qap w b o x.op x.v (Qaa x.nm) k.1 x.ks.length k.2) : ∀ i u, (c8 x k)[i]? = some u -> w.cell? ⟨b, o + i, none⟩ = some u := by
 obtain ⟨h0, h1, h2, h3, h4, h5, h6, h7⟩ := h
 intro i u hu
 match i, hu with
 | 0, hu => simp only [c8, List.getElem?_cons_zero, Option.some.injEq] at hu; subst hu; exact h0
 | 1, hu => simp only [c8, List.getElem?_cons_succ, List.getElem?_cons_zero, Option.some.injEq] at hu; subst hu; exact h1
 | 2, hu => simp only [c8, List.getElem?_cons_succ, List.getElem?_cons_zero, Option.some.injEq] at hu; subst hu; exact h2
 | 3, hu => simp only [c8, List.getElem?_cons_succ, List.getElem?_cons_zero, Option.some.injEq] at hu; subst hu; exact h3
 | 4, hu => simp only [c8, List.getElem?_cons_succ, List.getElem?_cons_zero, Option.some.injEq] at hu; subst hu; exact h4
 | 5, hu => simp only [c8, List.getElem?_cons_succ, List.getElem?_cons_zero, Option.some.injEq] at hu; subst hu; exact h5
 | 6, hu => simp only [c8, List.getElem?_cons_succ, List.getElem?_cons_zero, Option.some.injEq] at hu; subst hu; exact h6
 | 7, hu => simp only [c8, List.getElem?_cons_succ, List.getElem?_cons_zero, Option.some.injEq] at hu; subst hu; exact h7
 | n + 8, hu => simp [c8] at hu
theorem Qny {P : Nat -> Prop} {n : Nat} {w : World} {A : Option Addr} {l : List Ex} (h : LieAt P (n + 1) w A l) (h0 : 0 < l.length) : ∃ (b off : Nat) (ks : List (Option Addr × Nat)), A = some ⟨b, off, none⟩ /\ P b /\ b < w.heap.size /\ ks.length = l.length /\ (∀ j u, (flatE l ks)[j]? = some u -> w.cell? ⟨b, off + j, none⟩ = some u) /\ ∀ (i : Nat) (x : Ex) (k : Option Addr × Nat), l[i]? = some x -> ks[i]? = some k -> LieAt P n w k.1 x.ks := by
 obtain ⟨b, off, hA, hP, hlt, hat⟩ := h h0
 have hx : ∀ i : Fin l.length, ∃ k : Option Addr × Nat, Qap w b (off + i * 8) (l[i]).op (l[i]).v (Qaa (l[i]).nm) k.1 (l[i]).ks.length k.2 /\ LieAt P n w k.1 (l[i]).ks := fun i => by
  obtain ⟨A', c', k1, k2⟩ := hat i l[i] (gE i.2)
  exact ⟨(A', c'), k1, k2⟩
 let f : Fin l.length -> Option Addr × Nat := fun i => Classical.choose (hx i)
 have hf := fun i => Classical.choose_spec (hx i)
 have hg : ∀ i k, (List.ofFn f)[i]? = some k -> ∃ hi : i < l.length, k = f ⟨i, hi⟩ := by
  intro i k hk
  have hi : i < l.length := by
   have := (List.getElem?_eq_some_iff.1 hk).1
   simpa using this
  refine ⟨hi, ?_⟩
  rw [gE (by simpa using hi)] at hk
  simpa using (Option.some.inj hk).symm
 refine ⟨b, off, List.ofFn f, hA, hP, hlt, by simp, ?_, ?_⟩
 ·intro j u hu
  obtain ⟨x, k, h1, h2, h3⟩ := Qfq l _ j u hu
  obtain ⟨hi, rfl⟩ := hg _ _ h2
  have e : l[j / 8] = x := by
   rw [gE hi] at h1
   exact Option.some.inj h1
  have k1 := (hf ⟨j / 8, hi⟩).1
  have := Qqy (x := l[j / 8]) (k := f ⟨j / 8, hi⟩) k1 (j % 8) u (by rw [e]; exact h3)
  rw [show off + j = off + j / 8 * 8 + j % 8 by omega]
  exact this
 intro i x k h1 h2
 obtain ⟨hi, rfl⟩ := hg _ _ h2
 have e : l[i] = x := by
  rw [gE hi] at h1
  exact Option.some.inj h1
 rw [← e]
 exact (hf ⟨i, hi⟩).2
theorem Qwb {P : Nat -> Prop} {n : Nat} {w : World} {b off : Nat} {l : List Ex} {ks : List (Option Addr × Nat)} (hk : ks.length = l.length) (hP : P b) (hb : b < w.heap.size) (hc : ∀ j u, (flatE l ks)[j]? = some u -> w.cell? ⟨b, off + j, none⟩ = some u) (hs : ∀ (i : Nat) (x : Ex) (k : Option Addr × Nat), l[i]? = some x -> ks[i]? = some k -> LieAt P n w k.1 x.ks) : LieAt P (n + 1) w (some ⟨b, off, none⟩) l := fun h0 => by
 refine ⟨b, off, rfl, hP, hb, fun i x hx => ?_⟩
 have hi : i < ks.length := by rw [hk]; exact (List.getElem?_eq_some_iff.1 hx).1
 have e := gE hi
 refine ⟨ks[i].1, ks[i].2, Qt8 fun m u hu => ?_, hs i x _ hx e⟩
 have := hc _ u (Qkk l ks i m x _ u hx e hu)
 rw [show off + i * 8 + m = off + (i * 8 + m) by omega]
 exact this
theorem infoX : (Tryz.prog.info? 28).map (fun i => (i.zero, i.size, i.bytes)) = some (some (.agg #[.int .i64 0, .int .i64 0, .int .i64 0, .int .i64 0, .string ⟨#[]⟩, .int .i64 0, .string ⟨#[]⟩, .slice none 0 0]), 8, 96) := by kernel_rfl
theorem infoX' : ∃ i0, Tryz.prog.info? 28 = some i0 /\ i0.zero = some (.agg #[.int .i64 0, .int .i64 0, .int .i64 0, .int .i64 0, .string ⟨#[]⟩, .int .i64 0, .string ⟨#[]⟩, .slice none 0 0]) /\ i0.size = 8 /\ i0.bytes = 96 := by
 obtain ⟨i0, h1, h2⟩ := Option.map_eq_some_iff.1 infoX
 simp only [Prod.mk.injEq] at h2
 exact ⟨i0, h1, h2.1, h2.2.1, h2.2.2⟩
theorem Qnz (P : Nat -> Prop) (l : List Ex) (A : Option Addr) (c : Nat) (w : World) (hl : l.length <= 1000) (h0 : 0 < l.length) (hL : Lie P w A l) (hPw : ∀ k, w.heap.size <= k -> P k) :
  Calls Tryz.prog 143 #[.slice A l.length c] w fun e w' => ∃ A' c', e = .returned (.slice A' l.length c') /\ Lie P w' A' l /\ Bel w w' := by
 obtain ⟨n, hn⟩ := hL
 obtain ⟨b, off, ks, rfl, hP, hlt, hk, hc, hs⟩ := Qny (LieAt.more n hn) h0
 obtain ⟨i0, hi, hz0, hz1, hz2⟩ := infoX'
 refine (AnyE.slices_Clone Tryz.cloneX i0 _ 8 96 hi hz0 hz1 hz2 rfl (by omega) Tryz.sizeOf28 b off l.length c (flatE l ks) w (Qht l ks hk) (by unfold maxLen; omega) (by omega) hc (Qnx l ks)).mono fun e w' h => ?_
 obtain ⟨v', he, hown, hne, hbel⟩ := h
 have hB : Bel w w' := hbel
 have hown' := hown
 obtain ⟨h1, h2⟩ := hown
 rcases h2 with ⟨hv, hnil⟩ | ⟨g, cap, cur, hv, hg, _⟩
 ·exact absurd hv hne
 subst hv
 have hlt' := (World.ownsRow.lt hown' g rfl)
 refine ⟨some ⟨g, 0, none⟩, cap, he, ⟨n + 1, Qwb hk (hPw g hg) hlt'.2 (fun j u hu => ?_) fun i x k hx hkk => (hs i x k hx hkk).keep hB.size (fun b o _ hlt => hB.cells b o hlt) n⟩, hB⟩
 have := hown'.cells (g := g) rfl j u hu
 rwa [Go.WideShapes.add_plain] at this
theorem Qe5 (P : Nat -> Prop) (o : Int) (ks : List Ex) (A0 : Option Addr) (c0 : Nat) (ts : List Tok) (w : World) (b : Nat) (A : Option Addr) (c i : Nat) (en wo : Int) (p : Nat) (d : Int) (hC : Cx ts A b w) (hr : Psr w b A ts.length c i en wo 0 p d) (hi : i <= ts.length) (hL : Lie P w A0 ks) (hk0 : 0 < ks.length) (hk3 : ks.length <= 3) (hP : ¬ P b) (hPw : ∀ k, w.heap.size <= k -> P k) (hp : p <= 4096) :
  Calls Tryz.prog 92 #[.pointer (some ⟨b, 0, none⟩), .int .i64 o, .slice A0 ks.length c0] w (XOut P ts b A c en wo d (cmpX (.mk o zv [] ks) p (ts.drop i)) w) := by
 have hbw := hr.1.1
 have KR := Hd hr
 have KC := Hd hC
 have KPw := Hd hPw
 have KL := Hd hL
 have CC := Hd fun (Q : Nat -> Prop) W (hW : Bel w W) (hQ : ∀ k, P k -> k < w.heap.size -> Q k) (hQw : ∀ k, W.heap.size <= k -> Q k) => Qnz Q ks A0 c0 W (by omega) hk0 ((KL.out.weak hQ).keep hW) hQw
 have CP := Hd fun (Q : Nat -> Prop) (A1 : Option Addr) (c1 : Nat) W (hW : Bel w W) (hQ : ¬ Q b) (h1 : Lie Q W A1 ks) => (show Calls Tryz.prog 142 #[.pointer (some ⟨b, 0, none⟩), .agg #[.int .i64 o, .int .i64 0, .int .i64 0, .int .i64 0, .string ⟨#[]⟩, .int .i64 0, .string ⟨#[]⟩, .slice A1 ks.length c1]] W (XOut Q ts b A c en wo d (cmpX (.mk o zv [] ks) p (ts.drop i)) W) from Qcw Q (.mk o zv [] ks) A1 c1 ts W b A c i en wo p d (KC.out.keep hW) (KR.out.keep hW) hi h1 hQ hp)
 generalize hq : cmpX (.mk o zv [] ks) p (ts.drop i) = q at CP ⊢
 generalize hnk : ks.length = nk at CC CP ⊢
 clear hC hr hPw hL hk0 hk3 hp hq hnk
 go_enter Tryz.func92, Tryz.ntmps92
 go_upto_region 1 with fail
 refine uN ((Bel.refl w).alloc _) fun W hcc hf hz hb => ?_
 have T1 : Qab W w.heap.size 0 zv ⟨#[]⟩ none 0 0 := by simp [Qab, Qap, zv, hcc, hf, hz, go_sem]
 clear hcc hf hz
 have hwW : w.heap.size < W.heap.size := T1.1
 generalize hN : w.heap.size = N at T1 hwW ⊢
 have NW := Hd (show w.heap.size <= N from by omega)
 have nb : N ≠ b := by omega
 clear hN
 have xN : ¬ b = N := fun e => nb e.symm
 have K1 := Hd T1
 clear T1
 have KP := Hd (KR.out.keep hb)
 have B1 := Hd (Bag.of (b := b) hb)
 have KPP := Hd KPw.out
 have hPN : ¬ (fun k => P k /\ k ≠ N) b := fun h => hP h.1
 have hPNN : ¬ (fun k => P k /\ k ≠ N) N := fun h => h.2 rfl
 have hPNw := Hd (show ∀ k, W.heap.size <= k -> (fun k => P k /\ k ≠ N) k from fun k hk => ⟨KPw.out k (by have := NW.out; omega), by omega⟩)
 have CC2 := Hd fun X (hX : X = W) => CC.out (fun k => P k /\ k ≠ N) X (by rw [hX]; exact hb) (fun k hk hlt => ⟨hk, by have := NW.out; omega⟩) (by rw [hX]; exact hPNw.out)
 have CP2 := Hd fun A1 c1 X (hX : Bel W X) (h1 : Lie (fun k => P k /\ k ≠ N) X A1 ks) => CP.out (fun k => P k /\ k ≠ N) A1 c1 X (hb.trans hX) hPN h1
 go_wp2_with (first
  | (go_at_call 143; (with_reducible refine Calls.mono (CC2.out _ rfl) ?_); rintro ee V1 ⟨A1, c1, rfl, hl1, hb1⟩; have hq1 := Hd hb1; have hl1' := Hd hl1; clear hb1 hl1)
  | (go_at_call 142; (with_reducible refine Calls.mono (CP2.out _ _ _ hq1.out hl1'.out) ?_); rintro ee V3 ⟨j3, wr3, e3, p3, d3, o3, v3, nm3, A3, n3, c3, ok3, hb3, hr3, hj3, rfl, hx3⟩; have bg3 := Hd ((B1.out.trans (Bag.of hq1.out)).trans hb3); have ps3 := Hd hr3; have xr3 := Hd hx3; obtain ⟨vk3, vn3, vs3, vt3, vm3⟩ := v3; obtain ⟨sz, ⟨s0, s1, s2, s3, s4, s5, s6, s7⟩, ⟨sf0, sf1, sf2, sf3, sf4, sf5, sf6, sf7⟩⟩ := (K1.out.keep hq1.out).bag hb3 nb; simp only [zv, Nat.zero_add] at s0 s1 s2 s3 s4 s5 s6 s7; clear hb3 hr3 hx3))
 refine pR (v := .tuple #[exV o3 ⟨vk3, vn3, vs3, vt3, vm3⟩ nm3 A3 n3 c3, .bool ok3]) (by simp [results, Tryz.results92, go_sem, zv, sz, s0, s1, s2, s3, s4, s5, s6, s7]) rfl (Qaq (j := j3) (wr' := wr3) (e' := e3) (p' := p3) (d' := d3) ?_ ?_ hj3 rfl ?_)
 ·repeat (first | with_reducible exact bg3.out | refine Bag.new ?_ NW.out _)
 ·repeat (first | with_reducible exact ps3.out | refine Psr.far ?_ xN _)
 intro _
 refine XRes.move xr3.out fun l hl => (hl.bag (b := N) ?_ hPNN).weak fun k h _ => h.1
 repeat (first | with_reducible exact Bag.refl N V3 | refine Bag.setCell (b := N) ?_ rfl _)
end
end Go.Proofs.YtjckpkamhdbcnaaGreatDoor
