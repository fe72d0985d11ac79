import Derived.Test.YtjckpkamhdbcnaaGreatDoorZa
namespace Go.Proofs.YtjckpkamhdbcnaaGreatDoor
set_option linter.unusedSimpArgs false
set_option linter.unusedVariables false
section
open Go.ChangeShapes Go.WideShapes Go.ChangeAt Go.RowKit Go.Deep
structure Val where
 kind : Int
 n : Int
 scale : Int
 text : ByteArray
 num : Int
deriving DecidableEq
abbrev Val.val (v : Val) : Value := .agg #[.int .i64 v.kind, .int .i64 v.n, .int .i64 v.scale, .string v.text, .int .i64 v.num]
def veq (x y : Val) : Bool := decide (x = y)
theorem Qa8 (x y : Val) : veq x y = true ↔ x = y := by simp [veq]
theorem ite5 {w : World} {p1 p2 p3 p4 p5 : Prop} [Decidable p1] [Decidable p2] [Decidable p3] [Decidable p4] [Decidable p5] {b : Bool} (h : b = true ↔ p1 /\ p2 /\ p3 /\ p4 /\ p5) :
  (if p1 then if p2 then if p3 then if p4 then if p5 then Result.ok (Value.bool true) w else Result.ok (Value.bool false) w else Result.ok (Value.bool false) w else Result.ok (Value.bool false) w else Result.ok (Value.bool false) w else Result.ok (Value.bool false) w) = Result.ok (Value.bool b) w := by
 cases b
 ·simp only [Bool.false_eq_true, false_iff] at h
  repeat' split
  all_goals first | rfl | exact absurd ⟨‹_›, ‹_›, ‹_›, ‹_›, ‹_›⟩ h
 have := h.1 rfl
 simp [this]
theorem Qas (a b c e a' b' c' e' : Int) (d d' : ByteArray) (w : World) :
  (binOp .eql 25 (.agg #[.int .i64 a, .int .i64 b, .int .i64 c, .string d, .int .i64 e]) (.agg #[.int .i64 a', .int .i64 b', .int .i64 c', .string d', .int .i64 e'])).run Tryz.prog w = .ok (.bool (veq ⟨a, b, c, d, e⟩ ⟨a', b', c', d', e'⟩)) w := by
 go_simp
 exact ite5 (by rw [Qa8, Qba]; simp)
theorem Qau (a b c e a' b' c' e' : Int) (d d' : ByteArray) (w : World) :
  (binOp .neq 25 (.agg #[.int .i64 a, .int .i64 b, .int .i64 c, .string d, .int .i64 e]) (.agg #[.int .i64 a', .int .i64 b', .int .i64 c', .string d', .int .i64 e'])).run Tryz.prog w = .ok (.bool (!veq ⟨a, b, c, d, e⟩ ⟨a', b', c', d', e'⟩)) w := by
 have h := Qas a b c e a' b' c' e' d d' w
 rw [run_eql_struct] at h
 rw [run_neq_struct]
 generalize (Op.equalIn 10000 25 _ _).run Tryz.prog w = r at h ⊢
 cases r with
 | ok x w1 =>
  simp only [Result.andThen_ok, Result.ok.injEq, Value.bool.injEq] at h ⊢
  simp [h]
 | halt x w1 => simp [Result.andThen] at h
end
section
open Go.ChangeShapes Go.WideShapes Go.ChangeAt Go.RowKit Go.Deep
abbrev Qal (w : World) (b o : Nat) (v : Val) : Prop :=
 w.cell? ⟨b, o, none⟩ = some (.int .i64 v.kind) /\ w.cell? ⟨b, o + 1, none⟩ = some (.int .i64 v.n) /\ w.cell? ⟨b, o + 2, none⟩ = some (.int .i64 v.scale) /\
  w.cell? ⟨b, o + 3, none⟩ = some (.string v.text) /\ w.cell? ⟨b, o + 4, none⟩ = some (.int .i64 v.num)
theorem Qal.keep {w w' : World} {b o : Nat} {v : Val} (h : Qal w b o v) (hb : Bel w w') (hlt : b < w.heap.size) : Qal w' b o v := by
 simp only [Qal, hb.cells _ _ hlt]
 exact h
abbrev Qah (w : World) (b : Nat) : Prop :=
 w.frozen? ⟨b, 0, none⟩ = false /\ w.frozen? ⟨b, 1, none⟩ = false /\ w.frozen? ⟨b, 2, none⟩ = false /\ w.frozen? ⟨b, 3, none⟩ = false /\ w.frozen? ⟨b, 4, none⟩ = false
theorem Qah.keep {w w' : World} {b : Nat} (h : Qah w b) (hb : Bel w w') (hlt : b < w.heap.size) : Qah w' b := by
 simp only [Qah, hb.frozens _ _ hlt]
 exact h
abbrev Slot (w : World) (b : Nat) (v : Val) : Prop := b < w.heap.size /\ Qal w b 0 v /\ Qah w b
theorem Slot.keep {w w' : World} {b : Nat} {v : Val} (h : Slot w b v) (hb : Bel w w') : Slot w' b v := ⟨lL h.1 hb.size, h.2.1.keep hb h.1, h.2.2.keep hb h.1⟩
theorem Qj9 (w : World) (v : Val) : Slot (w.alloc (.cells #[.int .i64 v.kind, .int .i64 v.n, .int .i64 v.scale, .string v.text, .int .i64 v.num] 25)) w.heap.size v := by
 simp [Slot, Qal, Qah, go_sem]
theorem Qna (w : World) (o : Obj) (v : Val) : Slot ((w.alloc o).alloc (.cells #[.int .i64 v.kind, .int .i64 v.n, .int .i64 v.scale, .string v.text, .int .i64 v.num] 25)) (w.heap.size + 1) v := by
 simp [Slot, Qal, Qah, go_sem]
theorem Qqa (w : World) (o : Obj) (v : Val) : Slot ((w.alloc (.cells #[.int .i64 v.kind, .int .i64 v.n, .int .i64 v.scale, .string v.text, .int .i64 v.num] 25)).alloc o) w.heap.size v := by
 simp [Slot, Qal, Qah, go_sem]
def Vals (w : World) (A : Option Addr) (vs : List Val) : Prop :=
 0 < vs.length -> ∃ b off, A = some ⟨b, off, none⟩ /\ b < w.heap.size /\ ∀ i v, vs[i]? = some v -> Qal w b (off + i * 5) v
theorem Vals.keep {w w' : World} {A : Option Addr} {vs : List Val} (h : Vals w A vs) (hb : Bel w w') : Vals w' A vs := fun h0 => by
 obtain ⟨b, off, hA, hlt, hc⟩ := h h0
 exact ⟨b, off, hA, lL hlt hb.size, fun i v hv => (hc i v hv).keep hb hlt⟩
def flat (vs : List Val) : List Value := vs.flatMap fun v => [.int .i64 v.kind, .int .i64 v.n, .int .i64 v.scale, .string v.text, .int .i64 v.num]
theorem Qfg (v : Val) (vs : List Val) : flat (v :: vs) = [.int .i64 v.kind, .int .i64 v.n, .int .i64 v.scale, .string v.text, .int .i64 v.num] ++ flat vs := by simp [flat]
theorem Qiu (a b : List Val) : flat (a ++ b) = flat a ++ flat b := by simp [flat]
theorem Qa3 (vs : List Val) : (flat vs).length = vs.length * 5 := by
 induction vs with
 | nil => rfl
 | cons v vs ih => rw [Qfg, lA, ih, List.length_cons]; simp only [List.length_cons, List.length_nil]; omega
theorem Qnb (vs : List Val) : ∀ (i : Nat) (v : Val), vs[i]? = some v -> (flat vs)[i * 5]? = some (.int .i64 v.kind) /\ (flat vs)[i * 5 + 1]? = some (.int .i64 v.n) /\ (flat vs)[i * 5 + 2]? = some (.int .i64 v.scale) /\ (flat vs)[i * 5 + 3]? = some (.string v.text) /\ (flat vs)[i * 5 + 4]? = some (.int .i64 v.num) := by
 induction vs with
 | nil => intro i v h; simp at h
 | cons u vs ih =>
  intro i v h
  cases i with
  | zero =>
   simp only [List.getElem?_cons_zero, Option.some.injEq] at h
   subst h
   simp [Qfg]
  | succ i =>
   have := ih i v (by simpa using h)
   have e : ∀ j, (flat (u :: vs))[(i + 1) * 5 + j]? = (flat vs)[i * 5 + j]? := fun j => by
    rw [Qfg, show (i + 1) * 5 + j = 5 + (i * 5 + j) by omega]
    rw [List.getElem?_append_right (by simp)]
    simp [Nat.add_assoc]
   have e0 := e 0
   simp only [Nat.add_zero] at e0
   rw [e0, e 1, e 2, e 3, e 4]
   exact this
theorem Qqb (vs : List Val) : ∀ u ∈ flat vs, u.oneCell' = true := by
 intro u hu
 unfold flat at hu
 rw [List.mem_flatMap] at hu
 obtain ⟨v, _, hv⟩ := hu
 simp at hv
 rcases hv with rfl | rfl | rfl | rfl | rfl <;> rfl
theorem Qqc (vs : List Val) (j : Nat) (u : Value) (h : (flat vs)[j]? = some u) : ∃ v, vs[j / 5]? = some v /\ [Value.int .i64 v.kind, .int .i64 v.n, .int .i64 v.scale, .string v.text, .int .i64 v.num][j % 5]? = some u := by
 have hj : j < vs.length * 5 := by rw [← Qa3]; exact (List.getElem?_eq_some_iff.1 h).1
 have hi : j / 5 < vs.length := by omega
 obtain ⟨v, hv⟩ : ∃ v, vs[j / 5]? = some v := ⟨_, gE hi⟩
 refine ⟨v, hv, ?_⟩
 obtain ⟨a0, a1, a2, a3, a4⟩ := Qnb vs (j / 5) _ hv
 have hm : j % 5 < 5 := Nat.mod_lt _ (by omega)
 rw [← h]
 have hd := Nat.div_add_mod j 5
 match hk : j % 5, hm with
 | 0, _ => have e : j = j / 5 * 5 := (by omega); rw [e, a0]; rfl
 | 1, _ => have e : j = j / 5 * 5 + 1 := (by omega); rw [e, a1]; rfl
 | 2, _ => have e : j = j / 5 * 5 + 2 := (by omega); rw [e, a2]; rfl
 | 3, _ => have e : j = j / 5 * 5 + 3 := (by omega); rw [e, a3]; rfl
 | 4, _ => have e : j = j / 5 * 5 + 4 := (by omega); rw [e, a4]; rfl
theorem Vals.row {w : World} {A : Option Addr} {vs : List Val} (h : Vals w A vs) : Row w A (flat vs) := fun h0 => by
 rw [Qa3] at h0
 obtain ⟨b, off, hA, hlt, hc⟩ := h (by omega)
 refine ⟨b, off, hA, hlt, fun j u hu => ?_⟩
 obtain ⟨v, hv, hx⟩ := Qqc vs j u hu
 obtain ⟨a0, a1, a2, a3, a4⟩ := hc _ v hv
 have hm : j % 5 < 5 := Nat.mod_lt _ (by omega)
 have hd := Nat.div_add_mod j 5
 rw [show off + j = off + j / 5 * 5 + j % 5 by omega]
 match hk : j % 5, hm with
 | 0, _ => rw [hk] at hx; simp at hx; subst hx; exact a0
 | 1, _ => rw [hk] at hx; simp at hx; subst hx; exact a1
 | 2, _ => rw [hk] at hx; simp at hx; subst hx; exact a2
 | 3, _ => rw [hk] at hx; simp at hx; subst hx; exact a3
 | 4, _ => rw [hk] at hx; simp at hx; subst hx; exact a4
theorem Row.vals {w : World} {A : Option Addr} {vs : List Val} (h : Row w A (flat vs)) : Vals w A vs := fun h0 => by
 obtain ⟨b, off, hA, hlt, hc⟩ := h (by rw [Qa3]; omega)
 refine ⟨b, off, hA, hlt, fun i v hv => ?_⟩
 obtain ⟨a0, a1, a2, a3, a4⟩ := Qnb vs i v hv
 exact ⟨hc _ _ a0, by have := hc _ _ a1; rwa [← Nat.add_assoc] at this, by have := hc _ _ a2; rwa [← Nat.add_assoc] at this, by have := hc _ _ a3; rwa [← Nat.add_assoc] at this, by have := hc _ _ a4; rwa [← Nat.add_assoc] at this⟩
end
section
open Go.RowKit Go.Lib
theorem infoV : (Tryz.prog.info? 25).map (fun i => (i.zero, i.size, i.bytes)) = some (some (.agg #[.int .i64 0, .int .i64 0, .int .i64 0, .string ⟨#[]⟩, .int .i64 0]), 5, 48) := by kernel_rfl
theorem infoV' : ∃ i0, Tryz.prog.info? 25 = some i0 /\ i0.zero = some (.agg #[.int .i64 0, .int .i64 0, .int .i64 0, .string ⟨#[]⟩, .int .i64 0]) /\ i0.size = 5 /\ i0.bytes = 48 := by
 have h := infoV
 cases hi : Tryz.prog.info? 25 with
 | none => rw [hi] at h; cases h
 | some i =>
  rw [hi] at h
  simp only [Option.map_some, Option.some.injEq, Prod.mk.injEq] at h
  exact ⟨i, rfl, h.1, h.2.1, h.2.2⟩
def OwnV (w : World) (B : Nat) (v : Value) (vs : List Val) : Prop := w.ownsRow B 25 5 v vs.length (flat vs)
theorem OwnV.vals {w : World} {B : Nat} {v : Value} {vs : List Val} (h : OwnV w B v vs) : ∃ A c, v = .slice A vs.length c /\ Vals w A vs /\ (A = none -> c = 0) /\ vs.length <= c := by
 obtain ⟨A, c, e, hr, hA, _⟩ := Qef h
 refine ⟨A, c, e, hr.vals, hA, ?_⟩
 rcases h.2 with ⟨e1, e2⟩ | ⟨g, cap, cur, e1, _, _, hn, _⟩
 ·rw [e2]; exact Nat.zero_le _
 rw [e] at e1
 cases e1
 exact hn
theorem OwnV.keep {w w' : World} {B : Nat} {v : Value} {vs : List Val} (h : OwnV w B v vs) (hb : Bel w w') : OwnV w' B v vs := Qe0 h hb
theorem OwnV.lt {w : World} {B : Nat} {v : Value} {vs : List Val} (h : OwnV w B v vs) : ∀ k, v.ownBlock = some k -> B <= k /\ k < w.heap.size := World.ownsRow.lt h
theorem OwnV.nil (w : World) (B : Nat) : OwnV w B (.slice none 0 0) [] := ⟨rfl, .inl ⟨rfl, rfl⟩⟩
theorem Qv0 {w0 w : World} {v : Value} {xs ys : List Val} {A : Option Addr} {m c : Nat} (hb : Bel w0 w) (h : OwnV w w0.heap.size v xs) (hy : Vals w A ys) (hm : ys.length = m) (hA : A = none -> c = 0) (hn : xs.length + ys.length <= 2097152) (ty : TypeId) :
  ∃ v' w', (Builtin.append_ #[42, 42] ty #[v, .slice A m c]).run Tryz.prog w = .ok v' w' /\ (OwnV w' w0.heap.size v' (xs ++ ys) /\ Bel w0 w') := by
 subst hm
 obtain ⟨i0, hi, hz0, hz1, hz2⟩ := infoV'
 obtain ⟨v', w', hr, h1, h2, h3⟩ := Qik (P := Tryz.prog) w w0.heap.size 42 ty 25 i0 _ 5 48 Tryz.underlying42 hi hz0 hz1 hz2 rfl (by omega) h (m := ys.length) (c := c) hy.row (Qa3 ys) hA (Qqb ys) (by simp only [maxLen]; omega) (by omega) hb.size
 exact ⟨v', w', hr, by unfold OwnV; rw [lA, Qiu]; exact h1, h2.bel hb fun k hk => (h.lt k hk).1⟩
theorem Qv1 {w : World} {B : Nat} {v : Value} {x0 : Val} (h : OwnV w B v [x0]) : ∃ g c, v = .slice (some ⟨g, 0, none⟩) 1 c /\ B <= g /\ g < w.heap.size /\ Vals w (some ⟨g, 0, none⟩) [x0] /\
  (w.cell? ⟨g, 0, none⟩ = some (.int .i64 x0.kind) /\ w.cell? ⟨g, 1, none⟩ = some (.int .i64 x0.n) /\ w.cell? ⟨g, 2, none⟩ = some (.int .i64 x0.scale) /\ w.cell? ⟨g, 3, none⟩ = some (.string x0.text) /\ w.cell? ⟨g, 4, none⟩ = some (.int .i64 x0.num)) := by
 obtain ⟨A, c, e, hr, _, h2⟩ := Qef h
 rcases h2 with h2 | ⟨g, rfl, hB, hg⟩
 ·exact absurd (congrArg List.length h2) (by rw [Qa3]; simp)
 have hv := hr.vals
 obtain ⟨b, off, e2, hlt, hc⟩ := hr (by rw [Qa3]; simp)
 cases e2
 have h : ∀ j u, (flat [x0])[j]? = some u -> w.cell? ⟨g, j, none⟩ = some u := fun j u hu => by
  have := hc j u hu
  rwa [Nat.zero_add] at this
 exact ⟨g, c, e, hB, hg, hv, h 0 _ rfl, h 1 _ rfl, h 2 _ rfl, h 3 _ rfl, h 4 _ rfl⟩
theorem Qgs {w : World} {B : Nat} {v : Value} {x0 x1 : Val} (h : OwnV w B v [x0, x1]) : ∃ g c, v = .slice (some ⟨g, 0, none⟩) 2 c /\ B <= g /\ g < w.heap.size /\ Vals w (some ⟨g, 0, none⟩) [x0, x1] /\
  (w.cell? ⟨g, 0, none⟩ = some (.int .i64 x0.kind) /\ w.cell? ⟨g, 1, none⟩ = some (.int .i64 x0.n) /\ w.cell? ⟨g, 2, none⟩ = some (.int .i64 x0.scale) /\ w.cell? ⟨g, 3, none⟩ = some (.string x0.text) /\ w.cell? ⟨g, 4, none⟩ = some (.int .i64 x0.num) /\ w.cell? ⟨g, 5, none⟩ = some (.int .i64 x1.kind) /\ w.cell? ⟨g, 6, none⟩ = some (.int .i64 x1.n) /\ w.cell? ⟨g, 7, none⟩ = some (.int .i64 x1.scale) /\ w.cell? ⟨g, 8, none⟩ = some (.string x1.text) /\ w.cell? ⟨g, 9, none⟩ = some (.int .i64 x1.num)) := by
 obtain ⟨A, c, e, hr, _, h2⟩ := Qef h
 rcases h2 with h2 | ⟨g, rfl, hB, hg⟩
 ·exact absurd (congrArg List.length h2) (by rw [Qa3]; simp)
 have hv := hr.vals
 obtain ⟨b, off, e2, hlt, hc⟩ := hr (by rw [Qa3]; simp)
 cases e2
 have h : ∀ j u, (flat [x0, x1])[j]? = some u -> w.cell? ⟨g, j, none⟩ = some u := fun j u hu => by
  have := hc j u hu
  rwa [Nat.zero_add] at this
 exact ⟨g, c, e, hB, hg, hv, h 0 _ rfl, h 1 _ rfl, h 2 _ rfl, h 3 _ rfl, h 4 _ rfl, h 5 _ rfl, h 6 _ rfl, h 7 _ rfl, h 8 _ rfl, h 9 _ rfl⟩
theorem Qw7 {w : World} {B : Nat} {v : Value} {x0 x1 x2 : Val} (h : OwnV w B v [x0, x1, x2]) : ∃ g c, v = .slice (some ⟨g, 0, none⟩) 3 c /\ B <= g /\ g < w.heap.size /\ Vals w (some ⟨g, 0, none⟩) [x0, x1, x2] /\
  (w.cell? ⟨g, 0, none⟩ = some (.int .i64 x0.kind) /\ w.cell? ⟨g, 1, none⟩ = some (.int .i64 x0.n) /\ w.cell? ⟨g, 2, none⟩ = some (.int .i64 x0.scale) /\ w.cell? ⟨g, 3, none⟩ = some (.string x0.text) /\ w.cell? ⟨g, 4, none⟩ = some (.int .i64 x0.num) /\ w.cell? ⟨g, 5, none⟩ = some (.int .i64 x1.kind) /\ w.cell? ⟨g, 6, none⟩ = some (.int .i64 x1.n) /\ w.cell? ⟨g, 7, none⟩ = some (.int .i64 x1.scale) /\ w.cell? ⟨g, 8, none⟩ = some (.string x1.text) /\ w.cell? ⟨g, 9, none⟩ = some (.int .i64 x1.num) /\ w.cell? ⟨g, 10, none⟩ = some (.int .i64 x2.kind) /\ w.cell? ⟨g, 11, none⟩ = some (.int .i64 x2.n) /\ w.cell? ⟨g, 12, none⟩ = some (.int .i64 x2.scale) /\ w.cell? ⟨g, 13, none⟩ = some (.string x2.text) /\ w.cell? ⟨g, 14, none⟩ = some (.int .i64 x2.num)) := by
 obtain ⟨A, c, e, hr, _, h2⟩ := Qef h
 rcases h2 with h2 | ⟨g, rfl, hB, hg⟩
 ·exact absurd (congrArg List.length h2) (by rw [Qa3]; simp)
 have hv := hr.vals
 obtain ⟨b, off, e2, hlt, hc⟩ := hr (by rw [Qa3]; simp)
 cases e2
 have h : ∀ j u, (flat [x0, x1, x2])[j]? = some u -> w.cell? ⟨g, j, none⟩ = some u := fun j u hu => by
  have := hc j u hu
  rwa [Nat.zero_add] at this
 exact ⟨g, c, e, hB, hg, hv, h 0 _ rfl, h 1 _ rfl, h 2 _ rfl, h 3 _ rfl, h 4 _ rfl, h 5 _ rfl, h 6 _ rfl, h 7 _ rfl, h 8 _ rfl, h 9 _ rfl, h 10 _ rfl, h 11 _ rfl, h 12 _ rfl, h 13 _ rfl, h 14 _ rfl⟩
end
end Go.Proofs.YtjckpkamhdbcnaaGreatDoor
