import Derived.Test.YtobdokeklcdpoaaDoorUni
import Derived.Test.YtobdokeklcdpoaaDoorOwn
import Derived.Maps.OwnSet
import Derived.Maps.RangeWalk
import Derived.Maps.OwnOps
namespace Go.Proofs.YtobdokeklcdpoaaDoor
set_option linter.unusedSimpArgs false
set_option linter.unusedVariables false
open Go.RowKit
open Go.Maps
/-! Maps of the call's own, from keys of a kind to numbers. -/
/-- What a map holds. -/
def View {K : Type} (k : K → Lit) (D : DataW Unit) (M : K → Option Int) : Prop :=
  Tidy D ∧ ∀ x, Maps.has D (k x) = (M x).isSome ∧ ∀ c, M x = some c → ∀ z, D.atKey (k x) z = .lit (.int .i64 c)
def mput {K : Type} [DecidableEq K] (M : K → Option Int) (x : K) (c : Int) : K → Option Int := fun y => if y = x then some c else M y
def mdel {K : Type} [DecidableEq K] (M : K → Option Int) (x : K) : K → Option Int := fun y => if y = x then none else M y
section
variable {K : Type} [DecidableEq K] {k : K → Lit} {D : DataW Unit} {M : K → Option Int}
omit [DecidableEq K] in
theorem View.nil : View k (.map [] : DataW Unit) (fun _ => none) := ⟨tidy_empty, fun x => ⟨by simp [Maps.has], fun c h => by cases h⟩⟩
theorem View.put (h : View k D M) (hk : ∀ x, WideAt.IsKeyLit (k x)) (hi : ∀ x y, k x = k y → x = y) (x : K) (c : Int) : View k (D.put (k x) (.lit (.int .i64 c))) (mput M x c) := by
  refine ⟨h.1.put (hk x) _, fun y => ?_⟩
  unfold mput
  by_cases e : y = x
  · subst e
    rw [if_pos rfl]
    exact ⟨has_put_same h.1.isMap (hk y) _, fun c' hc z => by cases hc; exact atKey_put_same h.1.isMap (hk y) _ z⟩
  · rw [if_neg e]
    have hne : k y ≠ k x := fun e' => e (hi _ _ e')
    refine ⟨by rw [has_put_other hne]; exact (h.2 y).1, fun c' hc z => ?_⟩
    rw [atKey_put_other hne]
    exact (h.2 y).2 c' hc z
theorem View.del (h : View k D M) (hi : ∀ x y, k x = k y → x = y) (x : K) : View k (D.del (k x)) (mdel M x) := by
  refine ⟨h.1.del _, fun y => ?_⟩
  unfold mdel
  by_cases e : y = x
  · subst e
    rw [if_pos rfl]
    exact ⟨has_del_same, fun c' hc => by cases hc⟩
  · rw [if_neg e]
    have hne : k y ≠ k x := fun e' => e (hi _ _ e')
    refine ⟨by rw [has_del_other hne]; exact (h.2 y).1, fun c' hc z => ?_⟩
    rw [atKey_del_other hne]
    exact (h.2 y).2 c' hc z
/-- A map of the call's own in block b: what it holds, and how much. -/
def HoldsM (P : Program) (kt vt : TypeId) (k : K → Lit) (w : World) (b n : Nat) (M : K → Option Int) (s : Nat) : Prop :=
  ∃ D : DataW Unit, w.ownsMap P kt (plainElem P vt) b n D ∧ View k D M ∧ Maps.size D = s
variable {P : Program} {kt vt t : TypeId} {w w' : World} {b n s : Nat}
omit [DecidableEq K] in
theorem HoldsM.lt (h : HoldsM P kt vt k w b n M s) : b < w.heap.size := by
  obtain ⟨D, ho, _⟩ := h
  exact World.ownsMap.lt ho
omit [DecidableEq K] in
theorem HoldsM.kept {row : Option Nat} (h : HoldsM P kt vt k w b n M s) (hg : w.grownBy w' row) (hne : some b ≠ row) : HoldsM P kt vt k w' b n M s := by
  obtain ⟨D, ho, h2⟩ := h
  exact ⟨D, World.ownsMap.kept ho hg hne, h2⟩
theorem bel_grown {w w' : World} (h : Bel w w') : w.grownBy w' none := ⟨h.os, h.tape, h.output, Below.size h, fun k hk _ => Below.block h k hk⟩
omit [DecidableEq K] in
theorem HoldsM.keep (h : HoldsM P kt vt k w b n M s) (hb : Bel w w') : HoldsM P kt vt k w' b n M s := h.kept (bel_grown hb) (by simp)
omit [DecidableEq K] in
theorem HoldsM.made (w : World) : HoldsM P kt vt k (w.alloc (.map #[] 0)) w.heap.size 0 (fun _ => none) 0 :=
  ⟨_, World.ownsMap_made _ _ _ _, View.nil, rfl⟩
omit [DecidableEq K] in
theorem HoldsM.size_le (h : HoldsM P kt vt k w b n M s) : s ≤ n := by
  obtain ⟨D, ho, _, rfl⟩ := h
  exact World.ownsMap.size_le ho
omit [DecidableEq K] in
/-- v, ok := m[x] -/
theorem HoldsM.look (h : HoldsM P kt vt k w b n M s) (KD : Keyed P kt) (ht : P.underlying t = some (.map kt vt)) (hv : P.underlying vt = some (.int .i64)) (hz : (zeroValue vt).run P w = .ok (.int .i64 0) w) {x : K} {key : Value} (hkey : keyOf P kt key = some (k x)) :
    ∃ c, (Instr.lookup t (.map (some b)) key true).run P w = .ok (.tuple #[.int .i64 c, .bool (M x).isSome]) w ∧ ∀ c', M x = some c' → c = c' := by
  obtain ⟨D, ho, hV, _⟩ := h
  obtain ⟨v, ps, hrun, hR⟩ := ho.look_ok KD ht hz (plainElem_int hv (a := 0) (by decide)) hkey
  obtain ⟨c, rfl, hc, _⟩ := plainElem_int_inv hv hR
  refine ⟨c, by rw [hrun, (hV.2 x).1], fun c' hc' => ?_⟩
  have h1 := (hV.2 x).2 c' hc' (.lit (.int .i64 0))
  have h2 : D.atKey (k x) (.lit (.int .i64 0)) = .lit (.int .i64 c) := congrArg Prod.fst hc
  rw [h1] at h2
  injection h2 with h2
  injection h2 with _ h2
  exact h2.symm
omit [DecidableEq K] in
/-- m[x], of a key that is there -/
theorem HoldsM.get (h : HoldsM P kt vt k w b n M s) (KD : Keyed P kt) (ht : P.underlying t = some (.map kt vt)) (hv : P.underlying vt = some (.int .i64)) (hz : (zeroValue vt).run P w = .ok (.int .i64 0) w) {x : K} {key : Value} (hkey : keyOf P kt key = some (k x)) {c' : Int} (hc' : M x = some c') :
    (Instr.lookup t (.map (some b)) key false).run P w = .ok (.int .i64 c') w := by
  obtain ⟨D, ho, hV, _⟩ := h
  obtain ⟨c, hrun, hat, _⟩ := ho.lookup_int KD ht hv hz hkey
  have h1 := (hV.2 x).2 c' hc' (.lit (.int .i64 0))
  rw [h1] at hat
  injection hat with hat
  injection hat with _ hat
  rw [hrun, hat]
/-- m[x] = c -/
theorem HoldsM.store (h : HoldsM P kt vt k w b n M s) (KD : Keyed P kt) (ht : P.underlying t = some (.map kt vt)) (hv : P.underlying vt = some (.int .i64)) (hk : ∀ x, WideAt.IsKeyLit (k x)) (hi : ∀ x y, k x = k y → x = y) (hn : n < maxLen) {x : K} {key : Value} (hkey : keyOf P kt key = some (k x)) {c : Int} (hc : (Lit.int .i64 c).wf = true) :
    ∃ w', (Instr.mapUpdate t (.map (some b)) key (.int .i64 c)).run P w = .ok () w' ∧ HoldsM P kt vt k w' b (n + 1) (mput M x c) (if (M x).isSome then s else s + 1) ∧ w.grownBy w' (some b) := by
  obtain ⟨D, ho, hV, rfl⟩ := h
  obtain ⟨w', hrun, h1, h2⟩ := ho.update KD ht hn hkey (plainElem_int hv hc)
  refine ⟨w', hrun, ⟨_, h1, hV.put hk hi x c, ?_⟩, h2⟩
  rw [size_put hV.1, (hV.2 x).1]
/-- m[x] = c, of a key that is there: nothing is more -/
theorem HoldsM.drop (h : HoldsM P kt vt k w b n M s) (KD : Keyed P kt) (ht : P.underlying t = some (.map kt vt)) (hi : ∀ x y, k x = k y → x = y) {x : K} {key : Value} (hkey : keyOf P kt key = some (k x)) (ty : TypeId) :
    ∃ w', (Builtin.delete_ #[t, kt] ty #[.map (some b), key]).run P w = .ok (.tuple #[]) w' ∧ HoldsM P kt vt k w' b n (mdel M x) (s - if (M x).isSome then 1 else 0) ∧ w.grownBy w' (some b) := by
  obtain ⟨D, ho, hV, rfl⟩ := h
  obtain ⟨w', hrun, h1, h2⟩ := ho.drop KD ht hkey ty
  refine ⟨w', hrun, ⟨_, h1, hV.del hi x, ?_⟩, h2.grown⟩
  have := size_del hV.1 (k := k x)
  rw [(hV.2 x).1] at this
  omega
omit [DecidableEq K] in
theorem HoldsM.len (h : HoldsM P kt vt k w b n M s) (ht : P.underlying t = some (.map kt vt)) (ty : TypeId) : (Builtin.len_ #[t] ty #[.map (some b)]).run P w = .ok (.int .i64 s) w := by
  obtain ⟨D, ho, hV, rfl⟩ := h
  exact ho.len ht ty
end

/-! The operations, for the walk. -/
section
variable {K : Type} [DecidableEq K] {k : K → Lit} {M : K → Option Int} {P : Program} {kt vt t : TypeId} {w : World} {b n s : Nat} {ops : Array Oper} {rest : List Oper} {o : Oper} {a : Act} {Q : Exit → Act → World → Prop}
omit [DecidableEq K] in
theorem wpList_lookM (hg : o.guard = none) (m x : Operand) (hop : o.op = Op.lookup t m x true) {key v : Value} {ok : Bool} (hm : a.eval m = .map (some b)) (hx : a.eval x = key)
    (hrun : (Instr.lookup t (.map (some b)) key true).run P w = .ok (.tuple #[v, .bool ok]) w) (hK : wpList P ops Q rest (a.put o.dst (.tuple #[v, .bool ok])) w) : wpList P ops Q (o :: rest) a w := by
  refine wpList_plain hg fun K' hK' => ?_
  unfold Oper.wp
  simp [execOp, hop, hm, hx, hrun, Result.andThen]
  exact hK' _ _ hK
theorem wpList_putM (hg : o.guard = none) (m x v : Operand) (hop : o.op = Op.mapUpdate t m x v) {key val : Value} (hm : a.eval m = .map (some b)) (hx : a.eval x = key) (hv : a.eval v = val) {R : World → Prop}
    (hrun : ∃ w', (Instr.mapUpdate t (.map (some b)) key val).run P w = .ok () w' ∧ R w') (hK : ∀ w', R w' → wpList P ops Q rest (a.put o.dst undef) w') : wpList P ops Q (o :: rest) a w := by
  obtain ⟨w', hr, h1⟩ := hrun
  refine wpList_plain hg fun K' hK' => ?_
  unfold Oper.wp
  simp [execOp, hop, hm, hx, hv, hr, Result.andThen]
  exact hK' _ _ (hK w' h1)
end

/-! A range over a map, under way. -/
/-- Those with ahead are still to come. -/
def RangeM {K : Type} (P : Program) (kt vt : TypeId) (k : K → Lit) (w : World) (b r n : Nat) (M : K → Option Int) (ahead : K → Bool) (cnt : Nat) : Prop :=
  ∃ (D : DataW Unit) (left : Lit → Bool), w.ranges P kt (plainElem P vt) b r n D left cnt ∧ View k D M ∧ ∀ x, left (k x) = ahead x
section
variable {K : Type} [DecidableEq K] {k : K → Lit} {M : K → Option Int} {P : Program} {kt vt t : TypeId} {w w' : World} {b r n s cnt : Nat} {ahead : K → Bool} {ops : Array Oper} {rest : List Oper} {o : Oper} {a : Act} {Q : Exit → Act → World → Prop}
omit [DecidableEq K] in
theorem RangeM.left_eq (h : RangeM P kt vt k w b r n M ahead cnt) : w.rangeLeft b r = cnt := by
  obtain ⟨_, _, h, _⟩ := h
  exact h.left_eq
omit [DecidableEq K] in
theorem RangeM.lt (h : RangeM P kt vt k w b r n M ahead cnt) : r < w.heap.size ∧ b < w.heap.size ∧ r ≠ b := by
  obtain ⟨_, _, h, _⟩ := h
  exact ⟨h.lt, h.owns.lt, h.ne⟩
omit [DecidableEq K] in
theorem RangeM.kept {row : Option Nat} (h : RangeM P kt vt k w b r n M ahead cnt) (hg : w.grownBy w' row) (hb' : some b ≠ row) (hr' : some r ≠ row) : RangeM P kt vt k w' b r n M ahead cnt := by
  obtain ⟨D, l, h, h2⟩ := h
  exact ⟨D, l, h.kept hg hb' hr', h2⟩
omit [DecidableEq K] in
theorem RangeM.owns (h : RangeM P kt vt k w b r n M ahead cnt) : ∃ s, HoldsM P kt vt k w b n M s := by
  obtain ⟨D, l, h, h2, _⟩ := h
  exact ⟨_, D, h.owns, h2, rfl⟩
omit [DecidableEq K] in
theorem wpList_rangeM (hg : o.guard = none) (m : Operand) (hop : o.op = Op.range t m) (KD : Keyed P kt) (ht : P.underlying t = some (.map kt vt)) (hm : a.eval m = .map (some b)) (h : HoldsM P kt vt k w b n M s)
    (hK : ∀ w', RangeM P kt vt k w' b w.heap.size n M (fun x => (M x).isSome) s → w.grownBy w' none → w'.heap.size = w.heap.size + 1 → wpList P ops Q rest (a.put o.dst (.pointer (some ⟨w.heap.size, 0, none⟩))) w') : wpList P ops Q (o :: rest) a w := by
  obtain ⟨D, ho, hV, rfl⟩ := h
  exact wpList_range_own w hg m t hop kt vt KD ht _ b n D hm ho fun w' h1 h2 h3 => hK w' ⟨D, _, h1, hV, fun x => (hV.2 x).1⟩ h2 h3
omit [DecidableEq K] in
/-- The step: keys are numbers. -/
theorem wpList_nextM {M : Int → Option Int} {ahead : Int → Bool} (hg : o.guard = none) (it : Operand) (hop : o.op = Op.next it false) (KD : Keyed P kt) (hkt : P.underlying kt = some (.int .i64)) (hvt : P.underlying vt = some (.int .i64)) (hit : a.eval it = .pointer (some ⟨r, 0, none⟩)) (h : RangeM P kt vt (fun x : Int => .int .i64 x) w b r n M ahead cnt)
    (hDone : (∀ x, ahead x = false) → wpList P ops Q rest (a.put o.dst (.tuple #[.bool false])) w)
    (hMore : ∀ (x c : Int) (w' : World) (cnt' : Nat), (Lit.int .i64 x).wf = true → ahead x = true → M x = some c → RangeM P kt vt (fun x : Int => .int .i64 x) w' b r n M (fun y => ahead y && !decide (y = x)) cnt' → cnt' < cnt →
      w.grownBy w' (some r) → w'.heap.size = w.heap.size → (Instr.entry (.pointer (some ⟨r, 0, none⟩))).run P w' = .ok (.tuple #[.int .i64 x, .int .i64 c]) w' → wpList P ops Q rest (a.put o.dst (.tuple #[.bool true, .int .i64 x, .int .i64 c])) w') :
    wpList P ops Q (o :: rest) a w := by
  obtain ⟨D, l, h, hV, hl⟩ := h
  refine wpList_next_ranges_ii w hg it hop kt vt .i64 .i64 KD hkt hvt b r n D l cnt hit h (fun _ h0 => hDone fun x => by rw [← hl]; exact h0 _) fun x c w' cnt' hw _ hlx hat hrg hlt hgr hsz hen => hMore x c w' cnt' hw (by rw [← hl]; exact hlx) ?_ ⟨D, _, hrg, hV, fun y => ?_⟩ hlt hgr hsz hen
  · -- what was ahead is held
    have hx : Maps.has D (.int .i64 x) = true := by
      cases hh : Maps.has D (.int .i64 x) with
      | true => rfl
      | false =>
        have e1 := hat (.lit (.int .i64 (c + 1)))
        rw [atKey_of_not_has hh] at e1
        injection e1 with e1
        injection e1 with _ e1
        omega
    have h1 := (hV.2 x).1
    simp only [hx] at h1
    cases hM : M x with
    | none => rw [hM] at h1; cases h1
    | some c' =>
      have h2 := (hV.2 x).2 c' hM (.lit (.int .i64 0))
      have h3 := hat (.lit (.int .i64 0))
      simp only at h2
      rw [h2] at h3
      injection h3 with h3
      injection h3 with _ h3
      rw [h3]
  · simp only
    rw [hl]
    congr 2
    by_cases e : y = x
    · subst e
      simp [WideAt.sameKey_self (a := .int .i64 y) trivial]
    · have : (Lit.int .i64 y).sameKey (.int .i64 x) = false := sameKey_ne (fun e' => e (by injection e'))
      rw [this]
      simp [e]
end
end Go.Proofs.YtobdokeklcdpoaaDoor
