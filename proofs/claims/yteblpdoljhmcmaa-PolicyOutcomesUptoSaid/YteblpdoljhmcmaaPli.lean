import Derived.Test.YteblpdoljhmcmaaOpn
import Derived.Test.YteblpdoljhmcmaaOwn
import Derived.Test.YteblpdoljhmcmaaVal
import Derived.Test.YteblpdoljhmcmaaUni
namespace Go.Proofs.Yteblpdoljhmcmaa
set_option linter.unusedSimpArgs false
set_option linter.unusedVariables false
open Go.RowKit Go.Lib

/-! Rows of numbers, rows of values: handed in, and of the call's own. -/
def nums (xs : List Int) : List Value := xs.map fun x => .int .i64 x
theorem nums_one (xs : List Int) : ∀ u ∈ nums xs, u.oneCell' = true := by
  intro u hu
  simp only [nums, List.mem_map] at hu
  obtain ⟨_, _, rfl⟩ := hu
  rfl
theorem infoI : (Try.prog.info? 3).map (fun i => (i.zero, i.size, i.bytes)) = some (some (.int .i64 0), 1, 8) := by kernel_rfl
theorem infoI' : ∃ i0, Try.prog.info? 3 = some i0 ∧ i0.zero = some (.int .i64 0) ∧ i0.size = 1 ∧ i0.bytes = 8 := by
  have h := infoI
  cases hi : Try.prog.info? 3 with
  | none => rw [hi] at h; cases h
  | some i =>
    rw [hi] at h
    simp only [Option.map_some, Option.some.injEq, Prod.mk.injEq] at h
    exact ⟨i, rfl, h.1, h.2.1, h.2.2⟩
def OwnI (w : World) (B : Nat) (v : Value) (xs : List Int) : Prop := w.ownsRow B 3 1 v xs.length (nums xs)
theorem OwnI.keep {w w' : World} {B : Nat} {v : Value} {xs : List Int} (h : OwnI w B v xs) (hb : Bel w w') : OwnI w' B v xs := own_keep h hb
theorem OwnI.lt {w : World} {B : Nat} {v : Value} {xs : List Int} (h : OwnI w B v xs) : ∀ k, v.ownBlock = some k → B ≤ k ∧ k < w.heap.size := World.ownsRow.lt h
/-- The numbers that lie at an address. -/
def Ints (w : World) (A : Option Addr) (xs : List Int) : Prop := Row w A (nums xs)
theorem Ints.at {w : World} {b off : Nat} {xs : List Int} (h : Ints w (some ⟨b, off, none⟩) xs) {i : Nat} {x : Int} (hx : xs[i]? = some x) : w.cell? ⟨b, off + i, none⟩ = some (.int .i64 x) := by
  obtain ⟨b', off', e, _, hc⟩ := h (by have := (List.getElem?_eq_some_iff.1 hx).1; simp [nums]; omega)
  cases e
  exact hc i _ (by simp [nums, hx])
theorem OwnI.ints {w : World} {B : Nat} {v : Value} {xs : List Int} (h : OwnI w B v xs) : ∃ A c, v = .slice A xs.length c ∧ Ints w A xs ∧ (xs = [] ∨ ∃ g, A = some ⟨g, 0, none⟩ ∧ B ≤ g ∧ g < w.heap.size) := by
  obtain ⟨A, c, e, hr, _, h2⟩ := own_row h
  refine ⟨A, c, e, hr, ?_⟩
  rcases h2 with h2 | h2
  · exact .inl (by simpa [nums] using h2)
  · exact .inr h2
theorem app_ints {w0 W w : World} {v : Value} {xs ys : List Int} {A : Option Addr} {m c : Nat} (h0 : Bel w0 W) (hW : Bel W w) (h : OwnI W w0.heap.size v xs) (hy : Ints w A ys) (hm : ys.length = m) (hA : A = none → c = 0) (hn : xs.length + ys.length ≤ 2097152) (ty : TypeId) :
    ∃ v' w', (Builtin.append_ #[27, 27] ty #[v, .slice A m c]).run Try.prog w = .ok v' w' ∧ (OwnI w' w0.heap.size v' (xs ++ ys) ∧ Bel w0 w' ∧ (∀ k o, k < W.heap.size → v.ownBlock ≠ some k → w'.cell? ⟨k, o, none⟩ = W.cell? ⟨k, o, none⟩) ∧ (∀ k, k < W.heap.size → v.ownBlock ≠ some k → v'.ownBlock ≠ some k) ∧ W.heap.size ≤ w'.heap.size) := by
  subst hm
  obtain ⟨i0, hi, hz0, hz1, hz2⟩ := infoI'
  have hb := h0.trans hW
  obtain ⟨v', w', hr, h1, h2, h3⟩ := run_app (P := Try.prog) w w0.heap.size 27 ty 3 i0 _ 1 8 Try.underlying27 hi hz0 hz1 hz2 rfl (by omega) (h.keep hW) (m := ys.length) (c := c) hy (show (nums ys).length = ys.length * 1 by simp [nums]) hA (nums_one ys) (by simp only [maxLen]; omega) (by omega) hb.size
  refine ⟨v', w', hr, ?_, h2.bel hb fun k hk => (h.lt k hk).1, fun k o hk hne => ?_, fun k hk hne => ?_, Nat.le_trans hW.size h2.size⟩
  · unfold OwnI
    rw [List.length_append]
    simpa [nums] using h1
  · have hk' := Nat.lt_of_lt_of_le hk hW.size
    exact (World.cell?_of_block (h2.block k hk' (fun e => hne e.symm))).trans (hW.cells k o hk)
  · rcases h3 with h3 | h3
    · rw [h3]; exact hne
    · rw [h3]
      intro e
      have := hW.size
      cases e
      omega
theorem ints_lit {w : World} {n : Nat} (xs : List Int) (hn : n = w.heap.size) : Ints (w.alloc (.cells (nums xs).toArray 3)) (some ⟨n, 0, none⟩) xs := fun _ => by
  subst hn
  refine ⟨_, 0, rfl, by simp, fun j u hu => ?_⟩
  have hadd : (0 + j) = j := by omega
  rw [hadd, cell_of_row _ w.heap.size j _ _ _ (heap_alloc_new w _)]
  simpa using hu
theorem OwnI.lit {w0 w : World} {n : Nat} (xs : List Int) (hb : Bel w0 w) (hn : n = w.heap.size) (hl : xs.length ≤ maxLen) : OwnI (w.alloc (.cells (nums xs).toArray 3)) w0.heap.size (.slice (some ⟨n, 0, none⟩) xs.length xs.length) xs := by
  subst hn
  have := World.ownsRow_lit (base := w0.heap.size) (e := 3) (size := 1) w (nums xs).toArray xs.length hb.size hl (by simp [nums])
  simpa [OwnI] using this
theorem infoV : (Try.prog.info? 26).map (fun i => (i.zero, i.size, i.bytes)) = some (some (.agg #[.int .i64 0, .int .i64 0, .int .i64 0, .string ⟨#[]⟩, .int .i64 0]), 5, 48) := by kernel_rfl
theorem infoV' : ∃ i0, Try.prog.info? 26 = some i0 ∧ i0.zero = some (.agg #[.int .i64 0, .int .i64 0, .int .i64 0, .string ⟨#[]⟩, .int .i64 0]) ∧ i0.size = 5 ∧ i0.bytes = 48 := by
  have h := infoV
  cases hi : Try.prog.info? 26 with
  | none => rw [hi] at h; cases h
  | some i =>
    rw [hi] at h
    simp only [Option.map_some, Option.some.injEq, Prod.mk.injEq] at h
    exact ⟨i, rfl, h.1, h.2.1, h.2.2⟩
def OwnV (w : World) (B : Nat) (v : Value) (vs : List Val) : Prop := w.ownsRow B 26 5 v vs.length (flat vs)
theorem OwnV.vals {w : World} {B : Nat} {v : Value} {vs : List Val} (h : OwnV w B v vs) : ∃ A c, v = .slice A vs.length c ∧ Vals w A vs ∧ (A = none → c = 0) ∧ vs.length ≤ c := by
  obtain ⟨A, c, e, hr, hA, _⟩ := own_row h
  refine ⟨A, c, e, hr.vals, hA, ?_⟩
  rcases h.2 with ⟨e1, e2⟩ | ⟨g, cap, cur, e1, _, _, hn, _⟩
  · rw [e2]; exact Nat.zero_le _
  · rw [e] at e1
    cases e1
    exact hn
theorem OwnV.keep {w w' : World} {B : Nat} {v : Value} {vs : List Val} (h : OwnV w B v vs) (hb : Bel w w') : OwnV w' B v vs := own_keep h hb
theorem OwnV.lt {w : World} {B : Nat} {v : Value} {vs : List Val} (h : OwnV w B v vs) : ∀ k, v.ownBlock = some k → B ≤ k ∧ k < w.heap.size := World.ownsRow.lt h
theorem app_res {w0 w : World} {v : Value} {xs ys : List Val} {A : Option Addr} {m c : Nat} (hb : Bel w0 w) (h : OwnV w w0.heap.size v xs) (hy : Vals w A ys) (hm : ys.length = m) (hA : A = none → c = 0) (hn : xs.length + ys.length ≤ 2097152) (ty : TypeId) :
    ∃ v' w', (Builtin.append_ #[48, 48] ty #[v, .slice A m c]).run Try.prog w = .ok v' w' ∧ (OwnV w' w0.heap.size v' (xs ++ ys) ∧ Bel w0 w') := by
  subst hm
  obtain ⟨i0, hi, hz0, hz1, hz2⟩ := infoV'
  obtain ⟨v', w', hr, h1, h2, h3⟩ := run_app (P := Try.prog) w w0.heap.size 48 ty 26 i0 _ 5 48 Try.underlying48 hi hz0 hz1 hz2 rfl (by omega) h (m := ys.length) (c := c) hy.row (flat_length ys) hA (flat_one ys) (by simp only [maxLen]; omega) (by omega) hb.size
  exact ⟨v', w', hr, by unfold OwnV; rw [List.length_append, flat_append]; exact h1, h2.bel hb fun k hk => (h.lt k hk).1⟩
theorem OwnV.nil (w : World) (B : Nat) : OwnV w B (.slice none 0 0) [] := ⟨rfl, .inl ⟨rfl, rfl⟩⟩
theorem Vals.take {w : World} {A : Option Addr} {vs : List Val} (h : Vals w A vs) (n : Nat) : Vals w A (vs.take n) := fun h0 => by
  obtain ⟨b, off, e, hlt, hc⟩ := h (by rw [List.length_take] at h0; omega)
  refine ⟨b, off, e, hlt, fun i v hv => hc i v ?_⟩
  rw [List.getElem?_take] at hv
  split at hv
  · exact hv
  · cases hv
theorem vals_one (w : World) (v : Val) {n : Nat} (hn : n = w.heap.size) : Vals (w.alloc (.cells #[.int .i64 v.kind, .int .i64 v.n, .int .i64 v.scale, .string v.text, .int .i64 v.num] 26)) (some ⟨n, 0, none⟩) [v] := fun _ => by
  subst hn
  refine ⟨_, 0, rfl, by simp, fun i u hu => ?_⟩
  match i, hu with
  | 0, hu =>
    simp only [List.getElem?_cons_zero, Option.some.injEq] at hu
    subst hu
    simp [ValAt, go_sem]
end Go.Proofs.Yteblpdoljhmcmaa
