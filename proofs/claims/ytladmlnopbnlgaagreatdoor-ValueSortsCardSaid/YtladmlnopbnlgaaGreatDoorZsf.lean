import Derived.Test.YtladmlnopbnlgaaGreatDoorZse
import Derived.Shelf.SlSortCmp.NoneTotal
import Derived.Shelf.SlicesE.Clone
import Derived.Test.YtladmlnopbnlgaaGreatDoorLay
import Derived.Ground.SlsfProg
import Derived.Ground.SlgnProg
import Derived.Lib.OwnBridge
namespace Go.Proofs.YtladmlnopbnlgaaGreatDoor
set_option linter.unusedSimpArgs false
set_option linter.unusedVariables false
open Go.RowKit Go.Lib Go.Sort Go.Shelf

/-! Values: slices.SortFunc, slices.Clone. -/
theorem map_get (d : Array SV) {j : Nat} (hj : j < d.size) : (d.map Subtype.val)[j]! = (d[j]!).1 := by
  rw [getElem!_pos _ j (by simpa using hj), getElem!_pos d j hj]
  simp
theorem vrow_of_holds {w : World} {b off : Nat} {d : Array SV} (hb : b < w.heap.size) (h : HoldsK encV 5 w b off d) : VRow w b off (d.map Subtype.val) := by
  refine ⟨hb, fun j hj => ?_, fun o h1 h2 => ?_⟩
  · have hj' : j < d.size := by simpa using hj
    rw [map_get d hj']
    exact ⟨(h.cell hj' (c := 0) (by omega)).1, (h.cell hj' (c := 1) (by omega)).1, (h.cell hj' (c := 2) (by omega)).1, (h.cell hj' (c := 3) (by omega)).1, (h.cell hj' (c := 4) (by omega)).1⟩
  · have h2' : o < off + d.size * 5 := by simpa using h2
    have := (h.cell (i := (o - off) / 5) (c := (o - off) % 5) (by omega) (Nat.mod_lt _ (by omega))).2
    rwa [show off + (o - off) / 5 * 5 + (o - off) % 5 = o by omega] at this
theorem flat_enc (xs : List SV) (j : Nat) (hj : j < xs.length * 5) : (flat (xs.map Subtype.val))[j]? = some (flatK encV 5 xs.toArray)[j]! := by
  rw [get_flatK _ _ _ _ (by simpa using hj)]
  have hi : j / 5 < xs.length := by omega
  obtain ⟨a0, a1, a2, a3, a4⟩ := flat_at (xs.map Subtype.val) (j / 5) (xs[j / 5]).1 (by simp [hi])
  have e : xs.toArray[j / 5]! = xs[j / 5] := by simp [getElem!_pos, hi]
  rw [e]
  have hm : j % 5 < 5 := Nat.mod_lt _ (by omega)
  have hd := Nat.div_add_mod j 5
  have ej : j = j / 5 * 5 + j % 5 := by omega
  clear e
  generalize xs[j / 5] = x at a0 a1 a2 a3 a4 ⊢
  generalize j % 5 = r at hm ej
  rw [ej]
  match r, hm with
  | 0, _ => exact a0
  | 1, _ => exact a1
  | 2, _ => exact a2
  | 3, _ => exact a3
  | 4, _ => exact a4
theorem holds_of_own {w : World} {B n : Nat} {v : Value} {xs : List SV} (h : w.ownsRow B 35 5 v n (flat (xs.map Subtype.val))) (hv : v ≠ .slice none 0 0) :
    ∃ g cap, v = .slice (some ⟨g, 0, none⟩) n cap ∧ B ≤ g ∧ g < w.heap.size ∧ n ≤ cap ∧ cap ≤ maxLen ∧ xs.length = n ∧ HoldsK encV 5 w g 0 xs.toArray := by
  have h' := h
  have hl : xs.length * 5 = n * 5 := by
    have := h.1
    rwa [flat_length, List.length_map] at this
  rcases h.2 with ⟨e0, _⟩ | ⟨g, cap, cur, rfl, hb, hg, hn, hm, hs, ht⟩
  · exact absurd e0 hv
  · have hlt : g < w.heap.size := by
      rcases Nat.lt_or_ge g w.heap.size with h' | h'
      · exact h'
      · rw [Array.getElem?_eq_none h'] at hg; cases hg
    refine ⟨g, cap, rfl, hb, hlt, hn, hm, by omega, fun j hj => ?_⟩
    have hj' : j < xs.length * 5 := by simpa using hj
    have hc := h'.cells (g := g) rfl j _ (flat_enc xs j hj')
    rw [Go.WideShapes.add_plain] at hc
    exact ⟨hc, by simp [World.frozen?, hg]⟩
theorem cmpLays_V (b off size : Nat) (w : World) : CmpLays Tryz.prog 11 #[] encV 5 cfV b off size w :=
  fun _ _ _ _ x y => (Strong.order_any x.1 y.1 x.2 y.2 _).mono fun _ _ ⟨he, hb⟩ => ⟨he, strong_grow hb⟩
theorem sortF_any (xs : List SV) (b off c : Nat) (w : World) (hH : HoldsK encV 5 w b off xs.toArray) (hb : b < w.heap.size) (hsz : xs.length < 4611686018427387904) :
    Calls Tryz.prog 10 #[.slice (some ⟨b, off, none⟩) xs.length c, .func (.func 11) #[] #[]] w fun e w' => e = .returned (.tuple #[]) ∧ ∃ n os, w' = sortWorldK encV 5 w b off n (xs.mergeSort fun x y => !(ltOf cfV) y x).toArray os := by
  have eg : ∀ args w, (callFunc 11 args).run Tryz.prog w = .ok (.enter 11 args) w := enters_of Tryz.func11 (by kernel_rfl) rfl
  exact AnyQ.slices_SortFunc_total Tryz.sortV 5 Tryz.isAgg35 Tryz.sizeOf35 encV (fun _ => rfl) (fun x v hv => by
    simp only [encV, List.mem_cons, List.not_mem_nil, or_false] at hv
    rcases hv with rfl | rfl | rfl | rfl | rfl <;> rfl) cfV swoV 11 #[] b off c xs.toArray w eg (cmpLays_V b off _ w) hH hb (by simpa using hsz) totV
theorem sortN_any (p : Option Addr) (c : Nat) (fv : Value) (w : World) :
    Calls Tryz.prog 10 #[.slice p 0 c, fv] w fun e w' => e = .returned (.tuple #[]) ∧ w' = w :=
  AnyF.slices_SortFunc_none Tryz.sortV p c fv w
theorem sortW_bel {w0 w : World} {b n : Nat} {d : Array SV} {os : Array Obj} (h : Bel w0 w) (hb : w0.heap.size ≤ b) : Bel w0 (sortWorldK encV 5 w b 0 n d os) := by
  have h1 : Bel w0 (putRowK encV 5 (Sort.ahead w n) b 0 d) := Lib.below_putRow h hb
  exact ⟨h1.os, h1.tape, h1.output, Nat.le_trans h1.size (by simp [sortWorldK, grow]), fun k hk => by
    rw [← Below.block h1 k hk]
    have hk2 : k < (putRowK encV 5 (Sort.ahead w n) b 0 d).heap.size := Nat.lt_of_lt_of_le hk h1.size
    simp [sortWorldK, grow, Array.getElem?_append, hk2]⟩
theorem infoV : (Tryz.prog.info? 35).map (fun i => (i.zero, i.size, i.bytes)) = some (some (.agg #[.int .i64 0, .int .i64 0, .int .i64 0, .string ⟨#[]⟩, .int .i64 0]), 5, 48) := by kernel_rfl
theorem infoV' : ∃ i0, Tryz.prog.info? 35 = some i0 ∧ i0.zero = some (.agg #[.int .i64 0, .int .i64 0, .int .i64 0, .string ⟨#[]⟩, .int .i64 0]) ∧ i0.size = 5 ∧ i0.bytes = 48 := by
  have h := infoV
  cases hi : Tryz.prog.info? 35 with
  | none => rw [hi] at h; cases h
  | some i =>
    rw [hi] at h
    simp only [Option.map_some, Option.some.injEq, Prod.mk.injEq] at h
    exact ⟨i, rfl, h.1, h.2.1, h.2.2⟩
theorem clone_any (vs : List Val) (A : Option Addr) (b off c : Nat) (hA : A = some ⟨b, off, none⟩) (w : World) (hl : vs.length ≤ 1000000) (hv : Vals w A vs) :
    Calls Tryz.prog 9 #[.slice A vs.length c] w fun e w' => ∃ v', e = .returned v' ∧ w'.ownsRow w.heap.size 35 5 v' vs.length (flat vs) ∧ v' ≠ .slice none 0 0 ∧ Bel w w' := by
  subst hA
  obtain ⟨i0, hi, hz0, hz1, hz2⟩ := infoV'
  have hr := hv.row
  refine AnyE.slices_Clone Tryz.cloneV i0 _ 5 48 hi hz0 hz1 hz2 rfl (by omega) Tryz.sizeOf35 b off vs.length c (flat vs) w (flat_length vs) (by unfold maxLen; omega) (by omega) (fun j u hu => ?_) (fun u hu => ?_)
  · obtain ⟨b', off', hh, _, hc⟩ := hr (by have := (List.getElem?_eq_some_iff.1 hu).1; omega)
    cases hh
    exact hc j u hu
  · simp only [flat, List.mem_flatMap] at hu
    obtain ⟨v, _, hv⟩ := hu
    simp only [List.mem_cons, List.not_mem_nil, or_false] at hv
    rcases hv with rfl | rfl | rfl | rfl | rfl <;> rfl
theorem cloneN_any (n c : Nat) (w : World) : Calls Tryz.prog 9 #[.slice none n c] w fun e w' => e = .returned (.slice none 0 0) ∧ w' = w :=
  AnyE.slices_Clone_nil Tryz.cloneV n c w
theorem compact0_any (p : Option Addr) (c : Nat) (w : World) : Calls Tryz.prog 13 #[.slice p 0 c] w fun e w' => e = .returned (.slice p 0 c) ∧ w' = w := by
  go_enter Tryz.func13, Tryz.ntmps13
  go_wp2_with fail
  go_ret
  exact ⟨rfl, rfl⟩
end Go.Proofs.YtladmlnopbnlgaaGreatDoor
