/- PolicyOutcomes returns true for every argument that can be read and is of bulk at most 1048576, and each argument reads afterwards as it read before. -/
import Derived.Test.YteblpdoljhmcmaaPlx
import Derived.Test.YteblpdoljhmcmaaBulk
import Derived.Test.YteblpdoljhmcmaaRow
import Derived.Test.YteblpdoljhmcmaaOpn
import Derived.SizedLaws
namespace Go.Proofs.Yteblpdoljhmcmaa
open Go.ChangeShapes Go.WideShapes Go.ChangeAt Go.RowKit Go.Deep
set_option linter.unusedVariables false
set_option linter.unusedSimpArgs false
theorem bulk_arg1 {H : Type} {l : List (DataW H)} (hk : Rows.uptoSmall H l = true) {es sp : List (DataW H)} (h : DataW.slice es sp ∈ l) : es.length ≤ 1048575 := by
  have h1 := bulk_mem h
  have h2 := bulk_of hk
  have h3 := bulk_len es
  simp only [Rows.uptoBulk] at h1
  omega
set_option maxRecDepth 100000 in
theorem open_intl {H : Type} {enc : TypeId × Value → H} {w : World} {base : Nat} {spare : Nat → Bool} {held : Bool} {r : Reach} {v : Value} {d : DataW H} {p : List MemPlace} (hv : Value.okWide Try.prog w r base 27 v) (h : DataW.Trod enc Try.prog w 0 spare held 27 v d p) :
    ∃ (A : Option Addr) (c : Nat) (xs : List Int), v = .slice A xs.length c ∧ Ints w A xs ∧ (∀ x ∈ xs, -9223372036854775808 ≤ x ∧ x ≤ 9223372036854775807) ∧ (xs = [] ∨ ∃ es sp : List (DataW H), d = .slice es sp ∧ es.length = xs.length) := by
  obtain ⟨a, len, cap, rfl⟩ := okWide_slice Try.underlying27 hv
  obtain ⟨n, hn⟩ := h
  rcases open_slice Try.underlying27 hn with ⟨hcs, _⟩ | ⟨ad, len', cap', m, n', D, Pl, hcs, _, hl, hm, hmm, hx, hi⟩
  · simp [Value.cells] at hcs
    obtain ⟨rfl, rfl, rfl⟩ := hcs
    exact ⟨none, 0, [], rfl, fun h => absurd h (by simp [nums]), by simp, .inl rfl⟩
  · simp only [Value.cells, List.cons.injEq, Value.slice.injEq, and_true] at hcs
    obtain ⟨rfl, rfl, rfl⟩ := hcs
    have hlm : len ≤ m := by rw [hmm]; split <;> omega
    obtain ⟨b, off, spot⟩ := ad
    have key : ∀ i : Nat, ∃ x : Int, i < len → spot = none ∧ b < w.heap.size ∧ w.cell? ⟨b, off + i, none⟩ = some (.int .i64 x) ∧ -9223372036854775808 ≤ x ∧ x ≤ 9223372036854775807 := by
      intro i
      by_cases hlt : i < len
      · obtain ⟨cs', hc, ht⟩ := hi i (by omega)
        rw [cells3] at hc
        obtain ⟨x, rfl, _, hw⟩ := DataW.trod_int Try.underlying3 ht
        obtain ⟨_, _, hat⟩ := World.cells?_some hc
        obtain ⟨cs0, hc0, ht0⟩ := hi 0 (by omega)
        rw [cells3] at hc0
        obtain ⟨x0, rfl, _, _⟩ := DataW.trod_int Try.underlying3 ht0
        have h00 := (World.cells?_some hc0).2.2 0 (by omega)
        simp only [Nat.zero_mul, Addr.add, if_true, List.getElem?_cons_zero] at h00
        have hspot : spot = none := by simpa using World.cell?_spot h00
        subst hspot
        have hblk := World.block_lt_of_cell? _ _ h00
        have a0 := hat 0 (by omega)
        simp only [Go.WideShapes.add_plain, Nat.mul_one, Nat.add_zero, List.getElem?_cons_zero] at a0
        exact ⟨x, fun _ => ⟨rfl, hblk, a0, in64_of hw⟩⟩
      · exact ⟨0, fun h => absurd h hlt⟩
    let V : Nat → Int := fun i => Classical.choose (key i)
    have hV : ∀ i, i < len → spot = none ∧ b < w.heap.size ∧ w.cell? ⟨b, off + i, none⟩ = some (.int .i64 (V i)) ∧ -9223372036854775808 ≤ V i ∧ V i ≤ 9223372036854775807 := fun i => Classical.choose_spec (key i)
    have hlen : ((List.range len).map V).length = len := by simp
    refine ⟨some ⟨b, off, spot⟩, cap, (List.range len).map V, by rw [hlen], fun h0 => ?_, fun x hx => ?_, .inr ?_⟩
    · have h0' : 0 < len := by simpa [nums] using h0
      obtain ⟨rfl, hb0, _⟩ := hV 0 h0'
      refine ⟨b, off, rfl, hb0, fun j u hu => ?_⟩
      simp only [nums, List.map_map, List.getElem?_map] at hu
      by_cases hlt : j < len
      · rw [List.getElem?_range hlt] at hu
        simp only [Option.map_some, Option.some.injEq, Function.comp] at hu
        subst hu
        exact (hV j hlt).2.2.1
      · rw [List.getElem?_eq_none (by simpa using hlt)] at hu
        cases hu
    · rw [List.mem_map] at hx
      obtain ⟨i, hi', rfl⟩ := hx
      exact (hV i (List.mem_range.1 hi')).2.2.2
    · simp only [Prod.mk.injEq] at hx
      exact ⟨_, _, hx.1, by simp⟩
theorem Try.results3T : Try.f3.resultTypes = #[4] := by kernel_rfl

namespace policyOutcomes
theorem contract (H : Type) (enc : TypeId × Value → H) (W : World) (base : Nat) (args : Array Value) (ds gs : List (DataW H)) (before : List MemPlace)
    (hval : ∀ (j : Nat) t v, Try.f3.params[j]? = some t → args[j]? = some v → Value.okWide Try.prog W .any base t v)
    (hW : DataW.Whole enc Try.prog Try.f3.params.toList Rows.policyOutcomesSpec.vars false W args.toList ds gs before) (hk : Rows.uptoSmall H (ds ++ gs) = true) :
    Calls Try.prog 3 args W fun e W' => ∃ v, e = .returned v ∧ Rows.policyOutcomesSpec.post enc Try.prog Try.f3 false true false false W args v W' := by
  have hW' := hW
  obtain ⟨p, q, hA0, hV, rfl, hfz, hnd⟩ := hW
  have hA : DataW.TrodAll enc Try.prog W 0 (fun _ => true) true Try.f3.params.toList args.toList ds p := hA0
  rw [Try.params3] at hA hval
  obtain ⟨v0, vs0, d0, ds0, p0, q0, hargs, rfl, rfl, h0, r0⟩ := trodAll_cons hA
  obtain ⟨v1, vs1, d1, ds1, p1, q1, rfl, rfl, rfl, h1, r1⟩ := trodAll_cons r0
  obtain ⟨v2, vs2, d2, ds2, p2, q2, rfl, rfl, rfl, h2, r2⟩ := trodAll_cons r1
  obtain ⟨v3, vs3, d3, ds3, p3, q3, rfl, rfl, rfl, h3, r3⟩ := trodAll_cons r2
  obtain ⟨v4, vs4, d4, ds4, p4, q4, rfl, rfl, rfl, h4, r4⟩ := trodAll_cons r3
  obtain ⟨rfl, rfl, rfl⟩ := trodAll_nil r4
  obtain rfl : args = #[v0, v1, v2, v3, v4] := by cases args; simp_all
  obtain ⟨pp, rfl, _, _, _⟩ := open_int (k := .i64) Try.underlying3 (hval 0 3 v0 rfl rfl) h0
  obtain ⟨A1, c1, o, rfl, H1, l1, n1, ok1, e1⟩ := open_vals (hval 1 22 v1 rfl rfl) h1
  have b1 : o.length ≤ 1048575 := by
    rcases e1 with rfl | ⟨es, sp, rfl, he⟩
    · simp
    · rw [← he]; exact bulk_arg1 (sp := sp) hk (by simp)
  obtain ⟨A2, c2, r, rfl, H2, l2, n2, ok2, e2⟩ := open_vals (hval 2 22 v2 rfl rfl) h2
  have b2 : r.length ≤ 1048575 := by
    rcases e2 with rfl | ⟨es, sp, rfl, he⟩
    · simp
    · rw [← he]; exact bulk_arg1 (sp := sp) hk (by simp)
  obtain ⟨x, rfl, ok3⟩ := open_val (hval 3 26 v3 rfl rfl) h3
  obtain ⟨A4, c4, xs, rfl, H4, i4, e4⟩ := open_intl (hval 4 27 v4 rfl rfl) h4
  have b4 : xs.length ≤ 1048575 := by
    rcases e4 with rfl | ⟨es, sp, rfl, he⟩
    · simp
    · rw [← he]; exact bulk_arg1 (sp := sp) hk (by simp)
  refine (law_Outcomes pp o A1 c1 r A2 c2 x xs A4 c4 W H1 H2 H4 n1 n2 b1 b2 b4 (fun v hv => (ok1 v hv).text) (fun v hv => (ok2 v hv).text) ok3.text i4).mono fun e W' ⟨he, hb⟩ => ?_
  subst he
  exact ⟨_, rfl, law_post Try.laidOut rfl (by rw [Try.params3]; intro t ht; simp at ht; rcases ht with rfl | rfl | rfl | rfl <;> exact ⟨by kernel_rfl, of_decide_eq_true (by kernel_rfl)⟩) (bt := 4) Try.results3T Try.underlying4 (fun ds hl => by
    match ds, hl with
    | [d0, d1, d2, d3, d4], _ => rfl) hW' hb⟩

set_option maxRecDepth 100000 in
theorem lifted (os : Os) (started : os.Started) (H : Type) (enc : TypeId × Value → H) (F : Stop.Interp) :
    ReturnsInHanded {} Try.checked os 3 .any ((Rows.OpenSpec.upto Rows.policyOutcomesSpec).pre6 enc Try.prog Try.f3 Rows.policyOutcomesUptoRow.domain false) (((Rows.OpenSpec.upto Rows.policyOutcomesSpec).at F).post enc Try.prog Try.f3 false true false false) := by
  refine returnsInHanded_of_cond (C := Try.checked) (s := Rows.OpenSpec.upto Rows.policyOutcomesSpec) (k := Rows.uptoSmall) rfl Try.own started (by kernel_rfl) Try.func3
    (OpenSpec.witness (enc := enc) (C := Try.checked) (s := Rows.OpenSpec.upto Rows.policyOutcomesSpec) (k := Rows.uptoSmall) rfl false ⟨#[], #[.int .i64 0, .slice none 0 0, .slice none 0 0, .agg #[.int .i64 0, .int .i64 0, .int .i64 0, .string ⟨#[]⟩, .int .i64 0], .slice none 0 0], []⟩ 8 (by kernel_rfl) (by kernel_rfl) (by kernel_rfl)
      (x := ([.lit (.int .i64 0), .nil, .nil, .agg [.lit (.int .i64 0), .agg [.lit (.int .i64 0), .lit (.int .i64 0)], .lit (.string []), .lit (.int .i64 0)], .nil], [], [])) (by kernel_rfl) rfl (by kernel_rfl)) ?_
  intro W base args ds gs before hval hW _ hk _
  exact contract H enc W base args ds gs before hval hW hk

theorem proved : Rows.PolicyOutcomesUptoSaid :=
  OpenClaim.holds_of_cond 3 Try.f3 rfl rfl rfl rfl rfl rfl rfl ⟨rfl, rfl, rfl, rfl, rfl⟩ rfl rfl rfl rfl rfl (by kernel_rfl) Try.func3 (by kernel_rfl)
    (of_decide_eq_true (by kernel_rfl)) (by unfold Func.isWrapper; first | (rw [if_pos (by decide +kernel)]; kernel_rfl) | (rw [if_neg (by decide +kernel)]; exact ⟨rfl, rfl⟩))
    (fun os started H enc _ F => lifted os started H enc F)
end policyOutcomes
end Go.Proofs.Yteblpdoljhmcmaa
