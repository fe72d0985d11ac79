import Derived.Test.YtobdokeklcdpoaaDoorMkx
import Derived.Deep.LoopGhost
namespace Go.Proofs.YtobdokeklcdpoaaDoor
set_option linter.unusedSimpArgs false
set_option linter.unusedVariables false
open Go.RowKit

/-! The document: the same marks. -/
theorem eql_att (x y : ByteArray) (w : World) : (binOp .eql 48 (.agg #[.string x, .string y]) (.agg #[.string x, .string y])).run Tryd.prog w = .ok (.bool true) w := by
  go_simp
theorem neq_att (x y : ByteArray) (w : World) : (binOp .neq 48 (.agg #[.string x, .string y]) (.agg #[.string x, .string y])).run Tryd.prog w = .ok (.bool false) w := by
  have h := eql_att x y w
  rw [run_eql_struct] at h
  rw [run_neq_struct]
  generalize (Op.equalIn 10000 48 _ _).run Tryd.prog w = r at h ⊢
  cases r with
  | ok x w1 =>
    simp only [Result.andThen_ok, Result.ok.injEq, Value.bool.injEq] at h ⊢
    simp [h]
  | halt x w1 => simp [Result.andThen] at h
attribute [local go_sem ↓] neq_att eql_att
theorem er_at {ms ns : List Mk} (he : ms.map er = ns.map er) {j : Nat} {m : Mk} (hj : ms[j]? = some m) : ∃ x, ns[j]? = some ⟨m.kind, x, m.name, m.attrs, m.text⟩ := by
  have h1 : (ms.map er)[j]? = some (er m) := by rw [List.getElem?_map, hj]; rfl
  rw [he, List.getElem?_map] at h1
  cases hn : ns[j]? with
  | none => rw [hn] at h1; cases h1
  | some n =>
    rw [hn] at h1
    have h2 : er n = er m := Option.some.inj h1
    refine ⟨n.pos, congrArg some ?_⟩
    obtain ⟨k, p, nm, al, t⟩ := n
    obtain ⟨k', p', nm', al', t'⟩ := m
    unfold er at h2
    simp only [Mk.mk.injEq, true_and] at h2
    obtain ⟨rfl, rfl, rfl, rfl⟩ := h2
    rfl
theorem ats_at {w : World} {A : Option Addr} {l : List (List UInt8 × List UInt8)} {j : Nat} {a : List UInt8 × List UInt8} (h : Row w A (atsCells l)) (hj : l[j]? = some a) : ∃ b off, A = some ⟨b, off, none⟩ ∧ b < w.heap.size ∧ w.cell? ⟨b, off + j * 2, none⟩ = some (.string (bytesOf a.1)) ∧ w.cell? ⟨b, off + j * 2 + 1, none⟩ = some (.string (bytesOf a.2)) := by
  have hl := (List.getElem?_eq_some_iff.1 hj).1
  obtain ⟨b, off, e, hlt, hc⟩ := h (by rw [atsCells_len]; omega)
  refine ⟨b, off, e, hlt, ?_, ?_⟩
  · have := hc (j * 2 + 0) _ (flat_at attCells 2 (fun _ => rfl) l j 0 a (.string (bytesOf a.1)) hj rfl)
    exact this
  · have := hc (j * 2 + 1) _ (flat_at attCells 2 (fun _ => rfl) l j 1 a (.string (bytesOf a.2)) hj rfl)
    rwa [← Nat.add_assoc] at this
set_option maxRecDepth 100000 in
set_option maxHeartbeats 8000000 in
theorem same_yes (ms ns : List Mk) (A D : Option Addr) (c d : Nat) (w : World) (hA : Mks w A ms) (hD : Mks w D ns) (he : ms.map er = ns.map er) (hl : ms.length ≤ 140737488355328) (ht : ∀ m ∈ ms, m.attrs.length ≤ 140737488355328) :
    Calls Tryd.prog 11 #[.slice A ms.length c, .slice D ns.length d] w fun r w' => r = .returned (.bool true) ∧ Bel w w' := by
  have hln : ns.length = ms.length := by have := congrArg List.length he; simpa using this.symm
  rw [hln]
  have hli : (ms.length : Int) ≤ 140737488355328 := by omega
  have HE := Lib.hid he
  have HT := Lib.hid ht
  have HB := Lib.hid (Bel.refl w)
  clear ht he
  go_enter Tryd.func11, Tryd.ntmps11
  go_wp2
  go_loopg [5] ms.length (fun g v wr => ∃ i : Nat, v = .int .i64 i ∧ i ≤ ms.length ∧ Hid (g = ms.length - i) ∧ Bel w wr)
  case atStart => exact ⟨0, rfl, Nat.zero_le _, rfl, HB.out⟩
  case round =>
    obtain ⟨i, rfl, hi, hg, hb⟩ := hrel
    by_cases hlt : i < ms.length
    · have ii : (i : Int) < ms.length := by omega
      obtain ⟨m, hm⟩ : ∃ m, ms[i]? = some m := ⟨_, List.getElem?_eq_getElem hlt⟩
      obtain ⟨x, hn⟩ := er_at HE.out hm
      have HTm := Lib.hid (HT.out m (List.mem_of_getElem? hm))
      have KA := Lib.hid fun W (hW : Bel w W) => hA.keep hW
      have KD := Lib.hid fun W (hW : Bel w W) => hD.keep hW
      obtain ⟨b1, o1, rfl, hlt1, hc1⟩ := hA (by omega)
      obtain ⟨b2, o2, rfl, hlt2, hc2⟩ := hD (by omega)
      obtain ⟨A1, c1, k0, k1, k2, k3, k4, k5⟩ := (hc1 i m hm).keep hb hlt1
      obtain ⟨A2, c2, l0, l1, l2, l3, l4, l5⟩ := (hc2 i _ hn).keep hb hlt2
      simp only at l0 l1 l2 l3 l4 l5
      have z1 := Nat.lt_of_lt_of_le hlt1 hb.size
      have z2 := Nat.lt_of_lt_of_le hlt2 hb.size
      obtain ⟨kd, ps, nm, al, tx⟩ := m
      simp only at k0 k1 k2 k3 k4 k5 l0 l1 l2 l3 l4 l5 HTm
      clear hc1 hc2 hm hn
      go_wp2
      refine wp_region_uni (S := (fun w' => Bel wr w' ∧ (∀ b o, b < wr.heap.size → w'.cell? ⟨b, o, none⟩ = wr.cell? ⟨b, o, none⟩))) (by kernel_rfl) (by kernel_rfl) keep0 ?_
      repeat (first | (refine wpUni_skip (by rfl) ?_; (try simp only [Act.put, List.setIfInBounds_toArray, List.set_cons_zero, List.set_cons_succ]))
                                                            | (refine wpUni_value (by rfl) (fun w hS => by (try dsimp only at hS); go_simp; first | done | with_reducible rfl) ?_; (try simp only [Act.put, List.setIfInBounds_toArray, List.set_cons_zero, List.set_cons_succ])))
      refine wpUni_nil fun W1 hS => ?_
      have hb1 := hS.1
      clear hS
      have hbW := hb.trans hb1
      replace k3 := (hb1.cells _ _ z1).trans k3
      replace l3 := (hb1.cells _ _ z2).trans l3
      replace k5 := k5.keep hb1
      replace l5 := l5.keep hb1
      replace z1 := Nat.lt_of_lt_of_le z1 hb1.size
      replace z2 := Nat.lt_of_lt_of_le z2 hb1.size
      clear k0 k1 k2 k4 l0 l1 l2 l4 hb1 hb
      go_wp2
      go_loopg [6] al.length (fun g v wr => ∃ j : Nat, v = .int .i64 j ∧ j ≤ al.length ∧ Hid (g = al.length - j) ∧ Bel W1 wr)
      case atStart => exact ⟨0, rfl, Nat.zero_le _, rfl, Bel.refl _⟩
      case round =>
        obtain ⟨j, rfl, hj, hg2, hb2⟩ := hrel
        have HTi : (al.length : Int) ≤ 140737488355328 := by have := HTm.out; omega
        by_cases hlt2 : j < al.length
        · have jj : (j : Int) < al.length := by omega
          obtain ⟨a, ha⟩ : ∃ a, al[j]? = some a := ⟨_, List.getElem?_eq_getElem hlt2⟩
          obtain ⟨b3, o3, rfl, hlt3, p0, p1⟩ := ats_at (k5.keep hb2) ha
          obtain ⟨b4, o4, rfl, hlt4, q0, q1⟩ := ats_at (l5.keep hb2) ha
          have k3' := (hb2.cells _ _ z1).trans k3
          have l3' := (hb2.cells _ _ z2).trans l3
          clear k3 l3 ha k5 l5
          go_wp2
          go_region
          all_goals
            go_wp2
            go_roundg (al.length - (j + 1))
            case measure => have := hg2.out; omega
            case rel => exact ⟨j + 1, by go_num, by omega, rfl, hb2.drew⟩
        · obtain rfl : j = al.length := by omega
          have k3' := (hb2.cells _ _ z1).trans k3
          clear k3 l3
          go_wp2
          go_roundg (ms.length - (i + 1))
          case measure => have := hg.out; omega
          case rel => exact ⟨i + 1, by go_num, by omega, rfl, hbW.trans hb2⟩
    · obtain rfl : i = ms.length := by omega
      go_wp2
      go_ret
      exact ⟨rfl, hb⟩
end Go.Proofs.YtobdokeklcdpoaaDoor
