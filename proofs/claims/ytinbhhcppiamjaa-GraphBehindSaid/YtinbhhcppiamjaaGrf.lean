import Derived.Test.YtinbhhcppiamjaaGre
namespace Go.Proofs.Ytinbhhcppiamjaa
set_option linter.unusedSimpArgs false
set_option linter.unusedVariables false
open Go.RowKit Go.Lib Go.Maps Go.Sort

/-! Rows of numbers: put in order, added to. -/
theorem app_grp {w : World} {B n j : Nat} {f : Nat → Value} {L : Nat → List Int} (h : Grp w B n 3 f L) (hj : j < n) {l : List Int} (hl : L j = l) (x : Int) (hlen : l.length ≤ 100000) (ty : TypeId) :
    ∃ v' w', (Builtin.append_ #[26, 26] ty #[f j, .slice (some ⟨w.heap.size, 0, none⟩) 1 1]).run Try.prog (w.alloc (.cells #[.int .i64 x] 3)) = .ok v' w' ∧
      (∃ A' c', v' = .slice A' (l.length + 1) c' ∧ w'.ownsRow (B + 1) 3 1 v' (l ++ [x]).length (nums (l ++ [x])) ∧ (w.alloc (.cells #[.int .i64 x] 3)).grownBy w' (f j).ownBlock ∧ (v'.ownBlock = (f j).ownBlock ∨ v'.ownBlock = some (w.heap.size + 1))) := by
  obtain ⟨i0, hi, hz0, hz1, hz2⟩ := infoI'
  have ho := own_keep (h.2 j hj).1 ((Bel.refl w).alloc (.cells #[.int .i64 x] 3))
  rw [hl] at ho
  obtain ⟨v', w', hr, h1, h2, h3⟩ := run_app (P := Try.prog) _ (B + 1) 26 ty 3 i0 _ 1 8 Try.underlying26 hi hz0 hz1 hz2 rfl (by omega) ho (m := 1) (c := 1) (ints_lit [x] rfl) rfl (by simp) (nums_one [x]) (by simp only [maxLen]; omega) (by omega) (by
    have := h.1.1
    simp
    omega)
  have h1' : w'.ownsRow (B + 1) 3 1 v' (l ++ [x]).length (nums (l ++ [x])) := by
    rw [List.length_append]
    simpa [nums] using h1
  obtain ⟨A', c', e, _⟩ := own_row h1'
  exact ⟨v', w', hr, A', c', by rw [e]; simp, h1', h2, by simpa using h3⟩
theorem app_own {w : World} {B n : Nat} {v : Value} {l : List Int} (h : w.ownsRow B 3 1 v n (nums l)) (x : Int) (hB : B ≤ w.heap.size) (hlen : l.length ≤ 100000) (ty : TypeId) :
    ∃ v' w', (Builtin.append_ #[26, 26] ty #[v, .slice (some ⟨w.heap.size, 0, none⟩) 1 1]).run Try.prog (w.alloc (.cells #[.int .i64 x] 3)) = .ok v' w' ∧
      (∃ A' c', v' = .slice A' (n + 1) c' ∧ w'.ownsRow B 3 1 v' (n + 1) (nums (l ++ [x])) ∧ (w.alloc (.cells #[.int .i64 x] 3)).grownBy w' v.ownBlock ∧ w.heap.size ≤ w'.heap.size) := by
  obtain ⟨i0, hi, hz0, hz1, hz2⟩ := infoI'
  have hn : n = l.length := by have := own_len h; simp [nums] at this; omega
  have ho := own_keep h ((Bel.refl w).alloc (.cells #[.int .i64 x] 3))
  obtain ⟨v', w', hr, h1, h2, h3⟩ := run_app (P := Try.prog) _ B 26 ty 3 i0 _ 1 8 Try.underlying26 hi hz0 hz1 hz2 rfl (by omega) ho (m := 1) (c := 1) (ints_lit [x] rfl) rfl (by simp) (nums_one [x]) (by simp only [maxLen]; omega) (by omega) (by simp; omega)
  have h1' : w'.ownsRow B 3 1 v' (n + 1) (nums (l ++ [x])) := by simpa [nums] using h1
  obtain ⟨A', c', e, _⟩ := own_row h1'
  exact ⟨v', w', hr, A', c', e, h1', h2, by have := h2.size; simp at this; omega⟩
theorem infoSl : (Try.prog.info? 26).map (fun i => (i.zero, i.size, i.bytes)) = some (some (.slice none 0 0), 1, 24) := by kernel_rfl
theorem make_rows (n : Nat) (hn : n ≤ 1000) (w : World) : (Instr.makeSlice 35 (.int .i64 n) (.int .i64 n)).run Try.prog w = .ok (.slice (some ⟨w.heap.size, 0, none⟩) n n) (w.alloc (.cells (madeCells #[.slice none 0 0] n) 26)) :=
  run_make_row' 35 26 (.slice none 0 0) 24 Try.underlying35 infoSl rfl .i64 .i64 n (by omega) (by omega) w
end Go.Proofs.Ytinbhhcppiamjaa
