import Derived.Test.YtdimpjahmdoolaaSpg
namespace Go.Proofs.Ytdimpjahmdoolaa
set_option linter.unusedSimpArgs false
set_option linter.unusedVariables false
open Go.RowKit Go.Lib

/-! Spans: rows of numbers; the law's numbers beside the ends of spans. -/
def nums (xs : List Int) : List Value := xs.map fun x => .int .i64 x
theorem nums_one (xs : List Int) : ∀ u ∈ nums xs, u.oneCell' = true := by
  intro u hu
  simp only [nums, List.mem_map] at hu
  obtain ⟨_, _, rfl⟩ := hu
  rfl
theorem infoI : (Try.prog.info? 3).map (fun i => (i.zero, i.size, i.bytes)) = some (some (.int .i64 0), 1, 8) := by kernel_rfl
theorem infoI' : ∃ i0, Try.prog.info? 3 = some i0 ∧ i0.zero = some (.int .i64 0) ∧ i0.size = 1 ∧ i0.bytes = 8 := by
  have h := infoI
  cases hi : Try.prog.info? 3 with
  | none => rw [hi] at h; cases h
  | some i =>
    rw [hi] at h
    simp only [Option.map_some, Option.some.injEq, Prod.mk.injEq] at h
    exact ⟨i, rfl, h.1, h.2.1, h.2.2⟩
def OwnI (w : World) (B : Nat) (v : Value) (xs : List Int) : Prop := w.ownsRow B 3 1 v xs.length (nums xs)
theorem OwnI.keep {w w' : World} {B : Nat} {v : Value} {xs : List Int} (h : OwnI w B v xs) (hb : Bel w w') : OwnI w' B v xs := own_keep h hb
theorem OwnI.lt {w : World} {B : Nat} {v : Value} {xs : List Int} (h : OwnI w B v xs) : ∀ k, v.ownBlock = some k → B ≤ k ∧ k < w.heap.size := World.ownsRow.lt h
/-- The numbers that lie at an address. -/
def Ints (w : World) (A : Option Addr) (xs : List Int) : Prop := Row w A (nums xs)
theorem Ints.at {w : World} {b off : Nat} {xs : List Int} (h : Ints w (some ⟨b, off, none⟩) xs) {i : Nat} {x : Int} (hx : xs[i]? = some x) : w.cell? ⟨b, off + i, none⟩ = some (.int .i64 x) := by
  obtain ⟨b', off', e, _, hc⟩ := h (by have := (List.getElem?_eq_some_iff.1 hx).1; simp [nums]; omega)
  cases e
  exact hc i _ (by simp [nums, hx])
theorem OwnI.ints {w : World} {B : Nat} {v : Value} {xs : List Int} (h : OwnI w B v xs) : ∃ A c, v = .slice A xs.length c ∧ Ints w A xs ∧ (xs = [] ∨ ∃ g, A = some ⟨g, 0, none⟩ ∧ B ≤ g ∧ g < w.heap.size) := by
  obtain ⟨A, c, e, hr, _, h2⟩ := own_row h
  refine ⟨A, c, e, hr, ?_⟩
  rcases h2 with h2 | h2
  · exact .inl (by simpa [nums] using h2)
  · exact .inr h2
theorem app_ints {w0 W w : World} {v : Value} {xs ys : List Int} {A : Option Addr} {m c : Nat} (h0 : Bel w0 W) (hW : Bel W w) (h : OwnI W w0.heap.size v xs) (hy : Ints w A ys) (hm : ys.length = m) (hA : A = none → c = 0) (hn : xs.length + ys.length ≤ 2097152) (ty : TypeId) :
    ∃ v' w', (Builtin.append_ #[27, 27] ty #[v, .slice A m c]).run Try.prog w = .ok v' w' ∧ (OwnI w' w0.heap.size v' (xs ++ ys) ∧ Bel w0 w' ∧ (∀ k o, k < W.heap.size → v.ownBlock ≠ some k → w'.cell? ⟨k, o, none⟩ = W.cell? ⟨k, o, none⟩) ∧ (∀ k, k < W.heap.size → v.ownBlock ≠ some k → v'.ownBlock ≠ some k) ∧ W.heap.size ≤ w'.heap.size) := by
  subst hm
  obtain ⟨i0, hi, hz0, hz1, hz2⟩ := infoI'
  have hb := h0.trans hW
  obtain ⟨v', w', hr, h1, h2, h3⟩ := run_app (P := Try.prog) w w0.heap.size 27 ty 3 i0 _ 1 8 Try.underlying27 hi hz0 hz1 hz2 rfl (by omega) (h.keep hW) (m := ys.length) (c := c) hy (show (nums ys).length = ys.length * 1 by simp [nums]) hA (nums_one ys) (by simp only [maxLen]; omega) (by omega) hb.size
  refine ⟨v', w', hr, ?_, h2.bel hb fun k hk => (h.lt k hk).1, fun k o hk hne => ?_, fun k hk hne => ?_, Nat.le_trans hW.size h2.size⟩
  · unfold OwnI
    rw [List.length_append]
    simpa [nums] using h1
  · have hk' := Nat.lt_of_lt_of_le hk hW.size
    exact (World.cell?_of_block (h2.block k hk' (fun e => hne e.symm))).trans (hW.cells k o hk)
  · rcases h3 with h3 | h3
    · rw [h3]; exact hne
    · rw [h3]
      intro e
      have := hW.size
      cases e
      omega
theorem ints_lit {w : World} {n : Nat} (xs : List Int) (hn : n = w.heap.size) : Ints (w.alloc (.cells (nums xs).toArray 3)) (some ⟨n, 0, none⟩) xs := fun _ => by
  subst hn
  refine ⟨_, 0, rfl, by simp, fun j u hu => ?_⟩
  have hadd : (0 + j) = j := by omega
  rw [hadd, cell_of_row _ w.heap.size j _ _ _ (heap_alloc_new w _)]
  simpa using hu
theorem OwnI.lit {w0 w : World} {n : Nat} (xs : List Int) (hb : Bel w0 w) (hn : n = w.heap.size) (hl : xs.length ≤ maxLen) : OwnI (w.alloc (.cells (nums xs).toArray 3)) w0.heap.size (.slice (some ⟨n, 0, none⟩) xs.length xs.length) xs := by
  subst hn
  have := World.ownsRow_lit (base := w0.heap.size) (e := 3) (size := 1) w (nums xs).toArray xs.length hb.size hl (by simp [nums])
  simpa [OwnI] using this
set_option maxRecDepth 100000 in
set_option maxHeartbeats 8000000 in
theorem beside_any (n : Int) (ls : List (Value × List Sp)) (b c : Nat) (w : World) (hb : b < w.heap.size) (h : ∀ j vl, ls[j]? = some vl → w.cell? ⟨b, j, none⟩ = some vl.1 ∧ SlS w vl.1 vl.2 ∧ vl.2.length ≤ 1000) (hm : ls.length ≤ 10) :
    Calls Try.prog 12 #[.int .i64 n, .slice (some ⟨b, 0, none⟩) ls.length c] w fun e w' => ∃ v xs, e = .returned v ∧ OwnI w' w.heap.size v xs ∧ xs.length ≤ 2000 ∧ Bel w w' := by
  have hli : (ls.length : Int) ≤ 9223372036854775807 := by omega
  have H := Lib.hid h
  clear h
  go_enter Try.func12, Try.ntmps12
  go_wp2_with fail
  go_loopg [5, 6] ls.length (fun g o ii wr => ∃ (i : Nat) (xs : List Int), ii = .int .i64 i ∧ i ≤ ls.length ∧ Hid (xs.length ≤ 1 + i * 120 ∧ g = ls.length - i) ∧ Bel w wr ∧ Hid (OwnI wr w.heap.size o xs))
  case atStart => exact ⟨0, [n], rfl, Nat.zero_le _, ⟨by simp, rfl⟩, (Bel.refl _).alloc _, OwnI.lit [n] (Bel.refl _) rfl (by simp [maxLen])⟩
  case round =>
    obtain ⟨i, xs, rfl, hi, hh, hb1, hown⟩ := hrel
    by_cases hp : i < ls.length
    · obtain ⟨vl, hvl⟩ : ∃ vl, ls[i]? = some vl := ⟨_, List.getElem?_eq_getElem hp⟩
      obtain ⟨q1, q2, q3⟩ := H.out i vl hvl
      obtain ⟨v, l⟩ := vl
      obtain ⟨A, cl, e, hs, _, _⟩ := q2
      simp only at q1 q3 e
      subst e
      have a0 := (hb1.cells b i hb).trans q1
      have i1 : (i : Int) < ls.length := by omega
      have hlb := Nat.lt_of_lt_of_le hb hb1.size
      have hl1 : (l.length : Int) ≤ 9223372036854775807 := by omega
      have Q1 := Lib.hid q1
      clear q1 hvl
      go_wp2_with fail
      go_loopg [5, 7] l.length (fun g o kk w2 => ∃ (k : Nat) (xs : List Int), kk = .int .i64 k ∧ k ≤ l.length ∧ k ≤ 30 ∧ Hid (xs.length ≤ 1 + i * 120 + k * 4 ∧ g = l.length - k) ∧ Bel w w2 ∧ Hid (OwnI w2 w.heap.size o xs))
      case atStart => exact ⟨0, xs, rfl, Nat.zero_le _, Nat.zero_le _, ⟨by have := hh.out.1; omega, rfl⟩, hb1, hown⟩
      case round =>
        obtain ⟨k, ys, rfl, hk, hk30, hh2, hb2, hown2⟩ := hrel
        have g0 := (hb2.cells b i hb).trans Q1.out
        have hlb2 := Nat.lt_of_lt_of_le hb hb2.size
        clear a0 hlb
        by_cases hp2 : k < l.length
        · by_cases hp3 : k < 30
          · obtain ⟨b', off', rfl, hlt', hat⟩ := hs (by omega)
            obtain ⟨s, hsk⟩ : ∃ s, l[k]? = some s := ⟨_, List.getElem?_eq_getElem hp2⟩
            have ha := (hat k s hsk).keep hb2 hlt'
            have i2 : (k : Int) < l.length := by omega
            have i3 : (k : Int) < 30 := by omega
            have hyl : ys.length ≤ 1500 := by have := hh2.out.1; omega
            have hlc := Nat.lt_of_lt_of_le hlt' hb2.size
            clear hs hat hsk
            obtain ⟨s1, s2⟩ := s
            obtain ⟨e0, e1⟩ := ha
            simp only at e0 e1
            go_upto_region 9 with (fail)
            refine under_name (w0 := wr) ?_ fun W hc hf hz hb4 => ?_
            · (repeat (first | with_reducible exact Bel.refl _ | with_reducible refine Bel.setCell ?_ (by first | exact Nat.le_refl _ | (dsimp only; omega)) _ | with_reducible refine Bel.alloc ?_ _ | with_reducible refine Bel.drew ?_ | with_reducible assumption | with_reducible refine Bel.trans ?_ (by assumption)))
            have d0 : W.cell? ⟨wr.heap.size, 0, none⟩ = some (.int .i64 s1) := by simp [hc, go_sem]
            have d1 : W.cell? ⟨wr.heap.size, 1, none⟩ = some (.int .i64 s2) := by simp [hc, go_sem]
            have hq : wr.heap.size < W.heap.size := by rw [hz]; simp
            have hne := fun e => Nat.lt_irrefl _ (hown2.out.lt wr.heap.size e).2
            have oc := Lib.hid (hown2.out.keep hb4)
            have bw := hb2.trans hb4
            clear hc hf hz g0 e0 e1
            by_cases x1 : -4611686018427387904 < s1 <;> by_cases x2 : s2 < 4611686018427387904
            all_goals
              go_wp2_with (first
                | (at_builtin
                   refine wpList_app rfl (.tmp 37) (.tmp 42) _ rfl (app_ints bw ((Bel.refl _).alloc _) oc.out (ints_lit [s1, s2] rfl) rfl (fun h => by cases h) (by simp; omega) _) ?_
                   rintro v1 w1 ⟨o1, b1, c1, n1, z1⟩
                   have d0 := (c1 _ 0 hq hne).trans d0
                   have d1 := (c1 _ 1 hq hne).trans d1
                   have hne := n1 _ hq hne
                   have hq := Nat.lt_of_lt_of_le hq z1
                   have oc := Lib.hid o1
                   have bw := b1
                   clear o1 c1 n1)
                | (at_builtin
                   refine wpList_app rfl (.tmp 47) (.tmp 51) _ rfl (app_ints bw ((Bel.refl _).alloc _) oc.out (ints_lit [_] rfl) rfl (fun h => by cases h) (by simp; omega) _) ?_
                   rintro v2 w2 ⟨o1, b1, c1, n1, z1⟩
                   have d0 := (c1 _ 0 hq hne).trans d0
                   have d1 := (c1 _ 1 hq hne).trans d1
                   have hne := n1 _ hq hne
                   have hq := Nat.lt_of_lt_of_le hq z1
                   have oc := Lib.hid o1
                   have bw := b1
                   clear o1 c1 n1)
                | (at_builtin
                   refine wpList_app rfl (.tmp 56) (.tmp 60) _ rfl (app_ints bw ((Bel.refl _).alloc _) oc.out (ints_lit [_] rfl) rfl (fun h => by cases h) (by simp; omega) _) ?_
                   rintro v3 w3 ⟨o1, b1, c1, n1, z1⟩
                   have oc := Lib.hid o1
                   have bw := b1
                   clear o1 c1 n1))
              go_roundg (l.length - (k + 1))
              case measure => have := hh2.out.2; omega
              case rel =>
                exact ⟨k + 1, _, by go_num, by omega, by omega, ⟨by have := hh2.out.1; simp; omega, rfl⟩, bw, oc⟩
          · have i2 : (k : Int) < l.length := by omega
            have i3 : ¬ (k : Int) < 30 := by omega
            go_wp2_with fail
            go_roundg (ls.length - (i + 1))
            case measure => have := hh.out.2; omega
            case rel => exact ⟨i + 1, ys, by go_num, by omega, ⟨by have := hh2.out.1; omega, rfl⟩, hb2, hown2⟩
        · have i2 : ¬ (k : Int) < l.length := by omega
          go_wp2_with fail
          go_roundg (ls.length - (i + 1))
          case measure => have := hh.out.2; omega
          case rel => exact ⟨i + 1, ys, by go_num, by omega, ⟨by have := hh2.out.1; omega, rfl⟩, hb2, hown2⟩
    · obtain rfl : i = ls.length := by omega
      go_wp2_with fail
      go_ret
      exact ⟨_, xs, rfl, hown.out, by have := hh.out.1; omega, hb1⟩
end Go.Proofs.Ytdimpjahmdoolaa
